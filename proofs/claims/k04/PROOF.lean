import PyProof.Rows.All
import Wide.All
import OpenK.AllK
import Wide.FinOn
import HandS.ForMost
import HandS.Wide
import HandS.Defaults
import HandS.More
import HandS.RaiseMore
import HandS.Style
import PyProof.ReprRoads
import PyProof.SliceMore
import HandS.IterVal
import HandS.Nested
import HandS.Conv
import KE.KDictList
import KE.KNestM
import HandS.EndTab
import HandS.NoneIn
import HandS.IsInst
import HandS.Iter
import HandS.MakeKwOnly
import HandS.Rev
import HandS.DictComp
import HandS.Flow
import HandS.Set
import HandS.TupSets
import HandS.DeepEq
import HandS.ForExc
import HandS.ExcInit
import HandS.ExcField
import HandS.ExcIs
import HandS.FStr
import KE.KExcIs
import OpenK.KOps
import PyProof.InstNe
import HandS.OwnEq
import PyProof.EqKinds
import HandS.TupAny
import KE.DataEq
import PyProof.ReprBulk
import PyProof.FactsAll.dict_1
import HandS.Dict
import HandS.Lambda
import HandS.TryMany
import HandS.TupMul
import KE.DataCmp
import PySem.Challenge.RW_anystore_k04_rooms_and_programs
set_option Elab.async false
set_option linter.all false
set_option maxRecDepth 100000
namespace Any
open L2 PySem PyProof.Rows
open PySem.Spec

/-! ### the texts of data (repr) -/
/-- a thing without parts -/
inductive Flat : V → PyData → Prop
  | non : Flat .non .none
  | bl (b : Bool) : Flat (.bl b) (.bool b)
  | int (i : Int) : Flat (.int i) (.int i)
  | str (x : Str) : Flat (.str x) (.str x)
def keyD : Key → PyData
  | .inl i => .int i
  | .inr x => .str x
/-- what repr may be asked of: lists and tuples at any depth, dicts of flat things -/
inductive Shows (K : PySem.W.Frag) (H : Hp) : Addr → PyData → Prop
  | seq {a : Addr} {d : PyData} : Dp K H (.ref a) d → d.hasDict = false → Shows K H a d
  | dct {a : Addr} {kvs : List (Key × V)} {ds : List (PyData × PyData)} : H a = some (.dK kvs) →
      Paired (fun (p : Key × V) (q : PyData × PyData) => q.1 = keyD p.1 ∧ Flat p.2 q.2) kvs ds → Shows K H a (.dict ds)

section
variable {P : Program} {w : World} {h : Heap}
theorem flat_reads {v : V} {u : Value} {d : PyData} (f : Flat v d) (r : RelV v u) : Reads h u d [] := by
  cases f with
  | non => cases r; exact .none
  | bl b => cases r; exact .bool b
  | int i => obtain ⟨t, rfl⟩ := r; exact .int i t
  | str x => obtain ⟨t, rfl⟩ := r; exact .str x t
theorem key_reads {k : Key} {u : Value} (e : keyIs k u = true) : Reads h u (keyD k) [] := by
  rcases keyIs_shape e with ⟨i, t, rfl, rfl⟩ | ⟨x, t, rfl, rfl⟩
  · exact .int i t
  · exact .str x t
theorem dct_reads : ∀ {kvs : List (Key × V)} {ds : List (PyData × PyData)} {vs : List (Key × Value)} {es : List DictEntry},
    Paired (fun (p : Key × V) (q : PyData × PyData) => q.1 = keyD p.1 ∧ Flat p.2 q.2) kvs ds → KV kvs vs → Pairs (mixKind P w) es vs →
    ReadsAll h (es.map (·.key)) (ds.map (·.1)) [] ∧ ReadsAll h (es.map (·.val)) (ds.map (·.2)) []
  | _, _, _, _, .nil, r, q => by
    cases r; cases q; exact ⟨.nil, .nil⟩
  | _, _, _, _, .cons z zs, r, q => by
    cases r with
    | cons r1 r2 =>
      cases q with
      | cons q1 q2 q3 =>
        obtain ⟨a, b⟩ := dct_reads zs r2 q3
        rename_i p ps d dd vv vr e es
        have k1 : keyIs vv.1 e.key = true := q1
        refine ⟨?_, ?_⟩
        · have c := ReadsAll.cons (as := []) (bs := []) (key_reads (h := h) k1) a
          rw [← r1.1, ← z.1] at c
          exact c
        · have c := ReadsAll.cons (as := []) (bs := []) (flat_reads (h := h) z.2 r1.2) b
          rw [← q2] at c
          exact c
end

section
variable {X : Cx}
def rRepr (K : PySem.W.Frag) : List V → Hp → VK → Prop := fun vs H Q => ∃ a d, vs = [.ref a] ∧ Shows K H a d ∧ d.showable = true ∧ d.depth ≤ 60 ∧ d.shown.length ≤ sizeLine ∧ Q (.str d.shown) H
theorem call_repr (hG : X.A.guards = some []) (hu : X.A.units + 70 < cLine) : CallR X (.builtin "repr") (rRepr X.K) := by
  intro pins s σ H xs us Q I r h
  obtain ⟨a, d, rfl, hd, hs, hdp, hz, q⟩ := h
  obtain ⟨u, rfl, ru⟩ := vals1 r
  cases ru
  have key : ∃ as, Reads s.heap (.ref a) d as ∧ (d.hasDict = true → sysModules ∉ as) := by
    cases hd with
    | seq h1 h2 =>
      obtain ⟨as, q1⟩ := Dp.reads I d _ _ h1 rfl
      exact ⟨as, q1, fun z => by rw [h2] at z; cases z⟩
    | dct h1 h2 =>
      obtain ⟨_, ns, vs, kv, o, es, ep, e1, e2, e3, _, e5, _⟩ := I.hok a _ h1
      obtain ⟨q1, q2⟩ := dct_reads (h := s.heap) h2 kv e5
      refine ⟨_, Reads.dict e1 e2.1 e3 q1 q2, fun _ z => ?_⟩
      rcases List.mem_append.mp z with z | z
      · rcases List.mem_cons.mp z with z | z
        · rw [← z] at ns
          simp at ns
        · cases z
      · cases z
  obtain ⟨as, rd, sm⟩ := key
  refine repr_of_reads' rd hs sm hG (by omega) (fun _ _ e => e) (fun h' u tk hk => ?_) hz
  exact ⟨.str d.shown, H, I.kept hk, ⟨_, rfl⟩, q⟩

/-! ### xs[::e], e being 1 or -1 -/
theorem pick_one (items : Array Value) : slicePick items none none (some 1) = items := by
  have e : slicePick items none none (some 1) = slicePick items none none none := rfl
  rw [e, slicePick_all]
def tStep (K : PySem.W.Frag) (te ts : TE) : TE := fun σ H Q => te σ H fun x H1 => ts σ H1 fun y H2 => ∃ a xs, x = .ref a ∧ SqL K H2 a xs ∧
  ((y = .int 1 ∧ ∀ p, H2 p = none → Q (.ref p) (upd H2 p (.lst xs))) ∨ (y = .int (-1) ∧ ∀ p, H2 p = none → Q (.ref p) (upd H2 p (.lst xs.reverse))))
theorem pe_step {e st : Expr} {te ts : TE} {p3 pos : Pos} (he : PE X e te) (hst : PE X st ts) :
    PE X (.Subscript e (.Slice none none (some st) p3) pos) (tStep X.K te ts) := by
  refine ⟨fun pins s σ H Q I h => ?_⟩
  refine Subscript_ (thn (he.run pins s σ H _ I h) fun v s1 ⟨x, H1, I1, r1, q1⟩ => ?_)
  refine wpAny_Slice (thn (po_none.run pins s1 σ H1 (fun o H2 => o = none ∧ H2 = H1) I1 ⟨rfl, rfl⟩) fun vl s2 ⟨l, H2, I2, pl, el, e2⟩ => ?_)
  subst el e2
  refine thn (po_none.run pins s2 σ H2 (fun o H3 => o = none ∧ H3 = H2) I2 ⟨rfl, rfl⟩) fun vu s3 ⟨u, H3, I3, pu, eu, e3⟩ => ?_
  subst eu e3
  rw [evalPart_some]
  refine thn (hst.run pins s3 σ H3 _ I3 q1) fun vs s4 ⟨y, H4, I4, r4, a, xs, ex, hx, q⟩ => ?_
  subst ex
  cases r1
  have I5 : Inv X pins σ H4 { s4 with heap := s4.heap.push { cls := .type "slice", data := .fields #[vl, vu, vs] } } := I4.kept (t' := s4.toks) fun b ob q => Heap.get?_push_of_some _ q
  obtain ⟨its, r, ht, hz⟩ := I5.list hx
  have hlen := r.length
  have two : ∃ k : Int, y = .int k ∧ k ≠ 0 ∧ ∃ zs ws, Vals ws zs ∧ slicePick its.toArray none none (some k) = zs.toArray ∧ ws.length ≤ sizeLine ∧ ∀ p, H4 p = none → Q (.ref p) (upd H4 p (.lst ws)) := by
    rcases q with ⟨ey, q⟩ | ⟨ey, q⟩
    · exact ⟨1, ey, by decide, its, xs, r, pick_one _, hz, q⟩
    · exact ⟨-1, ey, by decide, its.reverse, xs.reverse, r.reverse, by rw [PySem.W.krv_pick], by rw [List.length_reverse]; exact hz, q⟩
  obtain ⟨k, ey, hk, zs, ws, rz, epk, hzs, qq⟩ := two
  subst ey
  obtain ⟨t, rfl⟩ := (show ∃ t, vs = Value.int k t from r4)
  show wpAny (model X.prog X.w) X.A (subscriptTail e (.Slice none none (some st) p3) (.ref a) (.ref s4.heap.objs.size)) (EP X pins σ Q) X.xe _
  refine tail_any (ops := [.ref a, .ref s4.heap.objs.size]) ht.isList.typeIs (PySem.slot_list_getitem.lookup) ?_ (by with_unfolding_all rfl)
  refine wpAny_getItem_list_slice ht.isList (Heap.IsSliceOf.new _ vl vu (.int k t)) pl pu (IsPart.int k t) (by intro z; exact hk (Option.some.inj z)) ?_ (by rw [List.size_toArray]; omega)
  rw [epk]
  refine ⟨.ref _, _, I5.laid (t' := s4.toks) (o := .lst ws) (fun b ob q => Heap.get?_push_of_some _ q) (Nat.le_refl _) ?_, rfl, qq _ (I5.hok.fresh (Nat.le_refl _))⟩
  exact ⟨hzs, _, 0, rz, Heap.get?_push_size _ rfl⟩

/-! ### great powers -/
def CPowW (i j : Int) : Prop := 0 ≤ j ∧ (Builtin.Int.intBits i : Int) * j ≤ 2 ^ 27
theorem op_powW : OpR X (binaryOp .Pow) (rI CPowW fun i j => .int (i ^ j.toNat)) := opI fun _ _ _ _ _ _ _ hc q => pow_int hc.1 hc.2 q
end
end Any
namespace Any
open L2 PySem PyProof.Rows
open PySem.Spec

/-! ### defs that run where no repr is under way -/
section
variable (P : Program) (w : World) (K : PySem.W.Frag) (mg : Str → Option Value) (base : Heap)
/-- as FnOk, for callers with no guard -/
structure FnG (C : CXT) (k : Nat) (f : Addr) (fd : FuncData) (ps : List Str) (sp : Sp) : Prop where
  len : ∀ vs H Q E, sp vs H Q E → vs.length = ps.length
  go : ∀ (A : Around) (out : List Env) (s : Shared) (H : Hp) (args : Args) (us : List Value) (vs : List V) (Q : VK) (E : XK), A.guards = some [] → Room k A →
    Env0 P w K mg base A out s H → BindsTo s fd args (ps.zip us) → Vals vs us → sp vs H Q E → codeAny (model P w) A (.call (.ref f) args) (CR C out P w H s Q E) s
end
section
variable {P : Program} {w : World} {K : PySem.W.Frag} {mg : Str → Option Value} {base : Heap}
theorem FnG.of {C : CXT} {k : Nat} {f : Addr} {fd : FuncData} {ps : List Str} {sp : Sp} (F : FnOk P w K mg base C k f fd ps sp) : FnG P w K mg base C k f fd ps sp :=
  ⟨F.len, fun A out s H args us vs Q E _ hr => F.run A out s H args us vs Q E hr⟩
theorem FnG.mono {C : CXT} {j k : Nat} {f : Addr} {fd : FuncData} {ps : List Str} {sp : Sp} (F : FnG P w K mg base C j f fd ps sp) (h : j ≤ k) : FnG P w K mg base C k f fd ps sp :=
  ⟨F.len, fun A out s H args us vs Q E hg hr => F.go A out s H args us vs Q E hg (hr.mono h)⟩

/-- a def's body, under no guard -/
theorem fn_g {C : CXT} {k : Nat} {f : Addr} {nm ql : Str} {ar : Arguments} {bd : List Stmt} {sc : Scope} {v1 v2 v3 v4 v5 v6 v7 : Value} {a1 a2 : Option Addr} {sl : Array (Option Value)} {N ps : List Str} {sp : Sp}
    (at_ : K.lookup f = some ⟨v7, a2, .func (PySem.W.fnOf nm ql ar bd sc v1 v2 v3 v4 a1 v5 v6), sl⟩) (code : PySem.W.codeIn K v5 ql = true) (S : FnScope N ps sc)
    (ln : ∀ vs H Q E, sp vs H Q E → vs.length = ps.length)
    (hb : ∀ (A : Around) (out : List Env) (s : Shared) (H : Hp) (vs : List V) (Q : VK) (E : XK), A.guards = some [] → Room k (A.deeper (envOfC ql sc s.heap.objs.size f v5)) → sp vs H Q E →
      ∃ t, PSs (cxOf C P w K mg base N ql sc f v5 A out s H E) bd t ∧ t ⟨fun _ H' => Q .non H', Q, fun _ _ => False, fun _ _ => False⟩ (start N vs) H) :
    FnG P w K mg base C (k + 1) f (PySem.W.fnOf nm ql ar bd sc v1 v2 v3 v4 a1 v5 v6) ps sp where
  len := ln
  go A out s H args us vs Q E hg hr e0 hbi rv hsp := by
    have kx : K.In s.heap := e0.mod.kin.keeps (fun b o z => (e0.bs b o z).1)
    have nl : s.heap.NoLimit := e0.mod.nolimit.keeps (fun b o z => (e0.bs b o z).1)
    have kd : ∀ y ∈ ps.zip us, sc.names.lookup y.1 = some .local ∨ (sc.names.lookup y.1 = some .cell ∧ ((cellsFrom (s.heap.objs.size + 1) sc.names []).lookup y.1).isSome = true) := by
      rintro ⟨n, v⟩ hy
      have z := S.par n (List.of_mem_zip hy).1
      exact z.elim .inl (fun z => .inr ⟨z, PySem.W.cellsFrom_some _ _ _ (.inl z)⟩)
    refine codeAny_call_function hr.depth (kx _ _ at_) rfl S.co S.gen rfl (PySem.W.codeRec_of kx code) (hbi _ _ _ _ (wpAny_newFunctionEnv_cells S.kind kd (fun env he s1 x => ?_)))
    subst he
    obtain ⟨t, ht, hq⟩ := hb A out s H vs Q E hg (hr.deeper _) hsp
    have I := inv_start (CX := C) (E := E) S hr.hd e0 (ln _ _ _ _ hsp) rv x
    refine ⟨nl.keeps x.toInCall.keep, codeAny_func (wpAny_mono (ht.run [] s1 (start N vs) H _ I hq) (fun fl s' hs => ?_) (fun _ _ z => z))⟩
    cases fl with
    | ret u => obtain ⟨v, σ', H', J, r', q⟩ := hs; exact ⟨v, H', J.os, J.bare, J.base, J.hok, r', q⟩
    | next => obtain ⟨σ', H', J, q⟩ := hs; exact ⟨.non, H', J.os, J.bare, J.base, J.hok, rfl, q⟩
    | brk => exact hs.elim fun _ z => z.elim fun _ z => z.2.elim
    | cont => exact hs.elim fun _ z => z.elim fun _ z => z.2.elim
theorem fun_g {x ql : Str} {st : Stmt} {f : Addr} {fd : FuncData} {N ps : List Str} {k : Nat} {sp : Sp} (F : Fun K x ql st f fd) (S : FnScope N ps (defScope st)) (ln : ∀ vs H Q E, sp vs H Q E → vs.length = ps.length)
    (hb : ∀ (cv : Value) (A : Around) (out : List Env) (s : Shared) (H : Hp) (vs : List V) (Q : VK) (E : XK), A.guards = some [] → Room k (A.deeper (envOfC ql (defScope st) s.heap.objs.size f cv)) → sp vs H Q E →
      ∃ t, PSs (cxOf CX0 P w K mg base N ql (defScope st) f cv A out s H E).nox (defBody st) t ∧ t ⟨fun _ H' => Q .non H', Q, fun _ _ => False, fun _ _ => False⟩ (start N vs) H) : FnG P w K mg base CX0 (k + 1) f fd ps sp := by
  obtain ⟨_, _, _, _, _, _, cv, _, _, rfl, lk, hc⟩ := F.ex
  refine fn_g lk hc S ln fun A out s H vs Q E hg hr hs => ?_
  obtain ⟨t, h, q⟩ := hb cv A out s H vs Q E hg hr hs
  exact ⟨t, h.nox, q⟩
end

section
variable {X : Cx} {C : CXT} {k : Nat} {f : Addr} {fd : FuncData} {ps : List Str} {sp : Sp} {ds : List V} {us0 : List Value} {E : XK} {x : Str} {p pos : Pos} {e : Expr} {es : List Expr} {t : TA}
/-- a call of such a def -/
theorem pe_callG (F : FnG X.prog X.w X.K X.mg X.base C k f fd ps sp) (hG : X.A.guards = some []) (hr : Room k X.A) (hg : Gl X x) (hm : X.mg x = some (.ref f)) (hk : PySem.W.keepIn X.K (.ref f) = true) (hb : Binds X.K fd ps us0) (hd : Vals ds us0)
    (hx : Passes C X E) (ha : PA X (e :: es) t) (h1 : (x == ("__debug__" : Str)) = false := by decide) (h2 : starEach (e :: es) X.env = (false, eval e X.env) :: starEach es X.env := by rfl)
    (h3 : (backTo pos (starEach es X.env)).any (·.1) = false := by rfl) : PE X (.Call (.Name x p) (e :: es) [] pos) (tCall sp ds E t) where
  run pins s σ H Q I h := by
    refine wpAny_Call_Name_kw (ld_glob I hg hm (PySem.W.callWith_K (h₀ := X.base) I.ok.mod.kin hk (thn (ha.run pos pins s σ H _ I h) ?_) h2 h3) h1)
    rintro us s1 ⟨vs, H1, I1, rv, q⟩
    have rr := rv.append hd
    have hl : (us ++ us0).length = ps.length := rr.length.symm.trans (F.len _ _ _ _ q)
    refine ⟨I1.kIn, wpAny_call (codeAny_mono (F.go X.A X.stack s1 H1 _ _ _ Q E hG hr I1.env0 (hb s1 us I1.kIn hl) rr q) ?_)⟩
    rintro (err | fl) s' hq
    · exact hx pins σ H1 s1 err s' I1 hq
    · cases fl with
      | ret u => exact I1.after hq
      | next => cases hq
      | brk => cases hq
      | cont => cases hq

/-- x(e, ..), x a name that holds one of several defs -/
def tCallS (X : Cx) (C : CXT) (k i : Nat) (E : XK) (t : TA) : TE := fun σ H Q => ∃ f sp, FnR X.prog X.w X.K X.mg X.base C k f sp ∧ PySem.W.keepIn X.K (.ref f) = true ∧ σ[i]? = some (some (.ref f)) ∧ t σ H fun vs H1 => sp vs H1 Q E
theorem pe_callS {i : Nat} (hr : Room k X.A) (hx : Passes C X E) (hN : X.N[i]? = some x) (hv : Vis X.env.scope x) (ha : PA X (e :: es) t)
    (h1 : (x == ("__debug__" : Str)) = false := by decide) (h4 : (x == ("__classdict__" : Str)) = false := by decide) (h2 : starEach (e :: es) X.env = (false, eval e X.env) :: starEach es X.env := by rfl)
    (h3 : (backTo pos (starEach es X.env)).any (·.1) = false := by rfl) : PE X (.Call (.Name x p) (e :: es) [] pos) (tCallS X C k i E t) where
  run pins s σ H Q I h := by
    obtain ⟨f, sp, F, hk, hs, h⟩ := h
    exact (ItX.pe_callV (i := i) (p := p) F hr hk hx hN hv ha h1 h4 h2 h3).run pins s σ H Q I ⟨hs, h⟩

/-- f(k = v, ..) alone -/
theorem pe_callK0 {ks : List Str} {g : List Value → List Value → List Value} {gV : List V → List V → List V} {kws : List Keyword} {tk : TA} (F : FnOk X.prog X.w X.K X.mg X.base C k f fd ps sp) (hr : Room k X.A) (hg : Gl X x) (hm : X.mg x = some (.ref f))
    (hk : PySem.W.keepIn X.K (.ref f) = true) (hb : KBn X.K fd ps 0 ks g gV) (hx : Passes C X E) (hkw : PK X kws tk) (hall : (backToKw pos (keywordEach kws X.env)).all (·.1.isSome) = true := by rfl)
    (hks : (backToKw pos (keywordEach kws X.env)).filterMap (·.1) = ks := by rfl) (h1 : (x == ("__debug__" : Str)) = false := by decide)
    (h3 : ((backTo pos (starEach [] X.env)).any (·.1) || (backToKw pos (keywordEach kws X.env)).any (·.1.isNone)) = false := by rfl) :
    PE X (.Call (.Name x p) [] kws pos) (fun σ H Q => tk σ H fun zs H1 => zs.length = ks.length ∧ sp (gV [] zs) H1 Q E) where
  run pins s σ H Q I h := by
    refine wpAny_Call_Name_kw (ld_glob I hg hm ?_ h1)
    refine PySem.W.callWith_KW0 (h₀ := X.base) I.ok.mod.kin hk hall (thn (hkw.run pos pins s σ H _ I h) ?_) h3
    rintro ws s1 ⟨zs, H1, I1, rz, l1, q⟩
    refine ⟨I1.kIn, ?_⟩
    rw [hks]
    exact run_fnN (us := []) (vs := []) F hr hb hx I1 .nil rz rfl l1 q
end

/-! ### the law's call, under no guard -/
section
variable {P : Program} {w : World} {K : PySem.W.Frag} {mg mb : Str → Option Value}
theorem law_g {C : CXT} {k : Nat} {fa a : Addr} {fd : FuncData} {x : Str} {sp : Sp} {s : Shared} {vs : List Value} {ns : List Int}
    (kx : K.In s.heap) (g1 : s.heap.Ns mainGlobals mg) (g2 : s.heap.Ns builtinsNs mb) (g3 : ∀ x : Str, x ≠ "__name__" → mb x = bootBuiltins x) (g4 : s.heap.NoLimit) (g5 : s.gens = #[])
    (la : s.heap.get? a = some { cls := .type "list", data := .seq vs.toArray }) (li : IntsAre vs ns) (ll : ns.length ≤ sizeLine) (hr : Room k callerA)
    (F : ∀ base : Heap, K.In base → base.Ns mainGlobals mg → FnG P w K mg base C k fa fd [x] sp) (bd : ∀ (s : Shared) (u : Value), BindsTo s fd ⟨[u], []⟩ [(x, u)])
    (want : ∀ H : Hp, Only H → SqL K H a (ns.map V.int) → sp [.ref a] H (fun v _ => v = .bl true) fun _ _ _ => False)
    (noC : ∀ H e s', C [] H s (fun _ _ _ => False) e s' → False) :
    codeAny (model P w) callerA (.call (.ref fa) ⟨[.ref a], []⟩) (fun r s' => r = .ok (.ret (.bool true)) ∧ OldK s.heap s'.heap ∧ s'.os = s.os ∧ AllBare s'.gens) s := by
  -- one abstract heap: the script, if the written part has it not
  have pick : ∃ H : Hp, Only H ∧ SqL K H a (ns.map V.int) ∧ HOk P w H s.heap ∧ (∀ b u, H b = some u → b = a) ∧ ((H a).isSome = true → K.lookup a = none) := by
    cases hk : K.lookup a with
    | some o =>
      have z := (kx a o hk).symm.trans la
      cases z
      exact ⟨fun _ => none, fun _ => .inl rfl, .inr ⟨_, vs.toArray, _, hk, rfl, rfl, rfl, by rw [List.size_toArray, li.length]; exact ll, by simpa using vals_ints li⟩, (fun b u z => by cases z), (fun b u z => by cases z), (fun z => by cases z)⟩
    | none =>
      let o : HO := .frz { cls := .type "list", data := .seq vs.toArray } (.lst (ns.map V.int))
      have at_a : ∀ b u, upd (fun _ => none) a o b = some u → b = a ∧ u = o := fun b u z => by
        by_cases hb : b = a
        · subst hb; rw [upd_same] at z; exact ⟨rfl, (Option.some.inj z).symm⟩
        · rw [upd_ne hb] at z; cases z
      refine ⟨upd (fun _ => none) a o, fun b => ?_, .inl (.inr ⟨_, upd_same⟩), fun b u z => ?_, fun b u z => (at_a b u z).1, fun _ => rfl⟩
      · by_cases hb : b = a
        · subst hb; exact .inr ⟨_, _, upd_same⟩
        · exact .inl (by rw [upd_ne hb])
      · obtain ⟨rfl, rfl⟩ := at_a b u z
        exact ⟨la, by rw [List.length_map]; exact ll, vs, _, vals_ints li, la⟩
  obtain ⟨H, hO, hS, hok, hA, hK⟩ := pick
  have free : ∀ {b : Addr} {ob : Obj} {es : Array DictEntry} {n : Nat}, s.heap.get? b = some ob → ob.data = .dict es n → H b = none := by
    intro b ob es n z d
    cases q : H b with
    | none => rfl
    | some u =>
      have z1 := hA b u q
      subst z1
      have z2 := z.symm.trans la
      cases z2
      have d' : Data.seq vs.toArray 0 = Data.dict es n := d
      cases d'
  have ns' : ∀ {b : Addr} {m : Str → Option Value}, s.heap.Ns b m → (hidT s.heap H).Ns b m := by
    rintro b m ⟨o, es, n, z, d, r⟩
    exact ⟨o, es, n, hidT_get z (free z d), d, r⟩
  have kb : K.In (hidT s.heap H) := by
    intro b o z
    refine hidT_get (kx b o z) ?_
    cases q : H b with
    | none => rfl
    | some u =>
      have z1 := hA b u q
      subst z1
      have z2 := hK (by rw [q]; rfl)
      rw [z2] at z
      cases z
  obtain ⟨mc, l1, l2⟩ := g4
  have e0 : Env0 P w K mg (hidT s.heap H) callerA [] s H :=
    { frames := rfl, mod := ⟨kb, ns' g1, ⟨mb, ns' g2, g3⟩, ⟨mc, ns' l1, l2⟩⟩, bs := fun b o z => of_hidT z, bsz := Nat.le_of_eq (hidT_size _ _), funs := trivial, frf := fun b z => (by cases z), hok := hok, bare := .of_eq g5 }
  refine codeAny_mono ((F _ kb (ns' g1)).go callerA [] s H ⟨[.ref a], []⟩ [.ref a] [.ref a] _ _ rfl hr e0 (bd s (.ref a)) (.cons rfl .nil) (want H hO hS)) ?_
  rintro (err | fl) s' h
  · exact (noC H err s' h).elim
  cases fl with
  | next => cases h
  | brk => cases h
  | cont => cases h
  | ret u =>
    obtain ⟨v, H', h1, h2, un, hok', rv, rfl⟩ := h
    cases rv
    refine ⟨rfl, OldK.of_keep (fun b o z => ?_), h1, h2⟩
    cases q : H b with
    | none => exact un.keep b o z q (fun z => by cases z) (fun z => by cases z)
    | some u =>
      rcases hO b with z1 | ⟨ob, xs, z1⟩
      · rw [q] at z1; cases z1
      · have z2 := (hok b _ z1).1
        rw [z] at z2
        cases z2
        exact (hok' b _ (un.frzs b _ _ z1)).1
theorem walk_g {l : PySem.W.OpenLaw} {n k : Nat} {q : Program} {loose : List Str} {XP : (Str → Option Value) → Heap → Prop} {YP : World → Heap → Prop} {d : DefRec} {K : Params → PySem.W.Frag} {sp : PySem.W.Frag → Sp} {x : Str}
    (h1 : l.most = some n) (h2 : n ≤ sizeLine) (h3 : d.params.defaults = []) (hr : Room k callerA) (hY : ∀ (w : World) (h : Heap), YP w h → (K w.params).In h)
    (F : ∀ (w : World) (mg : Str → Option Value) (fa : Addr) (h : Heap), (K w.params).In h → h.Ns mainGlobals mg → mg d.name = some (.ref fa) →
      ∃ fd : FuncData, (∀ (s : Shared) (u : Value), BindsTo s fd ⟨[u], []⟩ [(x, u)]) ∧ ∀ base : Heap, (K w.params).In base → base.Ns mainGlobals mg → FnG l.prog w (K w.params) mg base CX0 k fa fd [x] (sp (K w.params)))
    (want : ∀ (K : PySem.W.Frag) (H : Hp) (a : Addr) (ns : List Int), ns.length ≤ n → Only H → SqL K H a (ns.map V.int) → sp K [.ref a] H (fun v _ => v = .bl true) fun _ _ _ => False) :
    PySem.W.WalkO q loose XP YP l.row.toRowW d [] (fun f vs => PySem.call f vs) := by
  refine Att.attach_call h1 h3 fun w s₀ s₁ mg mb fa o pm cd doc a vs ns G Y _ _ _ hmg hobj hints hlen hg => ?_
  have kx := hY w _ Y
  obtain ⟨fd, hb, hF⟩ := F w mg fa _ kx G.T.g hmg
  exact law_g kx G.T.g G.T.b G.T.builtins G.T.nolimit hg hobj hints (Nat.le_trans hlen h2) hr hF hb (fun H hO hS => want _ H a ns hlen hO hS) (fun _ _ _ z => z)
end
end Any
set_option maxHeartbeats 1000000
namespace Any
open L2 PySem PyProof.Rows LamX NdefX
open PySem.Spec
/-! ### statements, the slots at the return told -/
structure EndR where
  nx : L2.St → Hp → Prop
  rt : V → L2.St → Hp → Prop
abbrev TR := EndR → L2.St → Hp → Prop
def SR (X : Cx) (pins : List (Addr × Obj)) (D : EndR) (f : Flow) (s' : Shared) : Prop :=
  match f with
  | .next => ∃ σ' H', Inv X pins σ' H' s' ∧ D.nx σ' H'
  | .ret u => ∃ v σ' H', Inv X pins σ' H' s' ∧ L2.RelV v u ∧ D.rt v σ' H'
  | _ => False
structure PR (X : Cx) (st : Stmt) (t : TR) : Prop where
  run : ∀ (pins : List (Addr × Obj)) (s : Shared) (σ : L2.St) (H : Hp) (D : EndR), Inv X pins σ H s → t D σ H → wpAny (model X.prog X.w) X.A (exec st X.env) (SR X pins D) X.xe s
structure PRs (X : Cx) (st : List Stmt) (t : TR) : Prop where
  run : ∀ (pins : List (Addr × Obj)) (s : Shared) (σ : L2.St) (H : Hp) (D : EndR), Inv X pins σ H s → t D σ H → wpAny (model X.prog X.w) X.A (execs st X.env) (SR X pins D) X.xe s
section
variable {X : Cx} {st : Stmt} {rest : List Stmt} {t u : TR} {e : Expr} {pos : Pos}
/-- a statement that only goes on -/
def tGo (t : TS) : TR := fun D σ H => t { nx := D.nx, rt := fun _ _ => False } σ H
theorem pr_go {t : TS} (h : PS X st t) : PR X st (tGo t) := by
  refine ⟨fun pins s σ H D I hq => thn (h.run pins s σ H _ I hq) fun f s1 q => ?_⟩
  cases f with
  | next => exact q
  | ret v =>
    obtain ⟨_, _, _, _, _, z⟩ := q
    exact z.elim
  | brk =>
    obtain ⟨_, _, _, z⟩ := q
    exact z.elim
  | cont =>
    obtain ⟨_, _, _, z⟩ := q
    exact z.elim
def tRetR (te : TE) : TR := fun D σ H => te σ H fun v H' => D.rt v σ H'
theorem pr_ret {te : TE} (he : PE X e te) : PR X (.Return (some e) pos) (tRetR te) := by
  refine ⟨fun pins s σ H D I h => ?_⟩
  exact wpAny_Return_some (thn (he.run pins s σ H _ I h) fun v s1 ⟨x, H1, I1, r1, q1⟩ => ⟨x, σ, H1, I1, r1, q1⟩)
def tIfR (c : TT) (t u : TR) : TR := fun D σ H => c σ H fun b H1 => if b = true then t D σ H1 else u D σ H1
theorem pr_if {c : Expr} {a b : List Stmt} {tc : TT} (hc : PT X c tc) (ha : PRs X a t) (hb : PRs X b u) : PR X (.If c a b pos) (tIfR tc t u) := by
  refine ⟨fun pins s σ H D I h => ?_⟩
  refine wpAny_If (thn (hc.run pins s σ H _ I h) fun d s1 ⟨H1, I1, q1⟩ => ?_)
  cases d with
  | true => exact ha.run pins s1 σ H1 D I1 q1
  | false => exact hb.run pins s1 σ H1 D I1 q1
def tSeqR (t u : TR) : TR := fun D σ H => t { D with nx := u D } σ H
def tNextR : TR := fun D σ H => D.nx σ H
theorem prs_nil : PRs X [] tNextR := ⟨fun _ _ σ H _ I h => wpAny_execs_nil ⟨σ, H, I, h⟩⟩
theorem prs_cons (h1 : PR X st t) (h2 : PRs X rest u) : PRs X (st :: rest) (tSeqR t u) := by
  refine ⟨fun pins s σ H D I h => ?_⟩
  refine wpAny_execs_cons (thn (h1.run pins s σ H { D with nx := u D } I h) fun f s1 q => ?_)
  cases f with
  | next =>
    obtain ⟨σ', H', I', q⟩ := q
    exact h2.run pins s1 σ' H' D I' q
  | ret v => exact q
  | brk => exact q.elim
  | cont => exact q.elim
theorem prs_one (h1 : PR X st t) : PRs X [st] t := by
  refine ⟨fun pins s σ H D I h => ?_⟩
  refine wpAny_execs_cons (thn (h1.run pins s σ H D I h) fun f s1 q => ?_)
  cases f with
  | next => exact wpAny_execs_nil q
  | ret v => exact q
  | brk => exact q.elim
  | cont => exact q.elim
end
/-! ### a made lambda -/
structure LF where
  qual : Str
  params : Arguments
  body : Expr
  scope : Scope
  cl : List (Str × Addr)
  c : Addr
/-- the object at f is the lambda F -/
def LamO (f : Addr) (F : LF) : HO := .ext fun h => ∃ (pm ctv : Value), h.get? f = some (PySem.W.kla_obj "<lambda>" F.qual F.params F.body F.scope F.cl pm F.c ctv)
theorem lamO_at {P : Program} {w : World} {H : Hp} {h : Heap} {f : Addr} {F : LF} (hok : HOk P w H h) (e : H f = some (LamO f F)) : ∃ (pm ctv : Value), h.get? f = some (PySem.W.kla_obj "<lambda>" F.qual F.params F.body F.scope F.cl pm F.c ctv) := by
  obtain ⟨z, _, _⟩ := hok f _ e
  exact z
theorem lamO_ne {f : Addr} {F : LF} (ps : Array Value) : LamO f F ≠ .tbl ps := fun z => by
  unfold LamO at z
  cases z
section
variable {X : Cx} {pins : List (Addr × Obj)} {σ : L2.St} {H : Hp} {s : Shared}
theorem inv_lam {F : LF} {t' : Nat} {pm ctv : Value} (I : Inv X pins σ H s) :
    Inv X pins σ (upd H s.heap.objs.size (LamO s.heap.objs.size F)) { s with heap := s.heap.push (PySem.W.kla_obj "<lambda>" F.qual F.params F.body F.scope F.cl pm F.c ctv), toks := t' } := by
  refine I.laid (a := s.heap.objs.size) (fun b u e => Heap.get?_push_of_some _ e) (Nat.le_refl _) ?_
  have e : (s.heap.push (PySem.W.kla_obj "<lambda>" F.qual F.params F.body F.scope F.cl pm F.c ctv)).get? s.heap.objs.size = some (PySem.W.kla_obj "<lambda>" F.qual F.params F.body F.scope F.cl pm F.c ctv) := Heap.get?_push_size _ rfl
  exact ⟨⟨pm, ctv, e⟩, ⟨_, e⟩, fun h1 h2 ⟨p, t, z⟩ st => ⟨p, t, st _ z⟩⟩
/-- a table with one code object more -/
def putTab (H : Hp) (P c' : Addr) (ps : Array Value) (pos : Pos) (q : Str) : Hp := upd (upd H P (.tbl (ps ++ #[rawInt pos.line, rawInt pos.col, .ref c']))) c' (CodeO c' q)
theorem putTab_ext {P c' : Addr} {ps : Array Value} {pos : Pos} {q : Str} (at_ : H P = some (.tbl ps)) (new : H c' = none) : ExtN H (putTab H P c' ps pos q) := fun b o e no => by
  have b1 : b ≠ c' := ne_of_none e new
  have b2 : b ≠ P := fun z => by
    rw [z, at_] at e
    exact no ps (Option.some.inj e).symm
  unfold putTab
  rw [upd_ne b1, upd_ne b2, e]
theorem putTab_tabs {T : List NTab} {nm : Nat → Nat → Str} {P c' : Addr} {ps : Array Value} {pos : Pos} {q : Str} (uni : ∀ p ∈ T, p.1 = P → p.2 = nm) (all : TabsN T H) (at_ : H P = some (.tbl ps)) (tri : TriplesOk ps.toList)
    (told : ∀ (pos : Pos) (cv : Value), codeAmong pos ps.toList = some cv → ∃ c, cv = .ref c ∧ H c = some (CodeO c (nm pos.line pos.col))) (new : H c' = none) (hq : nm pos.line pos.col = q) : TabsN T (putTab H P c' ps pos q) := by
  have ext := putTab_ext (pos := pos) (q := q) at_ new
  have own : putTab H P c' ps pos q c' = some (CodeO c' q) := upd_same
  intro p hp
  by_cases pP : p.1 = P
  · have lst : (ps ++ #[rawInt pos.line, rawInt pos.col, .ref c']).toList = ps.toList ++ [rawInt pos.line, rawInt pos.col, .ref c'] := by simp
    refine ⟨ps ++ #[rawInt pos.line, rawInt pos.col, .ref c'], ?_, ?_, fun at2 cv found => ?_⟩
    · rw [pP]
      unfold putTab
      rw [upd_ne (ne_of_none at_ new), upd_same]
    · rw [lst]
      exact PySem.TriplesOk_snoc _ _ _ _ tri
    · rw [lst] at found
      rw [uni p hp pP]
      rcases among_app2 _ tri found with z | ⟨z, l1, l2⟩
      · obtain ⟨c0, x1, x2⟩ := told at2 cv z
        exact ⟨c0, x1, ext _ _ x2 codeO_ne⟩
      · rw [← l1, ← l2, hq]
        exact ⟨c', z, own⟩
  · obtain ⟨qs, y1, y2, y3⟩ := all p hp
    refine ⟨qs, ?_, y2, fun at2 cv found => ?_⟩
    · unfold putTab
      rw [upd_ne (ne_of_none y1 new), upd_ne pP, y1]
    · obtain ⟨c0, x1, x2⟩ := y3 at2 cv found
      exact ⟨c0, x1, ext _ _ x2 codeO_ne⟩
/-- a lambda is made: it is known from now on, and so is its code object -/
theorem lam_make {T : List NTab} {nm : Nat → Nat → Str} {c P : Addr} {ar : Arguments} {bd : Expr} {sc : Scope} {pos : Pos} {E : Value → Shared → Prop} {Q : Value → Shared → Prop} (I : Inv X pins σ H s) (base : TabB X.base X.mg c P) (mine : X.env.code = .ref c)
    (listed : (P, nm) ∈ T) (named : nm pos.line pos.col = X.env.qual ++ "<lambda>") (uni : ∀ p ∈ T, p.1 = P → p.2 = nm) (all : TabsN T H) (nod : defaultsOf ar X.env = ([], [])) (capt : ∀ y ∈ sc.names, y.2 = .free → ∃ c, X.env.cells.lookup y.1 = some c)
    (go : ∀ (f c' : Addr) (H1 : Hp) (s' : Shared), Inv X pins σ H1 s' → ExtN H H1 → (∀ b, H1 b = Option.none → H b = Option.none) → TabsN T H1 → H f = none → H1 f = some (LamO f ⟨X.env.qual ++ "<lambda>", ar, bd, sc, cloFrom X.env.cells sc.names [], c'⟩) → H1 c' = some (CodeO c' (X.env.qual ++ "<lambda>")) → Q (.ref f) s') :
    wpAny (model X.prog X.w) X.A (eval (.Lambda ar bd sc pos) X.env) Q E s := by
  obtain ⟨ps, at_, tri, told⟩ := (show TabN H P nm from all _ listed)
  have raw : s.heap.get? P = some { cls := .none, data := .fields ps } := I.hok P _ at_
  have glob := I.mod.glob.keeps I.bk
  -- behind the making: the new function's object is laid last
  have last : ∀ (H1 : Hp) (s1 : Shared) (c' : Addr) (ctv : Value) (tk : Nat), Inv X pins σ H1 s1 → ExtN H H1 → (∀ b, H1 b = Option.none → H b = Option.none) → TabsN T H1 → H1 c' = some (CodeO c' (X.env.qual ++ "<lambda>")) →
      Q (.ref s1.heap.objs.size) { s1 with heap := s1.heap.push (PySem.W.kla_obj "<lambda>" (X.env.qual ++ "<lambda>") ar bd sc (cloFrom X.env.cells sc.names []) ((X.mg "__name__").getD .none) c' ctv), toks := tk } := fun H1 s1 c' ctv tk J x1 x2 x3 x4 => by
    have free1 := J.hok.fresh (Nat.le_refl _)
    have J2 := inv_lam (F := ⟨X.env.qual ++ "<lambda>", ar, bd, sc, cloFrom X.env.cells sc.names [], c'⟩) (t' := tk) (pm := (X.mg "__name__").getD .none) (ctv := ctv) J
    have up : ∀ b o, H1 b = some o → upd H1 s1.heap.objs.size (LamO s1.heap.objs.size ⟨X.env.qual ++ "<lambda>", ar, bd, sc, cloFrom X.env.cells sc.names [], c'⟩) b = some o := fun b o e => by
      rw [upd_ne (ne_of_none e free1)]
      exact e
    exact go _ c' _ _ J2 (fun b o e n => up b o (x1 b o e n)) (fun b e => x2 b (NdefX.upd_none e)) (x3.ext up) (x2 _ free1) upd_same (up _ _ x4)
  refine PySem.W.kla_eval nod ?_
  cases seen : codeAmong pos ps.toList with
  | some cv =>
    obtain ⟨c', rfl, known⟩ := told pos cv seen
    rw [named] at known
    refine PySem.W.kla_makeFunctionHit (mg := X.mg) (c := c) (P := P) (ps := ps) (closure_ok capt) I.ok.glob glob mine (base.code.keeps I.bk) raw tri seen (base.bm.keeps I.bk) fun ctv h' tk kp _ => ?_
    exact last H { s with heap := h', toks := tk } c' ctv tk (I.kept kp) (ExtN.refl H) (fun _ z => z) all known
  | none =>
    refine PySem.W.kla_makeFunction (mg := X.mg) (c := c) (P := P) (ps := ps) (closure_ok capt) I.ok.glob glob mine (base.code.keeps I.bk) raw tri seen base.gP (base.bm.keeps I.bk) fun c' ctv h' tk kp above _ rec tab => ?_
    obtain ⟨d, oc, vs, tok, ed, g1, g2, g3⟩ := rec
    cases ed
    have new : H c' = none := I.hok.fresh above
    have J := inv_table (t' := tk) (more := #[rawInt pos.line, rawInt pos.col, .ref c']) (h' := h') I at_ (fun b o n e => kp b o n e) tab above ⟨oc, vs, tok, g1, g2, g3⟩
    exact last (putTab H P c' ps pos (X.env.qual ++ "<lambda>")) { s with heap := h', toks := tk } c' ctv tk J (putTab_ext at_ new) (fun b z => NdefX.upd_none (NdefX.upd_none z)) (putTab_tabs uni all at_ tri told new named) upd_same
end
/-- the reading of a lambda -/
def tLamb (T : List NTab) (mk : Addr → LF) : TE := fun _ H Q => TabsN T H ∧ ∀ (f c' : Addr) (H1 : Hp), ExtN H H1 → (∀ b, H1 b = Option.none → H b = Option.none) → TabsN T H1 → H f = none → H1 f = some (LamO f (mk c')) → H1 c' = some (CodeO c' (mk c').qual) → Q (.ref f) H1
theorem pe_lamb {X : Cx} {T : List NTab} {nm : Nat → Nat → Str} {c P : Addr} {params : Arguments} {body : Expr} {scope : Scope} {pos : Pos} (TB : TabB X.base X.mg c P) (hcode : X.env.code = .ref c)
    (hm : (P, nm) ∈ T) (hn : nm pos.line pos.col = X.env.qual ++ "<lambda>") (hu : ∀ p ∈ T, p.1 = P → p.2 = nm) (hdef : defaultsOf params X.env = ([], []))
    (hfree : ∀ y ∈ scope.names, y.2 = .free → X.env.scope.names.lookup y.1 = some .cell ∨ X.env.scope.names.lookup y.1 = some .free) :
    PE X (.Lambda params body scope pos) (tLamb T fun c' => ⟨X.env.qual ++ "<lambda>", params, body, scope, cloFrom X.env.cells scope.names [], c'⟩) := by
  refine ⟨fun pins s σ H Q I h => ?_⟩
  obtain ⟨hT, h⟩ := h
  have hfr : ∀ y ∈ scope.names, y.2 = .free → ∃ c, X.env.cells.lookup y.1 = some c := fun y hy e => (hfree y hy e).elim (fun z => I.ok.has _ (.inl z)) fun z => I.ok.has _ (.inr z)
  exact lam_make I TB hcode hm hn hu hT hdef hfr fun f c' H1 s' I1 eN nn T1 f0 f1 c1 => ⟨.ref f, H1, I1, rfl, h f c' H1 eN nn T1 f0 f1 c1⟩
end Any
set_option maxHeartbeats 1000000
namespace Any
open L2 PySem PyProof.Rows LamX NdefX
open PySem.Spec
/-! ### cells that are known beyond their frame -/
def CellO (c : Addr) (v : V) : HO := .ext fun h => ∃ u, L2.RelV v u ∧ h.IsCell c (some u)
theorem cellO_ok {P : Program} {w : World} {H : Hp} {h : Heap} {c : Addr} {v : V} {u : Value} (r : L2.RelV v u) (hc : h.IsCell c (some u)) : ObjOk P w H h c (CellO c v) := by
  obtain ⟨o, ho, hd⟩ := id hc
  exact ⟨⟨u, r, hc⟩, ⟨o, ho⟩, fun h1 h2 ⟨u, r, o, ho, hd⟩ st => ⟨u, r, o, st _ ho, hd⟩⟩
theorem cellO_tbl {c : Addr} {v : V} (ps : Array Value) : CellO c v ≠ .tbl ps := fun z => by
  unfold CellO at z
  cases z
theorem cellO_own {c x : Addr} {v : V} : CellO c v ≠ .own x := fun z => by
  unfold CellO at z
  cases z
theorem cellO_tup {c : Addr} {v : V} {xs : List V} : CellO c v ≠ .tup xs := fun z => by
  unfold CellO at z
  cases z
theorem cellO_frz {c : Addr} {v : V} {o : Obj} {u : HO} : CellO c v ≠ .frz o u := fun z => by
  unfold CellO at z
  cases z
/-- the cell at b holds v, by the slots -/
def Capt (X : Cx) (σ : L2.St) (b : Addr) (v : V) : Prop := ∃ (x : Str) (i : Nat), X.env.cells.lookup x = some b ∧ X.N[i]? = some x ∧ σ[i]? = some (some v) ∧ X.env.scope.names.lookup x = some .cell
open Classical in
noncomputable def trkC (X : Cx) (σ : L2.St) (H : Hp) : Hp := fun b => if h : ∃ v, Capt X σ b v then some (CellO b h.choose) else H b
section
variable {X : Cx} {pins : List (Addr × Obj)} {σ : L2.St} {H : Hp} {s : Shared}
theorem capt_one (I : Inv X pins σ H s) (nd : X.N.Nodup) {b : Addr} {v v' : V} (h : Capt X σ b v) (h' : Capt X σ b v') : v = v' := by
  obtain ⟨x, i, e1, e2, e3, e4⟩ := h
  obtain ⟨x', i', f1, f2, f3, f4⟩ := h'
  have ex := I.ok.inj x x' b e1 f1
  subst ex
  have ei := nodup_ix nd e2 f2
  subst ei
  rw [e3] at f3
  exact Option.some.inj (Option.some.inj f3)
theorem trkC_at (I : Inv X pins σ H s) (nd : X.N.Nodup) {b : Addr} {v : V} (h : Capt X σ b v) : trkC X σ H b = some (CellO b v) := by
  have e : ∃ v, Capt X σ b v := ⟨v, h⟩
  unfold trkC
  rw [dif_pos e, capt_one I nd e.choose_spec h]
theorem capt_none (I : Inv X pins σ H s) {b : Addr} {v : V} (h : Capt X σ b v) : H b = none := by
  obtain ⟨x, i, e1, _⟩ := h
  exact I.freeC x b e1
theorem trkC_same (I : Inv X pins σ H s) : Same H (trkC X σ H) := fun b o e => by
  unfold trkC
  rw [dif_neg (fun ⟨v, h⟩ => by rw [capt_none I h] at e; cases e)]
  exact e
theorem trkC_cases (I : Inv X pins σ H s) (nd : X.N.Nodup) (b : Addr) : (∃ v, Capt X σ b v ∧ trkC X σ H b = some (CellO b v)) ∨ ((¬ ∃ v, Capt X σ b v) ∧ trkC X σ H b = H b) := by
  by_cases h : ∃ v, Capt X σ b v
  · obtain ⟨v, h⟩ := h
    exact .inl ⟨v, h, trkC_at I nd h⟩
  · refine .inr ⟨h, ?_⟩
    unfold trkC
    rw [dif_neg h]
theorem capt_cell (I : Inv X pins σ H s) {b : Addr} {v : V} (h : Capt X σ b v) : ∃ u, L2.RelV v u ∧ s.heap.IsCell b (some u) := by
  obtain ⟨x, i, e1, e2, e3, e4⟩ := h
  obtain ⟨m, hn, hl⟩ := I.loc
  obtain ⟨u, r, l⟩ := hl i x v e2 e3 (.inr (.inl e4))
  refine ⟨u, r, ?_⟩
  rcases l with ⟨k, _⟩ | ⟨_, c, e, z⟩
  · have k : X.env.scope.names.lookup x = some .local := k
    rw [e4] at k
    cases k
  · rw [e1] at e
    cases e
    exact z
/-- at a def's end its cells are known -/
theorem end_track (I : Inv X pins σ H s) (nd : X.N.Nodup) (hfn : ∀ x, X.fn x = true) (hex : X.ex = []) :
    Un X.fs [] X.H_0 (trkC X σ H) X.s_0.heap s.heap ∧ HOk X.prog X.w (trkC X σ H) s.heap := by
  have new : ∀ {b : Addr} {v : V}, Capt X σ b v → X.s_0.heap.objs.size ≤ b := fun {b v} h => by
    obtain ⟨x, i, e1, _⟩ := h
    exact I.ok.cab x b (hfn x) e1
  have un := I.base
  rw [hex] at un
  have sm := trkC_same I
  refine ⟨⟨un.keep, un.slot, fun b o e n hx => ?_, un.there, fun b xs e => sm _ _ (un.tups b xs e), fun b o u e => sm _ _ (un.frzs b o u e), fun b ps e => ?_⟩, fun b u e => ?_⟩
  · rcases trkC_cases I nd b with ⟨v, h, _⟩ | ⟨_, e2⟩
    · exact absurd (Heap.lt_size e) (Nat.not_lt.mpr (new h))
    · rw [e2]
      exact un.free b o e n hx
  · obtain ⟨more, e1⟩ := un.tbls b ps e
    exact ⟨more, sm _ _ e1⟩
  · rcases trkC_cases I nd b with ⟨v, h, e2⟩ | ⟨_, e2⟩
    · rw [e2] at e
      cases e
      obtain ⟨u, r, z⟩ := capt_cell I h
      exact cellO_ok r z
    · rw [e2] at e
      exact (I.hok b u e).stay (fun _ _ _ q => q) (fun c q => sm _ _ q) fun c xs q => sm _ _ q
end
/-- what is wanted at the end of a def whose cells stay known -/
def RetC (N : List Str) (sc : Scope) (L : Addr) (Q : VK) : V → L2.St → Hp → Prop := fun v σ H' => ∀ H'', Same H' H'' →
  (∀ (x : Str) (c : Addr) (i : Nat) (u : V), (cellsFrom (L + 1) sc.names []).lookup x = some c → N[i]? = some x → σ[i]? = some (some u) → sc.names.lookup x = some .cell → H' c = none ∧ H'' c = some (CellO c u)) →
  (∀ b o, H'' b = some o → H' b = some o ∨ ∃ u, o = CellO b u) → (∀ x y c, (cellsFrom (L + 1) sc.names []).lookup x = some c → (cellsFrom (L + 1) sc.names []).lookup y = some c → x = y) → Q v H''
section
variable {P : Program} {w : World} {K : PySem.W.Frag} {mg : Str → Option Value} {base : Heap}
theorem fn_c {C : CXT} {k : Nat} {f : Addr} {nm ql : Str} {ar : Arguments} {bd : List Stmt} {sc : Scope} {v1 v2 v3 v4 v5 v6 v7 : Value} {a1 a2 : Option Addr} {sl : Array (Option Value)} {N ps : List Str} {sp : Sp}
    (at_ : K.lookup f = some ⟨v7, a2, .func (PySem.W.fnOf nm ql ar bd sc v1 v2 v3 v4 a1 v5 v6), sl⟩) (code : PySem.W.codeIn K v5 ql = true) (S : FnScope N ps sc)
    (ln : ∀ vs H Q E, sp vs H Q E → vs.length = ps.length)
    (hb : ∀ (A : Around) (out : List Env) (s : Shared) (H : Hp) (vs : List V) (Q : VK) (E : XK), Room k (A.deeper (envOfC ql sc s.heap.objs.size f v5)) → sp vs H Q E →
      ∃ t, PRs (cxOf C P w K mg base N ql sc f v5 A out s H E) bd t ∧ t ⟨fun _ H' => Q .non H', RetC N sc s.heap.objs.size Q⟩ (L2.start N vs) H) :
    FnOk P w K mg base C (k + 1) f (PySem.W.fnOf nm ql ar bd sc v1 v2 v3 v4 a1 v5 v6) ps sp where
  len := ln
  run A out s H args us vs Q E hr e0 hbi rv hsp := by
    have kx : K.In s.heap := e0.mod.kin.keeps (fun b o z => (e0.bs b o z).1)
    have nl : s.heap.NoLimit := e0.mod.nolimit.keeps (fun b o z => (e0.bs b o z).1)
    have kd : ∀ y ∈ ps.zip us, sc.names.lookup y.1 = some .local ∨ (sc.names.lookup y.1 = some .cell ∧ ((cellsFrom (s.heap.objs.size + 1) sc.names []).lookup y.1).isSome = true) := by
      rintro ⟨n, v⟩ hy
      have z := S.par n (List.of_mem_zip hy).1
      exact z.elim .inl (fun z => .inr ⟨z, PySem.W.cellsFrom_some _ _ _ (.inl z)⟩)
    refine codeAny_call_function hr.depth (kx _ _ at_) rfl S.co S.gen rfl (PySem.W.codeRec_of kx code) (hbi _ _ _ _ (wpAny_newFunctionEnv_cells S.kind kd (fun env he s1 x => ?_)))
    subst he
    obtain ⟨t, ht, hq⟩ := hb A out s H vs Q E (hr.deeper _) hsp
    have I := inv_start (CX := C) (E := E) S hr.hd e0 (ln _ _ _ _ hsp) rv x
    refine ⟨nl.keeps x.toInCall.keep, codeAny_func (wpAny_mono (ht.run [] s1 (L2.start N vs) H _ I hq) (fun fl s' hs => ?_) (fun _ _ z => z))⟩
    cases fl with
    | ret u =>
      obtain ⟨v, σ', H', J, r', q⟩ := hs
      obtain ⟨un, hok⟩ := end_track J S.nd (fun _ => rfl) rfl
      refine ⟨v, _, J.os, J.bare, un, hok, r', q _ (trkC_same J) (fun x c i u e1 e2 e3 e4 => ?_) (fun b o e => ?_) J.ok.inj⟩
      · have h : Capt (cxOf C P w K mg base N ql sc f v5 A out s H E) σ' c u := ⟨x, i, e1, e2, e3, e4⟩
        exact ⟨capt_none J h, trkC_at J S.nd h⟩
      · rcases trkC_cases J S.nd b with ⟨v, h, e2⟩ | ⟨_, e2⟩
        · rw [e2] at e
          exact .inr ⟨v, (Option.some.inj e).symm⟩
        · rw [e2] at e
          exact .inl e
    | next => obtain ⟨σ', H', J, q⟩ := hs; exact ⟨.non, H', J.os, J.bare, J.base, J.hok, rfl, q⟩
    | brk => exact hs.elim
    | cont => exact hs.elim
end
/-! ### a made lambda is called -/
def hid (H : Hp) (cs : List Addr) : Hp := fun b => if b ∈ cs then none else H b
/-- the cells of cs as in H, all else as in H1 -/
def reT (H H1 : Hp) (cs : List Addr) : Hp := fun b => if b ∈ cs then H b else H1 b
theorem hid_in {H : Hp} {cs : List Addr} {b : Addr} (h : b ∈ cs) : hid H cs b = none := if_pos h
theorem hid_out {H : Hp} {cs : List Addr} {b : Addr} (h : b ∉ cs) : hid H cs b = H b := if_neg h
theorem hid_some {H : Hp} {cs : List Addr} {b : Addr} {o : HO} (h : hid H cs b = some o) : b ∉ cs ∧ H b = some o := by
  by_cases e : b ∈ cs
  · rw [hid_in e] at h
    cases h
  · rw [hid_out e] at h
    exact ⟨e, h⟩
theorem reT_in {H H1 : Hp} {cs : List Addr} {b : Addr} (h : b ∈ cs) : reT H H1 cs b = H b := if_pos h
theorem reT_out {H H1 : Hp} {cs : List Addr} {b : Addr} (h : b ∉ cs) : reT H H1 cs b = H1 b := if_neg h
/-- the captured names fr of F hold ws, in cells that are known -/
structure CapsAt (H : Hp) (F : LF) (fr : List Str) (ws : List V) : Prop where
  len : ws.length = fr.length
  all : ∀ y c, F.cl.lookup y = some c → ∃ w, H c = some (CellO c w)
  inj : ∀ x y c, F.cl.lookup x = some c → F.cl.lookup y = some c → x = y
  has : ∀ (i : Nat) (y : Str), fr[i]? = some y → ∃ c, F.cl.lookup y = some c ∧ ∀ v, ws[i]? = some v → H c = some (CellO c v)
def LF.cells (F : LF) : List Addr := F.cl.filterMap fun p => if F.cl.lookup p.1 = some p.2 then some p.2 else none
theorem LF.mem_cells {F : LF} {y : Str} {c : Addr} (h : F.cl.lookup y = some c) : c ∈ F.cells := by
  refine List.mem_filterMap.mpr ⟨(y, c), PySem.mem_of_lookup h, ?_⟩
  rw [if_pos h]
theorem LF.of_cells {F : LF} {c : Addr} (h : c ∈ F.cells) : ∃ y, F.cl.lookup y = some c := by
  obtain ⟨⟨y, d⟩, _, e⟩ := List.mem_filterMap.mp h
  split at e
  · rename_i z
    cases e
    exact ⟨y, z⟩
  · cases e
abbrev LF.nf (F : LF) : NF := ⟨"<lambda>", F.qual, F.params, [], F.scope, F.cl, F.c⟩
section
variable {P : Program} {w : World} {K : PySem.W.Frag} {mg : Str → Option Value} {base : Heap} {N ps fr : List Str} {F : LF} {f : Addr} {k : Nat}
theorem CapsAt.cell {H : Hp} {ws : List V} (C : CapsAt H F fr ws) {c : Addr} (h : c ∈ F.cells) : ∃ w, H c = some (CellO c w) := by
  obtain ⟨y, e⟩ := F.of_cells h
  exact C.all y c e
theorem lam_run (S : NScope N ps fr F.scope) (hbi : ∀ (pm ctv : Value) (us : List Value), us.length = ps.length → bindArgs (PySem.W.kla_fn "<lambda>" F.qual F.params F.body F.scope F.cl pm (.ref F.c) ctv) ⟨us, []⟩ = pure (ps.zip us))
    {A : Around} {outer : List Env} {s : Shared} {H : Hp} {us : List Value} {vs ws : List V} {Q : VK} (hr : Room (k + 1) A) (e0 : Env0 P w K mg base A outer s H) (hf : H f = some (LamO f F)) (hc : H F.c = some (CodeO F.c F.qual)) (C : CapsAt H F fr ws) (r : Vals vs us) (hl : vs.length = ps.length)
    (hbody : Room k (A.deeper (envF F.nf f s.heap.objs.size)) → ∃ t, PE (ncx CX0 P w K mg base N F.nf f A outer s (hid H F.cells) E0) F.body t ∧ t (startF N vs (ws.map some)) (hid H F.cells) fun v H1 => Q v (reT H H1 F.cells)) :
    codeAny (model P w) A (.call (.ref f) ⟨us, []⟩) (CR CX0 outer P w H s Q E0) s := by
  have lim : s.heap.NoLimit := e0.mod.nolimit.keeps fun b o e => (e0.bs b o e).1
  obtain ⟨pm, ctv, ho⟩ := lamO_at e0.hok hf
  have nown : ∀ {b x : Addr}, H b = some (.own x) → b ∉ F.cells := fun {b x} e z => by
    obtain ⟨w, h⟩ := C.cell z
    rw [e] at h
    exact cellO_own (Option.some.inj h).symm
  have ntup : ∀ {b : Addr} {xs : List V}, H b = some (.tup xs) → b ∉ F.cells := fun {b x} e z => by
    obtain ⟨w, h⟩ := C.cell z
    rw [e] at h
    exact cellO_tup (Option.some.inj h).symm
  have e1 : Env0 P w K mg base A outer s (hid H F.cells) := by
    refine ⟨e0.frames, e0.mod, fun b o e => ⟨(e0.bs b o e).1, ?_⟩, e0.bsz, e0.funs, fun b hb => ?_, fun b u e => ?_, e0.bare⟩
    · by_cases z : b ∈ F.cells
      · exact hid_in z
      · rw [hid_out z]
        exact (e0.bs b o e).2
    · by_cases z : b ∈ F.cells
      · exact hid_in z
      · rw [hid_out z]
        exact e0.frf b hb
    · obtain ⟨n, e⟩ := hid_some e
      exact (e0.hok b u e).stay (fun _ _ _ q => q) (fun c q => by rw [hid_out (nown q)]; exact q) fun c xs q => by rw [hid_out (ntup q)]; exact q
  have isC : ∀ {c : Addr} {v : V}, H c = some (CellO c v) → ∃ u, L2.RelV v u ∧ s.heap.IsCell c (some u) := fun {c v} h => (e0.hok c _ h).1
  have CA : CellsAt F.nf.cl fr (ws.map some) s.heap (hid H F.cells) := by
    refine ⟨by rw [List.length_map]; exact C.len, fun y c e => ⟨hid_in (F.mem_cells e), ?_⟩, C.inj, fun i y e => ?_⟩
    · obtain ⟨w, h⟩ := C.all y c e
      obtain ⟨u, _, z⟩ := isC h
      exact ⟨_, z⟩
    · obtain ⟨c, hc, hv⟩ := C.has i y e
      refine ⟨c, hc, fun v ev => ?_⟩
      rw [List.getElem?_map] at ev
      cases ew : ws[i]? with
      | none => rw [ew] at ev; cases ev
      | some v' =>
        rw [ew] at ev
        cases ev
        exact isC (hv _ ew)
  refine PySem.W.kla_callFunE hr.depth ho rfl S.co S.gen rfl (codeO_at e0.hok hc) ?_
  rw [hbi pm ctv us (by rw [← r.length]; exact hl)]
  refine wpAny_pure (wpAny_newFunctionEnv S.nocell (fun ⟨n, _⟩ hy => S.par n (List.of_mem_zip hy).1) (fun h₁ hns hsb => ⟨lim.fresh _ hsb, ?_⟩) S.kind)
  show codeAny _ _ (.expr F.body (envF F.nf f s.heap.objs.size)) _ _
  have kp : ∀ b o, s.heap.get? b = some o → h₁.get? b = some o := fun b o e => hsb.extBut b o (Nat.ne_of_lt (Heap.lt_size e)) (Heap.get?_push_of_some _ e)
  obtain ⟨t, ht, hq⟩ := hbody (hr.deeper _)
  have I : Inv (ncx CX0 P w K mg base N F.nf f A outer s (hid H F.cells) E0) [] (startF N vs (ws.map some)) (hid H F.cells) { s with heap := h₁, toks := s.toks + (ps.zip us).length } := inv_startN S hr.hd e1 hl r CA hns kp
  refine PySem.W.kla_codeExpr (wpAny_mono (ht.run [] _ _ _ _ I hq) (fun u s' hs => ?_) fun e s' hs => hs)
  obtain ⟨v, H1, J, rv, q⟩ := hs
  have un : Un (frs outer) [] (hid H F.cells) H1 s.heap s'.heap := J.base
  have cn : ∀ {c : Addr}, c ∈ F.cells → H1 c = none ∧ ∀ o, s.heap.get? c = some o → s'.heap.get? c = some o := fun {c} z => by
    obtain ⟨w, h⟩ := C.cell z
    obtain ⟨u, _, o, ho, hd⟩ := isC h
    have nf : c ∉ frs outer := fun z => by
      rw [e0.frf c z] at h
      cases h
    exact ⟨un.free c o ho (hid_in z) (by simp), fun o e => un.keep c o e (hid_in z) nf (by simp)⟩
  refine ⟨v, reT H H1 F.cells, J.os, J.bare, ⟨fun b o e n hb hx => ?_, fun b o e n hb hx => ?_, fun b o e n hx => ?_, un.there, fun b xs e => ?_, fun b o u e => ?_, fun b qs e => ?_⟩, fun b u e => ?_, rv, q⟩
  · have nb : b ∉ F.cells := fun z => by obtain ⟨w, h⟩ := C.cell z; rw [n] at h; cases h
    exact un.keep b o e (by rw [hid_out nb]; exact n) hb hx
  · have nb : b ∉ F.cells := fun z => by obtain ⟨w, h⟩ := C.cell z; rw [n] at h; cases h
    exact un.slot b o e (by rw [hid_out nb]; exact n) hb hx
  · have nb : b ∉ F.cells := fun z => by obtain ⟨w, h⟩ := C.cell z; rw [n] at h; cases h
    rw [reT_out nb]
    exact un.free b o e (by rw [hid_out nb]; exact n) hx
  · rw [reT_out (ntup e)]
    exact un.tups b xs (by rw [hid_out (ntup e)]; exact e)
  · have nb : b ∉ F.cells := fun z => by obtain ⟨w, h⟩ := C.cell z; rw [e] at h; exact cellO_frz (Option.some.inj h).symm
    rw [reT_out nb]
    exact un.frzs b o u (by rw [hid_out nb]; exact e)
  · have nb : b ∉ F.cells := fun z => by obtain ⟨w, h⟩ := C.cell z; rw [e] at h; exact cellO_tbl _ (Option.some.inj h).symm
    rw [reT_out nb]
    exact un.tbls b qs (by rw [hid_out nb]; exact e)
  · by_cases z : b ∈ F.cells
    · rw [reT_in z] at e
      obtain ⟨w, h⟩ := C.cell z
      rw [h] at e
      cases e
      obtain ⟨u, r, o, ho, hd⟩ := isC h
      exact cellO_ok r ⟨o, (cn z).2 o ho, hd⟩
    · rw [reT_out z] at e
      have out : ∀ {c : Addr} {o : HO}, H1 c = some o → reT H H1 F.cells c = some o := fun {c o} q => by
        rw [reT_out (fun z => by rw [(cn z).1] at q; cases q)]
        exact q
      exact (J.hok b u e).stay (fun _ _ _ q => q) (fun c q => out q) fun c xs q => out q
end
end Any
set_option maxHeartbeats 1000000
namespace Any
open L2 PySem PyProof.Rows LamX NdefX
open PySem.Spec
/-! ### a call of a name that holds a made lambda -/
/-- what made lambdas promise: sp f speaks of the one at f -/
def FnL (P : Program) (w : World) (K : PySem.W.Frag) (mg : Str → Option Value) (base : Heap) (k : Nat) (sp : Addr → Sp) : Prop :=
  ∀ (f : Addr) (A : Around) (outer : List Env) (s : Shared) (H : Hp) (us : List Value) (vs : List V) (Q : VK), Room k A → Env0 P w K mg base A outer s H → Vals vs us → sp f vs H Q E0 → codeAny (model P w) A (.call (.ref f) ⟨us, []⟩) (CR CX0 outer P w H s Q E0) s
theorem FnL.mono {P : Program} {w : World} {K : PySem.W.Frag} {mg : Str → Option Value} {base : Heap} {j k : Nat} {sp : Addr → Sp} (F : FnL P w K mg base j sp) (h : j ≤ k) : FnL P w K mg base k sp := fun f A outer s H us vs Q hr => F f A outer s H us vs Q (hr.mono h)
def IsLm (H : Hp) (f : Addr) : Prop := ∃ F, H f = some (LamO f F)
def tCallL (i : Nat) (sp : Addr → Sp) (t : TA) : TE := fun σ H Q => ∃ f, σ[i]? = some (some (.ref f)) ∧ IsLm H f ∧ t σ H fun vs H1 => IsLm H1 f ∧ sp f vs H1 Q E0
section
variable {X : Cx} {sp : Addr → Sp} {i k : Nat} {x : Str} {t : TA} {e : Expr} {es : List Expr} {p pos apos cpos : Pos} {te : TE}
theorem lmAt {pins : List (Addr × Obj)} {σ : L2.St} {H : Hp} {s : Shared} {f : Addr} (I : Inv X pins σ H s) (h : IsLm H f) : PySem.W.FnAt f s.heap := by
  obtain ⟨F, e⟩ := h
  obtain ⟨pm, ctv, ho⟩ := lamO_at I.hok e
  exact ⟨_, _, _, _, ho⟩
theorem pe_callL (Fn : FnL X.prog X.w X.K X.mg X.base k sp) (hr : Room k X.A) (hN : X.N[i]? = some x) (hv : Vis X.env.scope x) (ha : PA X (e :: es) t)
    (hd : (x == ("__debug__" : Str)) = false := by decide) (hcd : (x == ("__classdict__" : Str)) = false := by decide)
    (he : starEach (e :: es) X.env = (false, eval e X.env) :: starEach es X.env := by rfl) (hpl : (backTo pos (starEach es X.env)).any (·.1) = false := by rfl) :
    PE X (.Call (.Name x p) (e :: es) [] pos) (tCallL i sp t) := by
  refine ⟨fun pins s σ H Q I h => ?_⟩
  obtain ⟨f, hs, hf, ht⟩ := h
  refine wpAny_Call_Name_kw (thn ((pe_var (pos := p) hN hv hd hcd).run pins s σ H (fun v H1 => v = .ref f ∧ H1 = H) I ⟨.ref f, hs, rfl, rfl⟩) fun u s1 ⟨v, H1, I1, r1, q1⟩ => ?_)
  obtain ⟨ev, eH⟩ := q1
  subst ev
  rw [eH] at I1
  obtain rfl : u = Value.ref f := r1
  refine PySem.W.callWith_F (first := []) (lmAt I1 hf) (thn (ha.run pos pins s1 σ H _ I1 ht) fun us s2 ⟨vs, H2, I2, r, h1, q⟩ => ⟨lmAt I2 h1, ?_⟩) he hpl
  show wpAny _ _ (call (.ref f) us) _ _ _
  refine wpAny_call (codeAny_mono (Fn f X.A X.stack s2 H2 us vs Q hr I2.env0 r q) fun r s' hq => ?_)
  cases r with
  | error e => exact pass0 pins σ H2 s2 e s' I2 hq
  | ok fl =>
    cases fl with
    | ret u => exact I2.after hq
    | next => exact False.elim hq
    | brk => exact False.elim hq
    | cont => exact False.elim hq
/-! ### list(d.values()) -/
def tListVals (te : TE) : TE := fun σ H Q => te σ H fun x H1 => ∃ (d : Addr) (kvs : List (Key × V)), x = .ref d ∧ H1 d = some (.dK kvs) ∧ ∀ p, H1 p = none → Q (.ref p) (upd H1 p (.lst (kvs.map (·.2))))
theorem vals_get {κ : Type} : ∀ {kvs : List (κ × V)} {vs : List (κ × Value)}, KV kvs vs → Vals (kvs.map (·.2)) (vs.map (·.2))
  | _, _, .nil => .nil
  | _, _, .cons r t => .cons r.2 (vals_get t)
theorem pe_listVals (hc : X.calm = true) (he : PE X e te) (hg : Gl X "list") (hm : X.mg "list" = none) (hv : bootBuiltins "list" = some (.type "list")) (hbase : attributeBase e "values" X.env (eval e X.env) = eval e X.env := by rfl) (hline : (apos.endLine == cpos.line) = true := by rfl)
    (hs : starEach [.Call (.Attribute e "values" apos) [] [] cpos] X.env = (false, eval (.Call (.Attribute e "values" apos) [] [] cpos) X.env) :: starEach [] X.env := by rfl) :
    PE X (.Call (.Name "list" p) [.Call (.Attribute e "values" apos) [] [] cpos] [] pos) (tListVals te) := by
  refine ⟨fun pins s σ H Q I hq => ?_⟩
  refine wpAny_Call_Name_kw (ld_blt I hg hm hv ?_)
  refine PyProof.Rows.callWith_type1 ?_ hs rfl
  rw [hs]
  show wpAny _ _ (spliced ((false, eval (.Call (.Attribute e "values" apos) [] [] cpos) X.env) :: backTo pos (starEach [] X.env))) _ _ s
  refine Calls.spliced_cons ?_
  refine wpAny_Call_method (T := "dict") (id := "dict.values") hbase rfl hline F.plainAttrs_dict F.slot_dict_values F.type_dict_values (thn (he.run pins s σ H _ I hq) fun u s1 ⟨x, H1, I1, rx, d, kvs, ex, hd, q⟩ => ?_)
  subst ex
  obtain rfl : u = Value.ref d := rx
  obtain ⟨hz, hs0, vs, kv, hdo⟩ := I1.hok d _ hd
  obtain ⟨ep, hat⟩ := hdo.dictAt
  have lk : kvs.length = vs.length := Paired.length kv
  have I2 : Inv X pins σ H1 { s1 with heap := s1.heap.push { cls := .type "dict_values", data := .fields #[.ref d] } } := I1.kept (t' := s1.toks) fun b ob q => Heap.get?_push_of_some _ q
  refine ⟨hdo.typeIs, hdo.mapOf.noDict, ?_⟩
  show wpAny _ _ (callWith cpos (.builtin "dict.values") [.ref d] [] []) _ X.xe s1
  refine method_meetsIn F.slot_dict_values F.entry_dict_values rfl (PySem.evalArgs_none ⟨rfl, hdo.typeIs, F.args_dict_values_1 _, _, meets_dict_values (mixKind X.prog X.w) d hs0, ⟨vs, hdo⟩, ?_⟩)
  refine Calls.spliced_nil ?_
  refine PySem.W.kdl_call (PySem.W.kdl_values (knd := mixKind X.prog X.w) (kvs := vs) (ep := ep)) (I1.ok.hd hc) ⟨⟨_, Heap.get?_push_size _ rfl, rfl, rfl⟩, hat.push _⟩ (by omega) fun h' tk acc c hk hS hacc => ?_
  have ev : acc.toList = vs.map (·.2) := PySem.W.kdl_vals_eq acc.toList (by rw [Array.length_toList]; exact hacc.1) fun j v e => hacc.2 j v (by rw [← Array.getElem?_toList]; exact e)
  have hvv := vals_get kv
  rw [← ev] at hvv
  refine ⟨.ref _, upd H1 _ (.lst (kvs.map (·.2))), I2.laid (t' := tk) hk (Nat.le_refl _)
    (show ObjOk X.prog X.w _ _ _ (.lst (kvs.map (·.2))) from ⟨by rw [List.length_map]; exact hz, acc.toList, c, hvv, by rw [Array.toArray_toList]; exact hS⟩), rfl, q _ (I2.hok.fresh (Nat.le_refl _))⟩
end
end Any
set_option maxHeartbeats 1000000
namespace Any
open L2 PySem PyProof.Rows LamX NdefX
open PySem.Spec
/-! ### the law's call with tables of code objects, under no guard -/
section
variable {P : Program} {w : World} {K : PySem.W.Frag} {mg mb : Str → Option Value}
/-- a heap that knows the script, if the written part has it not, and the tables -/
theorem pick_T {a : Addr} {ts : List Addr} {s : Shared} {vs : List Value} {ns : List Int} (kx : K.In s.heap) (la : s.heap.get? a = some { cls := .type "list", data := .seq vs.toArray }) (li : IntsAre vs ns) (ll : ns.length ≤ sizeLine)
    (tab : ∀ t ∈ ts, s.heap.get? t = some { cls := .none, data := .fields #[] }) :
    ∃ H : Hp, (∀ t ∈ ts, H t = some (.tbl #[])) ∧ SqL K H a (ns.map V.int) ∧ HOk P w H s.heap ∧ (∀ b u, H b = some u → b ∉ ts → b = a ∧ K.lookup a = none ∧ ∃ o xs, u = .frz o (.lst xs)) := by
  have nat_ : a ∉ ts := fun z => by
    have q := tab a z
    rw [la] at q
    have d := congrArg Obj.data (Option.some.inj q)
    have d : Data.seq vs.toArray _ = Data.fields #[] := d
    cases d
  cases hk : K.lookup a with
  | some o =>
    have z := (kx a o hk).symm.trans la
    cases z
    refine ⟨fun b => if b ∈ ts then some (.tbl #[]) else none, fun t ht => if_pos ht, .inr ⟨_, vs.toArray, _, hk, rfl, rfl, rfl, by rw [List.size_toArray, li.length]; exact ll, by simpa using vals_ints li⟩, fun b u e => ?_, fun b u e nb => ?_⟩
    · have e : (if b ∈ ts then some (HO.tbl #[]) else none) = some u := e
      split at e
      · rename_i hb
        cases e
        exact tab b hb
      · cases e
    · have e : (if b ∈ ts then some (HO.tbl #[]) else none) = some u := e
      rw [if_neg nb] at e
      cases e
  | none =>
    let o : HO := .frz { cls := .type "list", data := .seq vs.toArray } (.lst (ns.map V.int))
    refine ⟨fun b => if b ∈ ts then some (.tbl #[]) else if b = a then some o else none, fun t ht => if_pos ht, .inl (.inr ⟨_, (if_neg nat_).trans (if_pos rfl)⟩), fun b u e => ?_, fun b u e nb => ?_⟩
    · have e : (if b ∈ ts then some (HO.tbl #[]) else if b = a then some o else none) = some u := e
      split at e
      · rename_i hb
        cases e
        exact tab b hb
      · split at e
        · rename_i hb
          cases e
          rw [hb]
          exact ⟨la, by rw [List.length_map]; exact ll, vs, _, vals_ints li, la⟩
        · cases e
    · have e : (if b ∈ ts then some (HO.tbl #[]) else if b = a then some o else none) = some u := e
      rw [if_neg nb] at e
      split at e
      · rename_i hb
        cases e
        exact ⟨hb, rfl, _, _, rfl⟩
      · cases e
theorem law_gT {C : CXT} {k : Nat} {fa a : Addr} {cs : List (Addr × Addr)} {fd : FuncData} {x : Str} {sp : Sp} {s : Shared} {vs : List Value} {ns : List Int}
    (kx : K.In s.heap) (g1 : s.heap.Ns mainGlobals mg) (g2 : s.heap.Ns builtinsNs mb) (g3 : ∀ x : Str, x ≠ "__name__" → mb x = bootBuiltins x) (g4 : s.heap.NoLimit) (g5 : s.gens = #[])
    (tab : ∀ p ∈ cs, s.heap.get? p.2 = some { cls := .none, data := .fields #[] }) (out : ∀ p ∈ cs, K.lookup p.2 = none) (cod : ∀ p ∈ cs, PySem.W.CodeHd s.heap p.1 p.2)
    (bmn : ∃ (bm : Addr) (ob : Obj), mg "__builtins__" = some (.ref bm) ∧ bm ≠ builtinsNs ∧ s.heap.get? bm = some ob ∧ ob.cls = .type "module" ∧ ob.dict = some builtinsNs ∧ ob.data = .plain)
    (la : s.heap.get? a = some { cls := .type "list", data := .seq vs.toArray }) (li : IntsAre vs ns) (ll : ns.length ≤ sizeLine) (hr : Room k callerA)
    (F : ∀ base : Heap, K.In base → base.Ns mainGlobals mg → (∀ p ∈ cs, TabB base mg p.1 p.2) → FnG P w K mg base C k fa fd [x] sp) (bd : ∀ (s : Shared) (u : Value), BindsTo s fd ⟨[u], []⟩ [(x, u)])
    (want : ∀ H : Hp, (∀ p ∈ cs, H p.2 = some (.tbl #[])) → SqL K H a (ns.map V.int) → sp [.ref a] H (fun v _ => v = .bl true) fun _ _ _ => False)
    (noC : ∀ H e s', C [] H s (fun _ _ _ => False) e s' → False) :
    codeAny (model P w) callerA (.call (.ref fa) ⟨[.ref a], []⟩) (fun r s' => r = .ok (.ret (.bool true)) ∧ OldK s.heap s'.heap ∧ s'.os = s.os ∧ AllBare s'.gens) s := by
  have mem : ∀ p ∈ cs, p.2 ∈ cs.map (·.2) := fun p hp => List.mem_map_of_mem hp
  have isT : ∀ t ∈ cs.map (·.2), s.heap.get? t = some { cls := .none, data := .fields #[] } := fun t ht => by
    obtain ⟨p, hp, rfl⟩ := List.mem_map.mp ht
    exact tab p hp
  obtain ⟨H, hT, hS, hok, hA⟩ := pick_T (P := P) (w := w) kx la li ll isT
  -- what is neither a list nor an empty table is not known
  have free : ∀ {b : Addr} {ob : Obj}, s.heap.get? b = some ob → (∀ us n, ob.data ≠ .seq us n) → ob.data ≠ .fields #[] → H b = none := fun {b ob} z d1 d2 => by
    cases q : H b with
    | none => rfl
    | some u =>
      by_cases ht : b ∈ cs.map (·.2)
      · have z2 := z.symm.trans (isT b ht)
        cases z2
        exact absurd rfl d2
      · obtain ⟨rfl, _⟩ := hA b u q ht
        have z2 := z.symm.trans la
        cases z2
        exact absurd rfl (d1 _ _)
  have freeD : ∀ {b : Addr} {ob : Obj} {es : Array DictEntry} {n : Nat}, s.heap.get? b = some ob → ob.data = .dict es n → H b = none := fun z d => free z (fun us n e => by rw [d] at e; cases e) fun e => by rw [d] at e; cases e
  have ns' : ∀ {b : Addr} {m : Str → Option Value}, s.heap.Ns b m → (hidT s.heap H).Ns b m := by
    rintro b m ⟨o, es, n, z, d, r⟩
    exact ⟨o, es, n, hidT_get z (freeD z d), d, r⟩
  have kb : K.In (hidT s.heap H) := by
    intro b o z
    refine hidT_get (kx b o z) ?_
    cases q : H b with
    | none => rfl
    | some u =>
      by_cases ht : b ∈ cs.map (·.2)
      · obtain ⟨p, hp, rfl⟩ := List.mem_map.mp ht
        rw [out p hp] at z
        cases z
      · obtain ⟨rfl, z2, _⟩ := hA b u q ht
        rw [z2] at z
        cases z
  have TB : ∀ p ∈ cs, TabB (hidT s.heap H) mg p.1 p.2 := fun p hp => by
    have tp := tab p hp
    have apart : ∀ {b : Addr} {ob : Obj}, s.heap.get? b = some ob → ob.data ≠ .fields #[] → b ≠ p.2 := fun z d e => by
      rw [e, tp] at z
      cases z
      exact d rfl
    obtain ⟨og, esg, ng, zg, dg, _⟩ := id g1
    refine ⟨?_, ?_, apart zg (fun e => by rw [dg] at e; cases e)⟩
    · obtain ⟨o, us, file, tf, flags, tg, inF, text, tt, y1, y2, y3, y4, rest⟩ := cod p hp
      refine ⟨o, us, file, tf, flags, tg, inF, text, tt, hidT_get y1 (free y1 (fun us n e => by rw [y3] at e; cases e) fun e => ?_), y2, y3, y4, rest⟩
      rw [y3] at e
      cases e
      simp at y4
    · obtain ⟨bm, ob, m1, m2, m3, m4, m5, m6⟩ := bmn
      refine ⟨bm, ob, m1, m2, fun e => ?_, apart m3 (fun e => by rw [m6] at e; cases e), hidT_get m3 (free m3 (fun us n e => by rw [m6] at e; cases e) fun e => by rw [m6] at e; cases e), m4, m5, m6⟩
      rw [e] at m3
      have z2 := m3.symm.trans zg
      cases z2
      rw [m6] at dg
      cases dg
  obtain ⟨mc, l1, l2⟩ := g4
  have e0 : Env0 P w K mg (hidT s.heap H) callerA [] s H :=
    { frames := rfl, mod := ⟨kb, ns' g1, ⟨mb, ns' g2, g3⟩, ⟨mc, ns' l1, l2⟩⟩, bs := fun b o z => of_hidT z, bsz := Nat.le_of_eq (hidT_size _ _), funs := trivial, frf := fun b z => (by cases z), hok := hok, bare := .of_eq g5 }
  refine codeAny_mono ((F _ kb (ns' g1) TB).go callerA [] s H ⟨[.ref a], []⟩ [.ref a] [.ref a] _ _ rfl hr e0 (bd s (.ref a)) (.cons rfl .nil) (want H (fun p hp => hT _ (mem p hp)) hS)) ?_
  rintro (err | fl) s' h
  · exact (noC H err s' h).elim
  cases fl with
  | next => cases h
  | brk => cases h
  | cont => cases h
  | ret u =>
    obtain ⟨v, H', h1, h2, un, hok', rv, rfl⟩ := h
    cases rv
    have grown : ∀ t ∈ cs.map (·.2), ∃ more : Array Value, s'.heap.get? t = some { cls := .none, data := .fields more } := fun t ht => by
      obtain ⟨more, z⟩ := un.tbls t #[] (hT t ht)
      exact ⟨_, hok' t _ z⟩
    have stay : ∀ b o, b ∉ cs.map (·.2) → s.heap.get? b = some o → s'.heap.get? b = some o := fun b o nb z => by
      cases q : H b with
      | none => exact un.keep b o z q (fun z => by cases z) (fun z => by cases z)
      | some u =>
        obtain ⟨rfl, _, ob, xs, rfl⟩ := hA b u q nb
        have z2 := (hok b _ q).1
        rw [z] at z2
        cases z2
        exact (hok' b _ (un.frzs b _ _ q)).1
    refine ⟨rfl, ⟨fun b o z => ?_, fun b o z => ?_⟩, h1, h2⟩
    · by_cases ht : b ∈ cs.map (·.2)
      · obtain ⟨more, hm⟩ := grown b ht
        obtain ⟨p, hp, rfl⟩ := List.mem_map.mp ht
        have z2 := z.symm.trans (tab p hp)
        cases z2
        exact .inr (.inl ⟨((cod p hp).tab (tab p hp)).isCodeTable, rfl, #[], more, rfl, by rw [Array.empty_append]; exact hm⟩)
      · exact .inl (stay b o ht z)
    · by_cases ht : b ∈ cs.map (·.2)
      · obtain ⟨more, hm⟩ := grown b ht
        exact ⟨_, hm⟩
      · exact ⟨o, stay b o ht z⟩
/-- what is known at the law's end: its promise, with the tables cs -/
def LawT (l : PySem.W.OpenLaw) (w : World) (K : PySem.W.Frag) (k n : Nat) (x : Str) (mg : Str → Option Value) (fa : Addr) (h : Heap) : Prop :=
  ∃ (fd : FuncData) (cs : List (Addr × Addr)) (sp : Sp), (∀ p ∈ cs, h.get? p.2 = some { cls := .none, data := .fields #[] }) ∧ (∀ p ∈ cs, K.lookup p.2 = none) ∧ (∀ p ∈ cs, PySem.W.CodeHd h p.1 p.2) ∧ (∀ (s : Shared) (u : Value), BindsTo s fd ⟨[u], []⟩ [(x, u)]) ∧
    (∀ (H : Hp) (a : Addr) (ns : List Int), ns.length ≤ n → (∀ p ∈ cs, H p.2 = some (.tbl #[])) → SqL K H a (ns.map V.int) → sp [.ref a] H (fun v _ => v = .bl true) fun _ _ _ => False) ∧
    ∀ base : Heap, K.In base → base.Ns mainGlobals mg → (∀ p ∈ cs, TabB base mg p.1 p.2) → FnG l.prog w K mg base CX0 k fa fd [x] sp
theorem walk_gT {l : PySem.W.OpenLaw} {n k : Nat} {q : Program} {loose : List Str} {XP : (Str → Option Value) → Heap → Prop} {YP : World → Heap → Prop} {d : DefRec} {K : Params → PySem.W.Frag} {x : Str}
    (h1 : l.most = some n) (h2 : n ≤ sizeLine) (h3 : d.params.defaults = []) (hr : Room k callerA) (hY : ∀ (w : World) (h : Heap), YP w h → (K w.params).In h)
    (F : ∀ (w : World) (mg : Str → Option Value) (fa : Addr) (h : Heap), YP w h → (K w.params).In h → h.Ns mainGlobals mg → mg d.name = some (.ref fa) → LawT l w (K w.params) k n x mg fa h) :
    PySem.W.WalkO q loose XP YP l.row.toRowW d [] (fun f vs => PySem.call f vs) := by
  refine Att.attach_call h1 h3 fun w s₀ s₁ mg mb fa o pm cd doc a vs ns G Y _ _ _ hmg hobj hints hlen hg => ?_
  have kx := hY w _ Y
  obtain ⟨fd, cs, sp, c1, c2, c3, hb, want, hF⟩ := F w mg fa _ Y kx G.T.g hmg
  exact law_gT kx G.T.g G.T.b G.T.builtins G.T.nolimit hg c1 c2 c3 G.T.bmain hobj hints (Nat.le_trans hlen h2) hr hF hb (fun H t hS => want H a ns hlen t hS) (fun _ _ _ z => z)
end
end Any
namespace Any
open L2 PySem

/-! ### expressions as trees -/
inductive Dd | plus | less | times | over | rest
  deriving DecidableEq
def Dd.word : Dd → Str
  | .plus => "plus" | .less => "less" | .times => "times" | .over => "over" | .rest => "rest"
def Dd.fn : Dd → Int → Int → Int
  | .plus, i, j => i + j
  | .less, i, j => if i < j then 0 else i - j
  | .times, i, j => i * j
  | .over, i, j => if j = 0 then 0 else i / j
  | .rest, i, j => if j = 0 then 0 else i % j
inductive Ex
  | num (n : Int) | box (x : Str) | asked | told | op (d : Dd) (l r : Ex)
def Ex.deep : Ex → Nat
  | .op _ l r => max l.deep r.deep + 1
  | _ => 1
def Ex.size : Ex → Nat
  | .op _ l r => l.size + r.size
  | _ => 1
/-- the number of a box -/
def look (kvs : List (Str × Int)) (x : Str) : Option Int := (kvs.find? fun kv => decide (kv.1 = x)).map (·.2)
def Ex.val (kvs : List (Str × Int)) (a t : Int) : Ex → Int
  | .num n => n
  | .box x => (look kvs x).getD 0
  | .asked => a
  | .told => t
  | .op d l r => d.fn (l.val kvs a t) (r.val kvs a t)
/-- of these boxes, with small numbers -/
def Ex.good (xs : List Str) : Ex → Prop
  | .num n => 0 ≤ n ∧ n < 1024
  | .box x => x ∈ xs
  | .op _ l r => l.good xs ∧ r.good xs
  | _ => True
/-- boxes with small numbers, for each of these names -/
structure Bx (kvs : List (Str × Int)) (xs : List Str) : Prop where
  all : ∀ x ∈ xs, ∃ n, look kvs x = some n ∧ 0 ≤ n ∧ n < 1024
def bx (kvs : List (Str × Int)) : List (Key × V) := kvs.map fun p => (Sum.inr p.1, V.int p.2)
theorem bx_val (x : Str) : ∀ kvs : List (Str × Int), valV (bx kvs) (Sum.inr x) = (look kvs x).map V.int
  | [] => rfl
  | p :: r => by
    have ih := bx_val x r
    unfold valV look bx at ih ⊢
    rw [List.map_cons, List.find?_cons, List.find?_cons]
    by_cases e : p.1 = x
    · have e1 : decide ((Sum.inr p.1 : Key) = Sum.inr x) = true := decide_eq_true (by rw [e])
      rw [decide_eq_true e]
      dsimp only
      rw [e1]
      rfl
    · have e1 : decide ((Sum.inr p.1 : Key) = Sum.inr x) = false := decide_eq_false (fun z => e (Sum.inr.inj z))
      rw [decide_eq_false e]
      dsimp only
      rw [e1]
      exact ih
theorem Dd.fn_nn (d : Dd) {i j : Int} (hi : 0 ≤ i) (hj : 0 ≤ j) : 0 ≤ d.fn i j := by
  cases d with
  | plus => show 0 ≤ i + j; omega
  | less => show 0 ≤ (if i < j then 0 else i - j); split <;> omega
  | times => exact Int.mul_nonneg hi hj
  | over => show 0 ≤ (if j = 0 then 0 else i / j); split; omega; exact Int.ediv_nonneg hi hj
  | rest => show 0 ≤ (if j = 0 then 0 else i % j); split; omega; exact Int.emod_nonneg i (by assumption)
theorem Dd.fn_lt (d : Dd) {i j : Int} {m n : Nat} (hi : 0 ≤ i) (hj : 0 ≤ j) (him : i < 2 ^ m) (hjn : j < 2 ^ n) (hm : 0 < m) (hn : 0 < n) : d.fn i j < 2 ^ (m + n) := by
  have e : (2 : Int) ^ (m + n) = 2 ^ m * 2 ^ n := Int.pow_add ..
  have m2 : (2 : Int) ≤ 2 ^ m := by
    obtain ⟨k, rfl⟩ : ∃ k, m = k + 1 := ⟨m - 1, by omega⟩
    rw [Int.pow_succ]
    have : (0 : Int) < 2 ^ k := Int.pow_pos (by decide)
    omega
  have n2 : (2 : Int) ≤ 2 ^ n := by
    obtain ⟨k, rfl⟩ : ∃ k, n = k + 1 := ⟨n - 1, by omega⟩
    rw [Int.pow_succ]
    have : (0 : Int) < 2 ^ k := Int.pow_pos (by decide)
    omega
  rw [e]
  generalize (2 : Int) ^ m = M at *
  generalize (2 : Int) ^ n = N at *
  have big : M ≤ M * N := by
    have := Int.mul_le_mul_of_nonneg_left (show (1 : Int) ≤ N by omega) (show (0 : Int) ≤ M by omega)
    omega
  have big2 : N ≤ M * N := by
    have := Int.mul_le_mul_of_nonneg_right (show (1 : Int) ≤ M by omega) (show (0 : Int) ≤ N by omega)
    omega
  cases d with
  | plus =>
    show i + j < M * N
    have : 0 ≤ (M - 1) * (N - 1) := Int.mul_nonneg (by omega) (by omega)
    have e2 : (M - 1) * (N - 1) = M * N - M - N + 1 := by rw [Int.sub_mul, Int.mul_sub]; omega
    omega
  | less => show (if i < j then 0 else i - j) < M * N; split <;> omega
  | times => exact Int.lt_of_le_of_lt (Int.mul_le_mul_of_nonneg_left (by omega) hi) (Int.mul_lt_mul_of_pos_right him (by omega))
  | over =>
    show (if j = 0 then 0 else i / j) < M * N
    split
    · omega
    · have := Int.ediv_le_self j hi
      omega
  | rest =>
    show (if j = 0 then 0 else i % j) < M * N
    split
    · omega
    · have := Int.emod_lt_of_pos i (show 0 < j by omega)
      omega
theorem Ex.size_pos : ∀ e : Ex, 0 < e.size
  | .num _ => by show 0 < 1; decide
  | .box _ => by show 0 < 1; decide
  | .asked => by decide
  | .told => by decide
  | .op _ l r => by have := l.size_pos; show 0 < l.size + r.size; omega
theorem Ex.size_le : ∀ e : Ex, e.size ≤ 2 ^ e.deep
  | .num _ => by show 1 ≤ 2 ^ 1; decide
  | .box _ => by show 1 ≤ 2 ^ 1; decide
  | .asked => by show 1 ≤ 2 ^ 1; decide
  | .told => by show 1 ≤ 2 ^ 1; decide
  | .op _ l r => by
    have h1 := l.size_le
    have h2 := r.size_le
    show l.size + r.size ≤ 2 ^ (max l.deep r.deep + 1)
    have h3 : 2 ^ l.deep ≤ 2 ^ max l.deep r.deep := Nat.pow_le_pow_right (by decide) (Nat.le_max_left ..)
    have h4 : 2 ^ r.deep ≤ 2 ^ max l.deep r.deep := Nat.pow_le_pow_right (by decide) (Nat.le_max_right ..)
    rw [Nat.pow_succ]
    omega
theorem Ex.val_ok {kvs : List (Str × Int)} {xs : List Str} {a t : Int} (B : Bx kvs xs) (ha : 0 ≤ a ∧ a < 1024) (ht : 0 ≤ t ∧ t < 1024) : ∀ e : Ex, e.good xs → 0 ≤ e.val kvs a t ∧ e.val kvs a t < 2 ^ (10 * e.size)
  | .num n, h => h
  | .box x, h => by
    obtain ⟨n, e1, h1, h2⟩ := B.all x h
    show 0 ≤ (look kvs x).getD 0 ∧ (look kvs x).getD 0 < 2 ^ 10
    rw [e1]
    exact ⟨h1, h2⟩
  | .asked, _ => ha
  | .told, _ => ht
  | .op d l r, h => by
    obtain ⟨l1, l2⟩ := Ex.val_ok B ha ht l h.1
    obtain ⟨r1, r2⟩ := Ex.val_ok B ha ht r h.2
    refine ⟨d.fn_nn l1 r1, ?_⟩
    have q := d.fn_lt l1 r1 l2 r2 (by have := l.size_pos; omega) (by have := r.size_pos; omega)
    show d.fn _ _ < 2 ^ (10 * (l.size + r.size))
    rw [Nat.mul_add]
    exact q
/-- a number that all deeds take -/
def Nb (i : Int) : Prop := 0 ≤ i ∧ i < 2 ^ 640
theorem nb_of {i : Int} {n : Nat} (h0 : 0 ≤ i) (h : i < 2 ^ (10 * n)) (hn : n ≤ 64) : Nb i := by
  refine ⟨h0, Int.lt_of_lt_of_le h ?_⟩
  have : (2 : Nat) ^ (10 * n) ≤ 2 ^ 640 := Nat.pow_le_pow_right (by decide) (by omega)
  exact_mod_cast this
theorem Ex.nb {kvs : List (Str × Int)} {xs : List Str} {a t : Int} (B : Bx kvs xs) (ha : 0 ≤ a ∧ a < 1024) (ht : 0 ≤ t ∧ t < 1024) {e : Ex} (h : e.good xs) (hd : e.deep ≤ 6) : Nb (e.val kvs a t) := by
  obtain ⟨h0, h1⟩ := e.val_ok B ha ht h
  refine nb_of h0 h1 (Nat.le_trans e.size_le ?_)
  exact Nat.pow_le_pow_right (by decide) hd
theorem Nb.abs {i : Int} (h : Nb i) : i.natAbs < 2 ^ 640 := by
  have h1 := h.1
  have h2 := h.2
  have e : ((2 : Nat) ^ 640 : Nat) = ((2 : Int) ^ 640).toNat := by decide +kernel
  rw [e]
  generalize (2 : Int) ^ 640 = M at *
  omega
theorem Nb.log {i : Int} (h : Nb i) : i.natAbs.log2 < 1920 := by
  by_cases z : i.natAbs = 0
  · rw [z]; decide
  · have := (Nat.log2_lt z).mpr h.abs
    omega

/-! ### trees in the heap -/
inductive ExAt (H : Hp) : V → Ex → Prop
  | num {a : Addr} {n : Int} : H a = some (.tup [.str "number", .int n]) → ExAt H (.ref a) (.num n)
  | box {a : Addr} {x : Str} : H a = some (.tup [.str "box", .str x]) → ExAt H (.ref a) (.box x)
  | asked {a : Addr} : H a = some (.tup [.str "asked"]) → ExAt H (.ref a) .asked
  | told {a : Addr} : H a = some (.tup [.str "told"]) → ExAt H (.ref a) .told
  | op {a : Addr} {d : Dd} {v u : V} {l r : Ex} : H a = some (.tup [.str d.word, v, u]) → ExAt H v l → ExAt H u r → ExAt H (.ref a) (.op d l r)
/-- the tuples stay -/
def Tups (H H' : Hp) : Prop := ∀ a xs, H a = some (.tup xs) → H' a = some (.tup xs)
theorem ExAt.keep {H H' : Hp} (k : Tups H H') {v : V} {e : Ex} (h : ExAt H v e) : ExAt H' v e := by
  induction h with
  | num h => exact .num (k _ _ h)
  | box h => exact .box (k _ _ h)
  | asked h => exact .asked (k _ _ h)
  | told h => exact .told (k _ _ h)
  | op h _ _ i1 i2 => exact .op (k _ _ h) i1 i2
theorem Same.tups {H H' : Hp} (s : Same H H') : Tups H H' := fun a xs h => s a _ h
theorem same_new {H : Hp} {p : Addr} (h : H p = none) (o : HO) : Same H (upd H p o) := fun b u q => by rw [upd_ne (ne_of_none q h)]; exact q
theorem same_refl {H : Hp} : Same H H := fun _ _ q => q
/-- all but b stays -/
def Kept (b : Addr) (H H' : Hp) : Prop := ∀ a o, a ≠ b → H a = some o → H' a = some o
theorem Kept.refl {b : Addr} {H : Hp} : Kept b H H := fun _ _ _ q => q
theorem Kept.trans {b : Addr} {H H1 H2 : Hp} (h : Kept b H H1) (g : Kept b H1 H2) : Kept b H H2 := fun a o n q => g a o n (h a o n q)
theorem Kept.of {b : Addr} {H H' : Hp} (s : Same H H') : Kept b H H' := fun a o _ q => s a o q
theorem Kept.new {b p : Addr} {H : Hp} (h : H p = none) (o : HO) : Kept b H (upd H p o) := .of (same_new h o)
theorem Kept.put {b : Addr} {H : Hp} (o : HO) : Kept b H (upd H b o) := fun a u n q => by rw [upd_ne n]; exact q
theorem Kept.tups {b : Addr} {H H' : Hp} {xs : List V} (k : Kept b H H') (hb : H b = some (.lst xs)) : Tups H H' := fun a ys q => k a _ (ne_of q hb (by intro z; cases z)) q
end Any
namespace Any
open L2 PySem

/-! ### the text, by places -/
def top (i : Nat) : Stmt := PySem.Challenge.pw_anystore_k04_rooms_and_programs.main.body.getD i (.Pass ⟨0, 0, 0, 0⟩)
abbrev sPlus : Stmt := top 5
abbrev sLess : Stmt := top 6
abbrev sTimes : Stmt := top 7
abbrev sOver : Stmt := top 8
abbrev sRest : Stmt := top 9
abbrev sReady : Stmt := top 12

theorem scPlus : FnScope ["left", "right"] ["left", "right"] (defScope sPlus) := ⟨rfl, rfl, rfl, by decide +kernel, rfl, by decide +kernel, by decide +kernel⟩
theorem scLess : FnScope ["left", "right"] ["left", "right"] (defScope sLess) := ⟨rfl, rfl, rfl, by decide +kernel, rfl, by decide +kernel, by decide +kernel⟩
theorem scTimes : FnScope ["left", "right"] ["left", "right"] (defScope sTimes) := ⟨rfl, rfl, rfl, by decide +kernel, rfl, by decide +kernel, by decide +kernel⟩
theorem scOver : FnScope ["left", "right"] ["left", "right"] (defScope sOver) := ⟨rfl, rfl, rfl, by decide +kernel, rfl, by decide +kernel, by decide +kernel⟩
theorem scRest : FnScope ["left", "right"] ["left", "right"] (defScope sRest) := ⟨rfl, rfl, rfl, by decide +kernel, rfl, by decide +kernel, by decide +kernel⟩
def spDeed (d : Dd) : Sp := fun vs H Q _ => ∃ i j, vs = [.int i, .int j] ∧ Nb i ∧ Nb j ∧ Q (.int (d.fn i j)) H
section
variable {P : Program} {w : World} {K : PySem.W.Frag} {mg : Str → Option Value} {base : Heap} {f : Addr} {fd : FuncData}
theorem wideMul {i j : Int} (hi : Nb i) (hj : Nb j) : CMulW i j := wide_mul hi.abs hj.abs (by decide) (by decide) (by decide)
theorem wideDiv {i j : Int} (hj : Nb j) (h : j ≠ 0) : CDivW i j := wide_div (by have := hj.1; omega) hj.abs (by decide) (by decide)
theorem ok_plus (F : Fun K "plus" "plus" sPlus f fd) : FnOk P w K mg base CX0 1 f fd ["left", "right"] (spDeed .plus) := by
  refine F.ok scPlus (fun vs H Q E h => ?_) (fun cdv A outer s H vs Q E hr h => ?_)
  · obtain ⟨i, j, rfl, _⟩ := h
    rfl
  obtain ⟨i, j, rfl, hi, hj, q⟩ := h
  exact ⟨_, pss_one (ps_ret (pe_op op_add (pv 0) (pv 1))), _, rfl, _, rfl, _, _, rfl, rfl, q⟩
theorem ok_less (F : Fun K "less" "less" sLess f fd) : FnOk P w K mg base CX0 1 f fd ["left", "right"] (spDeed .less) := by
  refine F.ok scLess (fun vs H Q E h => ?_) (fun cdv A outer s H vs Q E hr h => ?_)
  · obtain ⟨i, j, rfl, _⟩ := h
    rfl
  obtain ⟨i, j, rfl, hi, hj, q⟩ := h
  refine ⟨_, pss_cons (ps_if (pt_cmpR op_lt (pv 0) (pv 1) (nomark _)) (pss_one (ps_ret pe_int)) pss_nil) (pss_one (ps_ret (pe_op op_sub (pv 0) (pv 1)))), _, rfl, _, rfl, _, _, rfl, rfl, _, rfl, ?_⟩
  have q' : Q (.int (if i < j then 0 else i - j)) H := q
  refine ite2 (fun c => ?_) (fun c => ?_)
  · rw [if_pos (of_decide_eq_true c)] at q'
    exact q'
  · rw [if_neg (of_decide_eq_false (Bool.eq_false_iff.mpr c))] at q'
    exact ⟨_, rfl, _, rfl, _, _, rfl, rfl, q'⟩
theorem ok_times (F : Fun K "times" "times" sTimes f fd) : FnOk P w K mg base CX0 1 f fd ["left", "right"] (spDeed .times) := by
  refine F.ok scTimes (fun vs H Q E h => ?_) (fun cdv A outer s H vs Q E hr h => ?_)
  · obtain ⟨i, j, rfl, _⟩ := h
    rfl
  obtain ⟨i, j, rfl, hi, hj, q⟩ := h
  exact ⟨_, pss_one (ps_ret (pe_op op_mulW (pv 0) (pv 1))), _, rfl, _, rfl, _, _, rfl, rfl, wideMul hi hj, q⟩
theorem ok_over (F : Fun K "over" "over" sOver f fd) : FnOk P w K mg base CX0 1 f fd ["left", "right"] (spDeed .over) := by
  refine F.ok scOver (fun vs H Q E h => ?_) (fun cdv A outer s H vs Q E hr h => ?_)
  · obtain ⟨i, j, rfl, _⟩ := h
    rfl
  obtain ⟨i, j, rfl, hi, hj, q⟩ := h
  refine ⟨_, pss_cons (ps_if (pt_cmpR op_eq (pv 1) pe_int (nomark _)) (pss_one (ps_ret pe_int)) pss_nil) (pss_one (ps_ret (pe_op op_fdivW (pv 0) (pv 1)))), _, rfl, rfl, _, rfl, ?_⟩
  have q' : Q (.int (if j = 0 then 0 else i / j)) H := q
  refine ite2 (fun c => ?_) (fun c => ?_)
  · have c' : V.int j = V.int 0 := of_decide_eq_true c
    rw [if_pos (V.int.inj c')] at q'
    exact q'
  · have c' : ¬ V.int j = V.int 0 := of_decide_eq_false (Bool.eq_false_iff.mpr c)
    have nz : j ≠ 0 := fun z => c' (by rw [z])
    rw [if_neg nz] at q'
    exact ⟨_, rfl, _, rfl, _, _, rfl, rfl, wideDiv hj nz, q'⟩
theorem ok_rest (F : Fun K "rest" "rest" sRest f fd) : FnOk P w K mg base CX0 1 f fd ["left", "right"] (spDeed .rest) := by
  refine F.ok scRest (fun vs H Q E h => ?_) (fun cdv A outer s H vs Q E hr h => ?_)
  · obtain ⟨i, j, rfl, _⟩ := h
    rfl
  obtain ⟨i, j, rfl, hi, hj, q⟩ := h
  refine ⟨_, pss_cons (ps_if (pt_cmpR op_eq (pv 1) pe_int (nomark _)) (pss_one (ps_ret pe_int)) pss_nil) (pss_one (ps_ret (pe_op op_mod (pv 0) (pv 1)))), _, rfl, rfl, _, rfl, ?_⟩
  have q' : Q (.int (if j = 0 then 0 else i % j)) H := q
  refine ite2 (fun c => ?_) (fun c => ?_)
  · have c' : V.int j = V.int 0 := of_decide_eq_true c
    rw [if_pos (V.int.inj c')] at q'
    exact q'
  · have c' : ¬ V.int j = V.int 0 := of_decide_eq_false (Bool.eq_false_iff.mpr c)
    have nz : j ≠ 0 := fun z => c' (by rw [z])
    rw [if_neg nz] at q'
    exact ⟨_, rfl, _, rfl, _, _, rfl, rfl, (by have := hj.1; omega), q'⟩

/-- what the table of deeds holds -/
structure Deeds (P : Program) (w : World) (K : PySem.W.Frag) (mg : Str → Option Value) (base : Heap) : Prop where
  ex : ∃ D : Addr, mg "DEEDS" = some (.ref D) ∧ ∀ d : Dd, ∃ g : Addr, KDct K w D d.word (.ref g) ∧ PySem.W.keepIn K (.ref g) = true ∧ FnR P w K mg base CX0 1 g (spDeed d)
end
end Any
set_option maxHeartbeats 1000000
namespace Any
open L2 PySem PySem.Spec PyProof.Rows LamX NdefX
theorem itT {b : Bool} {A B : Prop} (h : b = true) (a : A) : if b = true then A else B := by
  rw [if_pos h]
  exact a
theorem itF {b : Bool} {A B : Prop} (h : b = false) (a : B) : if b = true then A else B := by
  rw [if_neg (by rw [h]; decide)]
  exact a
theorem ne_str {x y : Str} (h : x ≠ y) : decide (V.str x = V.str y) = false := decide_eq_false fun z => h (V.str.inj z)
theorem eq_str {x : Str} : decide (V.str x = V.str x) = true := decide_eq_true rfl
/-! ### the lambdas of the text -/
def ifB : Stmt → List Stmt
  | .If _ b _ _ => b
  | _ => []
def retE : Stmt → Expr
  | .Return (some e) _ => e
  | _ => .Constant .none 0 ⟨0, 0, 0, 0⟩
def stN (l : List Stmt) (i : Nat) : Stmt := l.getD i (.Pass ⟨0, 0, 0, 0⟩)
def lamP : Expr → Arguments
  | .Lambda p _ _ _ => p
  | _ => { posonlyargs := [], args := [], vararg := none, kwonlyargs := [], kw_defaults := [], kwarg := none, defaults := [] }
def lamB : Expr → Expr
  | .Lambda _ b _ _ => b
  | e => e
def lamS : Expr → Scope
  | .Lambda _ _ s _ => s
  | _ => { kind := .function, names := [], isGenerator := false, isCoroutine := false }
abbrev lamN : Expr := retE (stN (ifB (stN (defBody sReady) 1)) 1)
abbrev lamX : Expr := retE (stN (ifB (stN (defBody sReady) 2)) 1)
abbrev lamA : Expr := retE (stN (ifB (stN (defBody sReady) 3)) 0)
abbrev lamT : Expr := retE (stN (ifB (stN (defBody sReady) 4)) 0)
abbrev lamO : Expr := retE (stN (defBody sReady) 8)
abbrev psL : List Str := ["boxes", "asked", "told"]
theorem scN : NScope ["boxes", "asked", "told", "number"] psL ["number"] (lamS lamN) := nscope_by (by decide +kernel)
theorem scX : NScope ["boxes", "asked", "told", "at"] psL ["at"] (lamS lamX) := nscope_by (by decide +kernel)
theorem scA : NScope ["boxes", "asked", "told"] psL [] (lamS lamA) := nscope_by (by decide +kernel)
theorem scT : NScope ["boxes", "asked", "told"] psL [] (lamS lamT) := nscope_by (by decide +kernel)
theorem scO : NScope ["boxes", "asked", "told", "deed", "left", "right"] psL ["deed", "left", "right"] (lamS lamO) := nscope_by (by decide +kernel)
/-- F is made of the lambda L, its code object is known -/
structure Made (H : Hp) (f : Addr) (F : LF) (L : Expr) : Prop where
  at_ : H f = some (LamO f F)
  p : F.params = lamP L
  b : F.body = lamB L
  s : F.scope = lamS L
  code : H F.c = some (CodeO F.c F.qual)
theorem Made.ext {H H' : Hp} {f : Addr} {F : LF} {L : Expr} (m : Made H f F L) (e : ExtN H H') : Made H' f F L := ⟨e _ _ m.at_ lamO_ne, m.p, m.b, m.s, e _ _ m.code codeO_ne⟩
theorem CapsAt.ext {H H' : Hp} {F : LF} {fr : List Str} {ws : List V} (C : CapsAt H F fr ws) (e : ExtN H H') : CapsAt H' F fr ws := by
  refine ⟨C.len, fun y c h => ?_, C.inj, fun i y h => ?_⟩
  · obtain ⟨w, z⟩ := C.all y c h
    exact ⟨w, e _ _ z cellO_tbl⟩
  · obtain ⟨c, h1, h2⟩ := C.has i y h
    exact ⟨c, h1, fun v hv => e _ _ (h2 v hv) cellO_tbl⟩
theorem hid_ext {H H' : Hp} (e : ExtN H H') (cs : List Addr) : ExtN (hid H cs) (hid H' cs) := fun b o h n => by
  obtain ⟨nb, h⟩ := hid_some h
  rw [hid_out nb]
  exact e b o h n
theorem reT_hid (H : Hp) (cs : List Addr) : reT H (hid H cs) cs = H := by
  funext b
  by_cases h : b ∈ cs
  · exact reT_in h
  · rw [reT_out h, hid_out h]
theorem back {Q : VK} {v : V} {H : Hp} {cs : List Addr} (q : Q v H) : Q v (reT H (hid H cs) cs) := by
  rw [reT_hid]
  exact q
/-- the lambda at f tells the worth of e, by the numbers of the boxes xs; G: which def a deed's is -/
def CloE (G : Dd → Addr → Prop) (xs : List Str) : Ex → Hp → Addr → Prop
  | .num n, H, f => ∃ F, Made H f F lamN ∧ CapsAt H F ["number"] [.int n]
  | .box x, H, f => ∃ (F : LF) (i : Nat), Made H f F lamX ∧ CapsAt H F ["at"] [.int i] ∧ xs[i]? = some x ∧ ∀ j, j < i → xs[j]? ≠ some x
  | .asked, H, f => ∃ F, Made H f F lamA ∧ CapsAt H F [] []
  | .told, H, f => ∃ F, Made H f F lamT ∧ CapsAt H F [] []
  | .op d l r, H, f => ∃ (F : LF) (g fl fr : Addr), Made H f F lamO ∧ CapsAt H F ["deed", "left", "right"] [.ref g, .ref fl, .ref fr] ∧ G d g ∧ CloE G xs l (hid H F.cells) fl ∧ CloE G xs r (hid H F.cells) fr
theorem CloE.ext {G : Dd → Addr → Prop} {xs : List Str} : ∀ {e : Ex} {H H' : Hp} {f : Addr}, CloE G xs e H f → ExtN H H' → CloE G xs e H' f
  | .num n, _, _, _, ⟨F, m, c⟩, e => ⟨F, m.ext e, c.ext e⟩
  | .box x, _, _, _, ⟨F, i, m, c, h⟩, e => ⟨F, i, m.ext e, c.ext e, h⟩
  | .asked, _, _, _, ⟨F, m, c⟩, e => ⟨F, m.ext e, c.ext e⟩
  | .told, _, _, _, ⟨F, m, c⟩, e => ⟨F, m.ext e, c.ext e⟩
  | .op d l r, _, _, _, ⟨F, g, fl, fr, m, c, hg, h1, h2⟩, e => ⟨F, g, fl, fr, m.ext e, c.ext e, hg, h1.ext (hid_ext e _), h2.ext (hid_ext e _)⟩
theorem CloE.lm {G : Dd → Addr → Prop} {xs : List Str} : ∀ {e : Ex} {H : Hp} {f : Addr}, CloE G xs e H f → IsLm H f
  | .num _, _, _, ⟨F, m, _⟩ => ⟨F, m.at_⟩
  | .box _, _, _, ⟨F, _, m, _⟩ => ⟨F, m.at_⟩
  | .asked, _, _, ⟨F, m, _⟩ => ⟨F, m.at_⟩
  | .told, _, _, ⟨F, m, _⟩ => ⟨F, m.at_⟩
  | .op _ _ _, _, _, ⟨F, _, _, _, m, _⟩ => ⟨F, m.at_⟩
/-- the numbers of boxes, as they stand in a list -/
def numsV (kvs : List (Str × Int)) : List V := kvs.map fun p => .int p.2
abbrev namesOf (kvs : List (Str × Int)) : List Str := kvs.map (·.1)
theorem look_at : ∀ {kvs : List (Str × Int)} {i : Nat} {x : Str}, (namesOf kvs)[i]? = some x → (∀ j, j < i → (namesOf kvs)[j]? ≠ some x) → ∃ n, look kvs x = some n ∧ (numsV kvs)[i]? = some (.int n)
  | [], i, x, h, _ => by simp at h
  | p :: r, 0, x, h, _ => by
    have h : p.1 = x := Option.some.inj h
    refine ⟨p.2, ?_, rfl⟩
    unfold look
    rw [List.find?_cons, decide_eq_true h]
    rfl
  | p :: r, i + 1, x, h, n => by
    have h0 : p.1 ≠ x := fun z => n 0 (by omega) (by rw [← z]; rfl)
    obtain ⟨m, e1, e2⟩ := look_at (kvs := r) (i := i) h (fun j hj => n (j + 1) (by omega))
    refine ⟨m, ?_, e2⟩
    unfold look at e1 ⊢
    rw [List.find?_cons, decide_eq_false h0]
    exact e1
def DeedIs (P : Program) (w : World) (K : PySem.W.Frag) (mg : Str → Option Value) (base : Heap) (d : Dd) (g : Addr) : Prop := PySem.W.keepIn K (.ref g) = true ∧ FnR P w K mg base CX0 1 g (spDeed d)
def spClo (G : Dd → Addr → Prop) (n : Nat) (f : Addr) : Sp := fun vs H Q _ => ∃ (e : Ex) (kvs : List (Str × Int)) (xs : List Str) (b : Addr) (a t : Int), vs = [.ref b, .int a, .int t] ∧ e.deep ≤ n ∧ e.deep ≤ 6 ∧ H b = some (.lst (numsV kvs)) ∧ CloE G (namesOf kvs) e H f ∧ e.good xs ∧ Bx kvs xs ∧
  (0 ≤ a ∧ a < 1024) ∧ (0 ≤ t ∧ t < 1024) ∧ Q (.int (e.val kvs a t)) H
section
variable {P : Program} {w : World} {K : PySem.W.Frag} {mg : Str → Option Value} {base : Heap}
theorem lst_hid {H : Hp} {F : LF} {fr : List Str} {ws xs : List V} {b : Addr} (C : CapsAt H F fr ws) (h : H b = some (.lst xs)) : hid H F.cells b = some (.lst xs) := by
  rw [hid_out fun z => ?_]
  · exact h
  · obtain ⟨w, e⟩ := C.cell z
    rw [h] at e
    unfold CellO at e
    cases e
theorem no_clo : FnL P w K mg base 0 (spClo (DeedIs P w K mg base) 0) := fun f A outer s H us vs Q _ _ _ h => by
  obtain ⟨e, kvs, xs, b, a, t, _, hd, _⟩ := h
  cases e <;> exact absurd hd (by show ¬ _ ≤ 0; exact Nat.not_succ_le_zero _)
theorem ok_clo {n : Nat} (G : FnL P w K mg base (n + 1) (spClo (DeedIs P w K mg base) n)) : FnL P w K mg base (n + 2) (spClo (DeedIs P w K mg base) (n + 1)) := by
  intro f A outer s H us vs Q hr e0 rv h
  obtain ⟨e, kvs, xs, b, a, t, rfl, hd, hd6, hb, hc, hg, B, ha, ht, q⟩ := h
  cases e with
  | num m =>
    obtain ⟨⟨qu, pa, bo, sc, cl, co⟩, M, C⟩ := hc
    obtain ⟨m1, rfl, rfl, rfl, m5⟩ := M
    refine lam_run (k := n + 1) (N := ["boxes", "asked", "told", "number"]) (ws := [.int m]) scN (fun pm ctv us hl => match us, hl with | [_, _, _], _ => rfl) hr e0 m1 m5 C rv rfl fun hr => ⟨_, pv 3, _, rfl, ?_⟩
    exact back q
  | box x =>
    obtain ⟨⟨qu, pa, bo, sc, cl, co⟩, i, M, C, hi, hj⟩ := hc
    obtain ⟨m1, rfl, rfl, rfl, m5⟩ := M
    obtain ⟨m, e1, e2⟩ := look_at hi hj
    refine lam_run (k := n + 1) (N := ["boxes", "asked", "told", "at"]) (ws := [.int i]) scX (fun pm ctv us hl => match us, hl with | [_, _, _], _ => rfl) hr e0 m1 m5 C rv rfl fun hr => ⟨_, pe_ix ix_list (pv 0) (pv 3) (fun _ _ => rfl), _, rfl, _, rfl, b, _, _, _, rfl, rfl, SqL.of (lst_hid C hb), atI_nat e2, ?_⟩
    refine back ?_
    have q' : Q (.int ((look kvs x).getD 0)) H := q
    rw [e1] at q'
    exact q'
  | asked =>
    obtain ⟨⟨qu, pa, bo, sc, cl, co⟩, M, C⟩ := hc
    obtain ⟨m1, rfl, rfl, rfl, m5⟩ := M
    refine lam_run (k := n + 1) (N := ["boxes", "asked", "told"]) (ws := []) scA (fun pm ctv us hl => match us, hl with | [_, _, _], _ => rfl) hr e0 m1 m5 C rv rfl fun hr => ⟨_, pv 1, _, rfl, ?_⟩
    exact back q
  | told =>
    obtain ⟨⟨qu, pa, bo, sc, cl, co⟩, M, C⟩ := hc
    obtain ⟨m1, rfl, rfl, rfl, m5⟩ := M
    refine lam_run (k := n + 1) (N := ["boxes", "asked", "told"]) (ws := []) scT (fun pm ctv us hl => match us, hl with | [_, _, _], _ => rfl) hr e0 m1 m5 C rv rfl fun hr => ⟨_, pv 2, _, rfl, ?_⟩
    exact back q
  | op d l r =>
    obtain ⟨⟨qu, pa, bo, sc, cl, co⟩, g, fl, fr, M, C, ⟨kk, FR⟩, h1, h2⟩ := hc
    obtain ⟨m1, rfl, rfl, rfl, m5⟩ := M
    have dl : l.deep ≤ n := Nat.le_trans (Nat.le_max_left ..) (Nat.le_of_succ_le_succ hd)
    have dr : r.deep ≤ n := Nat.le_trans (Nat.le_max_right ..) (Nat.le_of_succ_le_succ hd)
    have dl6 : l.deep ≤ 6 := Nat.le_trans (Nat.le_max_left ..) (Nat.le_of_succ_le hd6)
    have dr6 : r.deep ≤ 6 := Nat.le_trans (Nat.le_max_right ..) (Nat.le_of_succ_le hd6)
    refine lam_run (k := n + 1) (N := ["boxes", "asked", "told", "deed", "left", "right"]) (ws := [.ref g, .ref fl, .ref fr]) scO (fun pm ctv us hl => match us, hl with | [_, _, _], _ => rfl) hr e0 m1 m5 C rv rfl fun hr =>
      ⟨_, pe_callS (k := 1) (i := 3) (hr.mono (by omega)) pass0 rfl (.inr (.inr rfl)) (pa_cons (pe_callL (i := 4) G hr rfl (.inr (.inr rfl)) (pa_cons (pv 0) (pa_cons (pv 1) (pa_cons (pv 2) pa_nil)))) (pa_cons (pe_callL (i := 5) G hr rfl (.inr (.inr rfl)) (pa_cons (pv 0) (pa_cons (pv 1) (pa_cons (pv 2) pa_nil)))) pa_nil)), ?_⟩
    refine ⟨g, spDeed d, FR, kk, rfl, fl, rfl, h1.lm, _, rfl, _, rfl, _, rfl, h1.lm, l, kvs, xs, b, a, t, rfl, dl, dl6, lst_hid C hb, h1, hg.1, B, ha, ht, ?_⟩
    refine ⟨fr, rfl, h2.lm, _, rfl, _, rfl, _, rfl, h2.lm, r, kvs, xs, b, a, t, rfl, dr, dr6, lst_hid C hb, h2, hg.2, B, ha, ht, ?_⟩
    refine ⟨_, _, rfl, Ex.nb B ha ht hg.1 dl6, Ex.nb B ha ht hg.2 dr6, ?_⟩
    exact back q
theorem all_clo : ∀ n : Nat, FnL P w K mg base (n + 1) (spClo (DeedIs P w K mg base) n)
  | 0 => no_clo.mono (by omega)
  | n + 1 => ok_clo (all_clo n)
end
end Any
set_option maxHeartbeats 1000000
namespace Any
open L2 PySem PySem.Spec PyProof.Rows LamX NdefX
/-! ### heaps that grow, tables aside -/
structure Gr (T : List NTab) (H H' : Hp) : Prop where
  ext : ExtN H H'
  no : ∀ b, H' b = none → H b = none
  tabs : TabsN T H'
theorem Gr.refl {T : List NTab} {H : Hp} (t : TabsN T H) : Gr T H H := ⟨ExtN.refl H, fun _ z => z, t⟩
theorem Gr.trans {T : List NTab} {H H1 H2 : Hp} (a : Gr T H H1) (b : Gr T H1 H2) : Gr T H H2 := ⟨a.ext.trans b.ext, fun c z => a.no c (b.no c z), b.tabs⟩
theorem same_no {H H' : Hp} (s : Same H H') : ∀ b, H' b = none → H b = none := fun b z => by
  cases e : H b with
  | none => rfl
  | some o => rw [s b o e] at z; cases z
theorem Gr.same {T : List NTab} {H H1 H2 : Hp} (a : Gr T H H1) (s : Same H1 H2) : Gr T H H2 := ⟨a.ext.trans (ExtN.of s), fun c z => a.no c (same_no s c z), a.tabs.ext s⟩
theorem Gr.of {T : List NTab} {H H' : Hp} (t : TabsN T H) (s : Same H H') : Gr T H H' := (Gr.refl t).same s
theorem Gr.tup {T : List NTab} {H H' : Hp} (g : Gr T H H') {a : Addr} {xs : List V} (h : H a = some (.tup xs)) : H' a = some (.tup xs) := g.ext _ _ h fun _ z => by cases z
theorem Gr.lst {T : List NTab} {H H' : Hp} (g : Gr T H H') {a : Addr} {xs : List V} (h : H a = some (.lst xs)) : H' a = some (.lst xs) := g.ext _ _ h fun _ z => by cases z
theorem Gr.dK {T : List NTab} {H H' : Hp} (g : Gr T H H') {a : Addr} {xs : List (Key × V)} (h : H a = some (.dK xs)) : H' a = some (.dK xs) := g.ext _ _ h fun _ z => by cases z
theorem Gr.tups {T : List NTab} {H H' : Hp} (g : Gr T H H') : Tups H H' := fun _ _ h => g.tup h
/-! ### a def that hands back a lambda -/
structure FunC (K : PySem.W.Frag) (x qual : Str) (st : Stmt) (f : Addr) (fd : FuncData) (c : Addr) : Prop where
  ex : ∃ (oc : Value) (od : Option Addr) (kV doc pm : Value) (an : Option Addr) (ct : Value) (osl : Array (Option Value)),
    fd = PySem.W.fnOf x qual (defArgs st) (defBody st) (defScope st) .none kV doc pm an (.ref c) ct ∧ K.lookup f = some ⟨oc, od, .func fd, osl⟩ ∧ PySem.W.codeIn K (.ref c) qual = true
  kp : PySem.W.keepIn K (.ref f) = true
section
variable {P : Program} {w : World} {K : PySem.W.Frag} {mg : Str → Option Value} {base : Heap} {f c : Addr} {fd : FuncData}
theorem fun_c {x ql : Str} {st : Stmt} {N ps : List Str} {k : Nat} {sp : Sp} (F : FunC K x ql st f fd c) (S : FnScope N ps (defScope st)) (ln : ∀ vs H Q E, sp vs H Q E → vs.length = ps.length)
    (hb : ∀ (A : Around) (out : List Env) (s : Shared) (H : Hp) (vs : List V) (Q : VK) (E : XK), Room k (A.deeper (envOfC ql (defScope st) s.heap.objs.size f (.ref c))) → sp vs H Q E →
      ∃ t, PRs (cxOf CX0 P w K mg base N ql (defScope st) f (.ref c) A out s H E) (defBody st) t ∧ t ⟨fun _ H' => Q .non H', RetC N (defScope st) s.heap.objs.size Q⟩ (L2.start N vs) H) : FnOk P w K mg base CX0 (k + 1) f fd ps sp := by
  obtain ⟨_, _, _, _, _, _, _, _, rfl, lk, hc⟩ := F.ex
  exact fn_c lk hc S ln hb
theorem FunC.binds {x ql : Str} {st : Stmt} {ps : List Str} (F : FunC K x ql st f fd c) (h : ∀ (kV doc pm : Value) (an : Option Addr) (ct : Value) (us : List Value), us.length = ps.length → bindArgs (PySem.W.fnOf x ql (defArgs st) (defBody st) (defScope st) .none kV doc pm an (.ref c) ct) ⟨us, []⟩ = pure (ps.zip us)) : Binds K fd ps [] := by
  obtain ⟨_, _, kV, doc, pm, an, ct, _, rfl, lk, hc⟩ := F.ex
  intro s us _ hl
  rw [List.append_nil] at hl ⊢
  exact .of_eq (h kV doc pm an ct us hl)
/-- the captured names are known at the end -/
theorem caps_ret {N N2 ps fr : List Str} {sc nsc : Scope} {L : Addr} {σ : L2.St} {H' H'' : Hp} {F : LF} {ws : List V}
    (R : ∀ (x : Str) (c : Addr) (i : Nat) (u : V), (cellsFrom (L + 1) sc.names []).lookup x = some c → N[i]? = some x → σ[i]? = some (some u) → sc.names.lookup x = some .cell → H' c = none ∧ H'' c = some (CellO c u))
    (inj : ∀ x y c, (cellsFrom (L + 1) sc.names []).lookup x = some c → (cellsFrom (L + 1) sc.names []).lookup y = some c → x = y)
    (hcl : F.cl = cloFrom (cellsFrom (L + 1) sc.names []) nsc.names []) (S : NScope N2 ps fr nsc) (cel : ∀ y ∈ fr, sc.names.lookup y = some .cell) (len : ws.length = fr.length)
    (at_ : ∀ (i : Nat) (y : Str), fr[i]? = some y → ∃ (j : Nat) (u : V), N[j]? = some y ∧ σ[j]? = some (some u) ∧ ws[i]? = some u) : CapsAt H'' F fr ws ∧ ∀ b ∈ F.cells, H' b = none := by
  have hfree : ∀ y ∈ nsc.names, y.2 = .free → ∃ c, (cellsFrom (L + 1) sc.names []).lookup y.1 = some c := fun y hy e => cell_has (cel _ (S.free y hy e))
  have sub : ∀ {y c}, F.cl.lookup y = some c → (cellsFrom (L + 1) sc.names []).lookup y = some c := fun {y c} e => by
    rw [hcl] at e
    exact clo_cm hfree e
  have infr : ∀ {y c}, F.cl.lookup y = some c → y ∈ fr := fun {y c} e => by
    rw [hcl] at e
    rcases cloFrom_mem (PySem.mem_of_lookup e) with hm | ⟨h1, _⟩
    · cases hm
    · exact S.free _ h1 rfl
  have one : ∀ {y c}, F.cl.lookup y = some c → ∃ u, H' c = none ∧ H'' c = some (CellO c u) := fun {y c} e => by
    have hy := infr e
    obtain ⟨i, hi⟩ := List.mem_iff_getElem?.mp hy
    obtain ⟨j, u, j1, j2, _⟩ := at_ i y hi
    exact ⟨u, R y c j u (sub e) j1 j2 (cel y hy)⟩
  refine ⟨⟨len, fun y c e => ?_, fun x y c e1 e2 => inj x y c (sub e1) (sub e2), fun i y e => ?_⟩, fun b hb => ?_⟩
  · obtain ⟨u, _, z⟩ := one e
    exact ⟨u, z⟩
  · have hy := List.mem_of_getElem? e
    obtain ⟨c, hc⟩ := cell_has (n := L + 1) (cel y hy)
    refine ⟨c, ?_, fun v hv => ?_⟩
    · rw [hcl]
      exact clo_has hfree (PySem.mem_of_lookup (S.frk y hy)) hc
    · obtain ⟨j, u, j1, j2, j3⟩ := at_ i y e
      rw [hv] at j3
      cases j3
      exact (R y c j v hc j1 j2 (cel y hy)).2
  · obtain ⟨y, e⟩ := F.of_cells hb
    obtain ⟨u, z, _⟩ := one e
    exact z
end
/-! ### ready_worth -/
abbrev nmReady : List Str := ["expression", "owns", "kind", "number", "at", "deed", "left", "right"]
abbrev psReady : List Str := ["expression", "owns"]
theorem scReady : FnScope nmReady psReady (defScope sReady) := ⟨rfl, rfl, rfl, by decide +kernel, rfl, by decide +kernel, by decide +kernel⟩
/-- the lambdas' own name -/
def qReady : Str := (envOfC "ready_worth" (defScope sReady) 0 0 .none).qual ++ "<lambda>"
/-- a lambda that ready_worth made, its frame at L0 -/
abbrev mkReady (L : Expr) (L0 c' : Addr) : LF := ⟨qReady, lamP L, lamB L, lamS L, cloFrom (cellsFrom (L0 + 1) (defScope sReady).names []) (lamS L).names [], c'⟩
def spReady (T : List NTab) (G : Dd → Addr → Prop) (n : Nat) : Sp := fun vs H Q _ => ∃ (v : V) (o : Addr) (e : Ex) (xs : List Str), vs = [v, .ref o] ∧ ExAt H v e ∧ e.deep ≤ n ∧ e.good xs ∧ H o = some (.lst (xs.map V.str)) ∧ TabsN T H ∧
  ∀ f H', Gr T H H' → CloE G xs e H' f → Q (.ref f) H'
/-- the first place of a name -/
theorem first_at {x : Str} : ∀ {xs : List Str}, x ∈ xs → ∃ i : Nat, xs[i]? = some x ∧ ∀ j, j < i → xs[j]? ≠ some x
  | y :: r, h => by
    by_cases e : y = x
    · exact ⟨0, by rw [e]; rfl, fun j hj => absurd hj (Nat.not_lt_zero _)⟩
    · rcases List.mem_cons.mp h with z | z
      · exact absurd z.symm e
      · obtain ⟨i, h1, h2⟩ := first_at z
        refine ⟨i + 1, h1, fun j hj => ?_⟩
        cases j with
        | zero => exact fun z => e (Option.some.inj z)
        | succ j => exact h2 j (by omega)
theorem strs_flat : ∀ xs : List Str, (xs.map V.str).all flatV = true
  | [] => rfl
  | x :: r => by
    rw [List.map_cons, List.all_cons, strs_flat r]
    rfl
/-- the table of deeds, each a def that keeps its promise -/
structure DeedsT (P : Program) (w : World) (K : PySem.W.Frag) (mg : Str → Option Value) (base : Heap) : Prop where
  ex : ∃ D : Addr, mg "DEEDS" = some (.ref D) ∧ ∀ d : Dd, ∃ g : Addr, KDct K w D d.word (.ref g) ∧ DeedIs P w K mg base d g
section
variable {P : Program} {w : World} {K : PySem.W.Frag} {mg : Str → Option Value} {base : Heap} {f c Pt : Addr} {fd : FuncData} {T : List NTab}
theorem no_ready : FnOk P w K mg base CX0 0 f fd psReady (spReady T (DeedIs P w K mg base) 0) := by
  have no : ∀ vs H Q E, ¬ spReady T (DeedIs P w K mg base) 0 vs H Q E := fun vs H Q E h => by
    obtain ⟨v, o, e, xs, _, _, hd, _⟩ := h
    cases e <;> exact absurd hd (by show ¬ _ ≤ 0; exact Nat.not_succ_le_zero _)
  exact ⟨fun vs H Q E h => absurd h (no vs H Q E), fun A outer s H args us vs Q E _ _ _ _ h => absurd h (no vs H Q E)⟩
theorem ok_ready {n : Nat} (F : FunC K "ready_worth" "ready_worth" sReady f fd c) (TB : TabB base mg c Pt) (hm : (Pt, fun _ _ => qReady) ∈ T) (hu : ∀ p ∈ T, p.1 = Pt → p.2 = fun _ _ => qReady) (G : FnOk P w K mg base CX0 (n + 1) f fd psReady (spReady T (DeedIs P w K mg base) n))
    (D : DeedsT P w K mg base) (mR : mg "ready_worth" = some (.ref f)) (bR : Binds K fd psReady []) : FnOk P w K mg base CX0 (n + 2) f fd psReady (spReady T (DeedIs P w K mg base) (n + 1)) := by
  refine fun_c F scReady (fun vs H Q E h => ?_) (fun A outer s H vs Q E hr h => ?_)
  · obtain ⟨v, o, e, xs, rfl, _⟩ := h
    rfl
  obtain ⟨v, o, e, xs, rfl, hv, hd, hg, ho, hT, q⟩ := h
  obtain ⟨DA, mD, hD⟩ := D.ex
  let X := cxOf CX0 P w K mg base nmReady "ready_worth" (defScope sReady) f (.ref c) A outer s H E
  have TBx : TabB X.base X.mg c Pt := TB
  refine ⟨_, prs_cons (pr_go (ps_set (i := 2) scReady.nd rfl (Or.inl rfl) (pe_ix ix_tup (pv 0) pe_int (fun _ _ => rfl))))
    (prs_cons (pr_if (pt_cmpR op_eq (pv 2) pe_str (nomark _)) (prs_cons (pr_go (ps_set (i := 3) scReady.nd rfl (Or.inr rfl) (pe_ix ix_tup (pv 0) pe_int (fun _ _ => rfl)))) (prs_one (pr_ret (pe_lamb TBx rfl hm rfl hu rfl (ndef_free (sc := defScope sReady) (fr := []) (by decide +kernel)))))) prs_nil)
    (prs_cons (pr_if (pt_cmpR op_eq (pv 2) pe_str (nomark _)) (prs_cons (pr_go (ps_set (i := 4) scReady.nd rfl (Or.inr rfl) (pe_bm PySem.F.plainAttrs_list PySem.F.slot_list_index PySem.F.type_list_index mt_index (pv 1) (pa_cons (pe_ix ix_tup (pv 0) pe_int (fun _ _ => rfl)) pa_nil)))) (prs_one (pr_ret (pe_lamb TBx rfl hm rfl hu rfl (ndef_free (sc := defScope sReady) (fr := []) (by decide +kernel)))))) prs_nil)
    (prs_cons (pr_if (pt_cmpR op_eq (pv 2) pe_str (nomark _)) (prs_one (pr_ret (pe_lamb TBx rfl hm rfl hu rfl (ndef_free (sc := defScope sReady) (fr := []) (by decide +kernel))))) prs_nil)
    (prs_cons (pr_if (pt_cmpR op_eq (pv 2) pe_str (nomark _)) (prs_one (pr_ret (pe_lamb TBx rfl hm rfl hu rfl (ndef_free (sc := defScope sReady) (fr := []) (by decide +kernel))))) prs_nil)
    (prs_cons (pr_go (ps_set (i := 5) scReady.nd rfl (Or.inr rfl) (pe_ix ix_kdict (pe_glob (v := .ref DA) rfl mD rfl) (pv 2) (fun _ _ => rfl))))
    (prs_cons (pr_go (ps_set (i := 6) scReady.nd rfl (Or.inr rfl) (pe_call G hr rfl mR F.kp bR .nil pass0 (pa_cons (pe_ix ix_tup (pv 0) pe_int (fun _ _ => rfl)) (pa_cons (pv 1) pa_nil)))))
    (prs_cons (pr_go (ps_set (i := 7) scReady.nd rfl (Or.inr rfl) (pe_call G hr rfl mR F.kp bR .nil pass0 (pa_cons (pe_ix ix_tup (pv 0) pe_int (fun _ _ => rfl)) (pa_cons (pv 1) pa_nil)))))
    (prs_one (pr_ret (pe_lamb TBx rfl hm rfl hu rfl (ndef_free (sc := defScope sReady) (fr := []) (by decide +kernel)))))))))))), ?_⟩
  cases hv with
  | num h =>
    rename_i a m
    refine ⟨_, rfl, _, _, _, _, rfl, rfl, SqT.of h, atI_nat (j := 0) rfl, ?_⟩
    refine ⟨_, rfl, rfl, _, rfl, itT eq_str ?_⟩
    refine ⟨_, rfl, _, _, _, _, rfl, rfl, SqT.of h, atI_nat (j := 1) rfl, hT, fun g c' H1 eN nn T1 f0 f1 c1 H2 sm R _ inj => ?_⟩
    obtain ⟨C, _⟩ := caps_ret (F := mkReady lamN s.heap.objs.size c') (ws := [.int m]) R inj rfl scN (by decide +kernel) rfl fun i y e => match i, e with | 0, e => by cases e; exact ⟨3, _, rfl, rfl, rfl⟩ | _ + 1, e => by cases e
    exact q g H2 ⟨eN.trans (ExtN.of sm), fun b z => nn b (same_no sm b z), T1.ext sm⟩ ⟨_, ⟨sm _ _ f1, rfl, rfl, rfl, sm _ _ c1⟩, C⟩
  | box h =>
    rename_i a x
    obtain ⟨i, i1, i2⟩ := first_at hg
    refine ⟨_, rfl, _, _, _, _, rfl, rfl, SqT.of h, atI_nat (j := 0) rfl, ?_⟩
    refine ⟨_, rfl, rfl, _, rfl, itF (ne_str (by decide)) ?_⟩
    refine ⟨_, rfl, rfl, _, rfl, itT eq_str ?_⟩
    refine ⟨_, rfl, .inl ⟨rfl, _, SqL.of ho⟩, _, rfl, _, _, _, _, rfl, rfl, SqT.of h, atI_nat (j := 1) rfl, o, _, _, i, .str x, rfl, rfl, SqL.of ho, rfl, strs_flat xs, by rw [List.getElem?_map, i1]; rfl, by simp [eqV], fun j z hj hz => ?_, ?_⟩
    · rw [List.getElem?_map] at hz
      cases ez : xs[j]? with
      | none => rw [ez] at hz; cases hz
      | some y =>
        rw [ez] at hz
        cases hz
        have : y ≠ x := fun e => i2 j hj (by rw [ez, e])
        simp [eqV, this]
    · refine ⟨hT, fun g c' H1 eN nn T1 f0 f1 c1 H2 sm R _ inj => ?_⟩
      obtain ⟨C, _⟩ := caps_ret (F := mkReady lamX s.heap.objs.size c') (ws := [.int i]) R inj rfl scX (by decide +kernel) rfl fun i y e => match i, e with | 0, e => by cases e; exact ⟨4, _, rfl, rfl, rfl⟩ | _ + 1, e => by cases e
      exact q g H2 ⟨eN.trans (ExtN.of sm), fun b z => nn b (same_no sm b z), T1.ext sm⟩ ⟨_, i, ⟨sm _ _ f1, rfl, rfl, rfl, sm _ _ c1⟩, C, i1, i2⟩
  | asked h =>
    refine ⟨_, rfl, _, _, _, _, rfl, rfl, SqT.of h, atI_nat (j := 0) rfl, ?_⟩
    refine ⟨_, rfl, rfl, _, rfl, itF (ne_str (by decide)) ?_⟩
    refine ⟨_, rfl, rfl, _, rfl, itF (ne_str (by decide)) ?_⟩
    refine ⟨_, rfl, rfl, _, rfl, itT eq_str ?_⟩
    refine ⟨hT, fun g c' H1 eN nn T1 f0 f1 c1 H2 sm R _ inj => ?_⟩
    obtain ⟨C, _⟩ := caps_ret (F := mkReady lamA s.heap.objs.size c') (ws := []) R inj rfl scA (by decide +kernel) rfl fun i y e => by cases e
    exact q g H2 ⟨eN.trans (ExtN.of sm), fun b z => nn b (same_no sm b z), T1.ext sm⟩ ⟨_, ⟨sm _ _ f1, rfl, rfl, rfl, sm _ _ c1⟩, C⟩
  | told h =>
    refine ⟨_, rfl, _, _, _, _, rfl, rfl, SqT.of h, atI_nat (j := 0) rfl, ?_⟩
    refine ⟨_, rfl, rfl, _, rfl, itF (ne_str (by decide)) ?_⟩
    refine ⟨_, rfl, rfl, _, rfl, itF (ne_str (by decide)) ?_⟩
    refine ⟨_, rfl, rfl, _, rfl, itF (ne_str (by decide)) ?_⟩
    refine ⟨_, rfl, rfl, _, rfl, itT eq_str ?_⟩
    refine ⟨hT, fun g c' H1 eN nn T1 f0 f1 c1 H2 sm R _ inj => ?_⟩
    obtain ⟨C, _⟩ := caps_ret (F := mkReady lamT s.heap.objs.size c') (ws := []) R inj rfl scT (by decide +kernel) rfl fun i y e => by cases e
    exact q g H2 ⟨eN.trans (ExtN.of sm), fun b z => nn b (same_no sm b z), T1.ext sm⟩ ⟨_, ⟨sm _ _ f1, rfl, rfl, rfl, sm _ _ c1⟩, C⟩
  | op h h1 h2 =>
    rename_i p d x y l r
    have w1 : d.word ≠ "number" ∧ d.word ≠ "box" ∧ d.word ≠ "asked" ∧ d.word ≠ "told" := by cases d <;> decide
    obtain ⟨g, kd, gd⟩ := hD d
    have dl : l.deep ≤ n := Nat.le_trans (Nat.le_max_left ..) (Nat.le_of_succ_le_succ hd)
    have dr : r.deep ≤ n := Nat.le_trans (Nat.le_max_right ..) (Nat.le_of_succ_le_succ hd)
    refine ⟨_, rfl, _, _, _, _, rfl, rfl, SqT.of h, atI_nat (j := 0) rfl, ?_⟩
    refine ⟨_, rfl, rfl, _, rfl, itF (ne_str w1.1) ?_⟩
    refine ⟨_, rfl, rfl, _, rfl, itF (ne_str w1.2.1) ?_⟩
    refine ⟨_, rfl, rfl, _, rfl, itF (ne_str w1.2.2.1) ?_⟩
    refine ⟨_, rfl, rfl, _, rfl, itF (ne_str w1.2.2.2) ?_⟩
    refine ⟨_, rfl, DA, d.word, .ref g, rfl, rfl, kd, ?_⟩
    refine ⟨_, rfl, _, _, _, _, rfl, rfl, SqT.of h, atI_nat (j := 1) rfl, _, rfl, x, o, l, xs, rfl, h1, dl, hg.1, ho, hT, fun fl H1 g1 cl1 => ?_⟩
    refine ⟨_, rfl, _, _, _, _, rfl, rfl, SqT.of (g1.tup h), atI_nat (j := 2) rfl, _, rfl, y, o, r, xs, rfl, h2.keep g1.tups, dr, hg.2, g1.lst ho, g1.tabs, fun fr H2 g2 cl2 => ?_⟩
    refine ⟨g2.tabs, fun fo c' H3 eN nn T3 f0 f1 c1 H4 sm R _ inj => ?_⟩
    obtain ⟨C, cn⟩ := caps_ret (F := mkReady lamO s.heap.objs.size c') (ws := [.ref g, .ref fl, .ref fr]) R inj rfl scO (by decide +kernel) rfl fun i y e => match i, e with | 0, e => by cases e; exact ⟨5, _, rfl, rfl, rfl⟩ | 1, e => by cases e; exact ⟨6, _, rfl, rfl, rfl⟩ | 2, e => by cases e; exact ⟨7, _, rfl, rfl, rfl⟩ | _ + 3, e => by cases e
    have g12 := g1.trans g2
    have ex : ∀ cs : List Addr, (∀ b ∈ cs, H3 b = none) → ExtN H3 (hid H4 cs) := fun cs hc b o hb _ => by
      rw [hid_out (fun z => by rw [hc b z] at hb; cases hb)]
      exact sm _ _ hb
    refine q fo H4 ⟨(g12.ext.trans eN).trans (ExtN.of sm), fun b z => g12.no b (nn b (same_no sm b z)), T3.ext sm⟩ ⟨_, g, fl, fr, ⟨sm _ _ f1, rfl, rfl, rfl, sm _ _ c1⟩, C, gd, ?_, ?_⟩
    · exact ((cl1.ext g2.ext).ext eN).ext (ex _ cn)
    · exact (cl2.ext eN).ext (ex _ cn)
theorem all_ready (F : FunC K "ready_worth" "ready_worth" sReady f fd c) (TB : TabB base mg c Pt) (hm : (Pt, fun _ _ => qReady) ∈ T) (hu : ∀ p ∈ T, p.1 = Pt → p.2 = fun _ _ => qReady) (D : DeedsT P w K mg base) (mR : mg "ready_worth" = some (.ref f)) (bR : Binds K fd psReady []) :
    ∀ n : Nat, FnOk P w K mg base CX0 (n + 1) f fd psReady (spReady T (DeedIs P w K mg base) n)
  | 0 => no_ready.mono (by omega)
  | n + 1 => ok_ready F TB hm hu (all_ready F TB hm hu D mR bR n) D mR bR
end
theorem bx_names : ∀ kvs : List (Str × Int), (bx kvs).map (fun kv => kV kv.1) = (namesOf kvs).map V.str
  | [] => rfl
  | p :: r => by
    have ih := bx_names r
    unfold bx namesOf at ih ⊢
    rw [List.map_cons, List.map_cons, List.map_cons, List.map_cons, ih]
    rfl
theorem bx_nums : ∀ kvs : List (Str × Int), (bx kvs).map (·.2) = numsV kvs
  | [] => rfl
  | p :: r => by
    have ih := bx_nums r
    unfold bx numsV at ih ⊢
    rw [List.map_cons, List.map_cons, List.map_cons, ih]
theorem look_in : ∀ {kvs : List (Str × Int)} {x : Str} {n : Int}, look kvs x = some n → x ∈ namesOf kvs
  | [], x, n, h => by cases h
  | p :: r, x, n, h => by
    by_cases e : p.1 = x
    · rw [← e]
      exact List.mem_cons_self ..
    · refine List.mem_cons_of_mem _ (look_in (n := n) ?_)
      unfold look at h ⊢
      rw [List.find?_cons, decide_eq_false e] at h
      exact h
theorem Ex.good_of {kvs : List (Str × Int)} {xs : List Str} (B : Bx kvs xs) : ∀ {e : Ex}, e.good xs → e.good (namesOf kvs)
  | .num _, h => h
  | .box x, h => by
    obtain ⟨n, e, _⟩ := B.all x h
    exact look_in e
  | .asked, _ => trivial
  | .told, _ => trivial
  | .op _ l r, h => ⟨Ex.good_of B h.1, Ex.good_of B h.2⟩
end Any
set_option maxHeartbeats 1000000
namespace Any
open L2 PySem PySem.Spec PyProof.Rows LamX NdefX
/-! ### tests as trees -/
inductive Ts
  | is (l r : Ex) | bel (l r : Ex) | nt (t : Ts) | both (t u : Ts) | either (t u : Ts)
def Ts.deep : Ts → Nat
  | .is _ _ => 1
  | .bel _ _ => 1
  | .nt t => t.deep + 1
  | .both t u => max t.deep u.deep + 1
  | .either t u => max t.deep u.deep + 1
/-- of these boxes, its expressions not too deep -/
def Ts.good (xs : List Str) : Ts → Prop
  | .is l r => (l.good xs ∧ l.deep ≤ 6) ∧ (r.good xs ∧ r.deep ≤ 6)
  | .bel l r => (l.good xs ∧ l.deep ≤ 6) ∧ (r.good xs ∧ r.deep ≤ 6)
  | .nt t => t.good xs
  | .both t u => t.good xs ∧ u.good xs
  | .either t u => t.good xs ∧ u.good xs
def Ts.val (kvs : List (Str × Int)) (a t : Int) : Ts → Bool
  | .is l r => decide (l.val kvs a t = r.val kvs a t)
  | .bel l r => decide (l.val kvs a t < r.val kvs a t)
  | .nt x => !x.val kvs a t
  | .both x y => x.val kvs a t && y.val kvs a t
  | .either x y => x.val kvs a t || y.val kvs a t
inductive TsAt (H : Hp) : V → Ts → Prop
  | is {a : Addr} {v u : V} {l r : Ex} : H a = some (.tup [.str "is", v, u]) → ExAt H v l → ExAt H u r → TsAt H (.ref a) (.is l r)
  | bel {a : Addr} {v u : V} {l r : Ex} : H a = some (.tup [.str "below", v, u]) → ExAt H v l → ExAt H u r → TsAt H (.ref a) (.bel l r)
  | nt {a : Addr} {v : V} {t : Ts} : H a = some (.tup [.str "not", v]) → TsAt H v t → TsAt H (.ref a) (.nt t)
  | both {a : Addr} {v u : V} {l r : Ts} : H a = some (.tup [.str "both", v, u]) → TsAt H v l → TsAt H u r → TsAt H (.ref a) (.both l r)
  | either {a : Addr} {v u : V} {l r : Ts} : H a = some (.tup [.str "either", v, u]) → TsAt H v l → TsAt H u r → TsAt H (.ref a) (.either l r)
theorem TsAt.keep {H H' : Hp} (k : Tups H H') {v : V} {e : Ts} (h : TsAt H v e) : TsAt H' v e := by
  induction h with
  | is h h1 h2 => exact .is (k _ _ h) (h1.keep k) (h2.keep k)
  | bel h h1 h2 => exact .bel (k _ _ h) (h1.keep k) (h2.keep k)
  | nt h _ i1 => exact .nt (k _ _ h) i1
  | both h _ _ i1 i2 => exact .both (k _ _ h) i1 i2
  | either h _ _ i1 i2 => exact .either (k _ _ h) i1 i2


abbrev sRT : Stmt := top 13
abbrev sRC : Stmt := top 14
abbrev lamNt : Expr := retE (stN (ifB (stN (defBody sRT) 1)) 1)
abbrev lamBo : Expr := retE (stN (ifB (stN (defBody sRT) 5)) 0)
abbrev lamEi : Expr := retE (stN (defBody sRT) 6)
abbrev lamIs : Expr := retE (stN (ifB (stN (defBody sRC) 0)) 0)
abbrev lamBe : Expr := retE (stN (defBody sRC) 1)
theorem scNt : NScope ["boxes", "asked", "told", "inner"] psL ["inner"] (lamS lamNt) := nscope_by (by decide +kernel)
theorem scBo : NScope ["boxes", "asked", "told", "first", "second"] psL ["first", "second"] (lamS lamBo) := nscope_by (by decide +kernel)
theorem scEi : NScope ["boxes", "asked", "told", "first", "second"] psL ["first", "second"] (lamS lamEi) := nscope_by (by decide +kernel)
theorem scIs : NScope ["boxes", "asked", "told", "left", "right"] psL ["left", "right"] (lamS lamIs) := nscope_by (by decide +kernel)
theorem scBe : NScope ["boxes", "asked", "told", "left", "right"] psL ["left", "right"] (lamS lamBe) := nscope_by (by decide +kernel)
/-- the lambda at f tells whether e holds -/
def CloT (G : Dd → Addr → Prop) (xs : List Str) : Ts → Hp → Addr → Prop
  | .is l r, H, f => ∃ (F : LF) (fl fr : Addr), Made H f F lamIs ∧ CapsAt H F ["left", "right"] [.ref fl, .ref fr] ∧ CloE G xs l (hid H F.cells) fl ∧ CloE G xs r (hid H F.cells) fr
  | .bel l r, H, f => ∃ (F : LF) (fl fr : Addr), Made H f F lamBe ∧ CapsAt H F ["left", "right"] [.ref fl, .ref fr] ∧ CloE G xs l (hid H F.cells) fl ∧ CloE G xs r (hid H F.cells) fr
  | .nt t, H, f => ∃ (F : LF) (fi : Addr), Made H f F lamNt ∧ CapsAt H F ["inner"] [.ref fi] ∧ CloT G xs t (hid H F.cells) fi
  | .both t u, H, f => ∃ (F : LF) (fl fr : Addr), Made H f F lamBo ∧ CapsAt H F ["first", "second"] [.ref fl, .ref fr] ∧ CloT G xs t (hid H F.cells) fl ∧ CloT G xs u (hid H F.cells) fr
  | .either t u, H, f => ∃ (F : LF) (fl fr : Addr), Made H f F lamEi ∧ CapsAt H F ["first", "second"] [.ref fl, .ref fr] ∧ CloT G xs t (hid H F.cells) fl ∧ CloT G xs u (hid H F.cells) fr
theorem CloT.ext {G : Dd → Addr → Prop} {xs : List Str} : ∀ {e : Ts} {H H' : Hp} {f : Addr}, CloT G xs e H f → ExtN H H' → CloT G xs e H' f
  | .is _ _, _, _, _, ⟨F, a, b, m, c, h1, h2⟩, e => ⟨F, a, b, m.ext e, c.ext e, h1.ext (hid_ext e _), h2.ext (hid_ext e _)⟩
  | .bel _ _, _, _, _, ⟨F, a, b, m, c, h1, h2⟩, e => ⟨F, a, b, m.ext e, c.ext e, h1.ext (hid_ext e _), h2.ext (hid_ext e _)⟩
  | .nt _, _, _, _, ⟨F, a, m, c, h1⟩, e => ⟨F, a, m.ext e, c.ext e, CloT.ext h1 (hid_ext e _)⟩
  | .both _ _, _, _, _, ⟨F, a, b, m, c, h1, h2⟩, e => ⟨F, a, b, m.ext e, c.ext e, CloT.ext h1 (hid_ext e _), CloT.ext h2 (hid_ext e _)⟩
  | .either _ _, _, _, _, ⟨F, a, b, m, c, h1, h2⟩, e => ⟨F, a, b, m.ext e, c.ext e, CloT.ext h1 (hid_ext e _), CloT.ext h2 (hid_ext e _)⟩
theorem CloT.lm {G : Dd → Addr → Prop} {xs : List Str} : ∀ {e : Ts} {H : Hp} {f : Addr}, CloT G xs e H f → IsLm H f
  | .is _ _, _, _, ⟨F, _, _, m, _⟩ => ⟨F, m.at_⟩
  | .bel _ _, _, _, ⟨F, _, _, m, _⟩ => ⟨F, m.at_⟩
  | .nt _, _, _, ⟨F, _, m, _⟩ => ⟨F, m.at_⟩
  | .both _ _, _, _, ⟨F, _, _, m, _⟩ => ⟨F, m.at_⟩
  | .either _ _, _, _, ⟨F, _, _, m, _⟩ => ⟨F, m.at_⟩
def spCloT (G : Dd → Addr → Prop) (n : Nat) (f : Addr) : Sp := fun vs H Q _ => ∃ (e : Ts) (kvs : List (Str × Int)) (xs : List Str) (b : Addr) (a t : Int), vs = [.ref b, .int a, .int t] ∧ e.deep ≤ n ∧ H b = some (.lst (numsV kvs)) ∧ CloT G (namesOf kvs) e H f ∧ e.good xs ∧ Bx kvs xs ∧
  (0 ≤ a ∧ a < 1024) ∧ (0 ≤ t ∧ t < 1024) ∧ Q (.bl (e.val kvs a t)) H
section
variable {P : Program} {w : World} {K : PySem.W.Frag} {mg : Str → Option Value} {base : Heap}
theorem no_cloT {k : Nat} : FnL P w K mg base k (spCloT (DeedIs P w K mg base) 0) := fun f A outer s H us vs Q _ _ _ h => by
  obtain ⟨e, kvs, xs, b, a, t, _, hd, _⟩ := h
  cases e <;> exact absurd hd (by show ¬ _ ≤ 0; exact Nat.not_succ_le_zero _)
theorem ok_cloT {n : Nat} (G : FnL P w K mg base (n + 7) (spCloT (DeedIs P w K mg base) n)) : FnL P w K mg base (n + 8) (spCloT (DeedIs P w K mg base) (n + 1)) := by
  intro f A outer s H us vs Q hr e0 rv h
  obtain ⟨e, kvs, xs, b, a, t, rfl, hd, hb, hc, hg, B, ha, ht, q⟩ := h
  have G6 : FnL P w K mg base 7 (spClo (DeedIs P w K mg base) 6) := all_clo 6
  cases e with
  | is l r =>
    obtain ⟨⟨qu, pa, bo, sc, cl, co⟩, fl, fr, M, C, h1, h2⟩ := hc
    obtain ⟨m1, rfl, rfl, rfl, m5⟩ := M
    refine lam_run (k := n + 7) (N := ["boxes", "asked", "told", "left", "right"]) (ws := [.ref fl, .ref fr]) scIs (fun pm ctv us hl => match us, hl with | [_, _, _], _ => rfl) hr e0 m1 m5 C rv rfl fun hr =>
      ⟨_, pe_cmpR op_eq (pe_callL (i := 3) G6 (hr.mono (by omega)) rfl (.inr (.inr rfl)) (pa_cons (pv 0) (pa_cons (pv 1) (pa_cons (pv 2) pa_nil)))) (pe_callL (i := 4) G6 (hr.mono (by omega)) rfl (.inr (.inr rfl)) (pa_cons (pv 0) (pa_cons (pv 1) (pa_cons (pv 2) pa_nil)))) (nomark _), ?_⟩
    refine ⟨fl, rfl, h1.lm, _, rfl, _, rfl, _, rfl, h1.lm, l, kvs, xs, b, a, t, rfl, hg.1.2, hg.1.2, lst_hid C hb, h1, hg.1.1, B, ha, ht, ?_⟩
    refine ⟨fr, rfl, h2.lm, _, rfl, _, rfl, _, rfl, h2.lm, r, kvs, xs, b, a, t, rfl, hg.2.2, hg.2.2, lst_hid C hb, h2, hg.2.1, B, ha, ht, rfl, ?_⟩
    rw [show decide (V.int (l.val kvs a t) = V.int (r.val kvs a t)) = decide (l.val kvs a t = r.val kvs a t) from decide_eq_decide.mpr ⟨fun z => V.int.inj z, fun z => by rw [z]⟩]
    exact back q
  | bel l r =>
    obtain ⟨⟨qu, pa, bo, sc, cl, co⟩, fl, fr, M, C, h1, h2⟩ := hc
    obtain ⟨m1, rfl, rfl, rfl, m5⟩ := M
    refine lam_run (k := n + 7) (N := ["boxes", "asked", "told", "left", "right"]) (ws := [.ref fl, .ref fr]) scBe (fun pm ctv us hl => match us, hl with | [_, _, _], _ => rfl) hr e0 m1 m5 C rv rfl fun hr =>
      ⟨_, pe_cmpR op_lt (pe_callL (i := 3) G6 (hr.mono (by omega)) rfl (.inr (.inr rfl)) (pa_cons (pv 0) (pa_cons (pv 1) (pa_cons (pv 2) pa_nil)))) (pe_callL (i := 4) G6 (hr.mono (by omega)) rfl (.inr (.inr rfl)) (pa_cons (pv 0) (pa_cons (pv 1) (pa_cons (pv 2) pa_nil)))) (nomark _), ?_⟩
    refine ⟨fl, rfl, h1.lm, _, rfl, _, rfl, _, rfl, h1.lm, l, kvs, xs, b, a, t, rfl, hg.1.2, hg.1.2, lst_hid C hb, h1, hg.1.1, B, ha, ht, ?_⟩
    exact ⟨fr, rfl, h2.lm, _, rfl, _, rfl, _, rfl, h2.lm, r, kvs, xs, b, a, t, rfl, hg.2.2, hg.2.2, lst_hid C hb, h2, hg.2.1, B, ha, ht, _, _, rfl, rfl, back q⟩
  | nt x =>
    obtain ⟨⟨qu, pa, bo, sc, cl, co⟩, fi, M, C, h1⟩ := hc
    obtain ⟨m1, rfl, rfl, rfl, m5⟩ := M
    refine lam_run (k := n + 7) (N := ["boxes", "asked", "told", "inner"]) (ws := [.ref fi]) scNt (fun pm ctv us hl => match us, hl with | [_, _, _], _ => rfl) hr e0 m1 m5 C rv rfl fun hr =>
      ⟨_, pe_not (pe_callL (i := 3) G hr rfl (.inr (.inr rfl)) (pa_cons (pv 0) (pa_cons (pv 1) (pa_cons (pv 2) pa_nil)))), ?_⟩
    exact ⟨fi, rfl, h1.lm, _, rfl, _, rfl, _, rfl, h1.lm, x, kvs, xs, b, a, t, rfl, Nat.le_of_succ_le_succ hd, lst_hid C hb, h1, hg, B, ha, ht, _, rfl, back q⟩
  | both x y =>
    obtain ⟨⟨qu, pa, bo, sc, cl, co⟩, fl, fr, M, C, h1, h2⟩ := hc
    obtain ⟨m1, rfl, rfl, rfl, m5⟩ := M
    have dl : x.deep ≤ n := Nat.le_trans (Nat.le_max_left ..) (Nat.le_of_succ_le_succ hd)
    have dr : y.deep ≤ n := Nat.le_trans (Nat.le_max_right ..) (Nat.le_of_succ_le_succ hd)
    refine lam_run (k := n + 7) (N := ["boxes", "asked", "told", "first", "second"]) (ws := [.ref fl, .ref fr]) scBo (fun pm ctv us hl => match us, hl with | [_, _, _], _ => rfl) hr e0 m1 m5 C rv rfl fun hr =>
      ⟨_, pe_and (pe_callL (i := 3) G hr rfl (.inr (.inr rfl)) (pa_cons (pv 0) (pa_cons (pv 1) (pa_cons (pv 2) pa_nil)))) (pe_one (pe_callL (i := 4) G hr rfl (.inr (.inr rfl)) (pa_cons (pv 0) (pa_cons (pv 1) (pa_cons (pv 2) pa_nil))))), ?_⟩
    have z : Q (.bl (x.val kvs a t && y.val kvs a t)) H := q
    refine ⟨fl, rfl, h1.lm, _, rfl, _, rfl, _, rfl, h1.lm, x, kvs, xs, b, a, t, rfl, dl, lst_hid C hb, h1, hg.1, B, ha, ht, _, rfl, ?_⟩
    cases e1 : x.val kvs a t with
    | false => rw [e1] at z; exact itF rfl (back z)
    | true => rw [e1] at z; exact itT rfl ⟨fr, rfl, h2.lm, _, rfl, _, rfl, _, rfl, h2.lm, y, kvs, xs, b, a, t, rfl, dr, lst_hid C hb, h2, hg.2, B, ha, ht, back z⟩
  | either x y =>
    obtain ⟨⟨qu, pa, bo, sc, cl, co⟩, fl, fr, M, C, h1, h2⟩ := hc
    obtain ⟨m1, rfl, rfl, rfl, m5⟩ := M
    have dl : x.deep ≤ n := Nat.le_trans (Nat.le_max_left ..) (Nat.le_of_succ_le_succ hd)
    have dr : y.deep ≤ n := Nat.le_trans (Nat.le_max_right ..) (Nat.le_of_succ_le_succ hd)
    refine lam_run (k := n + 7) (N := ["boxes", "asked", "told", "first", "second"]) (ws := [.ref fl, .ref fr]) scEi (fun pm ctv us hl => match us, hl with | [_, _, _], _ => rfl) hr e0 m1 m5 C rv rfl fun hr =>
      ⟨_, pe_or (pe_callL (i := 3) G hr rfl (.inr (.inr rfl)) (pa_cons (pv 0) (pa_cons (pv 1) (pa_cons (pv 2) pa_nil)))) (pe_one (pe_callL (i := 4) G hr rfl (.inr (.inr rfl)) (pa_cons (pv 0) (pa_cons (pv 1) (pa_cons (pv 2) pa_nil))))), ?_⟩
    have z : Q (.bl (x.val kvs a t || y.val kvs a t)) H := q
    refine ⟨fl, rfl, h1.lm, _, rfl, _, rfl, _, rfl, h1.lm, x, kvs, xs, b, a, t, rfl, dl, lst_hid C hb, h1, hg.1, B, ha, ht, _, rfl, ?_⟩
    cases e1 : x.val kvs a t with
    | true => rw [e1] at z; exact itT rfl (back z)
    | false => rw [e1] at z; exact itF rfl ⟨fr, rfl, h2.lm, _, rfl, _, rfl, _, rfl, h2.lm, y, kvs, xs, b, a, t, rfl, dr, lst_hid C hb, h2, hg.2, B, ha, ht, back z⟩
theorem all_cloT : ∀ n : Nat, FnL P w K mg base (n + 7) (spCloT (DeedIs P w K mg base) n)
  | 0 => no_cloT
  | n + 1 => ok_cloT (all_cloT n)
end
end Any
set_option maxHeartbeats 1000000
namespace Any
open L2 PySem PySem.Spec PyProof.Rows LamX NdefX
/-! ### ready_comparison, ready_test -/
abbrev nmRC : List Str := ["kind", "left", "right"]
theorem scRC : FnScope nmRC nmRC (defScope sRC) := ⟨rfl, rfl, rfl, by decide +kernel, rfl, by decide +kernel, by decide +kernel⟩
abbrev nmRT : List Str := ["test", "owns", "kind", "inner", "first", "second"]
abbrev psRT : List Str := ["test", "owns"]
theorem scRT : FnScope nmRT psRT (defScope sRT) := ⟨rfl, rfl, rfl, by decide +kernel, rfl, by decide +kernel, by decide +kernel⟩
def qRC : Str := (envOfC "ready_comparison" (defScope sRC) 0 0 .none).qual ++ "<lambda>"
def qRT : Str := (envOfC "ready_test" (defScope sRT) 0 0 .none).qual ++ "<lambda>"
abbrev mkRC (L : Expr) (L0 c' : Addr) : LF := ⟨qRC, lamP L, lamB L, lamS L, cloFrom (cellsFrom (L0 + 1) (defScope sRC).names []) (lamS L).names [], c'⟩
abbrev mkRT (L : Expr) (L0 c' : Addr) : LF := ⟨qRT, lamP L, lamB L, lamS L, cloFrom (cellsFrom (L0 + 1) (defScope sRT).names []) (lamS L).names [], c'⟩
def spRC (T : List NTab) (G : Dd → Addr → Prop) : Sp := fun vs H Q _ => ∃ (k : Str) (fl fr : Addr) (l r : Ex) (xs : List Str), vs = [.str k, .ref fl, .ref fr] ∧ (k = "is" ∨ k = "below") ∧ CloE G xs l H fl ∧ CloE G xs r H fr ∧ TabsN T H ∧
  ∀ f H', Gr T H H' → (k = "is" → CloT G xs (.is l r) H' f) → (k = "below" → CloT G xs (.bel l r) H' f) → Q (.ref f) H'
def spRT (T : List NTab) (G : Dd → Addr → Prop) (n : Nat) : Sp := fun vs H Q _ => ∃ (v : V) (o : Addr) (e : Ts) (xs : List Str), vs = [v, .ref o] ∧ TsAt H v e ∧ e.deep ≤ n ∧ e.good xs ∧ H o = some (.lst (xs.map V.str)) ∧ TabsN T H ∧
  ∀ f H', Gr T H H' → CloT G xs e H' f → Q (.ref f) H'
theorem ext_hid {H3 H4 : Hp} (sm : Same H3 H4) {cs : List Addr} (hc : ∀ b ∈ cs, H3 b = none) : ExtN H3 (hid H4 cs) := fun b o hb _ => by
  rw [hid_out (fun z => by rw [hc b z] at hb; cases hb)]
  exact sm _ _ hb
section
variable {P : Program} {w : World} {K : PySem.W.Frag} {mg : Str → Option Value} {base : Heap} {f c Pt rw_ rc : Addr} {fd rwd rcd : FuncData} {T : List NTab}
theorem ok_rc (F : FunC K "ready_comparison" "ready_comparison" sRC f fd c) (TB : TabB base mg c Pt) (hm : (Pt, fun _ _ => qRC) ∈ T) (hu : ∀ p ∈ T, p.1 = Pt → p.2 = fun _ _ => qRC) : FnOk P w K mg base CX0 1 f fd nmRC (spRC T (DeedIs P w K mg base)) := by
  refine fun_c F scRC (fun vs H Q E h => ?_) (fun A outer s H vs Q E hr h => ?_)
  · obtain ⟨k, fl, fr, l, r, xs, rfl, _⟩ := h
    rfl
  obtain ⟨k, fl, fr, l, r, xs, rfl, hk, h1, h2, hT, q⟩ := h
  let X := cxOf CX0 P w K mg base nmRC "ready_comparison" (defScope sRC) f (.ref c) A outer s H E
  have TBx : TabB X.base X.mg c Pt := TB
  refine ⟨_, prs_cons (pr_if (pt_cmpR op_eq (pv 0) pe_str (nomark _)) (prs_one (pr_ret (pe_lamb TBx rfl hm rfl hu rfl (ndef_free (sc := defScope sRC) (fr := []) (by decide +kernel))))) prs_nil)
    (prs_one (pr_ret (pe_lamb TBx rfl hm rfl hu rfl (ndef_free (sc := defScope sRC) (fr := []) (by decide +kernel))))), ?_⟩
  rcases hk with rfl | rfl
  · refine ⟨_, rfl, rfl, _, rfl, itT eq_str ⟨hT, fun g c' H1 eN nn T1 f0 f1 c1 H2 sm R _ inj => ?_⟩⟩
    obtain ⟨C, cn⟩ := caps_ret (F := mkRC lamIs s.heap.objs.size c') (ws := [.ref fl, .ref fr]) R inj rfl scIs (by decide +kernel) rfl fun i y e => match i, e with | 0, e => by cases e; exact ⟨1, _, rfl, rfl, rfl⟩ | 1, e => by cases e; exact ⟨2, _, rfl, rfl, rfl⟩ | _ + 2, e => by cases e
    exact q g H2 ⟨eN.trans (ExtN.of sm), fun b z => nn b (same_no sm b z), T1.ext sm⟩ (fun _ => ⟨_, fl, fr, ⟨sm _ _ f1, rfl, rfl, rfl, sm _ _ c1⟩, C, (h1.ext eN).ext (ext_hid sm cn), (h2.ext eN).ext (ext_hid sm cn)⟩) fun z => absurd z (by decide)
  · refine ⟨_, rfl, rfl, _, rfl, itF (ne_str (by decide)) ⟨hT, fun g c' H1 eN nn T1 f0 f1 c1 H2 sm R _ inj => ?_⟩⟩
    obtain ⟨C, cn⟩ := caps_ret (F := mkRC lamBe s.heap.objs.size c') (ws := [.ref fl, .ref fr]) R inj rfl scBe (by decide +kernel) rfl fun i y e => match i, e with | 0, e => by cases e; exact ⟨1, _, rfl, rfl, rfl⟩ | 1, e => by cases e; exact ⟨2, _, rfl, rfl, rfl⟩ | _ + 2, e => by cases e
    exact q g H2 ⟨eN.trans (ExtN.of sm), fun b z => nn b (same_no sm b z), T1.ext sm⟩ (fun z => absurd z (by decide)) fun _ => ⟨_, fl, fr, ⟨sm _ _ f1, rfl, rfl, rfl, sm _ _ c1⟩, C, (h1.ext eN).ext (ext_hid sm cn), (h2.ext eN).ext (ext_hid sm cn)⟩
theorem no_rt {k : Nat} : FnOk P w K mg base CX0 k f fd psRT (spRT T (DeedIs P w K mg base) 0) := by
  have no : ∀ vs H Q E, ¬ spRT T (DeedIs P w K mg base) 0 vs H Q E := fun vs H Q E h => by
    obtain ⟨v, o, e, xs, _, _, hd, _⟩ := h
    cases e <;> exact absurd hd (by show ¬ _ ≤ 0; exact Nat.not_succ_le_zero _)
  exact ⟨fun vs H Q E h => absurd h (no vs H Q E), fun A outer s H args us vs Q E _ _ _ _ h => absurd h (no vs H Q E)⟩
theorem ok_rt {n : Nat} (F : FunC K "ready_test" "ready_test" sRT f fd c) (TB : TabB base mg c Pt) (hm : (Pt, fun _ _ => qRT) ∈ T) (hu : ∀ p ∈ T, p.1 = Pt → p.2 = fun _ _ => qRT) (G : FnOk P w K mg base CX0 (n + 7) f fd psRT (spRT T (DeedIs P w K mg base) n)) (mG : mg "ready_test" = some (.ref f)) (bG : Binds K fd psRT [])
    (GW : FnOk P w K mg base CX0 7 rw_ rwd psReady (spReady T (DeedIs P w K mg base) 6)) (mW : mg "ready_worth" = some (.ref rw_)) (kW : PySem.W.keepIn K (.ref rw_) = true) (bW : Binds K rwd psReady [])
    (GC : FnOk P w K mg base CX0 1 rc rcd nmRC (spRC T (DeedIs P w K mg base))) (mC : mg "ready_comparison" = some (.ref rc)) (kC : PySem.W.keepIn K (.ref rc) = true) (bC : Binds K rcd nmRC []) : FnOk P w K mg base CX0 (n + 8) f fd psRT (spRT T (DeedIs P w K mg base) (n + 1)) := by
  refine fun_c F scRT (fun vs H Q E h => ?_) (fun A outer s H vs Q E hr h => ?_)
  · obtain ⟨v, o, e, xs, rfl, _⟩ := h
    rfl
  obtain ⟨v, o, e, xs, rfl, hv, hd, hg, ho, hT, q⟩ := h
  let X := cxOf CX0 P w K mg base nmRT "ready_test" (defScope sRT) f (.ref c) A outer s H E
  have TBx : TabB X.base X.mg c Pt := TB
  have hr7 : Room 7 (A.deeper (envOfC "ready_test" (defScope sRT) s.heap.objs.size f (.ref c))) := hr.mono (by omega)
  have hr1 : Room 1 (A.deeper (envOfC "ready_test" (defScope sRT) s.heap.objs.size f (.ref c))) := hr.mono (by omega)
  have two : 2 ≤ sizeLine := by decide
  refine ⟨_, prs_cons (pr_go (ps_set (i := 2) scRT.nd rfl (Or.inl rfl) (pe_ix ix_tup (pv 0) pe_int (fun _ _ => rfl))))
    (prs_cons (pr_if (pt_cmpR op_eq (pv 2) pe_str (nomark _)) (prs_cons (pr_go (ps_set (i := 3) scRT.nd rfl (Or.inr rfl) (pe_call G hr rfl mG F.kp bG .nil pass0 (pa_cons (pe_ix ix_tup (pv 0) pe_int (fun _ _ => rfl)) (pa_cons (pv 1) pa_nil))))) (prs_one (pr_ret (pe_lamb TBx rfl hm rfl hu rfl (ndef_free (sc := defScope sRT) (fr := []) (by decide +kernel)))))) prs_nil)
    (prs_cons (pr_if (pt_cmpR op_in_seq (pv 2) (pe_tup (pa_cons pe_str (pa_cons pe_str pa_nil))) (by rfl)) (prs_one (pr_ret (pe_call GC hr1 rfl mC kC bC .nil pass0 (pa_cons (pv 2) (pa_cons (pe_call GW hr7 rfl mW kW bW .nil pass0 (pa_cons (pe_ix ix_tup (pv 0) pe_int (fun _ _ => rfl)) (pa_cons (pv 1) pa_nil))) (pa_cons (pe_call GW hr7 rfl mW kW bW .nil pass0 (pa_cons (pe_ix ix_tup (pv 0) pe_int (fun _ _ => rfl)) (pa_cons (pv 1) pa_nil))) pa_nil)))))) prs_nil)
    (prs_cons (pr_go (ps_set (i := 4) scRT.nd rfl (Or.inr rfl) (pe_call G hr rfl mG F.kp bG .nil pass0 (pa_cons (pe_ix ix_tup (pv 0) pe_int (fun _ _ => rfl)) (pa_cons (pv 1) pa_nil)))))
    (prs_cons (pr_go (ps_set (i := 5) scRT.nd rfl (Or.inr rfl) (pe_call G hr rfl mG F.kp bG .nil pass0 (pa_cons (pe_ix ix_tup (pv 0) pe_int (fun _ _ => rfl)) (pa_cons (pv 1) pa_nil)))))
    (prs_cons (pr_if (pt_cmpR op_eq (pv 2) pe_str (nomark _)) (prs_one (pr_ret (pe_lamb TBx rfl hm rfl hu rfl (ndef_free (sc := defScope sRT) (fr := []) (by decide +kernel))))) prs_nil)
    (prs_one (pr_ret (pe_lamb TBx rfl hm rfl hu rfl (ndef_free (sc := defScope sRT) (fr := []) (by decide +kernel)))))))))), ?_⟩
  cases hv with
  | nt h h1 =>
    rename_i p0 x l
    refine ⟨_, rfl, _, _, _, _, rfl, rfl, SqT.of h, atI_nat (j := 0) rfl, ?_⟩
    refine ⟨_, rfl, rfl, _, rfl, itT eq_str ?_⟩
    refine ⟨_, rfl, _, _, _, _, rfl, rfl, SqT.of h, atI_nat (j := 1) rfl, _, rfl, x, o, l, xs, rfl, h1, Nat.le_of_succ_le_succ hd, hg, ho, hT, fun fi H1 g1 cl1 => ?_⟩
    refine ⟨g1.tabs, fun g c' H2 eN nn T2 f0 f1 c1 H3 sm R _ inj => ?_⟩
    obtain ⟨C, cn⟩ := caps_ret (F := mkRT lamNt s.heap.objs.size c') (ws := [.ref fi]) R inj rfl scNt (by decide +kernel) rfl fun i y e => match i, e with | 0, e => by cases e; exact ⟨3, _, rfl, rfl, rfl⟩ | _ + 1, e => by cases e
    exact q g H3 ⟨(g1.ext.trans eN).trans (ExtN.of sm), fun b z => g1.no b (nn b (same_no sm b z)), T2.ext sm⟩ ⟨_, fi, ⟨sm _ _ f1, rfl, rfl, rfl, sm _ _ c1⟩, C, (cl1.ext eN).ext (ext_hid sm cn)⟩
  | both h h1 h2 =>
    rename_i p0 x y l r
    have dl : l.deep ≤ n := Nat.le_trans (Nat.le_max_left ..) (Nat.le_of_succ_le_succ hd)
    have dr : r.deep ≤ n := Nat.le_trans (Nat.le_max_right ..) (Nat.le_of_succ_le_succ hd)
    refine ⟨_, rfl, _, _, _, _, rfl, rfl, SqT.of h, atI_nat (j := 0) rfl, ?_⟩
    refine ⟨_, rfl, rfl, _, rfl, itF (ne_str (by decide)) ?_⟩
    refine ⟨_, rfl, two, fun p hp => ⟨p, _, rfl, .inr (SqT.of upd_same), rfl, rfl, _, rfl, itF rfl ?_⟩⟩
    have g0 := Gr.of hT (same_new hp (.tup [.str "is", .str "below"]))
    refine ⟨_, rfl, _, _, _, _, rfl, rfl, SqT.of (g0.tup h), atI_nat (j := 1) rfl, _, rfl, x, o, l, xs, rfl, h1.keep g0.tups, dl, hg.1, g0.lst ho, g0.tabs, fun fl H1 g1 cl1 => ?_⟩
    have g01 := g0.trans g1
    refine ⟨_, rfl, _, _, _, _, rfl, rfl, SqT.of (g01.tup h), atI_nat (j := 2) rfl, _, rfl, y, o, r, xs, rfl, h2.keep g01.tups, dr, hg.2, g01.lst ho, g01.tabs, fun fr H2 g2 cl2 => ?_⟩
    have g02 := g01.trans g2
    refine ⟨_, rfl, rfl, _, rfl, itT eq_str ⟨g02.tabs, fun g c' H3 eN nn T3 f0 f1 c1 H4 sm R _ inj => ?_⟩⟩
    obtain ⟨C, cn⟩ := caps_ret (F := mkRT lamBo s.heap.objs.size c') (ws := [.ref fl, .ref fr]) R inj rfl scBo (by decide +kernel) rfl fun i y e => match i, e with | 0, e => by cases e; exact ⟨4, _, rfl, rfl, rfl⟩ | 1, e => by cases e; exact ⟨5, _, rfl, rfl, rfl⟩ | _ + 2, e => by cases e
    exact q g H4 ⟨(g02.ext.trans eN).trans (ExtN.of sm), fun b z => g02.no b (nn b (same_no sm b z)), T3.ext sm⟩ ⟨_, fl, fr, ⟨sm _ _ f1, rfl, rfl, rfl, sm _ _ c1⟩, C, ((cl1.ext g2.ext).ext eN).ext (ext_hid sm cn), (cl2.ext eN).ext (ext_hid sm cn)⟩
  | either h h1 h2 =>
    rename_i p0 x y l r
    have dl : l.deep ≤ n := Nat.le_trans (Nat.le_max_left ..) (Nat.le_of_succ_le_succ hd)
    have dr : r.deep ≤ n := Nat.le_trans (Nat.le_max_right ..) (Nat.le_of_succ_le_succ hd)
    refine ⟨_, rfl, _, _, _, _, rfl, rfl, SqT.of h, atI_nat (j := 0) rfl, ?_⟩
    refine ⟨_, rfl, rfl, _, rfl, itF (ne_str (by decide)) ?_⟩
    refine ⟨_, rfl, two, fun p hp => ⟨p, _, rfl, .inr (SqT.of upd_same), rfl, rfl, _, rfl, itF rfl ?_⟩⟩
    have g0 := Gr.of hT (same_new hp (.tup [.str "is", .str "below"]))
    refine ⟨_, rfl, _, _, _, _, rfl, rfl, SqT.of (g0.tup h), atI_nat (j := 1) rfl, _, rfl, x, o, l, xs, rfl, h1.keep g0.tups, dl, hg.1, g0.lst ho, g0.tabs, fun fl H1 g1 cl1 => ?_⟩
    have g01 := g0.trans g1
    refine ⟨_, rfl, _, _, _, _, rfl, rfl, SqT.of (g01.tup h), atI_nat (j := 2) rfl, _, rfl, y, o, r, xs, rfl, h2.keep g01.tups, dr, hg.2, g01.lst ho, g01.tabs, fun fr H2 g2 cl2 => ?_⟩
    have g02 := g01.trans g2
    refine ⟨_, rfl, rfl, _, rfl, itF (ne_str (by decide)) ⟨g02.tabs, fun g c' H3 eN nn T3 f0 f1 c1 H4 sm R _ inj => ?_⟩⟩
    obtain ⟨C, cn⟩ := caps_ret (F := mkRT lamEi s.heap.objs.size c') (ws := [.ref fl, .ref fr]) R inj rfl scEi (by decide +kernel) rfl fun i y e => match i, e with | 0, e => by cases e; exact ⟨4, _, rfl, rfl, rfl⟩ | 1, e => by cases e; exact ⟨5, _, rfl, rfl, rfl⟩ | _ + 2, e => by cases e
    exact q g H4 ⟨(g02.ext.trans eN).trans (ExtN.of sm), fun b z => g02.no b (nn b (same_no sm b z)), T3.ext sm⟩ ⟨_, fl, fr, ⟨sm _ _ f1, rfl, rfl, rfl, sm _ _ c1⟩, C, ((cl1.ext g2.ext).ext eN).ext (ext_hid sm cn), (cl2.ext eN).ext (ext_hid sm cn)⟩
  | is h h1 h2 =>
    rename_i p0 x y l r
    refine ⟨_, rfl, _, _, _, _, rfl, rfl, SqT.of h, atI_nat (j := 0) rfl, ?_⟩
    refine ⟨_, rfl, rfl, _, rfl, itF (ne_str (by decide)) ?_⟩
    refine ⟨_, rfl, two, fun p hp => ⟨p, _, rfl, .inr (SqT.of upd_same), rfl, rfl, _, rfl, itT rfl ?_⟩⟩
    have g0 := Gr.of hT (same_new hp (.tup [.str "is", .str "below"]))
    refine ⟨_, rfl, _, rfl, _, _, _, _, rfl, rfl, SqT.of (g0.tup h), atI_nat (j := 1) rfl, _, rfl, x, o, l, xs, rfl, h1.keep g0.tups, hg.1.2, hg.1.1, g0.lst ho, g0.tabs, fun fl H1 g1 cl1 => ?_⟩
    have g01 := g0.trans g1
    refine ⟨_, rfl, _, _, _, _, rfl, rfl, SqT.of (g01.tup h), atI_nat (j := 2) rfl, _, rfl, y, o, r, xs, rfl, h2.keep g01.tups, hg.2.2, hg.2.1, g01.lst ho, g01.tabs, fun fr H2 g2 cl2 => ?_⟩
    have g02 := g01.trans g2
    refine ⟨"is", fl, fr, l, r, xs, rfl, .inl rfl, cl1.ext g2.ext, cl2, g02.tabs, fun g H3 g3 c3 _ H4 sm _ _ _ => ?_⟩
    exact q g H4 ((g02.trans g3).same sm) ((c3 rfl).ext (ExtN.of sm))
  | bel h h1 h2 =>
    rename_i p0 x y l r
    refine ⟨_, rfl, _, _, _, _, rfl, rfl, SqT.of h, atI_nat (j := 0) rfl, ?_⟩
    refine ⟨_, rfl, rfl, _, rfl, itF (ne_str (by decide)) ?_⟩
    refine ⟨_, rfl, two, fun p hp => ⟨p, _, rfl, .inr (SqT.of upd_same), rfl, rfl, _, rfl, itT rfl ?_⟩⟩
    have g0 := Gr.of hT (same_new hp (.tup [.str "is", .str "below"]))
    refine ⟨_, rfl, _, rfl, _, _, _, _, rfl, rfl, SqT.of (g0.tup h), atI_nat (j := 1) rfl, _, rfl, x, o, l, xs, rfl, h1.keep g0.tups, hg.1.2, hg.1.1, g0.lst ho, g0.tabs, fun fl H1 g1 cl1 => ?_⟩
    have g01 := g0.trans g1
    refine ⟨_, rfl, _, _, _, _, rfl, rfl, SqT.of (g01.tup h), atI_nat (j := 2) rfl, _, rfl, y, o, r, xs, rfl, h2.keep g01.tups, hg.2.2, hg.2.1, g01.lst ho, g01.tabs, fun fr H2 g2 cl2 => ?_⟩
    have g02 := g01.trans g2
    refine ⟨"below", fl, fr, l, r, xs, rfl, .inr rfl, cl1.ext g2.ext, cl2, g02.tabs, fun g H3 g3 _ c3 H4 sm _ _ _ => ?_⟩
    exact q g H4 ((g02.trans g3).same sm) ((c3 rfl).ext (ExtN.of sm))
theorem all_rt (F : FunC K "ready_test" "ready_test" sRT f fd c) (TB : TabB base mg c Pt) (hm : (Pt, fun _ _ => qRT) ∈ T) (hu : ∀ p ∈ T, p.1 = Pt → p.2 = fun _ _ => qRT) (mG : mg "ready_test" = some (.ref f)) (bG : Binds K fd psRT [])
    (GW : FnOk P w K mg base CX0 7 rw_ rwd psReady (spReady T (DeedIs P w K mg base) 6)) (mW : mg "ready_worth" = some (.ref rw_)) (kW : PySem.W.keepIn K (.ref rw_) = true) (bW : Binds K rwd psReady [])
    (GC : FnOk P w K mg base CX0 1 rc rcd nmRC (spRC T (DeedIs P w K mg base))) (mC : mg "ready_comparison" = some (.ref rc)) (kC : PySem.W.keepIn K (.ref rc) = true) (bC : Binds K rcd nmRC []) : ∀ n : Nat, FnOk P w K mg base CX0 (n + 7) f fd psRT (spRT T (DeedIs P w K mg base) n)
  | 0 => no_rt
  | n + 1 => ok_rt F TB hm hu (all_rt F TB hm hu mG bG GW mW kW bW GC mC kC bC n) mG bG GW mW kW bW GC mC kC bC
end
/-! ### holds -/
abbrev sHolds : Stmt := top 11
abbrev nmHolds : List Str := ["test", "boxes", "asked", "told", "holds_by"]
abbrev psH : List Str := ["test", "boxes", "asked", "told"]
theorem scHolds : FnScope nmHolds psH (defScope sHolds) := ⟨rfl, rfl, rfl, by decide +kernel, rfl, by decide +kernel, by decide +kernel⟩
def spHolds (T : List NTab) (n : Nat) : Sp := fun vs H Q _ => ∃ (v : V) (c : Addr) (e : Ts) (kvs : List (Str × Int)) (xs : List Str) (a t : Int), vs = [v, .ref c, .int a, .int t] ∧ TsAt H v e ∧ e.deep ≤ n ∧ e.good xs ∧ Bx kvs xs ∧
  H c = some (.dK (bx kvs)) ∧ (0 ≤ a ∧ a < 1024) ∧ (0 ≤ t ∧ t < 1024) ∧ TabsN T H ∧ ∀ H', Gr T H H' → Q (.bl (e.val kvs a t)) H'
theorem Ts.good_of {kvs : List (Str × Int)} {xs : List Str} (B : Bx kvs xs) : ∀ {e : Ts}, e.good xs → e.good (namesOf kvs)
  | .is _ _, h => ⟨⟨Ex.good_of B h.1.1, h.1.2⟩, Ex.good_of B h.2.1, h.2.2⟩
  | .bel _ _, h => ⟨⟨Ex.good_of B h.1.1, h.1.2⟩, Ex.good_of B h.2.1, h.2.2⟩
  | .nt t, h => Ts.good_of (e := t) B h
  | .both _ _, h => ⟨Ts.good_of B h.1, Ts.good_of B h.2⟩
  | .either _ _, h => ⟨Ts.good_of B h.1, Ts.good_of B h.2⟩
section
variable {P : Program} {w : World} {K : PySem.W.Frag} {mg : Str → Option Value} {base : Heap} {f rf : Addr} {fd rd : FuncData} {T : List NTab}
theorem ok_holds {n : Nat} {kws : List (Str × V)} (F : FunD K "holds" "holds" (defArgs sHolds) (defBody sHolds) (defScope sHolds) [] kws f fd) (G : FnOk P w K mg base CX0 (n + 7) rf rd psRT (spRT T (DeedIs P w K mg base) n)) (mR : mg "ready_test" = some (.ref rf)) (kR : PySem.W.keepIn K (.ref rf) = true) (bR : Binds K rd psRT [])
    (ml : mg "list" = none) : FnOk P w K mg base CX0 (n + 8) f fd psH (spHolds T n) := by
  refine F.ok scHolds (fun vs H Q E h => ?_) (fun cdv A outer s H vs Q E hr h => ?_)
  · obtain ⟨v, c, e, kvs, xs, a, t, rfl, _⟩ := h
    rfl
  obtain ⟨v, c, e, kvs, xs, a, t, rfl, hv, hd, hg, B, hc, ha, ht, hT, q⟩ := h
  refine ⟨_, PSs.nox (pss_cons (ps_set (i := 4) scHolds.nd rfl (Or.inl rfl) (pe_call G hr rfl mR kR bR .nil pass0 (pa_cons (pv 0) (pa_cons (pe_callTy (call_listD rfl) rfl ml (by decide +kernel) (pa_cons (pv 1) pa_nil)) pa_nil))))
    (pss_one (ps_ret (pe_callL (i := 4) (all_cloT n) hr rfl (.inl rfl) (pa_cons (pe_listVals rfl (pv 1) rfl ml (by decide +kernel)) (pa_cons (pv 2) (pa_cons (pv 3) pa_nil))))))), ?_⟩
  refine ⟨_, rfl, _, rfl, c, _, rfl, .inl hc, fun p1 hp1 => ?_⟩
  rw [bx_names]
  have s1 := same_new hp1 (.lst ((namesOf kvs).map V.str))
  refine ⟨v, p1, e, namesOf kvs, rfl, hv.keep (Same.tups s1), hd, Ts.good_of B hg, upd_same, hT.ext s1, fun g H2 g2 cl => ?_⟩
  have gr := (Gr.of hT s1).trans g2
  refine ⟨g, rfl, cl.lm, _, rfl, c, _, rfl, gr.dK hc, fun p3 hp3 => ?_⟩
  rw [bx_nums]
  have s3 := same_new hp3 (.lst (numsV kvs))
  have cl3 := cl.ext (ExtN.of s3)
  exact ⟨_, rfl, _, rfl, cl3.lm, e, kvs, xs, p3, a, t, rfl, hd, upd_same, cl3, hg, B, ha, ht, q _ (gr.same s3)⟩
theorem kb_holds {kws : List (Str × V)} (F : FunD K "holds" "holds" (defArgs sHolds) (defBody sHolds) (defScope sHolds) [] kws f fd) : KBn K fd psH 2 ["asked", "told"] (fun us ws => us ++ ws) (fun us ws => us ++ ws) := by
  obtain ⟨oc, od, dV, kV, doc, pm, an, cdv, ct, osl, rfl, lk, hcd, hD, hK⟩ := F.ex
  have hd : dV = .none := hD.elim (fun z => z.2) (fun z => absurd rfl z.1)
  subst hd
  refine ⟨fun s us ws _ l1 l2 => ?_, fun r1 r2 => r1.append r2⟩
  match us, ws, l1, l2 with
  | [u1, u2], [w1, w2], _, _ => exact .of_eq rfl
end
end Any
namespace Any
open L2 PySem PySem.Spec PyProof.Rows LamX NdefX
abbrev sBag : Stmt := top 67
abbrev sTake : Stmt := top 68
abbrev sOf : Stmt := top 69
/-- a bag: what is left, its seed, how often it was asked -/
def Bag (H : Hp) (b : Addr) (n : Nat) : Prop := ∃ g s c : Int, H b = some (.lst [.int g, .int s, .int c]) ∧ 0 ≤ g ∧ 0 ≤ s ∧ s < 2 ^ 62 ∧ 0 ≤ c ∧ c ≤ n
theorem Bag.more {H : Hp} {b : Addr} {m n : Nat} (h : Bag H b m) (k : m ≤ n) : Bag H b n := by
  obtain ⟨g, s, c, h1, h2, h3, h4, h5, h6⟩ := h
  exact ⟨g, s, c, h1, h2, h3, h4, h5, by omega⟩
theorem Bag.keep {H H' : Hp} {b : Addr} {n : Nat} (h : Bag H b n) (k : Same H H') : Bag H' b n := by
  obtain ⟨g, s, c, h1, h2⟩ := h
  exact ⟨g, s, c, k _ _ h1, h2⟩
theorem Bag.lst {H : Hp} {b : Addr} {n : Nat} (h : Bag H b n) : ∃ xs, H b = some (.lst xs) := by
  obtain ⟨g, s, c, h1, h2⟩ := h
  exact ⟨_, h1⟩
theorem Bag.tups {H H' : Hp} {b : Addr} {n : Nat} (h : Bag H b n) (k : Kept b H H') : Tups H H' := by
  obtain ⟨xs, h⟩ := h.lst
  exact k.tups h
theorem Bag.ne {H : Hp} {b p : Addr} {n : Nat} (h : Bag H b n) (k : H p = none) : p ≠ b := by
  obtain ⟨xs, h⟩ := h.lst
  intro e
  rw [e, h] at k
  cases k
def spBag (K : PySem.W.Frag) : Sp := fun vs H Q _ => ∃ (a : Addr) (ns : List Int) (k : Int), vs = [.ref a, .int k] ∧ SqL K H a (ns.map V.int) ∧ 0 ≤ k ∧ k < 64 ∧ ∀ (b : Addr) (H' : Hp), H b = none → Same H H' → Bag H' b 0 → Q (.ref b) H'
def spTake : Sp := fun vs H Q _ => ∃ (b : Addr) (m : Int) (n : Nat), vs = [.ref b, .int m] ∧ Bag H b n ∧ n + 1 < 2 ^ 40 ∧ 1 ≤ m ∧ m ≤ 1000 ∧
  ∀ (d : Int) (H' : Hp), Kept b H H' → Bag H' b (n + 1) → 0 ≤ d → d < m → Q (.int d) H'
def spOf : Sp := fun vs H Q _ => ∃ (b l : Addr) (xs : List V) (n : Nat), vs = [.ref b, .ref l] ∧ Bag H b n ∧ n + 1 < 2 ^ 40 ∧ H l = some (.lst xs) ∧ l ≠ b ∧ 1 ≤ xs.length ∧ xs.length ≤ 1000 ∧
  ∀ (v : V) (H' : Hp), Kept b H H' → Bag H' b (n + 1) → v ∈ xs → Q v H'
theorem scBag : FnScope ["_law_script", "_law_at", "_law_cell", "_law_great", "_law_seed"] ["_law_script", "_law_at"] (defScope sBag) := ⟨rfl, rfl, rfl, by decide +kernel, rfl, by decide +kernel, by decide +kernel⟩
theorem scTake : FnScope ["_law_bag_here", "_law_many_here", "_law_digit", "_law_primes", "_law_step", "_law_base", "_law_mixed_here", "_law_more"] ["_law_bag_here", "_law_many_here"] (defScope sTake) :=
  ⟨rfl, rfl, rfl, by decide +kernel, rfl, by decide +kernel, by decide +kernel⟩
theorem scOf : FnScope ["_law_bag_here", "_law_some"] ["_law_bag_here", "_law_some"] (defScope sOf) := ⟨rfl, rfl, rfl, by decide +kernel, rfl, by decide +kernel, by decide +kernel⟩
theorem small {n : Nat} (h : n ≤ 1000) : n ≤ sizeLine := Nat.le_of_lt (small1000 h)
section
variable {P : Program} {w : World} {K : PySem.W.Frag} {mg : Str → Option Value} {base : Heap} {f : Addr} {fd : FuncData}
theorem ok_bag (F : Fun K "_law_bag" "_law_bag" sBag f fd) (ml : mg "len" = none) (ma : mg "abs" = none) (mi : mg "int" = none) : FnOk P w K mg base CX0 1 f fd ["_law_script", "_law_at"] (spBag K) := by
  refine F.ok scBag (fun vs H Q E h => ?_) (fun cdv A outer s H vs Q E hr h => ?_)
  · obtain ⟨a, ns, k, rfl, _⟩ := h
    rfl
  obtain ⟨a, ns, k, rfl, hS, h0, h1, q⟩ := h
  refine ⟨_, pss_cons (ps_set (i := 2) scBag.nd rfl (Or.inl rfl) pe_int)
    (pss_cons (ps_if (pt_cmpR op_lt (pv 1) (pe_callB call_len_seq rfl ml PySem.boot_len (pa_cons (pv 0) pa_nil)) (nomark _)) (pss_one (ps_set (i := 2) scBag.nd rfl (Or.inl rfl) (pe_ix ix_list (pv 0) (pv 1) (fun _ _ => rfl)))) pss_nil)
    (pss_cons (ps_set (i := 3) scBag.nd rfl (Or.inl rfl) (pe_callB call_abs rfl ma (by decide +kernel) (pa_cons (pv 2) pa_nil)))
    (pss_cons (ps_set (i := 4) scBag.nd rfl (Or.inl rfl) (pe_op op_add (pe_op op_add (pe_op op_add (pe_op op_mod (pv 2) pe_int) (pe_op op_mul (pe_op op_mul pe_int (pv 1)) (pv 1))) (pe_op op_mul pe_int (pv 1))) pe_int))
    (pss_one (ps_ret (pe_lst (pa_cons (pe_op op_mul (pv 3) (pe_callTy call_int1 rfl mi (by decide +kernel) (pa_cons (pe_cmpR op_ge (pv 3) (pe_op op_pow pe_int pe_int) (nomark _)) pa_nil))) (pa_cons (pv 4) (pa_cons pe_int pa_nil))))))))), ?_⟩
  have fin : ∀ cell : Int, ∀ (b : Addr), H b = none → Q (.ref b) (upd H b (.lst [.int ((if cell < 0 then -cell else cell) * (if decide ((10 : Int) ^ (18 : Int).toNat ≤ (if cell < 0 then -cell else cell)) = true then 1 else 0)), .int (cell % 2305843009213693951 + 9973 * k * k + 101 * k + 11), .int 0])) := fun cell b hb => by
    refine q b _ hb (same_new hb _) ⟨_, _, _, upd_same, ?_, ?_, ?_, Int.le_refl 0, Int.le_refl 0⟩
    · refine Int.mul_nonneg (by split <;> omega) (by split <;> omega)
    · have z := Int.emod_nonneg cell (show (2305843009213693951 : Int) ≠ 0 by decide)
      have z2 : 0 ≤ 9973 * k * k := Int.mul_nonneg (Int.mul_nonneg (by decide) h0) h0
      omega
    · have z := Int.emod_lt_of_pos cell (show (0 : Int) < 2305843009213693951 by decide)
      have z2 : 9973 * k * k ≤ 9973 * 64 * 64 := by
        have a1 : 9973 * k ≤ 9973 * 64 := by omega
        have a2 : 9973 * k * k ≤ 9973 * 64 * k := Int.mul_le_mul_of_nonneg_right a1 h0
        have a3 : 9973 * 64 * k ≤ 9973 * 64 * 64 := by omega
        omega
      omega
  have one : ∀ c : Bool, -(2 ^ 64) < (if c = true then (1 : Int) else 0) ∧ (if c = true then (1 : Int) else 0) < 2 ^ 64 := fun c => by cases c <;> decide
  refine ⟨_, rfl, _, rfl, a, _, rfl, .inl hS, _, _, rfl, rfl, _, rfl, ?_⟩
  refine ite2 (fun c => ?_) (fun c => ?_)
  · have c' : k < (((ns.map V.int).length : Nat) : Int) := of_decide_eq_true c
    rw [List.length_map] at c'
    have hk : k.toNat < ns.length := by omega
    have ek : k = ((k.toNat : Nat) : Int) := by omega
    have q2 : atI (ns.map V.int) ((k.toNat : Nat) : Int) = some (.int ns[k.toNat]) := atI_nat (by rw [List.getElem?_map, List.getElem?_eq_getElem hk]; rfl)
    rw [← ek] at q2
    refine ⟨_, rfl, _, rfl, a, _, _, _, rfl, rfl, hS, q2, ?_⟩
    refine ⟨_, rfl, _, rfl, ?_⟩
    refine ⟨_, rfl, _, _, rfl, rfl, (by show (0 : Int) < 2305843009213693951; decide), _, rfl, _, _, rfl, rfl, .inl ⟨by decide, by decide⟩, _, rfl, _, _, rfl, rfl, .inl ⟨by omega, by omega⟩, _, _, rfl, rfl, ?_⟩
    refine ⟨_, rfl, _, _, rfl, rfl, .inl ⟨by decide, by decide⟩, _, _, rfl, rfl, _, _, rfl, rfl, ?_⟩
    refine ⟨_, rfl, _, rfl, _, _, rfl, rfl, ⟨by decide, by decide, by decide⟩, _, _, rfl, rfl, .inr ⟨_, rfl, _, _, rfl, rfl, .inr (one _), _, rfl, (by show 3 ≤ sizeLine; decide), fun p hp => ?_⟩⟩
    exact fin _ p hp
  · refine ⟨_, rfl, _, rfl, ?_⟩
    refine ⟨_, rfl, _, _, rfl, rfl, (by show (0 : Int) < 2305843009213693951; decide), _, rfl, _, _, rfl, rfl, .inl ⟨by decide, by decide⟩, _, rfl, _, _, rfl, rfl, .inl ⟨by omega, by omega⟩, _, _, rfl, rfl, ?_⟩
    refine ⟨_, rfl, _, _, rfl, rfl, .inl ⟨by decide, by decide⟩, _, _, rfl, rfl, _, _, rfl, rfl, ?_⟩
    refine ⟨_, rfl, _, rfl, _, _, rfl, rfl, ⟨by decide, by decide, by decide⟩, _, _, rfl, rfl, .inr ⟨_, rfl, _, _, rfl, rfl, .inr (one _), _, rfl, (by show 3 ≤ sizeLine; decide), fun p hp => ?_⟩⟩
    exact fin 0 p hp

def primes : List Int := [2147483647, 2147483629, 2147483587, 2147483579, 2147483563, 2147483549, 2147483543]
theorem prime_at {r : Int} (h0 : 0 ≤ r) (h1 : r < 7) : ∃ p : Int, atI (primes.map V.int) r = some (.int p) ∧ 0 < p ∧ p < 2 ^ 31 := by
  have : r = 0 ∨ r = 1 ∨ r = 2 ∨ r = 3 ∨ r = 4 ∨ r = 5 ∨ r = 6 := by omega
  rcases this with rfl | rfl | rfl | rfl | rfl | rfl | rfl <;> exact ⟨_, rfl, by decide, by decide⟩
theorem base_bits {s c : Int} (h1 : 0 ≤ s) (h2 : s < 2 ^ 62) (h3 : 0 ≤ c) (h4 : c < 2 ^ 40) : CPowW (s * (2 * c + 1) + 7001 * c * c + 53) 3 := by
  refine ⟨by decide, ?_⟩
  have a1 : 0 ≤ s * (2 * c + 1) := Int.mul_nonneg h1 (by omega)
  have a2 : s * (2 * c + 1) ≤ 2 ^ 62 * 2 ^ 42 := Int.mul_le_mul (by omega) (by omega) (by omega) (by decide)
  have a3 : 0 ≤ 7001 * c * c := Int.mul_nonneg (by omega) h3
  have a4 : 7001 * c * c ≤ 2 ^ 53 * 2 ^ 40 := Int.mul_le_mul (by omega) (by omega) h3 (by decide)
  have b : (s * (2 * c + 1) + 7001 * c * c + 53).natAbs < 2 ^ 110 := by
    generalize s * (2 * c + 1) = x at *
    generalize 7001 * c * c = y at *
    omega
  have c1 := intBits_le b
  omega
theorem ok_take (F : Fun K "_law_take" "_law_take" sTake f fd) : FnOk P w K mg base CX0 1 f fd ["_law_bag_here", "_law_many_here"] spTake := by
  refine F.ok scTake (fun vs H Q E h => ?_) (fun cdv A outer s H vs Q E hr h => ?_)
  · obtain ⟨b, m, n, rfl, _⟩ := h
    rfl
  obtain ⟨b, m, n, rfl, ⟨g, sd, c, hb, hg, hs0, hs1, hc0, hc1⟩, hn, hm0, hm1, q⟩ := h
  refine ⟨_, pss_cons (ps_if (pt_cmpR op_gt (pe_ix ix_list (pv 0) pe_int (fun _ _ => rfl)) pe_int (nomark _))
      (pss_cons (ps_set (i := 2) scTake.nd rfl (Or.inl rfl) (pe_op op_mod (pe_ix ix_list (pv 0) pe_int (fun _ _ => rfl)) (pv 1)))
      (pss_cons (ps_asg (pe_op op_fdiv (pe_ix ix_list (pv 0) pe_int (fun _ _ => rfl)) (pv 1)) (pg_sub (pv 0) pe_int set_list))
      (pss_one (ps_ret (pv 2))))) pss_nil)
    (pss_cons (ps_set (i := 3) scTake.nd rfl (Or.inl rfl) (pe_tup (pa_cons pe_int (pa_cons pe_int (pa_cons pe_int (pa_cons pe_int (pa_cons pe_int (pa_cons pe_int (pa_cons pe_int pa_nil)))))))))
    (pss_cons (ps_asg (pe_op op_add (pe_ix ix_list (pv 0) pe_int (fun _ _ => rfl)) pe_int) (pg_sub (pv 0) pe_int set_list))
    (pss_cons (ps_set (i := 4) scTake.nd rfl (Or.inl rfl) (pe_ix ix_list (pv 0) pe_int (fun _ _ => rfl)))
    (pss_cons (ps_set (i := 5) scTake.nd rfl (Or.inl rfl) (pe_op op_add (pe_op op_add (pe_op op_mul (pe_ix ix_list (pv 0) pe_int (fun _ _ => rfl)) (pe_op op_add (pe_op op_mul pe_int (pv 4)) pe_int)) (pe_op op_mul (pe_op op_mul pe_int (pv 4)) (pv 4))) pe_int))
    (pss_cons (ps_set (i := 6) scTake.nd rfl (Or.inl rfl) (pe_op op_mod (pe_op op_powW (pv 5) pe_int) (pe_ix ix_tup (pv 3) (pe_op op_mod (pv 4) pe_int) (fun _ _ => rfl))))
    (pss_cons (ps_set (i := 7) scTake.nd rfl (Or.inl rfl) (pe_op op_add (pe_op op_add (pe_op op_fdiv (pv 6) pe_int) (pe_op op_mul pe_int (pv 4))) pe_int))
    (pss_one (ps_ret (pe_op op_mod (pe_op op_fdiv (pe_op op_mod (pe_op op_mul (pv 6) (pv 7)) (pe_ix ix_tup (pv 3) (pe_op op_mod (pe_op op_add (pv 4) pe_int) pe_int) (fun _ _ => rfl))) pe_int) (pv 1)))))))))), ?_⟩
  refine ⟨_, rfl, b, _, _, _, rfl, rfl, SqL.of hb, atI_nat (j := 0) rfl, _, _, rfl, rfl, _, rfl, ?_⟩
  refine ite2 (fun c' => ?_) (fun c' => ?_)
  · refine ⟨_, rfl, b, _, _, _, rfl, rfl, SqL.of hb, atI_nat (j := 0) rfl, _, rfl, _, _, rfl, rfl, (by omega), ?_⟩
    refine ⟨_, rfl, b, _, _, _, rfl, rfl, SqL.of hb, atI_nat (j := 0) rfl, _, rfl, _, _, rfl, rfl, ⟨by omega, by omega⟩, ?_⟩
    refine ⟨_, rfl, b, _, _, 0, rfl, rfl, hb, rfl, ?_⟩
    refine ⟨_, rfl, q _ _ (Kept.put _) ⟨_, _, _, upd_same, ?_, hs0, hs1, hc0, by omega⟩ (Int.emod_nonneg _ (by omega)) (Int.emod_lt_of_pos _ (by omega))⟩
    exact Int.ediv_nonneg hg (by omega)
  · refine ⟨(by show 7 ≤ sizeLine; decide), fun p hp => ?_⟩
    have bp : b ≠ p := ne_of_none hb hp
    have hb1 : upd H p (.tup (primes.map V.int)) b = some (.lst [.int g, .int sd, .int c]) := by rw [upd_ne bp]; exact hb
    refine ⟨_, rfl, b, _, _, _, rfl, rfl, SqL.of hb1, atI_nat (j := 2) rfl, _, _, rfl, rfl, ?_⟩
    refine ⟨_, rfl, b, _, _, 2, rfl, rfl, hb1, rfl, ?_⟩
    have hb2 : upd (upd H p (.tup (primes.map V.int))) b (.lst [.int g, .int sd, .int (c + 1)]) b = some (.lst [.int g, .int sd, .int (c + 1)]) := upd_same
    have hp2 : upd (upd H p (.tup (primes.map V.int))) b (.lst [.int g, .int sd, .int (c + 1)]) p = some (.tup (primes.map V.int)) := by rw [upd_ne bp.symm]; exact upd_same
    have kept : Kept b H (upd (upd H p (.tup (primes.map V.int))) b (.lst [.int g, .int sd, .int (c + 1)])) := (Kept.new hp _).trans (Kept.put _)
    have bag : Bag (upd (upd H p (.tup (primes.map V.int))) b (.lst [.int g, .int sd, .int (c + 1)])) b (n + 1) := ⟨_, _, _, hb2, hg, hs0, hs1, by omega, by omega⟩
    have c0 : 0 ≤ c + 1 := by omega
    have c1 : c + 1 < 2 ^ 40 := by omega
    refine ⟨_, rfl, b, _, _, _, rfl, rfl, SqL.of hb2, atI_nat (j := 2) rfl, ?_⟩
    refine ⟨_, rfl, b, _, _, _, rfl, rfl, SqL.of hb2, atI_nat (j := 1) rfl, _, rfl, _, _, rfl, rfl, .inl ⟨by decide, by decide⟩, _, _, rfl, rfl, _, _, rfl, rfl, .inl ⟨by omega, by omega⟩, ?_⟩
    refine ⟨_, rfl, _, _, rfl, rfl, .inl ⟨by decide, by decide⟩, _, rfl, _, _, rfl, rfl, .inl ⟨by omega, by omega⟩, _, _, rfl, rfl, _, _, rfl, rfl, ?_⟩
    obtain ⟨p1, e1, p10, p11⟩ := prime_at (r := (c + 1) % 7) (by omega) (by omega)
    refine ⟨_, rfl, _, _, rfl, rfl, base_bits hs0 hs1 c0 c1, _, rfl, _, rfl, _, _, rfl, rfl, (by show (0 : Int) < 7; decide), p, _, _, _, rfl, rfl, SqT.of hp2, e1, _, _, rfl, rfl, p10, ?_⟩
    have m0 := Int.emod_nonneg ((sd * (2 * (c + 1) + 1) + 7001 * (c + 1) * (c + 1) + 53) ^ Int.toNat 3) (show p1 ≠ 0 by omega)
    have m1 := Int.emod_lt_of_pos ((sd * (2 * (c + 1) + 1) + 7001 * (c + 1) * (c + 1) + 53) ^ Int.toNat 3) p10
    have m2 : -(2 ^ 64) < (sd * (2 * (c + 1) + 1) + 7001 * (c + 1) * (c + 1) + 53) ^ Int.toNat 3 % p1 ∧ (sd * (2 * (c + 1) + 1) + 7001 * (c + 1) * (c + 1) + 53) ^ Int.toNat 3 % p1 < 2 ^ 64 := by
      generalize (sd * (2 * (c + 1) + 1) + 7001 * (c + 1) * (c + 1) + 53) ^ Int.toNat 3 % p1 = mx at *
      omega
    refine ⟨_, rfl, _, _, rfl, rfl, ⟨by decide, by decide⟩, _, rfl, _, _, rfl, rfl, .inl ⟨by decide, by decide⟩, _, _, rfl, rfl, _, _, rfl, rfl, ?_⟩
    obtain ⟨p2, e2, p20, p21⟩ := prime_at (r := (c + 1 + 3) % 7) (by omega) (by omega)
    refine ⟨_, rfl, _, rfl, _, _, rfl, rfl, .inl m2, _, rfl, _, rfl, _, _, rfl, rfl, _, _, rfl, rfl, (by show (0 : Int) < 7; decide), p, _, _, _, rfl, rfl, SqT.of hp2, e2, _, _, rfl, rfl, p20, _, _, rfl, rfl, ⟨by decide, by decide⟩, _, rfl, _, _, rfl, rfl, (by omega), ?_⟩
    exact q _ _ kept bag (Int.emod_nonneg _ (by omega)) (Int.emod_lt_of_pos _ (by omega))
theorem ok_of {t : Addr} {td : FuncData} (F : Fun K "_law_of" "_law_of" sOf f fd) (G : FnOk P w K mg base CX0 1 t td ["_law_bag_here", "_law_many_here"] spTake) (bG : Binds K td ["_law_bag_here", "_law_many_here"] []) (kG : PySem.W.keepIn K (.ref t) = true) (mG : mg "_law_take" = some (.ref t)) (ml : mg "len" = none) :
    FnOk P w K mg base CX0 2 f fd ["_law_bag_here", "_law_some"] spOf := by
  refine F.ok scOf (fun vs H Q E h => ?_) (fun cdv A outer s H vs Q E hr h => ?_)
  · obtain ⟨b, l, xs, n, rfl, _⟩ := h
    rfl
  obtain ⟨b, l, xs, n, rfl, hB, hn, hl, hne, h1, h2, q⟩ := h
  refine ⟨_, pss_one (ps_ret (pe_ix ix_list (pv 1) (pe_call G hr rfl mG kG bG .nil pass0 (pa_cons (pv 0) (pa_cons (pe_callB call_len_seq rfl ml PySem.boot_len (pa_cons (pv 1) pa_nil)) pa_nil))) (fun _ _ => rfl))), ?_⟩
  refine ⟨_, rfl, _, rfl, _, rfl, l, _, rfl, .inl (SqL.of hl), b, _, n, rfl, hB, hn, by omega, by omega, fun d H' k B' d0 d1 => ?_⟩
  have hd : d.toNat < xs.length := by omega
  have e : atI xs d = some xs[d.toNat] := by
    have z : atI xs ((d.toNat : Nat) : Int) = some xs[d.toNat] := atI_nat (List.getElem?_eq_getElem hd)
    rwa [show ((d.toNat : Nat) : Int) = d by omega] at z
  exact ⟨l, _, _, _, rfl, rfl, SqL.of (k _ _ hne hl), e, q _ _ k B' (List.getElem_mem hd)⟩
end
end Any
namespace Any
open L2 PySem PySem.Spec PyProof.Rows LamX NdefX
abbrev sLw : Stmt := top 71
theorem scLw : FnScope ["_law_some", "_law_crates", "_law_wish", "_law_reply", "_law_word", "_law_one", "_law_other_here"] ["_law_some", "_law_crates", "_law_wish", "_law_reply"] (defScope sLw) :=
  ⟨rfl, rfl, rfl, by decide +kernel, rfl, by decide +kernel, by decide +kernel⟩
def spLw (n : Nat) : Sp := fun vs H Q _ => ∃ (v : V) (c : Addr) (e : Ex) (kvs : List (Str × Int)) (xs : List Str) (a t : Int), vs = [v, .ref c, .int a, .int t] ∧ ExAt H v e ∧ e.deep ≤ n ∧ e.deep ≤ 6 ∧ e.good xs ∧ Bx kvs xs ∧
  H c = some (.dK (bx kvs)) ∧ (0 ≤ a ∧ a < 1024) ∧ (0 ≤ t ∧ t < 1024) ∧ ∀ H', Same H H' → Q (.int (e.val kvs a t)) H'
section
variable {P : Program} {w : World} {K : PySem.W.Frag} {mg : Str → Option Value} {base : Heap} {f : Addr} {fd : FuncData}
theorem no_lw : FnOk P w K mg base CX0 0 f fd ["_law_some", "_law_crates", "_law_wish", "_law_reply"] (spLw 0) := by
  have no : ∀ vs H Q E, ¬ spLw 0 vs H Q E := fun vs H Q E h => by
    obtain ⟨v, c, e, kvs, xs, a, t, _, _, hd, _⟩ := h
    cases e <;> exact absurd hd (by show ¬ _ ≤ 0; exact Nat.not_succ_le_zero _)
  exact ⟨fun vs H Q E h => absurd h (no vs H Q E), fun A outer s H args us vs Q E _ _ _ _ h => absurd h (no vs H Q E)⟩
theorem before1 : ∀ (m : Nat) (z : V), m < 1 → ([.str "plus", .str "less", .str "times"] : List V)[m]? = some z → eqV z (.str "less") = false := fun m z hm hz => by
  obtain rfl : m = 0 := by omega
  cases hz
  rfl
theorem before2 : ∀ (m : Nat) (z : V), m < 2 → ([.str "plus", .str "less", .str "times"] : List V)[m]? = some z → eqV z (.str "times") = false := fun m z hm hz => by
  have e : m = 0 ∨ m = 1 := by omega
  rcases e with rfl | rfl <;> (cases hz; rfl)
theorem nb_div {i j : Int} (hi : Nb i) (hj : Nb j) : Nb (i / j) := ⟨Int.ediv_nonneg hi.1 hj.1, Int.lt_of_le_of_lt (Int.ediv_le_self _ hi.1) hi.2⟩
theorem ok_lw {n : Nat} (F : Fun K "_law_worth" "_law_worth" sLw f fd) (G : FnOk P w K mg base CX0 n f fd ["_law_some", "_law_crates", "_law_wish", "_law_reply"] (spLw n)) (bG : Binds K fd ["_law_some", "_law_crates", "_law_wish", "_law_reply"] [])
    (mG : mg "_law_worth" = some (.ref f)) (mm : mg "max" = none) : FnOk P w K mg base CX0 (n + 1) f fd ["_law_some", "_law_crates", "_law_wish", "_law_reply"] (spLw (n + 1)) := by
  refine F.ok scLw (fun vs H Q E h => ?_) (fun cdv A outer s H vs Q E hr h => ?_)
  · obtain ⟨v, c, e, kvs, xs, a, t, rfl, _⟩ := h
    rfl
  obtain ⟨v, c, e, kvs, xs, a, t, rfl, hv, hd, hd6, hg, B, hc, ha, ht, q⟩ := h
  have hu := hu_of hr
  have kG := F.kp
  refine ⟨_, pss_cons (ps_set (i := 4) scLw.nd rfl (Or.inl rfl) (pe_ix ix_tup (pv 0) pe_int (fun _ _ => rfl)))
    (pss_cons (ps_if (pt_cmpR op_in_seq (pv 4) (pe_tup (pa_cons pe_str (pa_cons pe_str pa_nil))) (by rfl))
      (pss_one (ps_ret (pe_ifExp (pt_cmpR op_eq (pv 4) pe_str (nomark _)) (pe_ix ix_tup (pv 0) pe_int (fun _ _ => rfl)) (pe_dget hu (pv 1) (pe_ix ix_tup (pv 0) pe_int (fun _ _ => rfl)) (fun _ _ => rfl))))) pss_nil)
    (pss_cons (ps_if (pt_cmpR op_in_seq (pv 4) (pe_tup (pa_cons pe_str (pa_cons pe_str pa_nil))) (by rfl))
      (pss_one (ps_ret (pe_ifExp (pt_cmpR op_eq (pv 4) pe_str (nomark _)) (pv 2) (pv 3)))) pss_nil)
    (pss_cons (ps_par (i := 5) (j := 6) (by rfl) scLw.nd rfl rfl (by decide) rfl rfl (pa_cons (pe_call G hr rfl mG kG bG .nil pass0 (pa_cons (pe_ix ix_tup (pv 0) pe_int (fun _ _ => rfl)) (pa_cons (pv 1) (pa_cons (pv 2) (pa_cons (pv 3) pa_nil)))))
        (pa_cons (pe_call G hr rfl mG kG bG .nil pass0 (pa_cons (pe_ix ix_tup (pv 0) pe_int (fun _ _ => rfl)) (pa_cons (pv 1) (pa_cons (pv 2) (pa_cons (pv 3) pa_nil))))) pa_nil)) (by rfl))
    (pss_cons (ps_if (pt_cmpR op_in_seq (pv 4) (pe_tup (pa_cons pe_str (pa_cons pe_str pa_nil))) (by rfl))
      (pss_cons (ps_if (pt_cmpR op_eq (pv 6) pe_int (nomark _)) (pss_one (ps_ret pe_int)) pss_nil)
      (pss_one (ps_ret (pe_ifExp (pt_cmpR op_eq (pv 4) pe_str (nomark _)) (pe_op op_fdivW (pv 5) (pv 6)) (pe_op op_sub (pv 5) (pe_op op_mulW (pe_op op_fdivW (pv 5) (pv 6)) (pv 6))))))) pss_nil)
    (pss_one (ps_ret (pe_ix ix_list (pe_lst (pa_cons (pe_op op_add (pv 5) (pv 6)) (pa_cons (pe_callB (call_max2 rfl) rfl mm (by decide +kernel) (pa_cons (pe_op op_sub (pv 5) (pv 6)) (pa_cons pe_int pa_nil))) (pa_cons (pe_op op_mulW (pv 5) (pv 6)) pa_nil))))
      (pe_bm PySem.F.plainAttrs_list PySem.F.slot_list_index PySem.F.type_list_index mt_index (pe_lst (pa_cons pe_str (pa_cons pe_str (pa_cons pe_str pa_nil)))) (pa_cons (pv 4) pa_nil)) (fun _ _ => rfl)))))))), ?_⟩
  have two : 2 ≤ sizeLine := by decide
  cases hv with
  | num h =>
    refine ⟨_, rfl, _, _, _, _, rfl, rfl, SqT.of h, atI_nat (j := 0) rfl, ?_⟩
    refine ⟨_, rfl, two, fun p hp => ⟨p, _, rfl, .inr (SqT.of upd_same), rfl, rfl, _, rfl, itT rfl ?_⟩⟩
    have s1 := same_new hp (.tup [.str "number", .str "box"])
    refine ⟨_, rfl, rfl, _, rfl, itT eq_str ⟨_, rfl, _, _, _, _, rfl, rfl, SqT.of (s1 _ _ h), atI_nat (j := 1) rfl, q _ s1⟩⟩
  | box h =>
    rename_i bp bn
    obtain ⟨n, e1, _, _⟩ := B.all _ hg
    refine ⟨_, rfl, _, _, _, _, rfl, rfl, SqT.of h, atI_nat (j := 0) rfl, ?_⟩
    refine ⟨_, rfl, two, fun p hp => ⟨p, _, rfl, .inr (SqT.of upd_same), rfl, rfl, _, rfl, itT rfl ?_⟩⟩
    have s1 := same_new hp (.tup [.str "number", .str "box"])
    have g := DGet.k (k := Sum.inr bn) (s1 _ _ hc)
    rw [bx_val, e1] at g
    refine ⟨_, rfl, rfl, _, rfl, itF (ne_str (by decide)) ⟨_, rfl, _, rfl, _, _, _, _, rfl, rfl, SqT.of (s1 _ _ h), atI_nat (j := 1) rfl, c, .int n, rfl, g, ?_⟩⟩
    have q' : ∀ H', Same H H' → Q (.int ((look kvs bn).getD 0)) H' := q
    rw [e1] at q'
    exact q' _ s1
  | asked h =>
    refine ⟨_, rfl, _, _, _, _, rfl, rfl, SqT.of h, atI_nat (j := 0) rfl, ?_⟩
    refine ⟨_, rfl, two, fun p hp => ⟨p, _, rfl, .inr (SqT.of upd_same), rfl, rfl, _, rfl, itF rfl ?_⟩⟩
    have s1 := same_new hp (.tup [.str "number", .str "box"])
    refine ⟨_, rfl, two, fun p2 hp2 => ⟨p2, _, rfl, .inr (SqT.of upd_same), rfl, rfl, _, rfl, itT rfl ?_⟩⟩
    have s2 := s1.trans (same_new hp2 (.tup [.str "asked", .str "told"]))
    exact ⟨_, rfl, rfl, _, rfl, itT eq_str ⟨_, rfl, q _ s2⟩⟩
  | told h =>
    refine ⟨_, rfl, _, _, _, _, rfl, rfl, SqT.of h, atI_nat (j := 0) rfl, ?_⟩
    refine ⟨_, rfl, two, fun p hp => ⟨p, _, rfl, .inr (SqT.of upd_same), rfl, rfl, _, rfl, itF rfl ?_⟩⟩
    have s1 := same_new hp (.tup [.str "number", .str "box"])
    refine ⟨_, rfl, two, fun p2 hp2 => ⟨p2, _, rfl, .inr (SqT.of upd_same), rfl, rfl, _, rfl, itT rfl ?_⟩⟩
    have s2 := s1.trans (same_new hp2 (.tup [.str "asked", .str "told"]))
    exact ⟨_, rfl, rfl, _, rfl, itF (ne_str (by decide)) ⟨_, rfl, q _ s2⟩⟩
  | op h h1 h2 =>
    rename_i p0 d x y l r
    have dl : l.deep ≤ n := Nat.le_trans (Nat.le_max_left ..) (Nat.le_of_succ_le_succ hd)
    have dr : r.deep ≤ n := Nat.le_trans (Nat.le_max_right ..) (Nat.le_of_succ_le_succ hd)
    have dl6 : l.deep ≤ 6 := Nat.le_trans (Nat.le_max_left ..) (Nat.le_of_succ_le hd6)
    have dr6 : r.deep ≤ 6 := Nat.le_trans (Nat.le_max_right ..) (Nat.le_of_succ_le hd6)
    have i1 : inV (.str d.word) [.str "number", .str "box"] = false := by cases d <;> rfl
    have i2 : inV (.str d.word) [.str "asked", .str "told"] = false := by cases d <;> rfl
    refine ⟨_, rfl, _, _, _, _, rfl, rfl, SqT.of h, atI_nat (j := 0) rfl, ?_⟩
    refine ⟨_, rfl, two, fun p hp => ⟨p, _, rfl, .inr (SqT.of upd_same), rfl, rfl, _, rfl, itF i1 ?_⟩⟩
    have s1 := same_new hp (.tup [.str "number", .str "box"])
    refine ⟨_, rfl, two, fun p2 hp2 => ⟨p2, _, rfl, .inr (SqT.of upd_same), rfl, rfl, _, rfl, itF i2 ?_⟩⟩
    have s2 := s1.trans (same_new hp2 (.tup [.str "asked", .str "told"]))
    refine ⟨_, rfl, _, _, _, _, rfl, rfl, SqT.of (s2 _ _ h), atI_nat (j := 1) rfl, _, rfl, _, rfl, _, rfl, x, c, l, kvs, xs, a, t, rfl, h1.keep (Same.tups s2), dl, dl6, hg.1, B, s2 _ _ hc, ha, ht, fun H3 s3 => ?_⟩
    have s3 := s2.trans s3
    refine ⟨_, rfl, _, _, _, _, rfl, rfl, SqT.of (s3 _ _ h), atI_nat (j := 2) rfl, _, rfl, _, rfl, _, rfl, y, c, r, kvs, xs, a, t, rfl, h2.keep (Same.tups s3), dr, dr6, hg.2, B, s3 _ _ hc, ha, ht, fun H4 s4 => ?_⟩
    have s4 := s3.trans s4
    have n1 := Ex.nb B ha ht hg.1 dl6
    have n2 := Ex.nb B ha ht hg.2 dr6
    have q' : ∀ H', Same H H' → Q (.int (d.fn (l.val kvs a t) (r.val kvs a t))) H' := q
    generalize l.val kvs a t = i at *
    generalize r.val kvs a t = j at *
    refine ⟨_, _, rfl, ?_⟩
    refine ⟨_, rfl, two, fun p5 hp5 => ⟨p5, _, rfl, .inr (SqT.of upd_same), rfl, rfl, _, rfl, ?_⟩⟩
    have s5 := s4.trans (same_new hp5 (.tup [.str "over", .str "rest"]))
    cases d with
    | over =>
      refine itT rfl ⟨_, rfl, rfl, _, rfl, ?_⟩
      refine ite2 (fun cc => ?_) (fun cc => ?_)
      · have c' : V.int j = V.int 0 := of_decide_eq_true cc
        have z := q' _ s5
        rw [show Dd.fn .over i j = 0 from if_pos (V.int.inj c')] at z
        exact z
      · have c' : ¬ V.int j = V.int 0 := of_decide_eq_false (Bool.eq_false_iff.mpr cc)
        have nz : j ≠ 0 := fun z => c' (by rw [z])
        have z := q' _ s5
        rw [show Dd.fn .over i j = i / j from if_neg nz] at z
        exact ⟨_, rfl, rfl, _, rfl, itT eq_str ⟨_, rfl, _, rfl, _, _, rfl, rfl, wideDiv n2 nz, z⟩⟩
    | rest =>
      refine itT rfl ⟨_, rfl, rfl, _, rfl, ?_⟩
      refine ite2 (fun cc => ?_) (fun cc => ?_)
      · have c' : V.int j = V.int 0 := of_decide_eq_true cc
        have z := q' _ s5
        rw [show Dd.fn .rest i j = 0 from if_pos (V.int.inj c')] at z
        exact z
      · have c' : ¬ V.int j = V.int 0 := of_decide_eq_false (Bool.eq_false_iff.mpr cc)
        have nz : j ≠ 0 := fun z => c' (by rw [z])
        have z := q' _ s5
        rw [show Dd.fn .rest i j = i % j from if_neg nz, Int.emod_def, Int.mul_comm] at z
        exact ⟨_, rfl, rfl, _, rfl, itF (ne_str (by decide)) ⟨_, rfl, _, rfl, _, rfl, _, _, rfl, rfl, wideDiv n2 nz, _, rfl, _, _, rfl, rfl, wideMul (nb_div n1 n2) n2, _, _, rfl, rfl, z⟩⟩
    | plus =>
      refine itF rfl ⟨_, rfl, _, rfl, _, _, rfl, rfl, _, rfl, _, rfl, _, _, rfl, rfl, _, _, rfl, _, rfl, _, rfl, _, _, rfl, rfl, wideMul n1 n2, (by show 3 ≤ sizeLine; decide), fun p6 hp6 => ?_⟩
      refine ⟨(by show 3 ≤ sizeLine; decide), fun p7 hp7 => ⟨.inl ⟨rfl, _, SqL.of upd_same⟩, _, rfl, p7, _, _, 0, _, rfl, rfl, SqL.of upd_same, rfl, rfl, rfl, rfl, (by intro m z hm; omega), ?_⟩⟩
      have n67 : p6 ≠ p7 := by intro e; rw [e, upd_same] at hp7; cases hp7
      refine ⟨p6, _, _, _, rfl, rfl, SqL.of (by rw [upd_ne n67]; exact upd_same), atI_nat (j := 0) rfl, ?_⟩
      exact q' _ ((s5.trans (same_new hp6 _)).trans (same_new hp7 _))
    | less =>
      refine itF rfl ⟨_, rfl, _, rfl, _, _, rfl, rfl, _, rfl, _, rfl, _, _, rfl, rfl, _, _, rfl, _, rfl, _, rfl, _, _, rfl, rfl, wideMul n1 n2, (by show 3 ≤ sizeLine; decide), fun p6 hp6 => ?_⟩
      refine ⟨(by show 3 ≤ sizeLine; decide), fun p7 hp7 => ⟨.inl ⟨rfl, _, SqL.of upd_same⟩, _, rfl, p7, _, _, 1, _, rfl, rfl, SqL.of upd_same, rfl, rfl, rfl, rfl, before1, ?_⟩⟩
      have n67 : p6 ≠ p7 := by intro e; rw [e, upd_same] at hp7; cases hp7
      refine ⟨p6, _, _, _, rfl, rfl, SqL.of (by rw [upd_ne n67]; exact upd_same), atI_nat (j := 1) rfl, ?_⟩
      have z := fun o => q' _ ((s5.trans (same_new hp6 _)).trans (same_new hp7 o))
      have e : Dd.fn .less i j = if 0 > i - j then 0 else i - j := by
        show (if i < j then 0 else i - j) = _
        by_cases c : i < j
        · rw [if_pos c, if_pos (by omega)]
        · rw [if_neg c, if_neg (by omega)]
      rw [e] at z
      exact z _
    | times =>
      refine itF rfl ⟨_, rfl, _, rfl, _, _, rfl, rfl, _, rfl, _, rfl, _, _, rfl, rfl, _, _, rfl, _, rfl, _, rfl, _, _, rfl, rfl, wideMul n1 n2, (by show 3 ≤ sizeLine; decide), fun p6 hp6 => ?_⟩
      refine ⟨(by show 3 ≤ sizeLine; decide), fun p7 hp7 => ⟨.inl ⟨rfl, _, SqL.of upd_same⟩, _, rfl, p7, _, _, 2, _, rfl, rfl, SqL.of upd_same, rfl, rfl, rfl, rfl, before2, ?_⟩⟩
      have n67 : p6 ≠ p7 := by intro e; rw [e, upd_same] at hp7; cases hp7
      refine ⟨p6, _, _, _, rfl, rfl, SqL.of (by rw [upd_ne n67]; exact upd_same), atI_nat (j := 2) rfl, ?_⟩
      exact q' _ ((s5.trans (same_new hp6 _)).trans (same_new hp7 _))
theorem all_lw (F : Fun K "_law_worth" "_law_worth" sLw f fd) (bG : Binds K fd ["_law_some", "_law_crates", "_law_wish", "_law_reply"] []) (mG : mg "_law_worth" = some (.ref f)) (mm : mg "max" = none) :
    ∀ n : Nat, FnOk P w K mg base CX0 n f fd ["_law_some", "_law_crates", "_law_wish", "_law_reply"] (spLw n)
  | 0 => no_lw
  | n + 1 => ok_lw F (all_lw F bG mG mm n) bG mG mm
end
end Any
namespace Any
open L2 PySem PySem.Spec PyProof.Rows LamX NdefX

/-! ### list(d), d a written dict of texts -/
def Keyed : List DictEntry → List Str → Prop
  | [], [] => True
  | e :: es, k :: ks => (∃ t, e.key = .str k t) ∧ Keyed es ks
  | _, _ => False
theorem keyed_pairs {P : Program} {w : World} : ∀ {es : List DictEntry} {ks : List Str}, Keyed es ks →
    ∃ kvs : List (Str × Value), Pairs (PySem.strKind P w) es kvs ∧ kvs.map (·.1) = ks
  | [], [], _ => ⟨[], .nil, rfl⟩
  | e :: es, k :: ks, h => by
    obtain ⟨⟨t, h1⟩, h2⟩ := h
    obtain ⟨kvs, p, q⟩ := keyed_pairs (P := P) (w := w) h2
    exact ⟨(k, e.val) :: kvs, .cons (by rw [h1]; exact strKind_is P w k t) rfl p, by rw [List.map_cons, q]⟩
  | [], _ :: _, h => h.elim
  | _ :: _, [], h => h.elim
/-- a written dict with these keys -/
def KKeys (K : PySem.W.Frag) (w : World) (a : Addr) (ks : List Str) : Prop :=
  ∃ es n, K.lookup a = some ⟨.type "dict", none, .dict es n, #[]⟩ ∧ PySem.W.KeysLit w.params es.toList ∧ Keyed es.toList ks ∧ ks.Nodup ∧ (a == sysModules) = false ∧ ks.length ≤ sizeLine
theorem strs_is {P : Program} {w : World} : ∀ {us : List Value} {ks : List Str}, us.length = ks.length → (∀ (j : Nat) (v : Value), us[j]? = some v → ∃ k, ks[j]? = some k ∧ (PySem.strKind P w).is k v = true) → Vals (ks.map V.str) us
  | [], [], _, _ => .nil
  | u :: us, k :: ks, hl, h => by
    obtain ⟨k', e, h0⟩ := h 0 u rfl
    cases e
    obtain ⟨t, rfl⟩ := Value.isStrOf_shape h0
    exact .cons ⟨t, rfl⟩ (strs_is (P := P) (w := w) (by simpa using hl) fun j v e => h (j + 1) v e)
section
variable {X : Cx}
theorem call_listK (hc : X.calm = true) : CallR X (.type "list") (fun xs H Q => ∃ a ks, xs = [.ref a] ∧ KKeys X.K X.w a ks ∧ ∀ p, H p = none → Q (.ref p) (upd H p (.lst (ks.map V.str)))) := by
  intro pins s σ H xs us Q I r q
  obtain ⟨a, ks, rfl, ⟨es, n, hl, hk, hy, nd, lo, hz⟩, q⟩ := q
  obtain ⟨u, rfl, rx⟩ := vals1 r
  cases rx
  obtain ⟨kvs, hp, ek⟩ := keyed_pairs (P := X.prog) (w := X.w) hy
  have hat : s.heap.DictAt (PySem.strKind X.prog X.w) a kvs n := ⟨_, es, I.kIn _ _ hl, ⟨rfl, rfl, rfl⟩, rfl, fun e he => by
    obtain ⟨x, t, e1, e2⟩ := hk.all e (Array.mem_toList_iff.mpr he)
    exact ⟨x, by rw [e1]; exact strKind_is X.prog X.w x t, e2⟩, hp, by rw [ek]; exact nd⟩
  have hlen : kvs.length = ks.length := by rw [← ek, List.length_map]
  refine PySem.W.kdl_call (PySem.W.kdl_dict (knd := PySem.strKind X.prog X.w) (kvs := kvs) (ep := n) lo) (I.ok.hd hc) hat (by rw [hlen]; exact hz) fun h' tk acc c' kp hD hacc => ?_
  have hv : Vals (ks.map V.str) acc.toList := strs_is (P := X.prog) (w := X.w) (by rw [Array.length_toList, ← hlen]; exact hacc.1) fun j v e => by
    obtain ⟨k, x, h1, h2⟩ := hacc.2 j v (by rw [← Array.getElem?_toList]; exact e)
    exact ⟨k, by rw [← ek, List.getElem?_map, h1]; rfl, h2⟩
  refine ⟨.ref s.heap.objs.size, upd H s.heap.objs.size (.lst (ks.map V.str)), I.laid (t' := tk) kp (Nat.le_refl _)
    (show ObjOk X.prog X.w _ _ _ (.lst (ks.map V.str)) from ⟨by rw [List.length_map]; exact hz, acc.toList, c', hv, by rw [Array.toArray_toList]; exact hD⟩), rfl, q _ (I.hok.fresh (Nat.le_refl _))⟩
end

/-! ### rows made of rows, all else staying -/
/-- what a row's making asks -/
def Turns (J : It) (g : TG) (tt : TT) (te : TE) (vs : List Nat) (σ : L2.St) (H1 : Hp) (D : Addr) (Qd : Hp → Prop) : Prop :=
  ∃ W : Nat → Nat → Hp → Prop, (∃ m, W 0 m (upd H1 D (.lst []))) ∧
    ∀ i m H, W i m H → (J.stop i H ∧ Qd H) ∨
      (J.go i H ∧ ∃ N : Hp → Prop, (∀ H', N H' → ∃ m', m' < m ∧ W (i + 1) m' H') ∧
        ∀ x H', J.yld i H x H' →
          g x (wipe σ vs) H' fun σ2 H2 => wipe σ2 vs = wipe σ vs ∧
            tt σ2 H2 fun b H3 => if b = true then te σ2 H3 fun y H4 => ∃ acc, H4 D = some (.lst acc) ∧ acc.length < sizeLine ∧ N (upd H4 D (.lst (acc ++ [y]))) else N H3)
section
variable {K : PySem.W.Frag} {a : Addr} {xs : List V} {g : TG} {tt : TT} {te : TE} {vs : List Nat} {σ : L2.St} {H1 : Hp} {D : Addr} {Qd : Hp → Prop}
/-- each turn puts one thing behind, or none -/
def TurnF (xs : List V) (gs : List (Option V)) (g : TG) (tt : TT) (te : TE) (vs : List Nat) (σ : L2.St) (H1 : Hp) : Prop :=
  ∀ (i : Nat) (x : V) (o : Option V) (H : Hp) (Y : VK) (N : Hp → Prop), xs[i]? = some x → gs[i]? = some o → Same H1 H → (∀ y, o = some y → ∀ H4, Same H H4 → Y y H4) → (o = none → ∀ H4, Same H H4 → N H4) →
    g x (wipe σ vs) H fun σ2 H2 => wipe σ2 vs = wipe σ vs ∧ tt σ2 H2 fun b H3 => if b = true then te σ2 H3 Y else N H3
theorem take_fm {gs : List (Option V)} {i : Nat} {o : Option V} (h : gs[i]? = some o) : (gs.take (i + 1)).filterMap id = (gs.take i).filterMap id ++ o.toList := by
  rw [List.take_add_one, h, List.filterMap_append]
  cases o <;> rfl
theorem fm_len (gs : List (Option V)) : (gs.filterMap id).length ≤ gs.length := List.length_filterMap_le ..
theorem turns_tup (gs : List (Option V)) (hD : H1 D = none) (ha : ∀ H, Same H1 H → SqT K H a xs) (hn : gs.length = xs.length) (hz : xs.length ≤ sizeLine) (hs : TurnF xs gs g tt te vs σ H1)
    (hd : ∀ H, H D = some (.lst (gs.filterMap id)) → Same H1 H → Qd H) : Turns (Itt K a) g tt te vs σ H1 D Qd := by
  refine lc_tup (K := K) (a := a) (xs := xs) (fun i Hc => Hc D = some (.lst ((gs.take i).filterMap id)) ∧ Same H1 Hc) ⟨upd_same, same_new hD _⟩ (fun i Hc _ z => ha Hc z.2) ?_ ?_
  · rintro i x Hc hx ⟨hC, sm⟩
    have hi : i < xs.length := (List.getElem?_eq_some_iff.mp hx).1
    obtain ⟨o, ho⟩ : ∃ o, gs[i]? = some o := ⟨gs[i]'(by omega), by simp [hn, hi]⟩
    refine hs i x o Hc _ _ hx ho sm (fun y ey H4 s4 => ⟨_, s4 _ _ hC, ?_, ?_, fun b u hb => ?_⟩) (fun en H4 s4 => ⟨?_, sm.trans s4⟩)
    · have := fm_len (gs.take i)
      rw [List.length_take] at this
      omega
    · rw [upd_same, take_fm ho, ey]
      rfl
    · rw [upd_ne (ne_of_none hb hD)]
      exact s4 _ _ (sm _ _ hb)
    · rw [take_fm ho, en]
      show H4 D = some (.lst (_ ++ []))
      rw [List.append_nil]
      exact s4 _ _ hC
  · rintro Hc ⟨hC, sm⟩
    rw [← hn, List.take_length] at hC
    exact hd Hc hC sm
theorem turns_list (gs : List (Option V)) (hD : H1 D = none) (ha : ∀ H, Same H1 H → SqL K H a xs) (hn : gs.length = xs.length) (hz : xs.length ≤ sizeLine) (hs : TurnF xs gs g tt te vs σ H1)
    (hd : ∀ H, H D = some (.lst (gs.filterMap id)) → Same H1 H → Qd H) : Turns (Itl K a) g tt te vs σ H1 D Qd := by
  refine lc_list (K := K) (a := a) (xs := xs) (fun i Hc => Hc D = some (.lst ((gs.take i).filterMap id)) ∧ Same H1 Hc) ⟨upd_same, same_new hD _⟩ (fun i Hc _ z => ha Hc z.2) ?_ ?_
  · rintro i x Hc hx ⟨hC, sm⟩
    have hi : i < xs.length := (List.getElem?_eq_some_iff.mp hx).1
    obtain ⟨o, ho⟩ : ∃ o, gs[i]? = some o := ⟨gs[i]'(by omega), by simp [hn, hi]⟩
    refine hs i x o Hc _ _ hx ho sm (fun y ey H4 s4 => ⟨_, s4 _ _ hC, ?_, ?_, fun b u hb => ?_⟩) (fun en H4 s4 => ⟨?_, sm.trans s4⟩)
    · have := fm_len (gs.take i)
      rw [List.length_take] at this
      omega
    · rw [upd_same, take_fm ho, ey]
      rfl
    · rw [upd_ne (ne_of_none hb hD)]
      exact s4 _ _ (sm _ _ hb)
    · rw [take_fm ho, en]
      show H4 D = some (.lst (_ ++ []))
      rw [List.append_nil]
      exact s4 _ _ hC
  · rintro Hc ⟨hC, sm⟩
    rw [← hn, List.take_length] at hC
    exact hd Hc hC sm
end
end Any
namespace Any
open L2 PySem PySem.Spec PyProof.Rows LamX NdefX
abbrev sWhole : Stmt := top 23
abbrev sWithin : Stmt := top 24
abbrev sName : Stmt := top 25
abbrev sIsExpr : Stmt := top 26
abbrev sIsTest : Stmt := top 27
abbrev sExFits : Stmt := top 28
abbrev sTsFits : Stmt := top 29
abbrev sRow : Stmt := top 30
abbrev sCount : Stmt := top 31
theorem scWhole : FnScope ["thing"] ["thing"] (defScope sWhole) := ⟨rfl, rfl, rfl, by decide +kernel, rfl, by decide +kernel, by decide +kernel⟩
theorem scWithin : FnScope ["thing", "least", "most"] ["thing", "least", "most"] (defScope sWithin) := ⟨rfl, rfl, rfl, by decide +kernel, rfl, by decide +kernel, by decide +kernel⟩
theorem scRow : FnScope ["thing"] ["thing"] (defScope sRow) := ⟨rfl, rfl, rfl, by decide +kernel, rfl, by decide +kernel, by decide +kernel⟩
theorem scCount : FnScope ["term", "part"] ["term"] (defScope sCount) := ⟨rfl, rfl, rfl, by decide +kernel, rfl, by decide +kernel, by decide +kernel⟩
theorem scExFits : FnScope ["thing", "boxes", "words", "deep", "kind", "part"] ["thing", "boxes", "words", "deep"] (defScope sExFits) := ⟨rfl, rfl, rfl, by decide +kernel, rfl, by decide +kernel, by decide +kernel⟩
theorem scTsFits : FnScope ["thing", "boxes", "words", "deep", "kind", "part"] ["thing", "boxes", "words", "deep"] (defScope sTsFits) := ⟨rfl, rfl, rfl, by decide +kernel, rfl, by decide +kernel, by decide +kernel⟩
theorem scIsExpr : FnScope ["thing", "boxes", "words"] ["thing", "boxes", "words"] (defScope sIsExpr) := ⟨rfl, rfl, rfl, by decide +kernel, rfl, by decide +kernel, by decide +kernel⟩
theorem scIsTest : FnScope ["thing", "boxes", "words"] ["thing", "boxes", "words"] (defScope sIsTest) := ⟨rfl, rfl, rfl, by decide +kernel, rfl, by decide +kernel, by decide +kernel⟩
/-- the names of Python's own that the program asks for -/
structure Own (mg : Str → Option Value) : Prop where
  isi : mg "isinstance" = none
  int : mg "int" = none
  bool : mg "bool" = none
  str : mg "str" = none
  tuple : mg "tuple" = none
  len : mg "len" = none
  all : mg "all" = none
  sum : mg "sum" = none
  list : mg "list" = none
def spWhole : Sp := fun vs H Q _ => ∃ i, vs = [.int i] ∧ Q (.bl true) H
def spWithin : Sp := fun vs H Q _ => ∃ i l m, vs = [.int i, .int l, .int m] ∧ Q (.bl (decide (l ≤ i) && decide (i ≤ m))) H
def spRow : Sp := fun vs H Q _ => ∃ a x xs, vs = [.ref a] ∧ H a = some (.tup (x :: xs)) ∧ Q (.bl true) H
section
variable {P : Program} {w : World} {K : PySem.W.Frag} {mg : Str → Option Value} {base : Heap} {f g : Addr} {fd gd : FuncData}
theorem kb (a b : String) (r : Bool) (h : kitB a b = some r := by decide +kernel) : PySem.W.kitOne K (.type a) (.type b) = some r := kit_ty h
theorem ok_whole (O : Own mg) (F : Fun K "is_whole" "is_whole" sWhole f fd) : FnOk P w K mg base CX0 1 f fd ["thing"] spWhole := by
  refine F.ok scWhole (fun vs H Q E h => ?_) (fun cdv A outer s H vs Q E hr h => ?_)
  · obtain ⟨i, rfl, _⟩ := h
    rfl
  obtain ⟨i, rfl, q⟩ := h
  refine ⟨_, pss_one (ps_ret (pe_and (pe_callB call_isi rfl O.isi (by decide +kernel) (pa_cons (pv 0) (pa_cons (pe_bltn (v := .ty "int") rfl O.int (by decide +kernel) rfl) pa_nil)))
    (pe_one (pe_not (pe_callB call_isi rfl O.isi (by decide +kernel) (pa_cons (pv 0) (pa_cons (pe_bltn (v := .ty "bool") rfl O.bool (by decide +kernel) rfl) pa_nil))))))), ?_⟩
  exact ⟨_, rfl, _, _, _, _, true, rfl, .ty "int", .base (.int i), kb "int" "int" true, _, rfl, _, rfl, _, _, _, _, false, rfl, .ty "bool", .base (.int i), kb "int" "bool" false, _, rfl, q⟩
theorem ok_within (F : Fun K "is_within" "is_within" sWithin f fd) (G : FnOk P w K mg base CX0 1 g gd ["thing"] spWhole) (bG : Binds K gd ["thing"] []) (kG : PySem.W.keepIn K (.ref g) = true) (mG : mg "is_whole" = some (.ref g)) :
    FnOk P w K mg base CX0 2 f fd ["thing", "least", "most"] spWithin := by
  refine F.ok scWithin (fun vs H Q E h => ?_) (fun cdv A outer s H vs Q E hr h => ?_)
  · obtain ⟨i, l, m, rfl, _⟩ := h
    rfl
  obtain ⟨i, l, m, rfl, q⟩ := h
  refine ⟨_, pss_one (ps_ret (pe_and (pe_call G hr rfl mG kG bG .nil pass0 (pa_cons (pv 0) pa_nil)) (pe_one (pe_chain op_le op_le (pv 1) (pv 0) (pv 2))))), ?_⟩
  refine ⟨_, rfl, i, rfl, _, rfl, _, rfl, _, rfl, _, _, rfl, rfl, _, rfl, ?_⟩
  refine ite2 (fun c => ?_) (fun c => ?_)
  · rw [c] at q
    exact ⟨_, rfl, _, _, rfl, rfl, q⟩
  · rw [Bool.eq_false_iff.mpr c] at q
    exact q
theorem ok_row (O : Own mg) (F : Fun K "is_row" "is_row" sRow f fd) : FnOk P w K mg base CX0 1 f fd ["thing"] spRow := by
  refine F.ok scRow (fun vs H Q E h => ?_) (fun cdv A outer s H vs Q E hr h => ?_)
  · obtain ⟨a, x, xs, rfl, _⟩ := h
    rfl
  obtain ⟨a, x, xs, rfl, ha, q⟩ := h
  refine ⟨_, pss_one (ps_ret (pe_and (pe_callB call_isi rfl O.isi (by decide +kernel) (pa_cons (pv 0) (pa_cons (pe_bltn (v := .ty "tuple") rfl O.tuple (by decide +kernel) rfl) pa_nil)))
    (pe_one (pe_cmpR op_gt (pe_callB call_len_seq rfl O.len PySem.boot_len (pa_cons (pv 0) pa_nil)) pe_int (nomark _))))), ?_⟩
  refine ⟨_, rfl, _, _, _, _, true, rfl, .ty "tuple", .base (.tup ha), kb "tuple" "tuple" true, _, rfl, _, rfl, a, _, rfl, .inr (SqT.of ha), _, _, rfl, rfl, ?_⟩
  show Q (.bl (decide ((0 : Int) < ((x :: xs).length : Nat)))) H
  rw [show decide ((0 : Int) < ((x :: xs).length : Nat)) = true from decide_eq_true (by rw [List.length_cons]; omega)]
  exact q
end
end Any
namespace Any
open L2 PySem PySem.Spec PyProof.Rows LamX NdefX
/-! ### right ones -/
def Ex.cnt : Ex → Nat
  | .op _ l r => 1 + (l.cnt + r.cnt)
  | _ => 1
def Ts.cnt : Ts → Nat
  | .is l r => 1 + (l.cnt + r.cnt)
  | .bel l r => 1 + (l.cnt + r.cnt)
  | .nt t => 1 + t.cnt
  | .both t u => 1 + (t.cnt + u.cnt)
  | .either t u => 1 + (t.cnt + u.cnt)
/-- how many stand within one another, expressions too -/
def Ts.dp : Ts → Nat
  | .is l r => max l.deep r.deep + 1
  | .bel l r => max l.deep r.deep + 1
  | .nt t => t.dp + 1
  | .both t u => max t.dp u.dp + 1
  | .either t u => max t.dp u.dp + 1
def Ex.fit (xs ws : List Str) : Ex → Prop
  | .num n => 0 ≤ n ∧ n ≤ 999
  | .box x => x ∈ xs
  | .asked => ("asked" : Str) ∈ ws
  | .told => ("told" : Str) ∈ ws
  | .op _ l r => l.fit xs ws ∧ r.fit xs ws
def Ts.fit (xs ws : List Str) : Ts → Prop
  | .is l r => l.fit xs ws ∧ r.fit xs ws
  | .bel l r => l.fit xs ws ∧ r.fit xs ws
  | .nt t => t.fit xs ws
  | .both t u => t.fit xs ws ∧ u.fit xs ws
  | .either t u => t.fit xs ws ∧ u.fit xs ws
theorem Ex.deep_pos : ∀ e : Ex, 0 < e.deep
  | .num _ => Nat.one_pos
  | .box _ => Nat.one_pos
  | .asked => Nat.one_pos
  | .told => Nat.one_pos
  | .op _ _ _ => Nat.succ_pos _
theorem Ts.dp_pos : ∀ e : Ts, 0 < e.dp
  | .is _ _ => Nat.succ_pos _
  | .bel _ _ => Nat.succ_pos _
  | .nt _ => Nat.succ_pos _
  | .both _ _ => Nat.succ_pos _
  | .either _ _ => Nat.succ_pos _
/-- a part of an expression or a test: none that is a tuple, or one that counts so many, at most d deep -/
inductive Part (H : Hp) (d : Nat) : V → Option Nat → Prop
  | int (i : Int) : Part H d (.int i) none
  | str (x : Str) : Part H d (.str x) none
  | ex {v : V} {e : Ex} : ExAt H v e → e.deep ≤ d → Part H d v (some e.cnt)
  | ts {v : V} {e : Ts} : TsAt H v e → e.dp ≤ d → Part H d v (some e.cnt)
theorem Part.keep {H H' : Hp} (k : Tups H H') {d : Nat} {v : V} {o : Option Nat} (h : Part H d v o) : Part H' d v o := by
  cases h with
  | int i => exact .int i
  | str x => exact .str x
  | ex h hd => exact .ex (h.keep k) hd
  | ts h hd => exact .ts (h.keep k) hd
/-- as a tuple of a word and parts -/
theorem Part.open {H : Hp} {d : Nat} {v : V} {n : Nat} (h : Part H (d + 1) v (some n)) : ∃ a z xs os, v = .ref a ∧ H a = some (.tup (z :: xs)) ∧ Paired (Part H d) xs os ∧ n = 1 + (os.map fun o => o.getD 0).sum ∧ xs.length ≤ 2 := by
  cases h with
  | ex h hd =>
    cases h with
    | num h => exact ⟨_, _, _, [none], rfl, h, .cons (.int _) .nil, rfl, by first | decide | (show 1 ≤ 2; decide) | (show 0 ≤ 2; decide)⟩
    | box h => exact ⟨_, _, _, [none], rfl, h, .cons (.str _) .nil, rfl, by first | decide | (show 1 ≤ 2; decide) | (show 0 ≤ 2; decide)⟩
    | asked h => exact ⟨_, _, _, [], rfl, h, .nil, rfl, by first | decide | (show 1 ≤ 2; decide) | (show 0 ≤ 2; decide)⟩
    | told h => exact ⟨_, _, _, [], rfl, h, .nil, rfl, by first | decide | (show 1 ≤ 2; decide) | (show 0 ≤ 2; decide)⟩
    | op h h1 h2 =>
      rename_i l r
      have hd : max l.deep r.deep + 1 ≤ d + 1 := hd
      exact ⟨_, _, _, [some l.cnt, some r.cnt], rfl, h, .cons (.ex h1 (by omega)) (.cons (.ex h2 (by omega)) .nil), (by show 1 + (l.cnt + r.cnt) = 1 + (l.cnt + (r.cnt + 0)); omega), by show 2 ≤ 2; decide⟩
  | ts h hd =>
    cases h with
    | is h h1 h2 =>
      rename_i l r
      have hd : max l.deep r.deep + 1 ≤ d + 1 := hd
      exact ⟨_, _, _, [some l.cnt, some r.cnt], rfl, h, .cons (.ex h1 (by omega)) (.cons (.ex h2 (by omega)) .nil), (by show 1 + (l.cnt + r.cnt) = 1 + (l.cnt + (r.cnt + 0)); omega), by show 2 ≤ 2; decide⟩
    | bel h h1 h2 =>
      rename_i l r
      have hd : max l.deep r.deep + 1 ≤ d + 1 := hd
      exact ⟨_, _, _, [some l.cnt, some r.cnt], rfl, h, .cons (.ex h1 (by omega)) (.cons (.ex h2 (by omega)) .nil), (by show 1 + (l.cnt + r.cnt) = 1 + (l.cnt + (r.cnt + 0)); omega), by show 2 ≤ 2; decide⟩
    | nt h h1 =>
      rename_i t
      have hd : t.dp + 1 ≤ d + 1 := hd
      exact ⟨_, _, _, [some t.cnt], rfl, h, .cons (.ts h1 (by omega)) .nil, rfl, by show 1 ≤ 2; decide⟩
    | both h h1 h2 =>
      rename_i l r
      have hd : max l.dp r.dp + 1 ≤ d + 1 := hd
      exact ⟨_, _, _, [some l.cnt, some r.cnt], rfl, h, .cons (.ts h1 (by omega)) (.cons (.ts h2 (by omega)) .nil), (by show 1 + (l.cnt + r.cnt) = 1 + (l.cnt + (r.cnt + 0)); omega), by show 2 ≤ 2; decide⟩
    | either h h1 h2 =>
      rename_i l r
      have hd : max l.dp r.dp + 1 ≤ d + 1 := hd
      exact ⟨_, _, _, [some l.cnt, some r.cnt], rfl, h, .cons (.ts h1 (by omega)) (.cons (.ts h2 (by omega)) .nil), (by show 1 + (l.cnt + r.cnt) = 1 + (l.cnt + (r.cnt + 0)); omega), by show 2 ≤ 2; decide⟩
theorem Part.ref {H : Hp} {d n : Nat} {v : V} (h : Part H d v (some n)) : ∃ a xs, v = .ref a ∧ H a = some (.tup xs) := by
  cases d with
  | zero =>
    cases h with
    | ex _ hd => exact absurd hd (Nat.not_le.mpr (Ex.deep_pos _))
    | ts _ hd => exact absurd hd (Nat.not_le.mpr (Ts.dp_pos _))
  | succ d =>
    obtain ⟨a, z, xs, os, e, h1, _⟩ := h.open
    exact ⟨a, _, e, h1⟩
def spCount (n : Nat) : Sp := fun vs H Q _ => ∃ v k, vs = [v] ∧ Part H n v (some k) ∧ ∀ H', Same H H' → Q (.int k) H'
theorem paired_at {α β : Type} {R : α → β → Prop} : ∀ {xs : List α} {ys : List β}, Paired R xs ys → ∀ {i : Nat} {x : α} {y : β}, xs[i]? = some x → ys[i]? = some y → R x y
  | _, _, .nil, i, x, y, h, _ => by simp at h
  | _, _, .cons r t, 0, x, y, h, g => by cases h; cases g; exact r
  | _, _, .cons r t, i + 1, x, y, h, g => paired_at t (i := i) h g
theorem paired_len {α β : Type} {R : α → β → Prop} : ∀ {xs : List α} {ys : List β}, Paired R xs ys → xs.length = ys.length
  | _, _, .nil => rfl
  | _, _, .cons r t => by rw [List.length_cons, List.length_cons, paired_len t]
theorem sum_fm : ∀ os : List (Option Nat), ((os.filterMap id).map fun n : Nat => (n : Int)).sum = ((os.map fun o => o.getD 0).sum : Nat)
  | [] => rfl
  | none :: r => by
    have := sum_fm r
    simpa using this
  | some n :: r => by
    have := sum_fm r
    simp only [List.filterMap_cons, id, List.map_cons, List.sum_cons, Option.getD_some] at this ⊢
    rw [this]
    omega
theorem fm_ints : ∀ os : List (Option Nat), (os.map fun o => o.map fun n : Nat => V.int n).filterMap id = (((os.filterMap id).map fun n : Nat => (n : Int)).map V.int)
  | [] => rfl
  | none :: r => by simpa using fm_ints r
  | some n :: r => by simpa using fm_ints r
theorem cut1 (z : V) (xs : List V) : cutV (z :: xs) (some 1) none = xs := by
  have e1 : HT.sIx (z :: xs).length 0 (some 1) = 1 := by
    unfold HT.sIx
    simp only [List.length_cons]
    first | omega | (split <;> omega) | simp
  have e2 : HT.sIx (z :: xs).length (z :: xs).length none = (z :: xs).length := rfl
  unfold cutV
  rw [e1, e2, List.drop_one, List.tail_cons, List.length_cons, Nat.add_sub_cancel, List.take_length]
section
variable {P : Program} {w : World} {K : PySem.W.Frag} {mg : Str → Option Value} {base : Heap} {f : Addr} {fd : FuncData}
theorem no_count {k : Nat} : FnOk P w K mg base CX0 k f fd ["term"] (spCount 0) := by
  have no : ∀ vs H Q E, ¬ spCount 0 vs H Q E := fun vs H Q E h => by
    obtain ⟨v, k, _, h, _⟩ := h
    cases h with
    | ex _ hd => exact absurd hd (Nat.not_le.mpr (Ex.deep_pos _))
    | ts _ hd => exact absurd hd (Nat.not_le.mpr (Ts.dp_pos _))
  exact ⟨fun vs H Q E h => absurd h (no vs H Q E), fun A outer s H args us vs Q E _ _ _ _ h => absurd h (no vs H Q E)⟩
theorem ok_count {n : Nat} (O : Own mg) (F : Fun K "count_terms" "count_terms" sCount f fd) (G : FnOk P w K mg base CX0 (n + 1) f fd ["term"] (spCount n)) (bG : Binds K fd ["term"] []) (mG : mg "count_terms" = some (.ref f)) :
    FnOk P w K mg base CX0 (n + 2) f fd ["term"] (spCount (n + 1)) := by
  refine F.ok scCount (fun vs H Q E h => ?_) (fun cdv A outer s H vs Q E hr h => ?_)
  · obtain ⟨v, k, rfl, _⟩ := h
    rfl
  obtain ⟨v, k, rfl, h, q⟩ := h
  obtain ⟨a, z, xs, os, rfl, ha, hp, hk, h2⟩ := h.open
  refine ⟨_, pss_one (ps_ret (pe_op op_add pe_int (pe_callB (cr_sum rfl) rfl O.sum (by decide +kernel) (pa_cons (pe_lc (own := [("part", 1)]) (g := gName 1) rfl scCount.nd
    (pi_tup (pe_slice sl_tup (pv 0) (po_some pe_int) po_none)) (blkOk_by (N := ["term", "part"]) (sc := defScope sCount) (by decide +kernel))
    (fun _ _ _ _ _ => pg_name (i := 1) scCount.nd rfl (Or.inl rfl)) (fun _ _ _ _ _ => pts_one (pt_val (pe_callB (show CallR _ (.builtin "isinstance") (rIsi K) from call_isi) rfl O.isi (by decide +kernel) (pa_cons (pv 1) (pa_cons (pe_bltn (v := .ty "tuple") rfl O.tuple (by decide +kernel) rfl) pa_nil)))))
    (fun _ _ _ _ _ => pe_call G hr rfl mG F.kp bG .nil pass0 (pa_cons (pv 1) pa_nil))) pa_nil)))), ?_⟩
  have hz : (z :: xs).length ≤ sizeLine := by
    have e : sizeLine = 16777216 := sizeLine_eq
    rw [List.length_cons]
    omega
  refine ⟨_, rfl, 1, rfl, a, _, rfl, SqT.of ha, (by show ¬ (1 = 0 ∧ _); omega), fun p hp2 => ⟨p, rfl, ⟨_, SqT.of upd_same⟩, fun C hC => ?_⟩⟩
  rw [cut1] at hC ⊢
  have s1 := same_new hp2 (.tup xs)
  have hl := paired_len hp
  refine turns_tup (K := K) (a := p) (xs := xs) (os.map fun o => o.map fun n : Nat => V.int n) hC (fun Hc sm => SqT.of (sm _ _ upd_same)) (by rw [List.length_map]; exact hl.symm) (by rw [List.length_cons] at hz; omega) ?_ ?_
  · intro i x o Hc Y N hx ho sm hY hN
    refine ⟨rfl, ?_⟩
    obtain ⟨o', e1, e2⟩ : ∃ o', os[i]? = some o' ∧ o = o'.map fun n : Nat => V.int n := by
      rw [List.getElem?_map] at ho
      cases e : os[i]? with
      | none => rw [e] at ho; cases ho
      | some o' => rw [e] at ho; exact ⟨o', rfl, (Option.some.inj ho).symm⟩
    have pt : Part Hc n x o' := (paired_at hp hx e1).keep (Same.tups (s1.trans sm))
    cases o' with
    | none =>
      have e3 : ∃ t, TyX K Hc x t ∧ PySem.W.kitOne K t (.type "tuple") = some false := by
        cases pt with
        | int i => exact ⟨_, .base (.int i), kb "int" "tuple" false⟩
        | str y => exact ⟨_, .base (.str y), kb "str" "tuple" false⟩
      obtain ⟨t, h3, h4⟩ := e3
      exact ⟨_, rfl, x, _, t, _, false, rfl, .ty "tuple", h3, h4, _, rfl, hN e2 Hc same_refl⟩
    | some m =>
      obtain ⟨b, ys, rfl, hb⟩ := pt.ref
      exact ⟨_, rfl, .ref b, _, _, _, true, rfl, .ty "tuple", .base (.tup hb), kb "tuple" "tuple" true, _, rfl, _, rfl, _, m, rfl, pt, fun H4 s4 => hY _ e2 H4 s4⟩
  · intro Hc hc sm
    rw [fm_ints] at hc
    refine ⟨C, _, rfl, SqL.of hc, _, _, rfl, rfl, ?_⟩
    rw [sum_fm]
    have e : (1 : Int) + ((os.map fun o => o.getD 0).sum : Nat) = (k : Int) := by rw [hk]; omega
    show Q (.int (1 + ((os.map fun o => o.getD 0).sum : Nat))) Hc
    rw [e]
    exact q Hc (s1.trans sm)
theorem all_count (O : Own mg) (F : Fun K "count_terms" "count_terms" sCount f fd) (bG : Binds K fd ["term"] []) (mG : mg "count_terms" = some (.ref f)) : ∀ n : Nat, FnOk P w K mg base CX0 (n + 1) f fd ["term"] (spCount n)
  | 0 => no_count
  | n + 1 => ok_count O F (all_count O F bG mG n) bG mG
end
end Any
namespace Any
open L2 PySem PySem.Spec PyProof.Rows LamX NdefX
/-- a list or a tuple of names -/
def Nms (H : Hp) (b : Addr) (xs : List Str) : Prop := (H b = some (.lst (xs.map V.str)) ∨ H b = some (.tup (xs.map V.str)))
theorem Nms.keep {H H' : Hp} {b : Addr} {xs : List Str} (s : Same H H') (h : Nms H b xs) : Nms H' b xs := h.elim (fun h => .inl (s _ _ h)) (fun h => .inr (s _ _ h))
theorem Nms.seq {K : PySem.W.Frag} {H : Hp} {b : Addr} {xs : List Str} (h : Nms H b xs) : SqL K H b (xs.map V.str) ∨ SqT K H b (xs.map V.str) := h.elim (fun h => .inl (SqL.of h)) (fun h => .inr (SqT.of h))
theorem in_strs {x : Str} {xs : List Str} : inV (.str x) (xs.map V.str) = decide (x ∈ xs) := by
  unfold inV
  induction xs with
  | nil => rfl
  | cons y r ih =>
    rw [List.map_cons, List.any_cons, ih]
    by_cases e : y = x
    · subst e
      rw [decide_eq_true (List.mem_cons_self ..)]
      have e0 : eqV (.str y) (.str y) = true := by
        show decide (y = y) = true
        exact decide_eq_true rfl
      rw [e0]
      rfl
    · have e1 : eqV (.str y) (.str x) = false := by
        show decide (y = x) = false
        exact decide_eq_false e
      rw [e1, Bool.false_or]
      refine decide_eq_decide.mpr ⟨fun h => List.mem_cons_of_mem _ h, fun h => ?_⟩
      rcases List.mem_cons.mp h with h | h
      · exact absurd h.symm e
      · exact h
abbrev psF : List Str := ["thing", "boxes", "words", "deep"]
abbrev nmF : List Str := ["thing", "boxes", "words", "deep", "kind", "part"]
def spEF (n : Nat) : Sp := fun vs H Q _ => ∃ (v : V) (b wd : Addr) (e : Ex) (xs ws : List Str) (k : Nat), vs = [v, .ref b, .ref wd, .int k] ∧ ExAt H v e ∧ e.fit xs ws ∧ e.deep ≤ k ∧ k ≤ n ∧ Nms H b xs ∧ H wd = some (.tup (ws.map V.str)) ∧ ∀ H', Same H H' → Q (.bl true) H'
abbrev deedWords : List Str := ["plus", "less", "times", "over", "rest"]
theorem deed_in (d : Dd) : d.word ∈ deedWords := by cases d <;> decide
section
variable {P : Program} {w : World} {K : PySem.W.Frag} {mg : Str → Option Value} {base : Heap} {f rw' wi : Addr} {fd rd wid : FuncData}
theorem no_ef {k : Nat} : FnOk P w K mg base CX0 k f fd psF (spEF 0) := by
  have no : ∀ vs H Q E, ¬ spEF 0 vs H Q E := fun vs H Q E h => by
    obtain ⟨v, b, wd, e, xs, ws, k, _, _, _, h1, h2, _⟩ := h
    exact absurd (Nat.le_trans h1 h2) (Nat.not_le.mpr (Ex.deep_pos _))
  exact ⟨fun vs H Q E h => absurd h (no vs H Q E), fun A outer s H args us vs Q E _ _ _ _ h => absurd h (no vs H Q E)⟩
theorem ok_ef {n : Nat} (O : Own mg) (F : Fun K "expression_fits" "expression_fits" sExFits f fd) (G : FnOk P w K mg base CX0 (n + 3) f fd psF (spEF n)) (bG : Binds K fd psF []) (mG : mg "expression_fits" = some (.ref f))
    (R : FnOk P w K mg base CX0 1 rw' rd ["thing"] spRow) (bR : Binds K rd ["thing"] []) (kR : PySem.W.keepIn K (.ref rw') = true) (mR : mg "is_row" = some (.ref rw'))
    (WI : FnOk P w K mg base CX0 2 wi wid ["thing", "least", "most"] spWithin) (bW : Binds K wid ["thing", "least", "most"] []) (kW : PySem.W.keepIn K (.ref wi) = true) (mW : mg "is_within" = some (.ref wi))
    {DA : Addr} (mD : mg "DEEDS" = some (.ref DA)) (kD : KKeys K w DA deedWords) :
    FnOk P w K mg base CX0 (n + 4) f fd psF (spEF (n + 1)) := by
  refine F.ok scExFits (fun vs H Q E h => ?_) (fun cdv A outer s H vs Q E hr h => ?_)
  · obtain ⟨v, b, wd, e, xs, ws, k, rfl, _⟩ := h
    rfl
  obtain ⟨v, b, wd, e, xs, ws, k, rfl, hv, hf, hd, hk, hb, hw, q⟩ := h
  have hr1 := hr.mono (show 1 ≤ n + 3 by omega)
  have hr2 := hr.mono (show 2 ≤ n + 3 by omega)
  have k0 : ¬ (k : Int) = 0 := by have := e.deep_pos; omega
  refine ⟨_, pss_cons (ps_if (PW.pt (pw_or (pt_not (pt_val (pe_call R hr1 rfl mR kR bR .nil pass0 (pa_cons (pv 0) pa_nil)))) (pw_or1 (pt_cmpR op_eq (pv 3) pe_int (nomark _))))) (pss_one (ps_ret pe_bl)) pss_nil)
    (pss_cons (ps_set (i := 4) scExFits.nd rfl (Or.inl rfl) (pe_ix ix_tup (pv 0) pe_int (fun _ _ => rfl)))
    (pss_cons (ps_if (pt_cmpR op_eq (pv 4) pe_str (nomark _)) (pss_one (ps_ret (pe_and (pe_cmpR op_eq (pe_callB call_len_seq rfl O.len PySem.boot_len (pa_cons (pv 0) pa_nil)) pe_int (nomark _))
        (pe_one (pe_call WI hr2 rfl mW kW bW .nil pass0 (pa_cons (pe_ix ix_tup (pv 0) pe_int (fun _ _ => rfl)) (pa_cons pe_int (pa_cons pe_int pa_nil)))))))) pss_nil)
    (pss_cons (ps_if (pt_cmpR op_eq (pv 4) pe_str (nomark _)) (pss_one (ps_ret (pe_and (pe_cmpR op_eq (pe_callB call_len_seq rfl O.len PySem.boot_len (pa_cons (pv 0) pa_nil)) pe_int (nomark _))
        (pe_one (pe_cmpR op_in_seq (pe_ix ix_tup (pv 0) pe_int (fun _ _ => rfl)) (pv 1) (by rfl)))))) pss_nil)
    (pss_cons (ps_if (pt_cmpR op_in_seq (pv 4) (pe_callTy (call_listK rfl) rfl O.list (by decide +kernel) (pa_cons (pe_glob (v := .ref DA) rfl mD rfl) pa_nil)) (by rfl))
        (pss_one (ps_ret (pe_and (pe_cmpR op_eq (pe_callB call_len_seq rfl O.len PySem.boot_len (pa_cons (pv 0) pa_nil)) pe_int (nomark _))
          (pe_one (pe_callB (cr_all rfl) rfl O.all (by decide +kernel) (pa_cons (pe_lc (own := [("part", 5)]) (g := gName 5) (tt := tYes) rfl scExFits.nd
            (pi_tup (pe_slice sl_tup (pv 0) (po_some pe_int) po_none)) (blkOk_by (N := nmF) (sc := defScope sExFits) (by decide +kernel))
            (fun _ _ _ _ _ => pg_name (i := 5) scExFits.nd rfl (Or.inl rfl)) (fun _ _ _ _ _ => pts_nil)
            (fun _ _ _ _ _ => pe_call G hr rfl mG F.kp bG .nil pass0 (pa_cons (pv 5) (pa_cons (pv 1) (pa_cons (pv 2) (pa_cons (pe_op op_sub (pv 3) pe_int) pa_nil)))))) pa_nil)))))) pss_nil)
    (pss_one (ps_ret (pe_and (pe_cmpR op_eq (pe_callB call_len_seq rfl O.len PySem.boot_len (pa_cons (pv 0) pa_nil)) pe_int (nomark _)) (pe_one (pe_cmpR op_in_seq (pv 4) (pv 2) (by rfl)))))))))), ?_⟩
  have kk : decide (V.int (k : Int) = V.int 0) = false := decide_eq_false fun z => k0 (V.int.inj z)
  cases hv with
  | num h =>
    refine ⟨_, rfl, _, _, _, rfl, h, _, rfl, itF rfl ⟨_, rfl, rfl, _, rfl, itF kk ?_⟩⟩
    refine ⟨_, rfl, _, _, _, _, rfl, rfl, SqT.of h, atI_nat (j := 0) rfl, ?_⟩
    refine ⟨_, rfl, rfl, _, rfl, itT eq_str ?_⟩
    refine ⟨_, rfl, _, _, rfl, .inr (SqT.of h), rfl, _, rfl, itT rfl ?_⟩
    refine ⟨_, rfl, _, _, _, _, rfl, rfl, SqT.of h, atI_nat (j := 1) rfl, _, _, _, rfl, ?_⟩
    rename_i m
    have hf : 0 ≤ m ∧ m ≤ (999 : Int) := hf
    rw [decide_eq_true hf.1, decide_eq_true hf.2]
    exact q _ same_refl
  | box h =>
    refine ⟨_, rfl, _, _, _, rfl, h, _, rfl, itF rfl ⟨_, rfl, rfl, _, rfl, itF kk ?_⟩⟩
    refine ⟨_, rfl, _, _, _, _, rfl, rfl, SqT.of h, atI_nat (j := 0) rfl, ?_⟩
    refine ⟨_, rfl, rfl, _, rfl, itF (ne_str (by decide)) ?_⟩
    refine ⟨_, rfl, rfl, _, rfl, itT eq_str ?_⟩
    refine ⟨_, rfl, _, _, rfl, .inr (SqT.of h), rfl, _, rfl, itT rfl ?_⟩
    refine ⟨_, rfl, _, _, _, _, rfl, rfl, SqT.of h, atI_nat (j := 1) rfl, _, rfl, b, _, rfl, hb.seq, rfl, strs_flat _, ?_⟩
    have hf : _ ∈ xs := hf
    show Q (.bl (inV _ _)) H
    rw [in_strs, decide_eq_true hf]
    exact q _ same_refl
  | asked h =>
    refine ⟨_, rfl, _, _, _, rfl, h, _, rfl, itF rfl ⟨_, rfl, rfl, _, rfl, itF kk ?_⟩⟩
    refine ⟨_, rfl, _, _, _, _, rfl, rfl, SqT.of h, atI_nat (j := 0) rfl, ?_⟩
    refine ⟨_, rfl, rfl, _, rfl, itF (ne_str (by decide)) ?_⟩
    refine ⟨_, rfl, rfl, _, rfl, itF (ne_str (by decide)) ?_⟩
    refine ⟨_, rfl, DA, _, rfl, kD, fun p hp => ⟨p, _, rfl, .inl (SqL.of upd_same), rfl, rfl, _, rfl, itF rfl ?_⟩⟩
    have s1 := same_new hp (.lst (deedWords.map V.str))
    refine ⟨_, rfl, _, _, rfl, .inr (SqT.of (s1 _ _ h)), rfl, _, rfl, itT rfl ?_⟩
    refine ⟨_, rfl, _, rfl, wd, _, rfl, .inr (SqT.of (s1 _ _ hw)), rfl, strs_flat _, ?_⟩
    have hf : _ ∈ ws := hf
    show Q (.bl (inV _ _)) _
    rw [in_strs, decide_eq_true hf]
    exact q _ s1
  | told h =>
    refine ⟨_, rfl, _, _, _, rfl, h, _, rfl, itF rfl ⟨_, rfl, rfl, _, rfl, itF kk ?_⟩⟩
    refine ⟨_, rfl, _, _, _, _, rfl, rfl, SqT.of h, atI_nat (j := 0) rfl, ?_⟩
    refine ⟨_, rfl, rfl, _, rfl, itF (ne_str (by decide)) ?_⟩
    refine ⟨_, rfl, rfl, _, rfl, itF (ne_str (by decide)) ?_⟩
    refine ⟨_, rfl, DA, _, rfl, kD, fun p hp => ⟨p, _, rfl, .inl (SqL.of upd_same), rfl, rfl, _, rfl, itF rfl ?_⟩⟩
    have s1 := same_new hp (.lst (deedWords.map V.str))
    refine ⟨_, rfl, _, _, rfl, .inr (SqT.of (s1 _ _ h)), rfl, _, rfl, itT rfl ?_⟩
    refine ⟨_, rfl, _, rfl, wd, _, rfl, .inr (SqT.of (s1 _ _ hw)), rfl, strs_flat _, ?_⟩
    have hf : _ ∈ ws := hf
    show Q (.bl (inV _ _)) _
    rw [in_strs, decide_eq_true hf]
    exact q _ s1
  | op h h1 h2 =>
    rename_i a d x y l r
    have w1 : d.word ≠ "number" ∧ d.word ≠ "box" := by cases d <;> decide
    have hd : max l.deep r.deep + 1 ≤ k := hd
    refine ⟨_, rfl, _, _, _, rfl, h, _, rfl, itF rfl ⟨_, rfl, rfl, _, rfl, itF kk ?_⟩⟩
    refine ⟨_, rfl, _, _, _, _, rfl, rfl, SqT.of h, atI_nat (j := 0) rfl, ?_⟩
    refine ⟨_, rfl, rfl, _, rfl, itF (ne_str w1.1) ?_⟩
    refine ⟨_, rfl, rfl, _, rfl, itF (ne_str w1.2) ?_⟩
    refine ⟨_, rfl, DA, _, rfl, kD, fun p hp => ⟨p, _, rfl, .inl (SqL.of upd_same), rfl, rfl, _, rfl, itT ?_ ?_⟩⟩
    · show inV _ _ = true
      rw [in_strs]
      exact decide_eq_true (deed_in d)
    have s1 := same_new hp (.lst (deedWords.map V.str))
    refine ⟨_, rfl, _, _, rfl, .inr (SqT.of (s1 _ _ h)), rfl, _, rfl, itT rfl ?_⟩
    refine ⟨_, rfl, 1, rfl, a, _, rfl, SqT.of (s1 _ _ h), (by show ¬ (1 = 0 ∧ _); omega), fun p2 hp2 => ⟨p2, rfl, ⟨_, SqT.of upd_same⟩, fun C hC => ?_⟩⟩
    have s2 := s1.trans (same_new hp2 (.tup [x, y]))
    refine turns_tup (K := K) (a := p2) (xs := [x, y]) [some (.bl true), some (.bl true)] hC (fun Hc sm => SqT.of (sm _ _ upd_same)) rfl (by show 2 ≤ sizeLine; decide) ?_ ?_
    · intro i z o Hc Y N hx ho sm hY hN
      have s3 := s2.trans sm
      have ek : (k : Int) - 1 = ((k - 1 : Nat) : Int) := by omega
      match i, hx, ho with
      | 0, hx, ho =>
        cases hx
        cases ho
        exact ⟨rfl, _, rfl, _, rfl, _, rfl, _, rfl, _, _, rfl, rfl, x, b, wd, l, xs, ws, k - 1, (by rw [← ek]; rfl), h1.keep (Same.tups s3), hf.1, by omega, by omega, hb.keep s3, s3 _ _ hw, fun H4 s4 => hY _ rfl H4 s4⟩
      | 1, hx, ho =>
        cases hx
        cases ho
        exact ⟨rfl, _, rfl, _, rfl, _, rfl, _, rfl, _, _, rfl, rfl, y, b, wd, r, xs, ws, k - 1, (by rw [← ek]; rfl), h2.keep (Same.tups s3), hf.2, by omega, by omega, hb.keep s3, s3 _ _ hw, fun H4 s4 => hY _ rfl H4 s4⟩
    · intro Hc hc sm
      exact ⟨C, [true, true], rfl, SqL.of hc, q Hc (s2.trans sm)⟩
theorem all_ef (O : Own mg) (F : Fun K "expression_fits" "expression_fits" sExFits f fd) (bG : Binds K fd psF []) (mG : mg "expression_fits" = some (.ref f))
    (R : FnOk P w K mg base CX0 1 rw' rd ["thing"] spRow) (bR : Binds K rd ["thing"] []) (kR : PySem.W.keepIn K (.ref rw') = true) (mR : mg "is_row" = some (.ref rw'))
    (WI : FnOk P w K mg base CX0 2 wi wid ["thing", "least", "most"] spWithin) (bW : Binds K wid ["thing", "least", "most"] []) (kW : PySem.W.keepIn K (.ref wi) = true) (mW : mg "is_within" = some (.ref wi))
    {DA : Addr} (mD : mg "DEEDS" = some (.ref DA)) (kD : KKeys K w DA deedWords) : ∀ n : Nat, FnOk P w K mg base CX0 (n + 3) f fd psF (spEF n)
  | 0 => no_ef
  | n + 1 => ok_ef O F (all_ef O F bG mG R bR kR mR WI bW kW mW mD kD n) bG mG R bR kR mR WI bW kW mW mD kD
end
end Any
namespace Any
open L2 PySem PySem.Spec PyProof.Rows LamX NdefX
def spTF (n : Nat) : Sp := fun vs H Q _ => ∃ (v : V) (b wd : Addr) (e : Ts) (xs ws : List Str) (k : Nat), vs = [v, .ref b, .ref wd, .int k] ∧ TsAt H v e ∧ e.fit xs ws ∧ e.dp ≤ k ∧ k ≤ n ∧ k ≤ 6 ∧ Nms H b xs ∧ H wd = some (.tup (ws.map V.str)) ∧ ∀ H', Same H H' → Q (.bl true) H'
section
variable {P : Program} {w : World} {K : PySem.W.Frag} {mg : Str → Option Value} {base : Heap} {f ef rw' : Addr} {fd ed rd : FuncData}
theorem no_tf {k : Nat} : FnOk P w K mg base CX0 k f fd psF (spTF 0) := by
  have no : ∀ vs H Q E, ¬ spTF 0 vs H Q E := fun vs H Q E h => by
    obtain ⟨v, b, wd, e, xs, ws, k, _, _, _, h1, h2, _⟩ := h
    exact absurd (Nat.le_trans h1 h2) (Nat.not_le.mpr (Ts.dp_pos _))
  exact ⟨fun vs H Q E h => absurd h (no vs H Q E), fun A outer s H args us vs Q E _ _ _ _ h => absurd h (no vs H Q E)⟩
theorem ok_tf {n : Nat} (O : Own mg) (F : Fun K "test_fits" "test_fits" sTsFits f fd) (G : FnOk P w K mg base CX0 (n + 9) f fd psF (spTF n)) (bG : Binds K fd psF []) (mG : mg "test_fits" = some (.ref f))
    (R : FnOk P w K mg base CX0 1 rw' rd ["thing"] spRow) (bR : Binds K rd ["thing"] []) (kR : PySem.W.keepIn K (.ref rw') = true) (mR : mg "is_row" = some (.ref rw'))
    (GE : FnOk P w K mg base CX0 9 ef ed psF (spEF 6)) (bE : Binds K ed psF []) (kE : PySem.W.keepIn K (.ref ef) = true) (mE : mg "expression_fits" = some (.ref ef)) :
    FnOk P w K mg base CX0 (n + 10) f fd psF (spTF (n + 1)) := by
  refine F.ok scTsFits (fun vs H Q E h => ?_) (fun cdv A outer s H vs Q E hr h => ?_)
  · obtain ⟨v, b, wd, e, xs, ws, k, rfl, _⟩ := h
    rfl
  obtain ⟨v, b, wd, e, xs, ws, k, rfl, hv, hf, hd, hk, hk6, hb, hw, q⟩ := h
  have hr1 := hr.mono (show 1 ≤ n + 9 by omega)
  have hr9 := hr.mono (show 9 ≤ n + 9 by omega)
  have k0 : ¬ (k : Int) = 0 := by have := e.dp_pos; omega
  have two : 2 ≤ sizeLine := by decide
  have ek : (k : Int) - 1 = ((k - 1 : Nat) : Int) := by have := e.dp_pos; omega
  refine ⟨_, pss_cons (ps_if (PW.pt (pw_or (pt_not (pt_val (pe_call R hr1 rfl mR kR bR .nil pass0 (pa_cons (pv 0) pa_nil)))) (pw_or1 (pt_cmpR op_eq (pv 3) pe_int (nomark _))))) (pss_one (ps_ret pe_bl)) pss_nil)
    (pss_cons (ps_set (i := 4) scTsFits.nd rfl (Or.inl rfl) (pe_ix ix_tup (pv 0) pe_int (fun _ _ => rfl)))
    (pss_cons (ps_if (pt_cmpR op_in_seq (pv 4) (pe_tup (pa_cons pe_str (pa_cons pe_str pa_nil))) (by rfl))
        (pss_one (ps_ret (pe_and (pe_cmpR op_eq (pe_callB call_len_seq rfl O.len PySem.boot_len (pa_cons (pv 0) pa_nil)) pe_int (nomark _))
          (pe_one (pe_callB (cr_all rfl) rfl O.all (by decide +kernel) (pa_cons (pe_lc (own := [("part", 5)]) (g := gName 5) (tt := tYes) rfl scTsFits.nd
            (pi_tup (pe_slice sl_tup (pv 0) (po_some pe_int) po_none)) (blkOk_by (N := nmF) (sc := defScope sTsFits) (by decide +kernel))
            (fun _ _ _ _ _ => pg_name (i := 5) scTsFits.nd rfl (Or.inl rfl)) (fun _ _ _ _ _ => pts_nil)
            (fun _ _ _ _ _ => pe_call GE hr9 rfl mE kE bE .nil pass0 (pa_cons (pv 5) (pa_cons (pv 1) (pa_cons (pv 2) (pa_cons (pe_op op_sub (pv 3) pe_int) pa_nil)))))) pa_nil)))))) pss_nil)
    (pss_cons (ps_if (pt_cmpR op_eq (pv 4) pe_str (nomark _)) (pss_one (ps_ret (pe_and (pe_cmpR op_eq (pe_callB call_len_seq rfl O.len PySem.boot_len (pa_cons (pv 0) pa_nil)) pe_int (nomark _))
        (pe_one (pe_call G hr rfl mG F.kp bG .nil pass0 (pa_cons (pe_ix ix_tup (pv 0) pe_int (fun _ _ => rfl)) (pa_cons (pv 1) (pa_cons (pv 2) (pa_cons (pe_op op_sub (pv 3) pe_int) pa_nil))))))))) pss_nil)
    (pss_cons (ps_if (pt_cmpR op_in_seq (pv 4) (pe_tup (pa_cons pe_str (pa_cons pe_str pa_nil))) (by rfl))
        (pss_one (ps_ret (pe_and (pe_cmpR op_eq (pe_callB call_len_seq rfl O.len PySem.boot_len (pa_cons (pv 0) pa_nil)) pe_int (nomark _))
          (pe_one (pe_callB (cr_all rfl) rfl O.all (by decide +kernel) (pa_cons (pe_lc (own := [("part", 5)]) (g := gName 5) (tt := tYes) rfl scTsFits.nd
            (pi_tup (pe_slice sl_tup (pv 0) (po_some pe_int) po_none)) (blkOk_by (N := nmF) (sc := defScope sTsFits) (by decide +kernel))
            (fun _ _ _ _ _ => pg_name (i := 5) scTsFits.nd rfl (Or.inl rfl)) (fun _ _ _ _ _ => pts_nil)
            (fun _ _ _ _ _ => pe_call G hr rfl mG F.kp bG .nil pass0 (pa_cons (pv 5) (pa_cons (pv 1) (pa_cons (pv 2) (pa_cons (pe_op op_sub (pv 3) pe_int) pa_nil)))))) pa_nil)))))) pss_nil)
    (pss_one (ps_ret pe_bl)))))), ?_⟩
  have kk : decide (V.int (k : Int) = V.int 0) = false := decide_eq_false fun z => k0 (V.int.inj z)
  cases hv with
  | is h h1 h2 =>
    rename_i a x y l r
    have hd : max l.deep r.deep + 1 ≤ k := hd
    refine ⟨_, rfl, _, _, _, rfl, h, _, rfl, itF rfl ⟨_, rfl, rfl, _, rfl, itF kk ?_⟩⟩
    refine ⟨_, rfl, _, _, _, _, rfl, rfl, SqT.of h, atI_nat (j := 0) rfl, ?_⟩
    refine ⟨_, rfl, two, fun p hp => ⟨p, _, rfl, .inr (SqT.of upd_same), rfl, rfl, _, rfl, itT rfl ?_⟩⟩
    have s1 := same_new hp (.tup [.str "is", .str "below"])
    refine ⟨_, rfl, _, _, rfl, .inr (SqT.of (s1 _ _ h)), rfl, _, rfl, itT rfl ?_⟩
    refine ⟨_, rfl, 1, rfl, a, _, rfl, SqT.of (s1 _ _ h), (by show ¬ (1 = 0 ∧ _); omega), fun p2 hp2 => ⟨p2, rfl, ⟨_, SqT.of upd_same⟩, fun C hC => ?_⟩⟩
    have s2 := s1.trans (same_new hp2 (.tup [x, y]))
    refine turns_tup (K := K) (a := p2) (xs := [x, y]) [some (.bl true), some (.bl true)] hC (fun Hc sm => SqT.of (sm _ _ upd_same)) rfl two ?_ ?_
    · intro i z o Hc Y N hx ho sm hY hN
      have s3 := s2.trans sm
      match i, hx, ho with
      | 0, hx, ho =>
        cases hx
        cases ho
        exact ⟨rfl, _, rfl, _, rfl, _, rfl, _, rfl, _, _, rfl, rfl, x, b, wd, l, xs, ws, k - 1, (by rw [← ek]; rfl), h1.keep (Same.tups s3), hf.1, by omega, by omega, hb.keep s3, s3 _ _ hw, fun H4 s4 => hY _ rfl H4 s4⟩
      | 1, hx, ho =>
        cases hx
        cases ho
        exact ⟨rfl, _, rfl, _, rfl, _, rfl, _, rfl, _, _, rfl, rfl, y, b, wd, r, xs, ws, k - 1, (by rw [← ek]; rfl), h2.keep (Same.tups s3), hf.2, by omega, by omega, hb.keep s3, s3 _ _ hw, fun H4 s4 => hY _ rfl H4 s4⟩
    · intro Hc hc sm
      exact ⟨C, [true, true], rfl, SqL.of hc, q Hc (s2.trans sm)⟩
  | bel h h1 h2 =>
    rename_i a x y l r
    have hd : max l.deep r.deep + 1 ≤ k := hd
    refine ⟨_, rfl, _, _, _, rfl, h, _, rfl, itF rfl ⟨_, rfl, rfl, _, rfl, itF kk ?_⟩⟩
    refine ⟨_, rfl, _, _, _, _, rfl, rfl, SqT.of h, atI_nat (j := 0) rfl, ?_⟩
    refine ⟨_, rfl, two, fun p hp => ⟨p, _, rfl, .inr (SqT.of upd_same), rfl, rfl, _, rfl, itT rfl ?_⟩⟩
    have s1 := same_new hp (.tup [.str "is", .str "below"])
    refine ⟨_, rfl, _, _, rfl, .inr (SqT.of (s1 _ _ h)), rfl, _, rfl, itT rfl ?_⟩
    refine ⟨_, rfl, 1, rfl, a, _, rfl, SqT.of (s1 _ _ h), (by show ¬ (1 = 0 ∧ _); omega), fun p2 hp2 => ⟨p2, rfl, ⟨_, SqT.of upd_same⟩, fun C hC => ?_⟩⟩
    have s2 := s1.trans (same_new hp2 (.tup [x, y]))
    refine turns_tup (K := K) (a := p2) (xs := [x, y]) [some (.bl true), some (.bl true)] hC (fun Hc sm => SqT.of (sm _ _ upd_same)) rfl two ?_ ?_
    · intro i z o Hc Y N hx ho sm hY hN
      have s3 := s2.trans sm
      match i, hx, ho with
      | 0, hx, ho =>
        cases hx
        cases ho
        exact ⟨rfl, _, rfl, _, rfl, _, rfl, _, rfl, _, _, rfl, rfl, x, b, wd, l, xs, ws, k - 1, (by rw [← ek]; rfl), h1.keep (Same.tups s3), hf.1, by omega, by omega, hb.keep s3, s3 _ _ hw, fun H4 s4 => hY _ rfl H4 s4⟩
      | 1, hx, ho =>
        cases hx
        cases ho
        exact ⟨rfl, _, rfl, _, rfl, _, rfl, _, rfl, _, _, rfl, rfl, y, b, wd, r, xs, ws, k - 1, (by rw [← ek]; rfl), h2.keep (Same.tups s3), hf.2, by omega, by omega, hb.keep s3, s3 _ _ hw, fun H4 s4 => hY _ rfl H4 s4⟩
    · intro Hc hc sm
      exact ⟨C, [true, true], rfl, SqL.of hc, q Hc (s2.trans sm)⟩
  | nt h h1 =>
    rename_i a x t
    have hd : t.dp + 1 ≤ k := hd
    refine ⟨_, rfl, _, _, _, rfl, h, _, rfl, itF rfl ⟨_, rfl, rfl, _, rfl, itF kk ?_⟩⟩
    refine ⟨_, rfl, _, _, _, _, rfl, rfl, SqT.of h, atI_nat (j := 0) rfl, ?_⟩
    refine ⟨_, rfl, two, fun p hp => ⟨p, _, rfl, .inr (SqT.of upd_same), rfl, rfl, _, rfl, itF rfl ?_⟩⟩
    have s1 := same_new hp (.tup [.str "is", .str "below"])
    refine ⟨_, rfl, rfl, _, rfl, itT eq_str ?_⟩
    refine ⟨_, rfl, _, _, rfl, .inr (SqT.of (s1 _ _ h)), rfl, _, rfl, itT rfl ?_⟩
    exact ⟨_, rfl, _, _, _, _, rfl, rfl, SqT.of (s1 _ _ h), atI_nat (j := 1) rfl, _, rfl, _, rfl, _, rfl, _, _, rfl, rfl, x, b, wd, t, xs, ws, k - 1, (by rw [← ek]; rfl), h1.keep (Same.tups s1), hf, by omega, by omega, by omega, hb.keep s1, s1 _ _ hw, fun H4 s4 => q H4 (s1.trans s4)⟩
  | both h h1 h2 =>
    rename_i a x y l r
    have hd : max l.dp r.dp + 1 ≤ k := hd
    refine ⟨_, rfl, _, _, _, rfl, h, _, rfl, itF rfl ⟨_, rfl, rfl, _, rfl, itF kk ?_⟩⟩
    refine ⟨_, rfl, _, _, _, _, rfl, rfl, SqT.of h, atI_nat (j := 0) rfl, ?_⟩
    refine ⟨_, rfl, two, fun p hp => ⟨p, _, rfl, .inr (SqT.of upd_same), rfl, rfl, _, rfl, itF rfl ?_⟩⟩
    have s1 := same_new hp (.tup [.str "is", .str "below"])
    refine ⟨_, rfl, rfl, _, rfl, itF (ne_str (by decide)) ?_⟩
    refine ⟨_, rfl, two, fun p1 hp1 => ⟨p1, _, rfl, .inr (SqT.of upd_same), rfl, rfl, _, rfl, itT rfl ?_⟩⟩
    have s1 := s1.trans (same_new hp1 (.tup [.str "both", .str "either"]))
    refine ⟨_, rfl, _, _, rfl, .inr (SqT.of (s1 _ _ h)), rfl, _, rfl, itT rfl ?_⟩
    refine ⟨_, rfl, 1, rfl, a, _, rfl, SqT.of (s1 _ _ h), (by show ¬ (1 = 0 ∧ _); omega), fun p2 hp2 => ⟨p2, rfl, ⟨_, SqT.of upd_same⟩, fun C hC => ?_⟩⟩
    have s2 := s1.trans (same_new hp2 (.tup [x, y]))
    refine turns_tup (K := K) (a := p2) (xs := [x, y]) [some (.bl true), some (.bl true)] hC (fun Hc sm => SqT.of (sm _ _ upd_same)) rfl two ?_ ?_
    · intro i z o Hc Y N hx ho sm hY hN
      have s3 := s2.trans sm
      match i, hx, ho with
      | 0, hx, ho =>
        cases hx
        cases ho
        exact ⟨rfl, _, rfl, _, rfl, _, rfl, _, rfl, _, _, rfl, rfl, x, b, wd, l, xs, ws, k - 1, (by rw [← ek]; rfl), h1.keep (Same.tups s3), hf.1, by omega, by omega, by omega, hb.keep s3, s3 _ _ hw, fun H4 s4 => hY _ rfl H4 s4⟩
      | 1, hx, ho =>
        cases hx
        cases ho
        exact ⟨rfl, _, rfl, _, rfl, _, rfl, _, rfl, _, _, rfl, rfl, y, b, wd, r, xs, ws, k - 1, (by rw [← ek]; rfl), h2.keep (Same.tups s3), hf.2, by omega, by omega, by omega, hb.keep s3, s3 _ _ hw, fun H4 s4 => hY _ rfl H4 s4⟩
    · intro Hc hc sm
      exact ⟨C, [true, true], rfl, SqL.of hc, q Hc (s2.trans sm)⟩
  | either h h1 h2 =>
    rename_i a x y l r
    have hd : max l.dp r.dp + 1 ≤ k := hd
    refine ⟨_, rfl, _, _, _, rfl, h, _, rfl, itF rfl ⟨_, rfl, rfl, _, rfl, itF kk ?_⟩⟩
    refine ⟨_, rfl, _, _, _, _, rfl, rfl, SqT.of h, atI_nat (j := 0) rfl, ?_⟩
    refine ⟨_, rfl, two, fun p hp => ⟨p, _, rfl, .inr (SqT.of upd_same), rfl, rfl, _, rfl, itF rfl ?_⟩⟩
    have s1 := same_new hp (.tup [.str "is", .str "below"])
    refine ⟨_, rfl, rfl, _, rfl, itF (ne_str (by decide)) ?_⟩
    refine ⟨_, rfl, two, fun p1 hp1 => ⟨p1, _, rfl, .inr (SqT.of upd_same), rfl, rfl, _, rfl, itT rfl ?_⟩⟩
    have s1 := s1.trans (same_new hp1 (.tup [.str "both", .str "either"]))
    refine ⟨_, rfl, _, _, rfl, .inr (SqT.of (s1 _ _ h)), rfl, _, rfl, itT rfl ?_⟩
    refine ⟨_, rfl, 1, rfl, a, _, rfl, SqT.of (s1 _ _ h), (by show ¬ (1 = 0 ∧ _); omega), fun p2 hp2 => ⟨p2, rfl, ⟨_, SqT.of upd_same⟩, fun C hC => ?_⟩⟩
    have s2 := s1.trans (same_new hp2 (.tup [x, y]))
    refine turns_tup (K := K) (a := p2) (xs := [x, y]) [some (.bl true), some (.bl true)] hC (fun Hc sm => SqT.of (sm _ _ upd_same)) rfl two ?_ ?_
    · intro i z o Hc Y N hx ho sm hY hN
      have s3 := s2.trans sm
      match i, hx, ho with
      | 0, hx, ho =>
        cases hx
        cases ho
        exact ⟨rfl, _, rfl, _, rfl, _, rfl, _, rfl, _, _, rfl, rfl, x, b, wd, l, xs, ws, k - 1, (by rw [← ek]; rfl), h1.keep (Same.tups s3), hf.1, by omega, by omega, by omega, hb.keep s3, s3 _ _ hw, fun H4 s4 => hY _ rfl H4 s4⟩
      | 1, hx, ho =>
        cases hx
        cases ho
        exact ⟨rfl, _, rfl, _, rfl, _, rfl, _, rfl, _, _, rfl, rfl, y, b, wd, r, xs, ws, k - 1, (by rw [← ek]; rfl), h2.keep (Same.tups s3), hf.2, by omega, by omega, by omega, hb.keep s3, s3 _ _ hw, fun H4 s4 => hY _ rfl H4 s4⟩
    · intro Hc hc sm
      exact ⟨C, [true, true], rfl, SqL.of hc, q Hc (s2.trans sm)⟩
theorem all_tf (O : Own mg) (F : Fun K "test_fits" "test_fits" sTsFits f fd) (bG : Binds K fd psF []) (mG : mg "test_fits" = some (.ref f))
    (R : FnOk P w K mg base CX0 1 rw' rd ["thing"] spRow) (bR : Binds K rd ["thing"] []) (kR : PySem.W.keepIn K (.ref rw') = true) (mR : mg "is_row" = some (.ref rw'))
    (GE : FnOk P w K mg base CX0 9 ef ed psF (spEF 6)) (bE : Binds K ed psF []) (kE : PySem.W.keepIn K (.ref ef) = true) (mE : mg "expression_fits" = some (.ref ef)) : ∀ n : Nat, FnOk P w K mg base CX0 (n + 9) f fd psF (spTF n)
  | 0 => no_tf
  | n + 1 => ok_tf O F (all_tf O F bG mG R bR kR mR GE bE kE mE n) bG mG R bR kR mR GE bE kE mE
/-! ### is_expression, is_test -/
abbrev ps3 : List Str := ["thing", "boxes", "words"]
/-- an expression as point 4 has it, of these boxes and words -/
def Ex.right (xs ws : List Str) (e : Ex) : Prop := e.fit xs ws ∧ e.deep ≤ 5 ∧ e.cnt ≤ 16
def Ts.right (xs ws : List Str) (e : Ts) : Prop := e.fit xs ws ∧ e.dp ≤ 5 ∧ e.cnt ≤ 16
def spIsE : Sp := fun vs H Q _ => ∃ (v : V) (b wd : Addr) (e : Ex) (xs ws : List Str), vs = [v, .ref b, .ref wd] ∧ ExAt H v e ∧ e.right xs ws ∧ Nms H b xs ∧ H wd = some (.tup (ws.map V.str)) ∧ ∀ H', Same H H' → Q (.bl true) H'
def spIsT : Sp := fun vs H Q _ => ∃ (v : V) (b wd : Addr) (e : Ts) (xs ws : List Str), vs = [v, .ref b, .ref wd] ∧ TsAt H v e ∧ e.right xs ws ∧ Nms H b xs ∧ H wd = some (.tup (ws.map V.str)) ∧ ∀ H', Same H H' → Q (.bl true) H'
theorem ok_isE {ct : Addr} {cd : FuncData} (F : Fun K "is_expression" "is_expression" sIsExpr f fd) (GE : FnOk P w K mg base CX0 9 ef ed psF (spEF 6)) (bE : Binds K ed psF []) (kE : PySem.W.keepIn K (.ref ef) = true) (mE : mg "expression_fits" = some (.ref ef))
    (GC : FnOk P w K mg base CX0 7 ct cd ["term"] (spCount 6)) (bC : Binds K cd ["term"] []) (kC : PySem.W.keepIn K (.ref ct) = true) (mC : mg "count_terms" = some (.ref ct)) {t5 t16 : Tok} (m5 : mg "MOST_DEEP_TERM" = some (.int 5 t5)) (m16 : mg "MOST_TERMS" = some (.int 16 t16)) :
    FnOk P w K mg base CX0 10 f fd ps3 spIsE := by
  refine F.ok scIsExpr (fun vs H Q E h => ?_) (fun cdv A outer s H vs Q E hr h => ?_)
  · obtain ⟨v, b, wd, e, xs, ws, rfl, _⟩ := h
    rfl
  obtain ⟨v, b, wd, e, xs, ws, rfl, hv, ⟨hf, hd, hc⟩, hb, hw, q⟩ := h
  refine ⟨_, pss_one (ps_ret (pe_and (pe_call GE hr rfl mE kE bE .nil pass0 (pa_cons (pv 0) (pa_cons (pv 1) (pa_cons (pv 2) (pa_cons (pe_glob (v := .int 5) rfl m5 ⟨_, rfl⟩) pa_nil)))))
    (pe_one (pe_cmpR op_le (pe_call GC (hr.mono (by decide)) rfl mC kC bC .nil pass0 (pa_cons (pv 0) pa_nil)) (pe_glob (v := .int 16) rfl m16 ⟨_, rfl⟩) (nomark _))))), ?_⟩
  refine ⟨_, rfl, _, rfl, _, rfl, v, b, wd, e, xs, ws, 5, rfl, hv, hf, hd, by decide, hb, hw, fun H1 s1 => ⟨_, rfl, ?_⟩⟩
  refine ⟨_, rfl, v, _, rfl, .ex (hv.keep (Same.tups s1)) (by omega), fun H2 s2 => ⟨_, _, rfl, rfl, ?_⟩⟩
  show Q (.bl (decide ((e.cnt : Int) ≤ 16))) H2
  rw [decide_eq_true (by omega)]
  exact q H2 (s1.trans s2)
theorem ok_isT {tf ct : Addr} {td cd : FuncData} (F : Fun K "is_test" "is_test" sIsTest f fd) (GE : FnOk P w K mg base CX0 15 tf td psF (spTF 6)) (bE : Binds K td psF []) (kE : PySem.W.keepIn K (.ref tf) = true) (mE : mg "test_fits" = some (.ref tf))
    (GC : FnOk P w K mg base CX0 7 ct cd ["term"] (spCount 6)) (bC : Binds K cd ["term"] []) (kC : PySem.W.keepIn K (.ref ct) = true) (mC : mg "count_terms" = some (.ref ct)) {t5 t16 : Tok} (m5 : mg "MOST_DEEP_TERM" = some (.int 5 t5)) (m16 : mg "MOST_TERMS" = some (.int 16 t16)) :
    FnOk P w K mg base CX0 16 f fd ps3 spIsT := by
  refine F.ok scIsTest (fun vs H Q E h => ?_) (fun cdv A outer s H vs Q E hr h => ?_)
  · obtain ⟨v, b, wd, e, xs, ws, rfl, _⟩ := h
    rfl
  obtain ⟨v, b, wd, e, xs, ws, rfl, hv, ⟨hf, hd, hc⟩, hb, hw, q⟩ := h
  refine ⟨_, pss_one (ps_ret (pe_and (pe_call GE hr rfl mE kE bE .nil pass0 (pa_cons (pv 0) (pa_cons (pv 1) (pa_cons (pv 2) (pa_cons (pe_glob (v := .int 5) rfl m5 ⟨_, rfl⟩) pa_nil)))))
    (pe_one (pe_cmpR op_le (pe_call GC (hr.mono (by decide)) rfl mC kC bC .nil pass0 (pa_cons (pv 0) pa_nil)) (pe_glob (v := .int 16) rfl m16 ⟨_, rfl⟩) (nomark _))))), ?_⟩
  refine ⟨_, rfl, _, rfl, _, rfl, v, b, wd, e, xs, ws, 5, rfl, hv, hf, hd, by decide, by decide, hb, hw, fun H1 s1 => ⟨_, rfl, ?_⟩⟩
  refine ⟨_, rfl, v, _, rfl, .ts (hv.keep (Same.tups s1)) (by omega), fun H2 s2 => ⟨_, _, rfl, rfl, ?_⟩⟩
  show Q (.bl (decide ((e.cnt : Int) ≤ 16))) H2
  rw [decide_eq_true (by omega)]
  exact q H2 (s1.trans s2)
end
end Any
namespace Any
open L2 PySem PySem.Spec PyProof.Rows LamX NdefX
/-! ### steps and bodies -/
mutual
inductive Sg
  | set (x : Str) (e : Ex) | say (x : Str) (e : Ex) | hear (x : Str) | call (x r : Str) (e : Ex)
  | ifs (t : Ts) (a b : Bd) | fors (e : Ex) (m : Int) (a : Bd)
inductive Bd
  | nil | cons (s : Sg) (b : Bd)
end
def Bd.len : Bd → Nat
  | .nil => 0
  | .cons _ b => b.len + 1
mutual
/-- how many stand within one another -/
def Sg.dp : Sg → Nat
  | .ifs _ a b => max a.dp b.dp + 1
  | .fors _ _ a => a.dp + 1
  | .set _ _ => 1
  | .say _ _ => 1
  | .hear _ => 1
  | .call _ _ _ => 1
def Bd.dp : Bd → Nat
  | .nil => 0
  | .cons s b => max s.dp b.dp
end
mutual
/-- how many in all -/
def Sg.tot : Sg → Nat
  | .ifs _ a b => 1 + (a.tot + b.tot)
  | .fors _ _ a => 1 + a.tot
  | .set _ _ => 1
  | .say _ _ => 1
  | .hear _ => 1
  | .call _ _ _ => 1
def Bd.tot : Bd → Nat
  | .nil => 0
  | .cons s b => s.tot + b.tot
end
mutual
/-- as point 6 has them, of these boxes, words and rooms beneath -/
def Sg.ok (xs ws rs : List Str) : Sg → Prop
  | .set x e => x ∈ xs ∧ e.right xs ws
  | .say x e => x ∈ xs ∧ e.right xs ws
  | .hear x => x ∈ xs
  | .call x r e => x ∈ xs ∧ r ∈ rs ∧ e.right xs ws
  | .ifs t a b => t.right xs ws ∧ (a.ok xs ws rs ∧ a.len ≤ 12) ∧ (b.ok xs ws rs ∧ b.len ≤ 12)
  | .fors e m a => e.right xs ws ∧ (1 ≤ m ∧ m ≤ 9) ∧ (a.ok xs ws rs ∧ a.len ≤ 12)
def Bd.ok (xs ws rs : List Str) : Bd → Prop
  | .nil => True
  | .cons s b => s.ok xs ws rs ∧ b.ok xs ws rs
end
mutual
/-- a step in the heap -/
def SgAt (H : Hp) (v : V) : Sg → Prop
  | .set x e => ∃ a u, v = .ref a ∧ H a = some (.tup [.str "set", .str x, u]) ∧ ExAt H u e
  | .say x e => ∃ a u, v = .ref a ∧ H a = some (.tup [.str "say", .str x, u]) ∧ ExAt H u e
  | .hear x => ∃ a, v = .ref a ∧ H a = some (.tup [.str "hear", .str x])
  | .call x r e => ∃ a u, v = .ref a ∧ H a = some (.tup [.str "call", .str x, .str r, u]) ∧ ExAt H u e
  | .ifs t p q => ∃ a u b c vs us, v = .ref a ∧ H a = some (.tup [.str "if", u, .ref b, .ref c]) ∧ TsAt H u t ∧ H b = some (.tup vs) ∧ BdL H vs p ∧ H c = some (.tup us) ∧ BdL H us q
  | .fors e m p => ∃ a u b vs, v = .ref a ∧ H a = some (.tup [.str "for", u, .int m, .ref b]) ∧ ExAt H u e ∧ H b = some (.tup vs) ∧ BdL H vs p
/-- steps in the heap -/
def BdL (H : Hp) (vs : List V) : Bd → Prop
  | .nil => vs = []
  | .cons s b => ∃ v us, vs = v :: us ∧ SgAt H v s ∧ BdL H us b
end
/-- a body: a tuple of steps -/
def BdAt (H : Hp) (a : Addr) (b : Bd) : Prop := ∃ vs, H a = some (.tup vs) ∧ BdL H vs b
mutual
theorem SgAt.keep {H H' : Hp} (k : Tups H H') : ∀ (s : Sg) {v : V}, SgAt H v s → SgAt H' v s
  | .set x e, v, h => by
    unfold SgAt at h ⊢
    obtain ⟨a, u, h1, h2, h3⟩ := h
    exact ⟨a, u, h1, k _ _ h2, h3.keep k⟩
  | .say x e, v, h => by
    unfold SgAt at h ⊢
    obtain ⟨a, u, h1, h2, h3⟩ := h
    exact ⟨a, u, h1, k _ _ h2, h3.keep k⟩
  | .hear x, v, h => by
    unfold SgAt at h ⊢
    obtain ⟨a, h1, h2⟩ := h
    exact ⟨a, h1, k _ _ h2⟩
  | .call x r e, v, h => by
    unfold SgAt at h ⊢
    obtain ⟨a, u, h1, h2, h3⟩ := h
    exact ⟨a, u, h1, k _ _ h2, h3.keep k⟩
  | .ifs t p q, v, h => by
    unfold SgAt at h ⊢
    obtain ⟨a, u, b, c, vs, us, h1, h2, h3, h4, h5, h6, h7⟩ := h
    exact ⟨a, u, b, c, vs, us, h1, k _ _ h2, h3.keep k, k _ _ h4, BdL.keep k p h5, k _ _ h6, BdL.keep k q h7⟩
  | .fors e m p, v, h => by
    unfold SgAt at h ⊢
    obtain ⟨a, u, b, vs, h1, h2, h3, h4, h5⟩ := h
    exact ⟨a, u, b, vs, h1, k _ _ h2, h3.keep k, k _ _ h4, BdL.keep k p h5⟩
theorem BdL.keep {H H' : Hp} (k : Tups H H') : ∀ (b : Bd) {vs : List V}, BdL H vs b → BdL H' vs b
  | .nil, vs, h => by
    unfold BdL at h ⊢
    exact h
  | .cons s b, vs, h => by
    unfold BdL at h ⊢
    obtain ⟨v, us, h1, h2, h3⟩ := h
    exact ⟨v, us, h1, SgAt.keep k s h2, BdL.keep k b h3⟩
end
theorem BdL.len {H : Hp} : ∀ {b : Bd} {vs : List V}, BdL H vs b → vs.length = b.len
  | .nil, vs, h => by
    unfold BdL at h
    subst h
    rfl
  | .cons s b, vs, h => by
    unfold BdL at h
    obtain ⟨v, us, rfl, _, h3⟩ := h
    rw [List.length_cons, BdL.len h3]
    rfl
theorem Sg.dp_pos : ∀ s : Sg, 0 < s.dp
  | .set _ _ => by unfold Sg.dp; omega
  | .say _ _ => by unfold Sg.dp; omega
  | .hear _ => by unfold Sg.dp; omega
  | .call _ _ _ => by unfold Sg.dp; omega
  | .ifs _ _ _ => by unfold Sg.dp; omega
  | .fors _ _ _ => by unfold Sg.dp; omega
/-- the steps of a body, one by one -/
theorem BdL.at {H : Hp} {xs ws rs : List Str} {k : Nat} : ∀ {b : Bd} {vs : List V}, BdL H vs b → b.ok xs ws rs → b.dp ≤ k → ∀ {i : Nat} {v : V}, vs[i]? = some v → ∃ s, SgAt H v s ∧ s.ok xs ws rs ∧ s.dp ≤ k
  | .nil, vs, h, _, _, i, v, e => by
    unfold BdL at h
    subst h
    simp at e
  | .cons s b, vs, h, ho, hd, i, v, e => by
    unfold BdL at h
    unfold Bd.ok at ho
    unfold Bd.dp at hd
    obtain ⟨u, us, rfl, h2, h3⟩ := h
    cases i with
    | zero =>
      cases e
      exact ⟨s, h2, ho.1, by omega⟩
    | succ i => exact BdL.at h3 ho.2 (by omega) (i := i) e
theorem fm_true : ∀ us : List V, (us.map fun _ => some (V.bl true)).filterMap id = (us.map fun _ => true).map V.bl
  | [] => rfl
  | x :: r => by
    rw [List.map_cons, List.map_cons, List.map_cons, ← fm_true r]
    rfl
abbrev sBody : Stmt := top 32
abbrev sBFits : Stmt := top 33
abbrev sSFits : Stmt := top 34
abbrev sAll : Stmt := top 35
abbrev sWithinB : Stmt := top 36
abbrev ps4 : List Str := ["thing", "boxes", "words", "beneath"]
abbrev psB : List Str := ["thing", "boxes", "words", "beneath", "deep"]
abbrev psS : List Str := ["step", "boxes", "words", "beneath", "deep"]
abbrev nmB : List Str := ["thing", "boxes", "words", "beneath", "deep", "step"]
abbrev nmS : List Str := ["step", "boxes", "words", "beneath", "deep", "kind", "body"]
theorem scBody : FnScope ps4 ps4 (defScope sBody) := ⟨rfl, rfl, rfl, by decide +kernel, rfl, by decide +kernel, by decide +kernel⟩
theorem scBFits : FnScope nmB psB (defScope sBFits) := ⟨rfl, rfl, rfl, by decide +kernel, rfl, by decide +kernel, by decide +kernel⟩
theorem scSFits : FnScope nmS psS (defScope sSFits) := ⟨rfl, rfl, rfl, by decide +kernel, rfl, by decide +kernel, by decide +kernel⟩
def spBF (n : Nat) : Sp := fun vs H Q _ => ∃ (a b wd bn : Addr) (bd : Bd) (xs ws rs : List Str) (k : Nat), vs = [.ref a, .ref b, .ref wd, .ref bn, .int k] ∧ BdAt H a bd ∧ bd.ok xs ws rs ∧ bd.len ≤ 12 ∧ bd.dp ≤ k ∧ k ≤ n ∧
  Nms H b xs ∧ H wd = some (.tup (ws.map V.str)) ∧ Nms H bn rs ∧ ∀ H', Same H H' → Q (.bl true) H'
def spSF (n : Nat) : Sp := fun vs H Q _ => ∃ (v : V) (b wd bn : Addr) (sg : Sg) (xs ws rs : List Str) (k : Nat), vs = [v, .ref b, .ref wd, .ref bn, .int k] ∧ SgAt H v sg ∧ sg.ok xs ws rs ∧ sg.dp ≤ k ∧ k ≤ n ∧
  Nms H b xs ∧ H wd = some (.tup (ws.map V.str)) ∧ Nms H bn rs ∧ ∀ H', Same H H' → Q (.bl true) H'
section
variable {P : Program} {w : World} {K : PySem.W.Frag} {mg : Str → Option Value} {base : Heap} {f sf : Addr} {fd sd : FuncData}
theorem no_sf {k : Nat} : FnOk P w K mg base CX0 k f fd psS (spSF 0) := by
  have no : ∀ vs H Q E, ¬ spSF 0 vs H Q E := fun vs H Q E h => by
    obtain ⟨v, b, wd, bn, sg, xs, ws, rs, k, _, _, _, h1, h2, _⟩ := h
    exact absurd (Nat.le_trans h1 h2) (Nat.not_le.mpr (Sg.dp_pos _))
  exact ⟨fun vs H Q E h => absurd h (no vs H Q E), fun A outer s H args us vs Q E _ _ _ _ h => absurd h (no vs H Q E)⟩
theorem ok_bf {n j : Nat} (O : Own mg) (F : Fun K "body_fits" "body_fits" sBFits f fd) (G : FnOk P w K mg base CX0 j sf sd psS (spSF n)) (bG : Binds K sd psS []) (kG : PySem.W.keepIn K (.ref sf) = true) (mG : mg "step_fits" = some (.ref sf))
    {t12 : Tok} (m12 : mg "MOST_IN_BODY" = some (.int 12 t12)) : FnOk P w K mg base CX0 (j + 1) f fd psB (spBF n) := by
  refine F.ok scBFits (fun vs H Q E h => ?_) (fun cdv A outer s H vs Q E hr h => ?_)
  · obtain ⟨a, b, wd, bn, bd, xs, ws, rs, k, rfl, _⟩ := h
    rfl
  obtain ⟨a, b, wd, bn, bd, xs, ws, rs, k, rfl, ⟨us, ha, hB⟩, hok, hlen, hdp, hk, hb, hw, hbn, q⟩ := h
  have hl := hB.len
  refine ⟨_, pss_cons (ps_if (PW.pt (pw_or (pt_not (pt_val (pe_callB call_isi rfl O.isi (by decide +kernel) (pa_cons (pv 0) (pa_cons (pe_bltn (v := .ty "tuple") rfl O.tuple (by decide +kernel) rfl) pa_nil)))))
      (pw_or1 (pt_cmpR op_gt (pe_callB call_len_seq rfl O.len PySem.boot_len (pa_cons (pv 0) pa_nil)) (pe_glob (v := .int 12) rfl m12 ⟨_, rfl⟩) (nomark _))))) (pss_one (ps_ret pe_bl)) pss_nil)
    (pss_cons (ps_if (pt_cmpR op_eq (pv 4) pe_int (nomark _)) (pss_one (ps_ret (pe_cmpR op_eq (pe_callB call_len_seq rfl O.len PySem.boot_len (pa_cons (pv 0) pa_nil)) pe_int (nomark _)))) pss_nil)
    (pss_one (ps_ret (pe_callB (cr_all rfl) rfl O.all (by decide +kernel) (pa_cons (pe_lc (own := [("step", 5)]) (g := gName 5) (tt := tYes) rfl scBFits.nd
            (pi_tup (pv 0)) (blkOk_by (N := nmB) (sc := defScope sBFits) (by decide +kernel))
            (fun _ _ _ _ _ => pg_name (i := 5) scBFits.nd rfl (Or.inl rfl)) (fun _ _ _ _ _ => pts_nil)
            (fun _ _ _ _ _ => pe_call G hr rfl mG kG bG .nil pass0 (pa_cons (pv 5) (pa_cons (pv 1) (pa_cons (pv 2) (pa_cons (pv 3) (pa_cons (pv 4) pa_nil))))))) pa_nil))))), ?_⟩
  refine ⟨_, rfl, _, _, _, _, true, rfl, .ty "tuple", .base (.tup ha), kb "tuple" "tuple" true, _, rfl, itF rfl ?_⟩
  refine ⟨_, rfl, _, _, rfl, .inr (SqT.of ha), _, _, rfl, rfl, _, rfl, itF ?_ ?_⟩
  · show decide ((12 : Int) < (us.length : Nat)) = false
    exact decide_eq_false (by omega)
  refine ⟨_, rfl, rfl, _, rfl, ite2 (fun c => ?_) (fun c => ?_)⟩
  · have k0 : (k : Int) = 0 := V.int.inj (of_decide_eq_true c)
    have : bd.len = 0 := by
      cases bd with
      | nil => rfl
      | cons s b =>
        unfold Bd.dp at hdp
        have := s.dp_pos
        omega
    refine ⟨_, rfl, _, _, rfl, .inr (SqT.of ha), rfl, ?_⟩
    show Q (.bl (decide (V.int (us.length : Nat) = V.int 0))) H
    rw [show us.length = 0 by omega]
    exact q _ same_refl
  · refine ⟨_, rfl, a, rfl, ⟨_, SqT.of ha⟩, fun C hC => ?_⟩
    refine turns_tup (K := K) (a := a) (xs := us) (us.map fun _ => some (.bl true)) hC (fun Hc sm => SqT.of (sm _ _ ha)) (by rw [List.length_map]) (by have e : sizeLine = 16777216 := sizeLine_eq; omega) ?_ ?_
    · intro i z o Hc Y N hx ho sm hY hN
      have eo : o = some (.bl true) := by
        rw [List.getElem?_map, hx] at ho
        exact (Option.some.inj ho).symm
      obtain ⟨sg, h1, h2, h3⟩ := hB.at hok hdp hx
      exact ⟨rfl, _, rfl, _, rfl, _, rfl, _, rfl, _, rfl, z, b, wd, bn, sg, xs, ws, rs, k, rfl, h1.keep (Same.tups sm), h2, h3, hk, hb.keep sm, sm _ _ hw, hbn.keep sm, fun H4 s4 => hY _ eo H4 s4⟩
    · intro Hc hc sm
      rw [fm_true us] at hc
      refine ⟨C, _, rfl, SqL.of hc, ?_⟩
      rw [show (us.map fun _ => true).all id = true by rw [List.all_map]; exact List.all_eq_true.mpr fun _ _ => rfl]
      exact q Hc sm
end
end Any
namespace Any
open L2 PySem PySem.Spec PyProof.Rows LamX NdefX
section
variable {P : Program} {w : World} {K : PySem.W.Frag} {mg : Str → Option Value} {base : Heap} {f bf rw' wi ie it : Addr} {fd bfd rd wid ied itd : FuncData}
theorem in_true {Q : VK} {H : Hp} {x : Str} {xs : List Str} (h : x ∈ xs) (q : Q (.bl true) H) : Q (.bl (if false = true then !inV (.str x) (xs.map V.str) else inV (.str x) (xs.map V.str))) H := by
  show Q (.bl (inV _ _)) H
  rw [in_strs, decide_eq_true h]
  exact q
theorem in_eq {x : Str} {xs : List Str} (h : x ∈ xs) : (if false = true then !inV (.str x) (xs.map V.str) else inV (.str x) (xs.map V.str)) = true := by
  show inV _ _ = true
  rw [in_strs, decide_eq_true h]
theorem ok_sf {n : Nat} (O : Own mg) (F : Fun K "step_fits" "step_fits" sSFits f fd) (G : FnOk P w K mg base CX0 (2 * n + 18) bf bfd psB (spBF n)) (bG : Binds K bfd psB []) (kG : PySem.W.keepIn K (.ref bf) = true) (mG : mg "body_fits" = some (.ref bf))
    (R : FnOk P w K mg base CX0 1 rw' rd ["thing"] spRow) (bR : Binds K rd ["thing"] []) (kR : PySem.W.keepIn K (.ref rw') = true) (mR : mg "is_row" = some (.ref rw'))
    (WI : FnOk P w K mg base CX0 2 wi wid ["thing", "least", "most"] spWithin) (bW : Binds K wid ["thing", "least", "most"] []) (kW : PySem.W.keepIn K (.ref wi) = true) (mW : mg "is_within" = some (.ref wi))
    (IE : FnOk P w K mg base CX0 10 ie ied ps3 spIsE) (bIE : Binds K ied ps3 []) (kIE : PySem.W.keepIn K (.ref ie) = true) (mIE : mg "is_expression" = some (.ref ie))
    (IT : FnOk P w K mg base CX0 16 it itd ps3 spIsT) (bIT : Binds K itd ps3 []) (kIT : PySem.W.keepIn K (.ref it) = true) (mIT : mg "is_test" = some (.ref it)) :
    FnOk P w K mg base CX0 (2 * n + 19) f fd psS (spSF (n + 1)) := by
  refine F.ok scSFits (fun vs H Q E h => ?_) (fun cdv A outer s H vs Q E hr h => ?_)
  · obtain ⟨v, b, wd, bn, sg, xs, ws, rs, k, rfl, _⟩ := h
    rfl
  obtain ⟨v, b, wd, bn, sg, xs, ws, rs, k, rfl, hv, hok, hdp, hk, hb, hw, hbn, q⟩ := h
  have hrR := hr.mono (show 1 ≤ 2 * n + 18 by omega)
  have hrW := hr.mono (show 2 ≤ 2 * n + 18 by omega)
  have hrE := hr.mono (show 10 ≤ 2 * n + 18 by omega)
  have hrT := hr.mono (show 16 ≤ 2 * n + 18 by omega)
  have two : 2 ≤ sizeLine := by decide
  have ek : (k : Int) - 1 = ((k - 1 : Nat) : Int) := by have := sg.dp_pos; omega
  refine ⟨_, pss_cons (ps_if (pt_not (pt_val (pe_call R hrR rfl mR kR bR .nil pass0 (pa_cons (pv 0) pa_nil)))) (pss_one (ps_ret pe_bl)) pss_nil)
    (pss_cons (ps_set (i := 5) scSFits.nd rfl (Or.inl rfl) (pe_ix ix_tup (pv 0) pe_int (fun _ _ => rfl)))
    (pss_cons (ps_if (pt_cmpR op_eq (pv 5) pe_str (nomark _)) (pss_one (ps_ret (pe_and (pe_cmpR op_eq (pe_callB call_len_seq rfl O.len PySem.boot_len (pa_cons (pv 0) pa_nil)) pe_int (nomark _)) (pe_and (pe_call IT hrT rfl mIT kIT bIT .nil pass0 (pa_cons (pe_ix ix_tup (pv 0) pe_int (fun _ _ => rfl)) (pa_cons (pv 1) (pa_cons (pv 2) pa_nil)))) (pe_one (pe_callB (cr_all rfl) rfl O.all (by decide +kernel) (pa_cons (pe_lc (own := [("body", 6)]) (g := gName 6) (tt := tYes) rfl scSFits.nd
          (pi_tup (pe_slice sl_tup (pv 0) (po_some pe_int) po_none)) (blkOk_by (N := nmS) (sc := defScope sSFits) (by decide +kernel))
          (fun _ _ _ _ _ => pg_name (i := 6) scSFits.nd rfl (Or.inl rfl)) (fun _ _ _ _ _ => pts_nil) (fun _ _ _ _ _ => (pe_call G hr rfl mG kG bG .nil pass0 (pa_cons (pv 6) (pa_cons (pv 1) (pa_cons (pv 2) (pa_cons (pv 3) (pa_cons (pe_op op_sub (pv 4) pe_int) pa_nil)))))))) pa_nil))))))) pss_nil)
    (pss_cons (ps_if (pt_cmpR op_eq (pv 5) pe_str (nomark _)) (pss_one (ps_ret (pe_and (pe_cmpR op_eq (pe_callB call_len_seq rfl O.len PySem.boot_len (pa_cons (pv 0) pa_nil)) pe_int (nomark _)) (pe_and (pe_call IE hrE rfl mIE kIE bIE .nil pass0 (pa_cons (pe_ix ix_tup (pv 0) pe_int (fun _ _ => rfl)) (pa_cons (pv 1) (pa_cons (pv 2) pa_nil)))) (pe_and (pe_call WI hrW rfl mW kW bW .nil pass0 (pa_cons (pe_ix ix_tup (pv 0) pe_int (fun _ _ => rfl)) (pa_cons pe_int (pa_cons pe_int pa_nil)))) (pe_one (pe_call G hr rfl mG kG bG .nil pass0 (pa_cons (pe_ix ix_tup (pv 0) pe_int (fun _ _ => rfl)) (pa_cons (pv 1) (pa_cons (pv 2) (pa_cons (pv 3) (pa_cons (pe_op op_sub (pv 4) pe_int) pa_nil)))))))))))) pss_nil)
    (pss_cons (ps_if (pt_cmpR op_eq (pv 5) pe_str (nomark _)) (pss_one (ps_ret (pe_and (pe_cmpR op_eq (pe_callB call_len_seq rfl O.len PySem.boot_len (pa_cons (pv 0) pa_nil)) pe_int (nomark _)) (pe_and (pe_cmpR op_in_seq (pe_ix ix_tup (pv 0) pe_int (fun _ _ => rfl)) (pv 1) (by rfl)) (pe_and (pe_cmpR op_in_seq (pe_ix ix_tup (pv 0) pe_int (fun _ _ => rfl)) (pv 3) (by rfl)) (pe_one (pe_call IE hrE rfl mIE kIE bIE .nil pass0 (pa_cons (pe_ix ix_tup (pv 0) pe_int (fun _ _ => rfl)) (pa_cons (pv 1) (pa_cons (pv 2) pa_nil)))))))))) pss_nil)
    (pss_cons (ps_if (pt_cmpR op_eq (pv 5) pe_str (nomark _)) (pss_one (ps_ret (pe_and (pe_cmpR op_eq (pe_callB call_len_seq rfl O.len PySem.boot_len (pa_cons (pv 0) pa_nil)) pe_int (nomark _)) (pe_one (pe_cmpR op_in_seq (pe_ix ix_tup (pv 0) pe_int (fun _ _ => rfl)) (pv 1) (by rfl)))))) pss_nil)
    (pss_cons (ps_if (pt_cmpR op_in_seq (pv 5) (pe_tup (pa_cons pe_str (pa_cons pe_str pa_nil))) (by rfl)) (pss_one (ps_ret (pe_and (pe_cmpR op_eq (pe_callB call_len_seq rfl O.len PySem.boot_len (pa_cons (pv 0) pa_nil)) pe_int (nomark _)) (pe_and (pe_cmpR op_in_seq (pe_ix ix_tup (pv 0) pe_int (fun _ _ => rfl)) (pv 1) (by rfl)) (pe_one (pe_call IE hrE rfl mIE kIE bIE .nil pass0 (pa_cons (pe_ix ix_tup (pv 0) pe_int (fun _ _ => rfl)) (pa_cons (pv 1) (pa_cons (pv 2) pa_nil))))))))) pss_nil)
    (pss_one (ps_ret pe_bl)))))))), ?_⟩
  cases sg with
  | set x e =>
    unfold SgAt at hv
    unfold Sg.ok at hok
    obtain ⟨a, u, rfl, h, h1⟩ := hv
    refine ⟨_, rfl, _, _, _, rfl, h, _, rfl, itF rfl ?_⟩
    refine ⟨_, rfl, _, _, _, _, rfl, rfl, SqT.of h, atI_nat (j := 0) rfl, ?_⟩
    refine ⟨_, rfl, rfl, _, rfl, itF (ne_str (by decide)) ?_⟩
    refine ⟨_, rfl, rfl, _, rfl, itF (ne_str (by decide)) ?_⟩
    refine ⟨_, rfl, rfl, _, rfl, itF (ne_str (by decide)) ?_⟩
    refine ⟨_, rfl, rfl, _, rfl, itF (ne_str (by decide)) ?_⟩
    refine ⟨_, rfl, two, fun p hp => ⟨p, _, rfl, .inr (SqT.of upd_same), rfl, rfl, _, rfl, itT rfl ?_⟩⟩
    have s1 := same_new hp (.tup [.str "set", .str "say"])
    refine ⟨_, rfl, _, _, rfl, .inr (SqT.of (s1 _ _ h)), rfl, _, rfl, itT rfl ?_⟩
    refine ⟨_, rfl, _, _, _, _, rfl, rfl, SqT.of (s1 _ _ h), atI_nat (j := 1) rfl, _, rfl, b, _, rfl, (hb.keep s1).seq, rfl, strs_flat _, true, congrArg V.bl (in_eq hok.1), itT rfl ?_⟩
    exact ⟨_, rfl, _, _, _, _, rfl, rfl, SqT.of (s1 _ _ h), atI_nat (j := 2) rfl, _, rfl, _, rfl, u, b, wd, e, xs, ws, rfl, h1.keep (Same.tups s1), hok.2, hb.keep s1, s1 _ _ hw, fun H2 s2 => q H2 (s1.trans s2)⟩
  | say x e =>
    unfold SgAt at hv
    unfold Sg.ok at hok
    obtain ⟨a, u, rfl, h, h1⟩ := hv
    refine ⟨_, rfl, _, _, _, rfl, h, _, rfl, itF rfl ?_⟩
    refine ⟨_, rfl, _, _, _, _, rfl, rfl, SqT.of h, atI_nat (j := 0) rfl, ?_⟩
    refine ⟨_, rfl, rfl, _, rfl, itF (ne_str (by decide)) ?_⟩
    refine ⟨_, rfl, rfl, _, rfl, itF (ne_str (by decide)) ?_⟩
    refine ⟨_, rfl, rfl, _, rfl, itF (ne_str (by decide)) ?_⟩
    refine ⟨_, rfl, rfl, _, rfl, itF (ne_str (by decide)) ?_⟩
    refine ⟨_, rfl, two, fun p hp => ⟨p, _, rfl, .inr (SqT.of upd_same), rfl, rfl, _, rfl, itT rfl ?_⟩⟩
    have s1 := same_new hp (.tup [.str "set", .str "say"])
    refine ⟨_, rfl, _, _, rfl, .inr (SqT.of (s1 _ _ h)), rfl, _, rfl, itT rfl ?_⟩
    refine ⟨_, rfl, _, _, _, _, rfl, rfl, SqT.of (s1 _ _ h), atI_nat (j := 1) rfl, _, rfl, b, _, rfl, (hb.keep s1).seq, rfl, strs_flat _, true, congrArg V.bl (in_eq hok.1), itT rfl ?_⟩
    exact ⟨_, rfl, _, _, _, _, rfl, rfl, SqT.of (s1 _ _ h), atI_nat (j := 2) rfl, _, rfl, _, rfl, u, b, wd, e, xs, ws, rfl, h1.keep (Same.tups s1), hok.2, hb.keep s1, s1 _ _ hw, fun H2 s2 => q H2 (s1.trans s2)⟩
  | hear x =>
    unfold SgAt at hv
    unfold Sg.ok at hok
    obtain ⟨a, rfl, h⟩ := hv
    refine ⟨_, rfl, _, _, _, rfl, h, _, rfl, itF rfl ?_⟩
    refine ⟨_, rfl, _, _, _, _, rfl, rfl, SqT.of h, atI_nat (j := 0) rfl, ?_⟩
    refine ⟨_, rfl, rfl, _, rfl, itF (ne_str (by decide)) ?_⟩
    refine ⟨_, rfl, rfl, _, rfl, itF (ne_str (by decide)) ?_⟩
    refine ⟨_, rfl, rfl, _, rfl, itF (ne_str (by decide)) ?_⟩
    refine ⟨_, rfl, rfl, _, rfl, itT eq_str ?_⟩
    refine ⟨_, rfl, _, _, rfl, .inr (SqT.of (h)), rfl, _, rfl, itT rfl ?_⟩
    exact ⟨_, rfl, _, _, _, _, rfl, rfl, SqT.of h, atI_nat (j := 1) rfl, _, rfl, b, _, rfl, hb.seq, rfl, strs_flat _, in_true hok (q _ same_refl)⟩
  | call x r e =>
    unfold SgAt at hv
    unfold Sg.ok at hok
    obtain ⟨a, u, rfl, h, h1⟩ := hv
    refine ⟨_, rfl, _, _, _, rfl, h, _, rfl, itF rfl ?_⟩
    refine ⟨_, rfl, _, _, _, _, rfl, rfl, SqT.of h, atI_nat (j := 0) rfl, ?_⟩
    refine ⟨_, rfl, rfl, _, rfl, itF (ne_str (by decide)) ?_⟩
    refine ⟨_, rfl, rfl, _, rfl, itF (ne_str (by decide)) ?_⟩
    refine ⟨_, rfl, rfl, _, rfl, itT eq_str ?_⟩
    refine ⟨_, rfl, _, _, rfl, .inr (SqT.of (h)), rfl, _, rfl, itT rfl ?_⟩
    refine ⟨_, rfl, _, _, _, _, rfl, rfl, SqT.of h, atI_nat (j := 1) rfl, _, rfl, b, _, rfl, hb.seq, rfl, strs_flat _, true, congrArg V.bl (in_eq hok.1), itT rfl ?_⟩
    refine ⟨_, rfl, _, _, _, _, rfl, rfl, SqT.of h, atI_nat (j := 2) rfl, _, rfl, bn, _, rfl, hbn.seq, rfl, strs_flat _, true, congrArg V.bl (in_eq hok.2.1), itT rfl ?_⟩
    exact ⟨_, rfl, _, _, _, _, rfl, rfl, SqT.of h, atI_nat (j := 3) rfl, _, rfl, _, rfl, u, b, wd, e, xs, ws, rfl, h1, hok.2.2, hb, hw, fun H2 s2 => q H2 s2⟩
  | fors e m p =>
    unfold SgAt at hv
    unfold Sg.ok at hok
    obtain ⟨a, u, c, vs, rfl, h, h1, hc, h2⟩ := hv
    unfold Sg.dp at hdp
    refine ⟨_, rfl, _, _, _, rfl, h, _, rfl, itF rfl ?_⟩
    refine ⟨_, rfl, _, _, _, _, rfl, rfl, SqT.of h, atI_nat (j := 0) rfl, ?_⟩
    refine ⟨_, rfl, rfl, _, rfl, itF (ne_str (by decide)) ?_⟩
    refine ⟨_, rfl, rfl, _, rfl, itT eq_str ?_⟩
    refine ⟨_, rfl, _, _, rfl, .inr (SqT.of (h)), rfl, _, rfl, itT rfl ?_⟩
    refine ⟨_, rfl, _, _, _, _, rfl, rfl, SqT.of h, atI_nat (j := 1) rfl, _, rfl, _, rfl, u, b, wd, e, xs, ws, rfl, h1, hok.1, hb, hw, fun H2 s2 => ⟨_, rfl, itT rfl ?_⟩⟩
    refine ⟨_, rfl, _, _, _, _, rfl, rfl, SqT.of (s2 _ _ h), atI_nat (j := 2) rfl, m, 1, 9, rfl, ?_⟩
    rw [decide_eq_true hok.2.1.1, decide_eq_true hok.2.1.2]
    refine ⟨_, rfl, itT rfl ?_⟩
    exact ⟨_, rfl, _, _, _, _, rfl, rfl, SqT.of (s2 _ _ h), atI_nat (j := 3) rfl, _, rfl, _, rfl, _, rfl, _, rfl, _, _, rfl, rfl, c, b, wd, bn, p, xs, ws, rs, k - 1, (by rw [← ek]; rfl), ⟨vs, s2 _ _ hc, h2.keep (Same.tups s2)⟩, hok.2.2.1, hok.2.2.2, by omega, by omega, hb.keep s2, s2 _ _ hw, hbn.keep s2, fun H3 s3 => q H3 (s2.trans s3)⟩
  | ifs t p1 p2 =>
    unfold SgAt at hv
    unfold Sg.ok at hok
    obtain ⟨a, u, c, d, vs, us, rfl, h, h1, hc, h2, hd, h3⟩ := hv
    unfold Sg.dp at hdp
    refine ⟨_, rfl, _, _, _, rfl, h, _, rfl, itF rfl ?_⟩
    refine ⟨_, rfl, _, _, _, _, rfl, rfl, SqT.of h, atI_nat (j := 0) rfl, ?_⟩
    refine ⟨_, rfl, rfl, _, rfl, itT eq_str ?_⟩
    refine ⟨_, rfl, _, _, rfl, .inr (SqT.of (h)), rfl, _, rfl, itT rfl ?_⟩
    refine ⟨_, rfl, _, _, _, _, rfl, rfl, SqT.of h, atI_nat (j := 1) rfl, _, rfl, _, rfl, u, b, wd, t, xs, ws, rfl, h1, hok.1, hb, hw, fun H2 s2 => ⟨_, rfl, itT rfl ?_⟩⟩
    refine ⟨_, rfl, 2, rfl, a, _, rfl, SqT.of (s2 _ _ h), (by show ¬ (2 = 0 ∧ _); omega), fun z2 hz2 => ⟨z2, rfl, ⟨_, SqT.of upd_same⟩, fun C hC => ?_⟩⟩
    have s3 := s2.trans (same_new hz2 (.tup [.ref c, .ref d]))
    refine turns_tup (K := K) (a := z2) (xs := [.ref c, .ref d]) [some (.bl true), some (.bl true)] hC (fun Hc sm => SqT.of (sm _ _ upd_same)) rfl two ?_ ?_
    · intro i z o Hc Y N hx ho sm hY hN
      have s4 := s3.trans sm
      match i, hx, ho with
      | 0, hx, ho =>
        cases hx
        cases ho
        exact ⟨rfl, _, rfl, _, rfl, _, rfl, _, rfl, _, rfl, _, _, rfl, rfl, c, b, wd, bn, p1, xs, ws, rs, k - 1, (by rw [← ek]; rfl), ⟨vs, s4 _ _ hc, h2.keep (Same.tups s4)⟩, hok.2.1.1, hok.2.1.2, by omega, by omega, hb.keep s4, s4 _ _ hw, hbn.keep s4, fun H4 s5 => hY _ rfl H4 s5⟩
      | 1, hx, ho =>
        cases hx
        cases ho
        exact ⟨rfl, _, rfl, _, rfl, _, rfl, _, rfl, _, rfl, _, _, rfl, rfl, d, b, wd, bn, p2, xs, ws, rs, k - 1, (by rw [← ek]; rfl), ⟨us, s4 _ _ hd, h3.keep (Same.tups s4)⟩, hok.2.2.1, hok.2.2.2, by omega, by omega, hb.keep s4, s4 _ _ hw, hbn.keep s4, fun H4 s5 => hY _ rfl H4 s5⟩
    · intro Hc hc2 sm
      exact ⟨C, [true, true], rfl, SqL.of hc2, q Hc (s3.trans sm)⟩
theorem all_bf (O : Own mg) (F : Fun K "step_fits" "step_fits" sSFits f fd) (FB : Fun K "body_fits" "body_fits" sBFits bf bfd) (bS : Binds K fd psS []) (kS : PySem.W.keepIn K (.ref f) = true) (mS : mg "step_fits" = some (.ref f)) {t12 : Tok} (m12 : mg "MOST_IN_BODY" = some (.int 12 t12)) (bG : Binds K bfd psB []) (kG : PySem.W.keepIn K (.ref bf) = true) (mG : mg "body_fits" = some (.ref bf))
    (R : FnOk P w K mg base CX0 1 rw' rd ["thing"] spRow) (bR : Binds K rd ["thing"] []) (kR : PySem.W.keepIn K (.ref rw') = true) (mR : mg "is_row" = some (.ref rw'))
    (WI : FnOk P w K mg base CX0 2 wi wid ["thing", "least", "most"] spWithin) (bW : Binds K wid ["thing", "least", "most"] []) (kW : PySem.W.keepIn K (.ref wi) = true) (mW : mg "is_within" = some (.ref wi))
    (IE : FnOk P w K mg base CX0 10 ie ied ps3 spIsE) (bIE : Binds K ied ps3 []) (kIE : PySem.W.keepIn K (.ref ie) = true) (mIE : mg "is_expression" = some (.ref ie))
    (IT : FnOk P w K mg base CX0 16 it itd ps3 spIsT) (bIT : Binds K itd ps3 []) (kIT : PySem.W.keepIn K (.ref it) = true) (mIT : mg "is_test" = some (.ref it)) : ∀ n : Nat, FnOk P w K mg base CX0 (2 * n + 18) bf bfd psB (spBF n)
  | 0 => ok_bf O FB (no_sf (k := 17)) bS kS mS m12
  | n + 1 => ok_bf O FB (ok_sf O F (all_bf O F FB bS kS mS m12 bG kG mG R bR kR mR WI bW kW mW IE bIE kIE mIE IT bIT kIT mIT n) bG kG mG R bR kR mR WI bW kW mW IE bIE kIE mIE IT bIT kIT mIT) bS kS mS m12
end
end Any
namespace Any
open L2 PySem PySem.Spec PyProof.Rows LamX NdefX
def Bd.toL : Bd → List Sg
  | .nil => []
  | .cons s b => s :: b.toL
def Sg.subs : Sg → List Bd
  | .ifs _ a b => [a, b]
  | .fors _ _ a => [a]
  | _ => []
theorem BdL.paired {H : Hp} : ∀ {b : Bd} {vs : List V}, BdL H vs b → Paired (SgAt H) vs b.toL
  | .nil, vs, h => by
    unfold BdL at h
    subst h
    exact .nil
  | .cons s b, vs, h => by
    unfold BdL at h
    obtain ⟨v, us, rfl, h2, h3⟩ := h
    exact .cons h2 h3.paired
theorem Bd.tot_eq : ∀ b : Bd, b.tot = (b.toL.map Sg.tot).sum
  | .nil => by unfold Bd.tot; rfl
  | .cons s b => by
    unfold Bd.tot
    rw [b.tot_eq]
    show _ = ((s :: b.toL).map Sg.tot).sum
    rw [List.map_cons, List.sum_cons]
theorem Sg.tot_eq : ∀ s : Sg, s.tot = 1 + (s.subs.map Bd.tot).sum
  | .set _ _ => by unfold Sg.tot; rfl
  | .say _ _ => by unfold Sg.tot; rfl
  | .hear _ => by unfold Sg.tot; rfl
  | .call _ _ _ => by unfold Sg.tot; rfl
  | .ifs _ a b => by
    unfold Sg.tot
    show _ = 1 + (a.tot + (b.tot + 0))
    omega
  | .fors _ _ a => by
    unfold Sg.tot
    show _ = 1 + (a.tot + 0)
    omega
theorem Bd.dp_mem : ∀ {b : Bd} {s : Sg}, s ∈ b.toL → s.dp ≤ b.dp
  | .nil, s, h => by cases h
  | .cons t b, s, h => by
    unfold Bd.dp
    rcases List.mem_cons.mp h with h | h
    · subst h; omega
    · have := Bd.dp_mem h; omega
theorem Sg.dp_mem : ∀ {s : Sg} {b : Bd}, b ∈ s.subs → b.dp + 1 ≤ s.dp
  | .set _ _, b, h => by cases h
  | .say _ _, b, h => by cases h
  | .hear _, b, h => by cases h
  | .call _ _ _, b, h => by cases h
  | .ifs _ p q, b, h => by
    unfold Sg.dp
    rcases List.mem_cons.mp h with h | h
    · subst h; omega
    · rcases List.mem_cons.mp h with h | h
      · subst h; omega
      · cases h
  | .fors _ _ p, b, h => by
    unfold Sg.dp
    rcases List.mem_cons.mp h with h | h
    · subst h; omega
    · cases h
theorem sum_take {α : Type} (f : α → Nat) {l : List α} {i : Nat} {x : α} (h : l[i]? = some x) : ((l.take (i + 1)).map f).sum = ((l.take i).map f).sum + f x := by
  rw [List.take_add_one, h, List.map_append, List.sum_append]
  show _ = _
  simp
theorem sum_take_le {α : Type} (f : α → Nat) : ∀ (l : List α) (i : Nat), ((l.take i).map f).sum ≤ (l.map f).sum
  | [], i => by simp
  | x :: l, 0 => by simp
  | x :: l, i + 1 => by
    have := sum_take_le f l i
    simp only [List.take_succ_cons, List.map_cons, List.sum_cons]
    omega
theorem paired_get {α β : Type} {R : α → β → Prop} : ∀ {xs : List α} {ys : List β}, Paired R xs ys → ∀ {i : Nat} {x : α}, xs[i]? = some x → ∃ y, ys[i]? = some y ∧ R x y
  | _, _, .nil, i, x, h => by simp at h
  | _, _, .cons r t, 0, x, h => by cases h; exact ⟨_, rfl, r⟩
  | _, _, .cons r t, i + 1, x, h => paired_get t (i := i) h
theorem scAll : FnScope ["body", "steps", "step", "inner"] ["body"] (defScope sAll) := ⟨rfl, rfl, rfl, by decide +kernel, rfl, by decide +kernel, by decide +kernel⟩
theorem scWB : FnScope ["step"] ["step"] (defScope sWithinB) := ⟨rfl, rfl, rfl, by decide +kernel, rfl, by decide +kernel, by decide +kernel⟩
def spWB : Sp := fun vs H Q _ => ∃ v sg, vs = [v] ∧ SgAt H v sg ∧ ∀ p as, H p = none → Paired (BdAt H) as sg.subs → Q (.ref p) (upd H p (.lst (as.map V.ref)))
def spAll (n : Nat) : Sp := fun vs H Q _ => ∃ a bd, vs = [.ref a] ∧ BdAt H a bd ∧ bd.dp < n ∧ bd.tot ≤ 100000 ∧ ∀ p us H', H p = none → Same H H' → H' p = some (.lst us) → us.length = bd.tot → Q (.ref p) H'
section
variable {P : Program} {w : World} {K : PySem.W.Frag} {mg : Str → Option Value} {base : Heap} {f wb : Addr} {fd wbd : FuncData}
theorem ok_wb (F : Fun K "bodies_within" "bodies_within" sWithinB f fd) : FnOk P w K mg base CX0 1 f fd ["step"] spWB := by
  refine F.ok scWB (fun vs H Q E h => ?_) (fun cdv A outer s H vs Q E hr h => ?_)
  · obtain ⟨v, sg, rfl, _⟩ := h
    rfl
  obtain ⟨v, sg, rfl, hv, q⟩ := h
  refine ⟨_, pss_cons (ps_if (pt_cmpR op_eq (pe_ix ix_tup (pv 0) pe_int (fun _ _ => rfl)) pe_str (nomark _)) (pss_one (ps_ret (pe_lst (pa_cons (pe_ix ix_tup (pv 0) pe_int (fun _ _ => rfl)) (pa_cons (pe_ix ix_tup (pv 0) pe_int (fun _ _ => rfl)) pa_nil))))) pss_nil)
    (pss_cons (ps_if (pt_cmpR op_eq (pe_ix ix_tup (pv 0) pe_int (fun _ _ => rfl)) pe_str (nomark _)) (pss_one (ps_ret (pe_lst (pa_cons (pe_ix ix_tup (pv 0) pe_int (fun _ _ => rfl)) pa_nil)))) pss_nil)
    (pss_one (ps_ret (pe_lst pa_nil)))), ?_⟩
  cases sg with
  | set x e =>
    unfold SgAt at hv
    obtain ⟨a, u, rfl, h, h1⟩ := hv
    refine ⟨_, rfl, _, _, _, _, rfl, rfl, SqT.of h, atI_nat (j := 0) rfl, rfl, _, rfl, itF (ne_str (by decide)) ?_⟩
    refine ⟨_, rfl, _, _, _, _, rfl, rfl, SqT.of h, atI_nat (j := 0) rfl, rfl, _, rfl, itF (ne_str (by decide)) ?_⟩
    exact ⟨by decide, fun p hp => q p [] hp .nil⟩
  | say x e =>
    unfold SgAt at hv
    obtain ⟨a, u, rfl, h, h1⟩ := hv
    refine ⟨_, rfl, _, _, _, _, rfl, rfl, SqT.of h, atI_nat (j := 0) rfl, rfl, _, rfl, itF (ne_str (by decide)) ?_⟩
    refine ⟨_, rfl, _, _, _, _, rfl, rfl, SqT.of h, atI_nat (j := 0) rfl, rfl, _, rfl, itF (ne_str (by decide)) ?_⟩
    exact ⟨by decide, fun p hp => q p [] hp .nil⟩
  | hear x =>
    unfold SgAt at hv
    obtain ⟨a, rfl, h⟩ := hv
    refine ⟨_, rfl, _, _, _, _, rfl, rfl, SqT.of h, atI_nat (j := 0) rfl, rfl, _, rfl, itF (ne_str (by decide)) ?_⟩
    refine ⟨_, rfl, _, _, _, _, rfl, rfl, SqT.of h, atI_nat (j := 0) rfl, rfl, _, rfl, itF (ne_str (by decide)) ?_⟩
    exact ⟨by decide, fun p hp => q p [] hp .nil⟩
  | call x r e =>
    unfold SgAt at hv
    obtain ⟨a, u, rfl, h, h1⟩ := hv
    refine ⟨_, rfl, _, _, _, _, rfl, rfl, SqT.of h, atI_nat (j := 0) rfl, rfl, _, rfl, itF (ne_str (by decide)) ?_⟩
    refine ⟨_, rfl, _, _, _, _, rfl, rfl, SqT.of h, atI_nat (j := 0) rfl, rfl, _, rfl, itF (ne_str (by decide)) ?_⟩
    exact ⟨by decide, fun p hp => q p [] hp .nil⟩
  | fors e m b =>
    unfold SgAt at hv
    obtain ⟨a, u, c, vs, rfl, h, h1, hc, h2⟩ := hv
    refine ⟨_, rfl, _, _, _, _, rfl, rfl, SqT.of h, atI_nat (j := 0) rfl, rfl, _, rfl, itF (ne_str (by decide)) ?_⟩
    refine ⟨_, rfl, _, _, _, _, rfl, rfl, SqT.of h, atI_nat (j := 0) rfl, rfl, _, rfl, itT eq_str ?_⟩
    exact ⟨_, rfl, _, _, _, _, rfl, rfl, SqT.of h, atI_nat (j := 3) rfl, (by show 1 ≤ sizeLine; decide), fun p hp => q p [c] hp (.cons ⟨vs, hc, h2⟩ .nil)⟩
  | ifs t b1 b2 =>
    unfold SgAt at hv
    obtain ⟨a, u, c, d, vs, us, rfl, h, h1, hc, h2, hd, h3⟩ := hv
    refine ⟨_, rfl, _, _, _, _, rfl, rfl, SqT.of h, atI_nat (j := 0) rfl, rfl, _, rfl, itT eq_str ?_⟩
    refine ⟨_, rfl, _, _, _, _, rfl, rfl, SqT.of h, atI_nat (j := 2) rfl, ?_⟩
    exact ⟨_, rfl, _, _, _, _, rfl, rfl, SqT.of h, atI_nat (j := 3) rfl, (by show 2 ≤ sizeLine; decide), fun p hp => q p [c, d] hp (.cons ⟨vs, hc, h2⟩ (.cons ⟨us, hd, h3⟩ .nil))⟩
theorem ok_all {n j : Nat} (F : Fun K "all_steps" "all_steps" sAll f fd) (G : FnOk P w K mg base CX0 (j + 1) f fd ["body"] (spAll n)) (bG : Binds K fd ["body"] []) (mG : mg "all_steps" = some (.ref f))
    (GW : FnOk P w K mg base CX0 1 wb wbd ["step"] spWB) (bW : Binds K wbd ["step"] []) (kW : PySem.W.keepIn K (.ref wb) = true) (mW : mg "bodies_within" = some (.ref wb)) :
    FnOk P w K mg base CX0 (j + 2) f fd ["body"] (spAll (n + 1)) := by
  refine F.ok scAll (fun vs H Q E h => ?_) (fun cdv A outer s H vs Q E hr h => ?_)
  · obtain ⟨a, bd, rfl, _⟩ := h
    rfl
  obtain ⟨a, bd, rfl, ⟨us, ha, hB⟩, hdp, htot, q⟩ := h
  refine ⟨_, pss_cons (ps_set (i := 1) scAll.nd rfl (Or.inl rfl) (pe_lst pa_nil))
    (pss_cons (ps_for PassesOwn.never rfl (pi_tup (pv 0)) (pg_name (i := 2) scAll.nd rfl (Or.inl rfl))
      (pss_cons (ps_expr (pe_bm PySem.F.plainAttrs_list PySem.F.slot_list_append PySem.F.type_list_append mt_append (pv 1) (pa_cons (pv 2) pa_nil)))
      (pss_one (ps_for PassesOwn.never rfl (pi_list (pe_call GW (hr.mono (by omega)) rfl mW kW bW .nil pass0 (pa_cons (pv 2) pa_nil))) (pg_name (i := 3) scAll.nd rfl (Or.inl rfl))
        (pss_one (ps_expr (pe_bm PySem.F.plainAttrs_list PySem.F.slot_list_extend PySem.F.type_list_extend mt_extend (pv 1) (pa_cons (pe_call G hr rfl mG F.kp bG .nil pass0 (pa_cons (pv 3) pa_nil)) pa_nil))))))))
    (pss_one (ps_ret (pv 1)))), ?_⟩
  refine ⟨by decide, fun L hL => ?_⟩
  have pr := hB.paired
  have hs : sizeLine = 16777216 := sizeLine_eq
  have tl := bd.tot_eq
  refine ⟨_, rfl, a, rfl, ⟨_, SqT.of (same_new hL _ _ _ ha)⟩, ?_⟩
  refine for_tup (K := K) (a := a) (xs := us) (fun i σ Hc => ∃ x y acc, σ = [some (.ref a), some (.ref L), x, y] ∧ Hc L = some (.lst acc) ∧ acc.length = ((bd.toL.take i).map Sg.tot).sum ∧ Same H Hc) ?_ ?_ ?_ ?_
  · exact ⟨_, _, [], rfl, upd_same, rfl, same_new hL _⟩
  · rintro i σ Hc _ ⟨x, y, acc, rfl, h1, h2, sm⟩
    exact SqT.of (sm _ _ ha)
  · rintro i v σ Hc hx ⟨x, y, acc, rfl, h1, h2, sm⟩
    obtain ⟨sg, hg, hv⟩ := paired_get pr hx
    have e1 := sum_take Sg.tot hg
    have e2 := sum_take_le Sg.tot bd.toL (i + 1)
    have e3 := sg.tot_eq
    have mem : sg ∈ bd.toL := List.mem_of_getElem? hg
    refine ⟨_, rfl, .inl ⟨rfl, _, SqL.of h1⟩, _, rfl, L, acc, v, rfl, rfl, h1, by omega, ?_⟩
    have sm1 : Same H (upd Hc L (.lst (acc ++ [v]))) := fun b o hb => by
      rw [upd_ne (ne_of_none hb hL)]
      exact sm _ _ hb
    have hv1 := hv.keep (Same.tups sm1)
    refine ⟨_, rfl, v, sg, rfl, hv1, fun p as hp pa => ⟨p, rfl, ⟨_, SqL.of upd_same⟩, ?_⟩⟩
    have pL : p ≠ L := fun z => by rw [z, upd_same] at hp; cases hp
    refine for_list (K := K) (a := p) (xs := as.map V.ref) (fun t σ Hd => ∃ y acc2, σ = [some (.ref a), some (.ref L), some v, y] ∧ Hd L = some (.lst acc2) ∧ acc2.length = acc.length + 1 + ((sg.subs.take t).map Bd.tot).sum ∧ Kept L Hc Hd ∧ Hd p = some (.lst (as.map V.ref))) ?_ ?_ ?_ ?_
    · refine ⟨_, acc ++ [v], rfl, ?_, ?_, ?_, upd_same⟩
      · rw [upd_ne (Ne.symm pL)]
        exact upd_same
      · rw [List.length_append]
        rfl
      · intro c o cL hc
        have hpn : Hc p = none := by rw [← hp, upd_ne pL]
        rw [upd_ne (ne_of_none hc hpn), upd_ne cL]
        exact hc
    · rintro t σ Hd _ ⟨y2, acc2, rfl, g1, g2, g3, g4⟩
      exact SqL.of g4
    · rintro t z σ Hd hz ⟨y2, acc2, rfl, g1, g2, g3, g4⟩
      rw [List.getElem?_map] at hz
      obtain ⟨b, hb, rfl⟩ : ∃ b, as[t]? = some b ∧ z = .ref b := by
        cases e : as[t]? with
        | none => rw [e] at hz; cases hz
        | some b => rw [e] at hz; exact ⟨b, rfl, (Option.some.inj hz).symm⟩
      obtain ⟨sb, hsb, hat⟩ := paired_get pa hb
      have f1 := sum_take Bd.tot hsb
      have f2 := sum_take_le Bd.tot sg.subs (t + 1)
      have d1 := Sg.dp_mem (List.mem_of_getElem? hsb)
      have d2 := Bd.dp_mem mem
      refine ⟨_, rfl, .inl ⟨rfl, _, SqL.of g1⟩, _, rfl, b, sb, rfl, ?_, by omega, by omega, fun p3 us3 H3 hp3 s3 h3 l3 => ?_⟩
      · obtain ⟨ws, w1, w2⟩ := hat
        have t1 : Tups (upd Hc L (.lst (acc ++ [v]))) Hd := fun c o hc => by
          by_cases cL : c = L
          · rw [cL, upd_same] at hc
            cases hc
          · rw [upd_ne cL] at hc
            exact g3 _ _ cL hc
        exact ⟨ws, t1 _ _ w1, w2.keep t1⟩
      refine ⟨L, p3, acc2, us3, rfl, rfl, s3 _ _ g1, h3, by omega, ?_⟩
      refine ⟨_, acc2 ++ us3, rfl, upd_same, by rw [List.length_append]; omega, fun c o cL hc => ?_, ?_⟩
      · rw [upd_ne cL]
        exact s3 _ _ (g3 _ _ cL hc)
      · rw [upd_ne pL]
        exact s3 _ _ g4
    · rintro σ Hd ⟨y2, acc2, rfl, g1, g2, g3, g4⟩
      have e4 := paired_len pa
      rw [List.length_map, e4, List.take_length] at g2
      exact ⟨_, _, acc2, rfl, g1, by omega, fun c o hc => g3 _ _ (ne_of_none hc hL) (sm _ _ hc)⟩
  · rintro σ Hc ⟨x, y, acc, rfl, h1, h2, sm⟩
    have e4 := paired_len pr
    rw [e4, List.take_length] at h2
    exact ⟨_, rfl, q L acc Hc hL sm h1 (by omega)⟩
theorem no_all {k : Nat} : FnOk P w K mg base CX0 k f fd ["body"] (spAll 0) := by
  have no : ∀ vs H Q E, ¬ spAll 0 vs H Q E := fun vs H Q E h => by
    obtain ⟨a, bd, _, _, h, _⟩ := h
    exact Nat.not_lt_zero _ h
  exact ⟨fun vs H Q E h => absurd h (no vs H Q E), fun A outer s H args us vs Q E _ _ _ _ h => absurd h (no vs H Q E)⟩
theorem all_all (F : Fun K "all_steps" "all_steps" sAll f fd) (bG : Binds K fd ["body"] []) (mG : mg "all_steps" = some (.ref f))
    (GW : FnOk P w K mg base CX0 1 wb wbd ["step"] spWB) (bW : Binds K wbd ["step"] []) (kW : PySem.W.keepIn K (.ref wb) = true) (mW : mg "bodies_within" = some (.ref wb)) : ∀ n : Nat, FnOk P w K mg base CX0 (n + 1) f fd ["body"] (spAll n)
  | 0 => no_all
  | n + 1 => ok_all F (all_all F bG mG GW bW kW mW n) bG mG GW bW kW mW
/-! ### is_body -/
/-- a body as point 6 has it -/
def Bd.right (xs ws rs : List Str) (b : Bd) : Prop := b.ok xs ws rs ∧ b.len ≤ 12 ∧ b.dp ≤ 4 ∧ b.tot ≤ 30
def spIsB : Sp := fun vs H Q _ => ∃ (a b wd bn : Addr) (bd : Bd) (xs ws rs : List Str), vs = [.ref a, .ref b, .ref wd, .ref bn] ∧ BdAt H a bd ∧ bd.right xs ws rs ∧ Nms H b xs ∧ H wd = some (.tup (ws.map V.str)) ∧ Nms H bn rs ∧ ∀ H', Same H H' → Q (.bl true) H'
theorem ok_isB {bf as : Addr} {bfd asd : FuncData} (O : Own mg) (F : Fun K "is_body" "is_body" sBody f fd) (GB : FnOk P w K mg base CX0 26 bf bfd psB (spBF 4)) (bB : Binds K bfd psB []) (kB : PySem.W.keepIn K (.ref bf) = true) (mB : mg "body_fits" = some (.ref bf))
    (GA : FnOk P w K mg base CX0 6 as asd ["body"] (spAll 5)) (bA : Binds K asd ["body"] []) (kA : PySem.W.keepIn K (.ref as) = true) (mA : mg "all_steps" = some (.ref as)) {t4 t30 : Tok} (m4 : mg "MOST_DEEP_STEP" = some (.int 4 t4)) (m30 : mg "MOST_STEPS" = some (.int 30 t30)) :
    FnOk P w K mg base CX0 27 f fd ps4 spIsB := by
  refine F.ok scBody (fun vs H Q E h => ?_) (fun cdv A outer s H vs Q E hr h => ?_)
  · obtain ⟨a, b, wd, bn, bd, xs, ws, rs, rfl, _⟩ := h
    rfl
  obtain ⟨a, b, wd, bn, bd, xs, ws, rs, rfl, hB, ⟨hok, hlen, hdp, htot⟩, hb, hw, hbn, q⟩ := h
  refine ⟨_, pss_one (ps_ret (pe_and (pe_call GB hr rfl mB kB bB .nil pass0 (pa_cons (pv 0) (pa_cons (pv 1) (pa_cons (pv 2) (pa_cons (pv 3) (pa_cons (pe_glob (v := .int 4) rfl m4 ⟨_, rfl⟩) pa_nil))))))
    (pe_one (pe_cmpR op_le (pe_callB call_len_seq rfl O.len PySem.boot_len (pa_cons (pe_call GA (hr.mono (by decide)) rfl mA kA bA .nil pass0 (pa_cons (pv 0) pa_nil)) pa_nil)) (pe_glob (v := .int 30) rfl m30 ⟨_, rfl⟩) (nomark _))))), ?_⟩
  refine ⟨_, rfl, _, rfl, _, rfl, _, rfl, a, b, wd, bn, bd, xs, ws, rs, 4, rfl, hB, hok, hlen, hdp, by decide, hb, hw, hbn, fun H1 s1 => ⟨_, rfl, ?_⟩⟩
  refine ⟨_, rfl, a, bd, rfl, ?_, by omega, by omega, fun p us H2 hp s2 h2 l2 => ?_⟩
  · obtain ⟨vs, h1, h2⟩ := hB
    exact ⟨vs, s1 _ _ h1, h2.keep (Same.tups s1)⟩
  refine ⟨p, us, rfl, .inl (SqL.of h2), _, _, rfl, rfl, ?_⟩
  show Q (.bl (decide ((us.length : Int) ≤ 30))) H2
  rw [decide_eq_true (by omega)]
  exact q H2 (s1.trans s2)
end
end Any
namespace Any
open L2 PySem PySem.Spec PyProof.Rows LamX NdefX
theorem scName : FnScope ["thing", "sign"] ["thing"] (defScope sName) := ⟨rfl, rfl, rfl, by decide +kernel, rfl, by decide +kernel, by decide +kernel⟩
abbrev keptWords : List Str := ["asked", "told", "not", "and", "or"]
abbrev letters : Str := "abcdefghijklmnopqrstuvwxyz"
/-- a name as point 2 has it -/
structure Nm (x : Str) : Prop where
  lo : 1 ≤ x.length
  hi : x.length ≤ 8
  kept : x ∉ keptWords
  low : ∀ c ∈ x.cps.toList, 97 ≤ c ∧ c ≤ 122
instance (x : Str) : Decidable (Nm x) := decidable_of_iff (1 ≤ x.length ∧ x.length ≤ 8 ∧ x ∉ keptWords ∧ ∀ c ∈ x.cps.toList, 97 ≤ c ∧ c ≤ 122) ⟨fun h => ⟨h.1, h.2.1, h.2.2.1, h.2.2.2⟩, fun h => ⟨h.lo, h.hi, h.kept, h.low⟩⟩
theorem letter_in {c : Nat} (h : 97 ≤ c ∧ c ≤ 122) : (!(Builtin.Str.occurrences letters ⟨#[c]⟩ 0 letters.length 1).isEmpty) = true := by
  obtain ⟨h1, h2⟩ := h
  obtain ⟨d, rfl⟩ : ∃ d, c = 97 + d := ⟨c - 97, by omega⟩
  have hd : d < 26 := by omega
  have all : ∀ d : Fin 26, (!(Builtin.Str.occurrences letters ⟨#[97 + d.val]⟩ 0 letters.length 1).isEmpty) = true := by decide +kernel
  exact all ⟨d, hd⟩
section
variable {g : TG} {tt : TT} {te : TE} {vs : List Nat} {σ : L2.St} {H1 : Hp} {D : Addr} {Qd : Hp → Prop}
theorem turns_str {x : Str} (gs : List (Option V)) (hD : H1 D = none) (hn : gs.length = x.cps.size) (hz : x.cps.size ≤ sizeLine) (hs : TurnF (x.cps.toList.map fun c => V.str ⟨#[c]⟩) gs g tt te vs σ H1)
    (hd : ∀ H, H D = some (.lst (gs.filterMap id)) → Same H1 H → Qd H) : Turns (Its x) g tt te vs σ H1 D Qd := by
  refine ⟨fun i m H => m = x.cps.size - i ∧ i ≤ x.cps.size ∧ H D = some (.lst ((gs.take i).filterMap id)) ∧ Same H1 H, ⟨_, rfl, Nat.zero_le _, upd_same, same_new hD _⟩, ?_⟩
  rintro i m H ⟨rfl, hi, hC, sm⟩
  by_cases lt : i < x.cps.size
  · obtain ⟨o, ho⟩ : ∃ o, gs[i]? = some o := ⟨gs[i]'(by omega), by simp [hn, lt]⟩
    refine .inr ⟨lt, fun H' => H' D = some (.lst ((gs.take (i + 1)).filterMap id)) ∧ Same H1 H', fun H' q => ⟨_, by omega, rfl, lt, q.1, q.2⟩, fun v H' y => ?_⟩
    obtain ⟨rfl, c, e, rfl⟩ := y
    have hx : (x.cps.toList.map fun c => V.str ⟨#[c]⟩)[i]? = some (V.str ⟨#[c]⟩) := by
      rw [List.getElem?_map, Array.getElem?_toList, e]
      rfl
    refine hs i _ o H' _ _ hx ho sm (fun y ey H4 s4 => ⟨_, s4 _ _ hC, ?_, ?_, fun b u hb => ?_⟩) (fun en H4 s4 => ⟨?_, sm.trans s4⟩)
    · have := fm_len (gs.take i)
      rw [List.length_take] at this
      omega
    · rw [upd_same, take_fm ho, ey]
      rfl
    · rw [upd_ne (ne_of_none hb hD)]
      exact s4 _ _ (sm _ _ hb)
    · rw [take_fm ho, en]
      show H4 D = some (.lst (_ ++ []))
      rw [List.append_nil]
      exact s4 _ _ hC
  · have e : i = x.cps.size := by omega
    subst e
    rw [← hn, List.take_length] at hC
    exact .inl ⟨Nat.le_refl _, hd H hC sm⟩
end
def spName : Sp := fun vs H Q _ => ∃ x, vs = [.str x] ∧ Nm x ∧ ∀ H', Same H H' → Q (.bl true) H'
section
variable {P : Program} {w : World} {K : PySem.W.Frag} {mg : Str → Option Value} {base : Heap} {f kw : Addr} {fd : FuncData}
theorem ok_name (O : Own mg) (F : Fun K "is_name" "is_name" sName f fd) (mk : mg "KEPT_WORDS" = some (.ref kw)) (hk : ∀ H, SqT K H kw (keptWords.map V.str)) {tl : Tok} (ml : mg "LETTERS" = some (.str letters tl)) :
    FnOk P w K mg base CX0 1 f fd ["thing"] spName := by
  refine F.ok scName (fun vs H Q E h => ?_) (fun cdv A outer s H vs Q E hr h => ?_)
  · obtain ⟨x, rfl, _⟩ := h
    rfl
  obtain ⟨x, rfl, hx, q⟩ := h
  have hs : sizeLine = 16777216 := sizeLine_eq
  have hlen : x.length ≤ sizeLine := by have := hx.hi; omega
  refine ⟨_, pss_cons (ps_if (PW.pt (pw_or (pt_not (pt_val (pe_callB call_isi rfl O.isi (by decide +kernel) (pa_cons (pv 0) (pa_cons (pe_bltn (v := .ty "str") rfl O.str (by decide +kernel) rfl) pa_nil)))))
      (pw_or1 (pt_not (pt_chain op_le op_le pe_int (pe_callB call_len_str rfl O.len PySem.boot_len (pa_cons (pv 0) pa_nil)) pe_int))))) (pss_one (ps_ret pe_bl)) pss_nil)
    (pss_one (ps_ret (pe_and (pe_cmpR op_notIn_seq (pv 0) (pe_glob (v := .ref kw) rfl mk rfl) (by rfl))
      (pe_one (pe_callB (cr_all rfl) rfl O.all (by decide +kernel) (pa_cons (pe_lc (own := [("sign", 1)]) (g := gName 1) (tt := tYes) rfl scName.nd
            (pi_str (pv 0)) (blkOk_by (N := ["thing", "sign"]) (sc := defScope sName) (by decide +kernel))
            (fun _ _ _ _ _ => pg_name (i := 1) scName.nd rfl (Or.inl rfl)) (fun _ _ _ _ _ => pts_nil)
            (fun _ _ _ _ _ => pe_cmpR op_in_str (pv 1) (pe_glob (v := .str letters) rfl ml ⟨_, rfl⟩) (by rfl))) pa_nil)))))), ?_⟩
  refine ⟨_, rfl, _, _, _, _, true, rfl, .ty "str", .base (.str x), kb "str" "str" true, _, rfl, itF rfl ?_⟩
  refine ⟨_, rfl, x, rfl, hlen, _, _, rfl, rfl, _, rfl, itT ?_ ⟨_, _, rfl, rfl, _, rfl, itF ?_ ?_⟩⟩
  · exact decide_eq_true (by have := hx.lo; omega)
  · show (!decide ((x.length : Int) ≤ 8)) = false
    rw [decide_eq_true (by have := hx.hi; omega)]
    rfl
  refine ⟨_, rfl, kw, _, rfl, .inr (hk H), rfl, strs_flat _, true, ?_, itT rfl ?_⟩
  · refine congrArg V.bl ?_
    show (!inV _ _) = true
    rw [in_strs, decide_eq_false hx.kept]
    rfl
  refine ⟨_, rfl, x, rfl, fun C hC => ?_⟩
  have el : (x.cps.toList.map fun c => V.str ⟨#[c]⟩).length = x.cps.size := by rw [List.length_map, Array.length_toList]
  refine turns_str ((x.cps.toList.map fun c => V.str ⟨#[c]⟩).map fun _ => some (.bl true)) hC (by rw [List.length_map, el]) hlen ?_ ?_
  · intro i z o Hc Y N hz ho sm hY hN
    have eo : o = some (.bl true) := by
      rw [List.getElem?_map, hz] at ho
      exact (Option.some.inj ho).symm
    rw [List.getElem?_map] at hz
    obtain ⟨c, hc, rfl⟩ : ∃ c, x.cps.toList[i]? = some c ∧ z = V.str ⟨#[c]⟩ := by
      cases e : x.cps.toList[i]? with
      | none => rw [e] at hz; cases hz
      | some c => rw [e] at hz; exact ⟨c, rfl, (Option.some.inj hz).symm⟩
    refine ⟨rfl, _, rfl, _, _, rfl, rfl, ?_⟩
    rw [letter_in (hx.low c (List.mem_of_getElem? hc))]
    exact hY _ eo Hc same_refl
  · intro Hc hc sm
    rw [fm_true] at hc
    refine ⟨C, _, rfl, SqL.of hc, ?_⟩
    rw [List.all_map, show ((x.cps.toList.map fun c => V.str ⟨#[c]⟩).all (id ∘ fun _ => true)) = true from List.all_eq_true.mpr fun _ _ => rfl]
    exact q Hc sm
end
end Any
namespace Any
open L2 PySem PySem.Spec PyProof.Rows LamX NdefX
/-! ### rooms -/
structure Rm where
  name : Str
  above : Str
  boxes : List (Str × Int × Int)
  sayings : List Ts
  ask : Option Int
  told : Option (Int × Ex)
  promise : Option Ts
  body : Bd
def roomF (n a b s k t p y : V) : List (Str × V) := [("name", n), ("above", a), ("boxes", b), ("sayings", s), ("ask", k), ("told", t), ("promise", p), ("body", y)]
theorem lk_hit {k : Str} {v : V} {r : List (Str × V)} : ((k, v) :: r).lookup k = some v := by
  rw [List.lookup_cons, beq_self_eq_true]
theorem lk_skip {k k' : Str} {v : V} {r : List (Str × V)} (h : (k == k') = false) : ((k', v) :: r).lookup k = r.lookup k := by
  rw [List.lookup_cons, h]
theorem put_new {f : Str} {v : V} : ∀ {fs : List (Str × V)}, (∀ p ∈ fs, ¬ p.1 = f) → putF f v fs = fs ++ [(f, v)]
  | [], _ => rfl
  | (k, u) :: r, h => by
    unfold putF
    rw [if_neg (h (k, u) (List.mem_cons_self ..)), put_new fun p hp => h p (List.mem_cons_of_mem _ hp)]
    rfl
section
variable {n a b s k t p y : V}
theorem rf_name : (roomF n a b s k t p y).lookup ("name" : Str) = some n := lk_hit
theorem rf_above : (roomF n a b s k t p y).lookup ("above" : Str) = some a := by
  unfold roomF
  rw [lk_skip (by decide +kernel)]
  exact lk_hit
theorem rf_boxes : (roomF n a b s k t p y).lookup ("boxes" : Str) = some b := by
  unfold roomF
  rw [lk_skip (by decide +kernel), lk_skip (by decide +kernel)]
  exact lk_hit
theorem rf_sayings : (roomF n a b s k t p y).lookup ("sayings" : Str) = some s := by
  unfold roomF
  rw [lk_skip (by decide +kernel), lk_skip (by decide +kernel), lk_skip (by decide +kernel)]
  exact lk_hit
theorem rf_ask : (roomF n a b s k t p y).lookup ("ask" : Str) = some k := by
  unfold roomF
  rw [lk_skip (by decide +kernel), lk_skip (by decide +kernel), lk_skip (by decide +kernel), lk_skip (by decide +kernel)]
  exact lk_hit
theorem rf_told : (roomF n a b s k t p y).lookup ("told" : Str) = some t := by
  unfold roomF
  rw [lk_skip (by decide +kernel), lk_skip (by decide +kernel), lk_skip (by decide +kernel), lk_skip (by decide +kernel), lk_skip (by decide +kernel)]
  exact lk_hit
theorem rf_promise : (roomF n a b s k t p y).lookup ("promise" : Str) = some p := by
  unfold roomF
  rw [lk_skip (by decide +kernel), lk_skip (by decide +kernel), lk_skip (by decide +kernel), lk_skip (by decide +kernel), lk_skip (by decide +kernel), lk_skip (by decide +kernel)]
  exact lk_hit
theorem rf_body : (roomF n a b s k t p y).lookup ("body" : Str) = some y := by
  unfold roomF
  rw [lk_skip (by decide +kernel), lk_skip (by decide +kernel), lk_skip (by decide +kernel), lk_skip (by decide +kernel), lk_skip (by decide +kernel), lk_skip (by decide +kernel), lk_skip (by decide +kernel)]
  exact lk_hit
end
theorem nx {k f : Str} {v : V} (h : ¬ k = f) : ¬ (k, v).1 = f := h
section
variable {n a b s k t p y : V}
theorem put1 : putF "above" a ([("name", n)] : List (Str × V)) = ([("name", n), ("above", a)] : List (Str × V)) := put_new (List.forall_mem_cons.mpr ⟨nx (by decide +kernel), List.forall_mem_nil _⟩)
theorem put2 : putF "boxes" b ([("name", n), ("above", a)] : List (Str × V)) = ([("name", n), ("above", a), ("boxes", b)] : List (Str × V)) := put_new (List.forall_mem_cons.mpr ⟨nx (by decide +kernel), List.forall_mem_cons.mpr ⟨nx (by decide +kernel), List.forall_mem_nil _⟩⟩)
theorem put3 : putF "sayings" s ([("name", n), ("above", a), ("boxes", b)] : List (Str × V)) = ([("name", n), ("above", a), ("boxes", b), ("sayings", s)] : List (Str × V)) := put_new (List.forall_mem_cons.mpr ⟨nx (by decide +kernel), List.forall_mem_cons.mpr ⟨nx (by decide +kernel), List.forall_mem_cons.mpr ⟨nx (by decide +kernel), List.forall_mem_nil _⟩⟩⟩)
theorem put4 : putF "ask" k ([("name", n), ("above", a), ("boxes", b), ("sayings", s)] : List (Str × V)) = ([("name", n), ("above", a), ("boxes", b), ("sayings", s), ("ask", k)] : List (Str × V)) := put_new (List.forall_mem_cons.mpr ⟨nx (by decide +kernel), List.forall_mem_cons.mpr ⟨nx (by decide +kernel), List.forall_mem_cons.mpr ⟨nx (by decide +kernel), List.forall_mem_cons.mpr ⟨nx (by decide +kernel), List.forall_mem_nil _⟩⟩⟩⟩)
theorem put5 : putF "told" t ([("name", n), ("above", a), ("boxes", b), ("sayings", s), ("ask", k)] : List (Str × V)) = ([("name", n), ("above", a), ("boxes", b), ("sayings", s), ("ask", k), ("told", t)] : List (Str × V)) := put_new (List.forall_mem_cons.mpr ⟨nx (by decide +kernel), List.forall_mem_cons.mpr ⟨nx (by decide +kernel), List.forall_mem_cons.mpr ⟨nx (by decide +kernel), List.forall_mem_cons.mpr ⟨nx (by decide +kernel), List.forall_mem_cons.mpr ⟨nx (by decide +kernel), List.forall_mem_nil _⟩⟩⟩⟩⟩)
theorem put6 : putF "promise" p ([("name", n), ("above", a), ("boxes", b), ("sayings", s), ("ask", k), ("told", t)] : List (Str × V)) = ([("name", n), ("above", a), ("boxes", b), ("sayings", s), ("ask", k), ("told", t), ("promise", p)] : List (Str × V)) := put_new (List.forall_mem_cons.mpr ⟨nx (by decide +kernel), List.forall_mem_cons.mpr ⟨nx (by decide +kernel), List.forall_mem_cons.mpr ⟨nx (by decide +kernel), List.forall_mem_cons.mpr ⟨nx (by decide +kernel), List.forall_mem_cons.mpr ⟨nx (by decide +kernel), List.forall_mem_cons.mpr ⟨nx (by decide +kernel), List.forall_mem_nil _⟩⟩⟩⟩⟩⟩)
theorem put7 : putF "body" y ([("name", n), ("above", a), ("boxes", b), ("sayings", s), ("ask", k), ("told", t), ("promise", p)] : List (Str × V)) = ([("name", n), ("above", a), ("boxes", b), ("sayings", s), ("ask", k), ("told", t), ("promise", p), ("body", y)] : List (Str × V)) := put_new (List.forall_mem_cons.mpr ⟨nx (by decide +kernel), List.forall_mem_cons.mpr ⟨nx (by decide +kernel), List.forall_mem_cons.mpr ⟨nx (by decide +kernel), List.forall_mem_cons.mpr ⟨nx (by decide +kernel), List.forall_mem_cons.mpr ⟨nx (by decide +kernel), List.forall_mem_cons.mpr ⟨nx (by decide +kernel), List.forall_mem_cons.mpr ⟨nx (by decide +kernel), List.forall_mem_nil _⟩⟩⟩⟩⟩⟩⟩)
end
/-- the boxes of a room -/
def CratesAt (H : Hp) (b : Addr) (xs : List (Str × Int × Int)) : Prop := ∃ as : List Addr, H b = some (.tup (as.map V.ref)) ∧ Paired (fun (a : Addr) (x : Str × Int × Int) => H a = some (.tup [.str x.1, .int x.2.1, .int x.2.2])) as xs
def SaysAt (H : Hp) (b : Addr) (ts : List Ts) : Prop := ∃ vs, H b = some (.tup vs) ∧ Paired (TsAt H) vs ts
def AskAt (v : V) : Option Int → Prop
  | none => v = .non
  | some i => v = .int i
def ToldAt (H : Hp) (v : V) : Option (Int × Ex) → Prop
  | none => v = .non
  | some (i, e) => ∃ a u, v = .ref a ∧ H a = some (.tup [.int i, u]) ∧ ExAt H u e
def VowAt (H : Hp) (v : V) : Option Ts → Prop
  | none => v = .non
  | some t => TsAt H v t
/-- the eight parts -/
structure PartsAt (H : Hp) (r : Rm) (n a b s k t p y : V) : Prop where
  name : n = .str r.name
  above : a = .str r.above
  boxes : ∃ c, b = .ref c ∧ CratesAt H c r.boxes
  sayings : ∃ c, s = .ref c ∧ SaysAt H c r.sayings
  ask : AskAt k r.ask
  told : ToldAt H t r.told
  promise : VowAt H p r.promise
  body : ∃ c, y = .ref c ∧ BdAt H c r.body
/-- a room in the heap -/
def RmAt (C : Addr) (H : Hp) (x : Addr) (r : Rm) : Prop := ∃ dx n a b s k t p y, H x = some (.ins C dx (roomF n a b s k t p y)) ∧ PartsAt H r n a b s k t p y
theorem paired_imp {α β : Type} {R S : α → β → Prop} (h : ∀ x y, R x y → S x y) : ∀ {xs : List α} {ys : List β}, Paired R xs ys → Paired S xs ys
  | _, _, .nil => .nil
  | _, _, .cons r t => .cons (h _ _ r) (paired_imp h t)
theorem CratesAt.keep {H H' : Hp} (k : Tups H H') {b : Addr} {xs : List (Str × Int × Int)} (h : CratesAt H b xs) : CratesAt H' b xs := by
  obtain ⟨as, h1, h2⟩ := h
  exact ⟨as, k _ _ h1, paired_imp (fun _ _ q => k _ _ q) h2⟩
theorem SaysAt.keep {H H' : Hp} (k : Tups H H') {b : Addr} {xs : List Ts} (h : SaysAt H b xs) : SaysAt H' b xs := by
  obtain ⟨as, h1, h2⟩ := h
  exact ⟨as, k _ _ h1, paired_imp (fun _ _ q => q.keep k) h2⟩
theorem ToldAt.keep {H H' : Hp} (k : Tups H H') {v : V} : ∀ {o : Option (Int × Ex)}, ToldAt H v o → ToldAt H' v o
  | none, h => h
  | some (i, e), h => by
    obtain ⟨a, u, h1, h2, h3⟩ := h
    exact ⟨a, u, h1, k _ _ h2, h3.keep k⟩
theorem VowAt.keep {H H' : Hp} (k : Tups H H') {v : V} : ∀ {o : Option Ts}, VowAt H v o → VowAt H' v o
  | none, h => h
  | some t, h => TsAt.keep k h
theorem BdAt.keep {H H' : Hp} (k : Tups H H') {a : Addr} {b : Bd} (h : BdAt H a b) : BdAt H' a b := by
  obtain ⟨vs, h1, h2⟩ := h
  exact ⟨vs, k _ _ h1, h2.keep k⟩
theorem PartsAt.keep {H H' : Hp} (k : Tups H H') {r : Rm} {n a b s q t p y : V} (h : PartsAt H r n a b s q t p y) : PartsAt H' r n a b s q t p y where
  name := h.name
  above := h.above
  boxes := by obtain ⟨c, h1, h2⟩ := h.boxes; exact ⟨c, h1, h2.keep k⟩
  sayings := by obtain ⟨c, h1, h2⟩ := h.sayings; exact ⟨c, h1, h2.keep k⟩
  ask := h.ask
  told := h.told.keep k
  promise := h.promise.keep k
  body := by obtain ⟨c, h1, h2⟩ := h.body; exact ⟨c, h1, h2.keep k⟩
theorem RmAt.keep {C : Addr} {H H' : Hp} (k : Same H H') {x : Addr} {r : Rm} (h : RmAt C H x r) : RmAt C H' x r := by
  obtain ⟨dx, n, a, b, s, q, t, p, y, h1, h2⟩ := h
  exact ⟨dx, n, a, b, s, q, t, p, y, k _ _ h1, h2.keep (Same.tups k)⟩
/-! ### Room.__init__ -/
abbrev cRoom : Stmt := top 51
abbrev sRInit : Stmt := inClass (top 51) 0
abbrev psRI : List Str := ["self", "name", "above", "boxes", "sayings", "ask", "told", "promise", "body"]
theorem scRInit : FnScope psRI psRI (defScope sRInit) := ⟨rfl, rfl, rfl, by decide +kernel, rfl, by decide +kernel, by decide +kernel⟩
/-- what the class of rooms is like -/
structure RoomC (K : PySem.W.Frag) (C : Addr) : Prop where
  cl : Cls K C
  n1 : NoAttr K C "name"
  n2 : NoAttr K C "above"
  n3 : NoAttr K C "boxes"
  n4 : NoAttr K C "sayings"
  n5 : NoAttr K C "ask"
  n6 : NoAttr K C "told"
  n7 : NoAttr K C "promise"
  n8 : NoAttr K C "body"
def spRInit (C : Addr) : Sp := fun vs H Q _ => ∃ (x dx : Addr) (n a b s k t p y : V), vs = [.ref x, n, a, b, s, k, t, p, y] ∧ H x = some (.ins C dx []) ∧ Q .non (upd H x (.ins C dx (roomF n a b s k t p y)))
section
variable {P : Program} {w : World} {K : PySem.W.Frag} {mg : Str → Option Value} {base : Heap} {f C : Addr} {fd : FuncData}
theorem upd2 {H : Hp} {x : Addr} {o o' : HO} : upd (upd H x o) x o' = upd H x o' := by
  funext a
  by_cases e : a = x
  · rw [e, upd_same, upd_same]
  · rw [upd_ne e, upd_ne e, upd_ne e]
theorem ok_rinit {kws : List (Str × V)} (T : RoomC K C) (F : FunD K "__init__" "Room.__init__" (defArgs sRInit) (defBody sRInit) (defScope sRInit) [] kws f fd) : FnOk P w K mg base CX0 1 f fd psRI (spRInit C) := by
  refine F.ok scRInit (fun vs H Q E h => ?_) (fun cdv A outer s H vs Q E hr h => ?_)
  · obtain ⟨x, dx, n, a, b, s, k, t, p, y, rfl, _⟩ := h
    rfl
  obtain ⟨x, dx, n, a, b, s', k, t, p, y, rfl, hx, q⟩ := h
  refine ⟨_, PSs.nox (pss_cons (ps_fld (pv 0) (pv 1) rfl) (pss_cons (ps_fld (pv 0) (pv 2) rfl) (pss_cons (ps_fld (pv 0) (pv 3) rfl) (pss_cons (ps_fld (pv 0) (pv 4) rfl) (pss_cons (ps_fld (pv 0) (pv 5) rfl) (pss_cons (ps_fld (pv 0) (pv 6) rfl)
    (pss_cons (ps_fld (pv 0) (pv 7) rfl) (pss_one (ps_fld (pv 0) (pv 8) rfl))))))))), ?_⟩
  refine ⟨_, rfl, _, rfl, x, C, dx, _, rfl, hx, T.cl, T.n1, (by show 0 < 1000; decide), ?_⟩
  refine ⟨_, rfl, _, rfl, x, C, dx, [("name", n)], rfl, upd_same, T.cl, T.n2, (by show 1 < 1000; decide), ?_⟩
  rw [put1, upd2]
  refine ⟨_, rfl, _, rfl, x, C, dx, [("name", n), ("above", a)], rfl, upd_same, T.cl, T.n3, (by show 2 < 1000; decide), ?_⟩
  rw [put2, upd2]
  refine ⟨_, rfl, _, rfl, x, C, dx, [("name", n), ("above", a), ("boxes", b)], rfl, upd_same, T.cl, T.n4, (by show 3 < 1000; decide), ?_⟩
  rw [put3, upd2]
  refine ⟨_, rfl, _, rfl, x, C, dx, [("name", n), ("above", a), ("boxes", b), ("sayings", s')], rfl, upd_same, T.cl, T.n5, (by show 4 < 1000; decide), ?_⟩
  rw [put4, upd2]
  refine ⟨_, rfl, _, rfl, x, C, dx, [("name", n), ("above", a), ("boxes", b), ("sayings", s'), ("ask", k)], rfl, upd_same, T.cl, T.n6, (by show 5 < 1000; decide), ?_⟩
  rw [put5, upd2]
  refine ⟨_, rfl, _, rfl, x, C, dx, [("name", n), ("above", a), ("boxes", b), ("sayings", s'), ("ask", k), ("told", t)], rfl, upd_same, T.cl, T.n7, (by show 6 < 1000; decide), ?_⟩
  rw [put6, upd2]
  refine ⟨_, rfl, _, rfl, x, C, dx, [("name", n), ("above", a), ("boxes", b), ("sayings", s'), ("ask", k), ("told", t), ("promise", p)], rfl, upd_same, T.cl, T.n8, (by show 7 < 1000; decide), ?_⟩
  rw [put7, upd2]
  exact q
end
end Any
namespace Any
open L2 PySem PySem.Spec PyProof.Rows LamX NdefX
abbrev sRooms : Stmt := top 53
abbrev sFault : Stmt := top 54
abbrev sNameF : Stmt := top 55
abbrev sAboveF : Stmt := top 56
abbrev sFloor : Stmt := top 57
abbrev sBoxesF : Stmt := top 58
abbrev sBoxF : Stmt := top 59
abbrev sSaysF : Stmt := top 60
abbrev sFirstF : Stmt := top 61
abbrev sOtherF : Stmt := top 62
abbrev sToldF : Stmt := top 63
abbrev sBodyF : Stmt := top 64
abbrev sNames : Stmt := top 65
theorem scNames : FnScope ["room", "name", "bound", "first"] ["room"] (defScope sNames) := ⟨rfl, rfl, rfl, by decide +kernel, rfl, by decide +kernel, by decide +kernel⟩
theorem scBoxF : FnScope ["box", "name", "bound", "first"] ["box"] (defScope sBoxF) := ⟨rfl, rfl, rfl, by decide +kernel, rfl, by decide +kernel, by decide +kernel⟩
theorem scToldF : FnScope ["room", "bound", "expression"] ["room"] (defScope sToldF) := ⟨rfl, rfl, rfl, by decide +kernel, rfl, by decide +kernel, by decide +kernel⟩
theorem scFirstF : FnScope ["room"] ["room"] (defScope sFirstF) := ⟨rfl, rfl, rfl, by decide +kernel, rfl, by decide +kernel, by decide +kernel⟩
theorem scOtherF : FnScope ["room"] ["room"] (defScope sOtherF) := ⟨rfl, rfl, rfl, by decide +kernel, rfl, by decide +kernel, by decide +kernel⟩
def Rm.bn (r : Rm) : List Str := r.boxes.map (·.1)
def spBn (C : Addr) : Sp := fun vs H Q _ => ∃ x r, vs = [.ref x] ∧ RmAt C H x r ∧ r.boxes.length ≤ 4 ∧ ∀ p H', H p = none → Same H H' → H' p = some (.lst (r.bn.map V.str)) → Q (.ref p) H'
/-- a box as point 6 has it -/
def crateOk (x : Str × Int × Int) : Prop := Nm x.1 ∧ (1 ≤ x.2.1 ∧ x.2.1 ≤ 40) ∧ (0 ≤ x.2.2 ∧ x.2.2 ≤ x.2.1 - 1)
def spBoxF : Sp := fun vs H Q _ => ∃ a x, vs = [.ref a] ∧ H a = some (.tup [.str x.1, .int x.2.1, .int x.2.2]) ∧ crateOk x ∧ ∀ H', Same H H' → Q (.bl true) H'
theorem fm_some {α : Type} (g : α → V) : ∀ xs : List α, (xs.map fun x => some (g x)).filterMap id = xs.map g
  | [] => rfl
  | x :: r => by
    rw [List.map_cons, List.map_cons, ← fm_some g r]
    rfl
section
variable {P : Program} {w : World} {K : PySem.W.Frag} {mg : Str → Option Value} {base : Heap} {f C nm wi : Addr} {fd nmd wid : FuncData}
theorem ok_bn (T : RoomC K C) (F : Fun K "box_names" "box_names" sNames f fd) : FnOk P w K mg base CX0 1 f fd ["room"] (spBn C) := by
  refine F.ok scNames (fun vs H Q E h => ?_) (fun cdv A outer s H vs Q E hr h => ?_)
  · obtain ⟨x, r, rfl, _⟩ := h
    rfl
  obtain ⟨x, r, rfl, hx, hz, q⟩ := h
  obtain ⟨dx, n, a, b, s', k, t, p, y, h1, h2⟩ := hx
  obtain ⟨c, rfl, as, hc, hp⟩ := h2.boxes
  refine ⟨_, pss_one (ps_ret (pe_lc (own := [("name", 1), ("bound", 2), ("first", 3)]) (g := gTup K 3 (gCons (gName 1) (gCons (gName 2) (gCons (gName 3) gNil)))) (tt := tYes) rfl scNames.nd (pi_tup (pe_fld (pv 0) rfl)) (blkOk_by (N := ["room", "name", "bound", "first"]) (sc := defScope sNames) (by decide +kernel))
    (fun _ _ _ _ _ => pg_tup rfl (pgs_cons (pg_name (i := 1) scNames.nd rfl (Or.inl rfl)) (pgs_cons (pg_name (i := 2) scNames.nd rfl (Or.inl rfl)) (pgs_cons (pg_name (i := 3) scNames.nd rfl (Or.inl rfl)) pgs_nil))))
    (fun _ _ _ _ _ => pts_nil) (fun _ _ _ _ _ => pv 1))), ?_⟩
  refine ⟨_, rfl, x, C, dx, _, _, rfl, h1, T.cl, T.n3, rf_boxes, c, rfl, ⟨_, SqT.of hc⟩, fun D hD => ?_⟩
  have hl := paired_len hp
  have hs : sizeLine = 16777216 := sizeLine_eq
  refine turns_tup (K := K) (a := c) (xs := as.map V.ref) (r.boxes.map fun z => some (V.str z.1)) hD (fun Hc sm => SqT.of (sm _ _ hc)) (by rw [List.length_map, List.length_map]; exact hl.symm) (by rw [List.length_map]; omega) ?_ ?_
  · intro i v o Hc Y N hv ho sm hY hN
    rw [List.getElem?_map] at hv ho
    obtain ⟨e, he, rfl⟩ : ∃ e, as[i]? = some e ∧ v = .ref e := by
      cases z : as[i]? with
      | none => rw [z] at hv; cases hv
      | some e => rw [z] at hv; exact ⟨e, rfl, (Option.some.inj hv).symm⟩
    obtain ⟨z, hz2, hat⟩ := paired_get hp he
    rw [hz2] at ho
    exact ⟨e, _, rfl, SqT.of (sm _ _ hat), rfl, _, _, rfl, _, _, rfl, _, _, rfl, rfl, rfl, _, rfl, hY _ (Option.some.inj ho).symm Hc same_refl⟩
  · intro Hc hc2 sm
    rw [fm_some (fun z : Str × Int × Int => V.str z.1)] at hc2
    refine q D Hc hD sm ?_
    rw [hc2]
    unfold Rm.bn
    rw [List.map_map]
    rfl
theorem ok_boxf (O : Own mg) (F : Fun K "box_fits" "box_fits" sBoxF f fd) (GN : FnOk P w K mg base CX0 1 nm nmd ["thing"] spName) (bN : Binds K nmd ["thing"] []) (kN : PySem.W.keepIn K (.ref nm) = true) (mN : mg "is_name" = some (.ref nm))
    (WI : FnOk P w K mg base CX0 2 wi wid ["thing", "least", "most"] spWithin) (bW : Binds K wid ["thing", "least", "most"] []) (kW : PySem.W.keepIn K (.ref wi) = true) (mW : mg "is_within" = some (.ref wi)) {t40 : Tok} (m40 : mg "MOST_BOUND" = some (.int 40 t40)) :
    FnOk P w K mg base CX0 3 f fd ["box"] spBoxF := by
  refine F.ok scBoxF (fun vs H Q E h => ?_) (fun cdv A outer s H vs Q E hr h => ?_)
  · obtain ⟨a, x, rfl, _⟩ := h
    rfl
  obtain ⟨a, x, rfl, ha, ⟨k1, k2, k3⟩, q⟩ := h
  refine ⟨_, pss_cons (ps_if (PW.pt (pw_or (pt_not (pt_val (pe_callB call_isi rfl O.isi (by decide +kernel) (pa_cons (pv 0) (pa_cons (pe_bltn (v := .ty "tuple") rfl O.tuple (by decide +kernel) rfl) pa_nil)))))
      (pw_or1 (pt_cmpR op_ne (pe_callB call_len_seq rfl O.len PySem.boot_len (pa_cons (pv 0) pa_nil)) pe_int (nomark _))))) (pss_one (ps_ret pe_bl)) pss_nil)
    (pss_cons (ps_asg (pv 0) (pg_tup rfl (pgs_cons (pg_name (i := 1) scBoxF.nd rfl (Or.inl rfl)) (pgs_cons (pg_name (i := 2) scBoxF.nd rfl (Or.inl rfl)) (pgs_cons (pg_name (i := 3) scBoxF.nd rfl (Or.inl rfl)) pgs_nil)))))
    (pss_one (ps_ret (pe_and (pe_call GN (hr.mono (by decide)) rfl mN kN bN .nil pass0 (pa_cons (pv 1) pa_nil)) (pe_and (pe_call WI hr rfl mW kW bW .nil pass0 (pa_cons (pv 2) (pa_cons pe_int (pa_cons (pe_glob (v := .int 40) rfl m40 ⟨_, rfl⟩) pa_nil))))
      (pe_one (pe_call WI hr rfl mW kW bW .nil pass0 (pa_cons (pv 3) (pa_cons pe_int (pa_cons (pe_op op_sub (pv 2) pe_int) pa_nil)))))))))), ?_⟩
  refine ⟨_, rfl, _, _, _, _, true, rfl, .ty "tuple", .base (.tup ha), kb "tuple" "tuple" true, _, rfl, itF rfl ?_⟩
  refine ⟨_, rfl, _, _, rfl, .inr (SqT.of ha), rfl, _, rfl, itF rfl ?_⟩
  refine ⟨_, rfl, a, _, rfl, SqT.of ha, rfl, _, _, rfl, _, _, rfl, _, _, rfl, rfl, ?_⟩
  refine ⟨_, rfl, x.1, rfl, k1, fun H1 s1 => ⟨_, rfl, itT rfl ?_⟩⟩
  refine ⟨_, rfl, _, _, _, rfl, ?_⟩
  rw [decide_eq_true k2.1, decide_eq_true k2.2]
  refine ⟨_, rfl, itT rfl ?_⟩
  refine ⟨_, rfl, _, rfl, _, _, rfl, rfl, _, _, _, rfl, ?_⟩
  rw [decide_eq_true k3.1, decide_eq_true k3.2]
  exact q H1 s1
end
end Any
namespace Any
open L2 PySem PySem.Spec PyProof.Rows LamX NdefX
def spToldF (C : Addr) : Sp := fun vs H Q _ => ∃ x r i e, vs = [.ref x] ∧ RmAt C H x r ∧ r.boxes.length ≤ 4 ∧ r.told = some (i, e) ∧ (1 ≤ i ∧ i ≤ 40) ∧ e.right r.bn ["asked"] ∧ ∀ H', Same H H' → Q (.bl true) H'
/-- of the first room nothing of these -/
def Rm.firstOk (r : Rm) : Prop := r.ask = none ∧ r.told = none ∧ r.promise = none
/-- of others, as point 6 has them -/
def Rm.otherOk (r : Rm) : Prop := (∃ i, r.ask = some i ∧ 1 ≤ i ∧ i ≤ 40) ∧ (∃ i e, r.told = some (i, e) ∧ (1 ≤ i ∧ i ≤ 40) ∧ e.right r.bn ["asked"]) ∧ (∀ t, r.promise = some t → t.right [] ["asked", "told"])
def spFirstF (C : Addr) : Sp := fun vs H Q _ => ∃ x r, vs = [.ref x] ∧ RmAt C H x r ∧ r.firstOk ∧ ∀ H', Same H H' → Q (.str "") H'
def spOtherF (C : Addr) : Sp := fun vs H Q _ => ∃ x r, vs = [.ref x] ∧ RmAt C H x r ∧ r.boxes.length ≤ 4 ∧ r.otherOk ∧ ∀ H', Same H H' → Q (.str "") H'
section
variable {P : Program} {w : World} {K : PySem.W.Frag} {mg : Str → Option Value} {base : Heap} {f C wi ie it bn tf : Addr} {fd wid ied itd bnd tfd : FuncData}
theorem ok_toldf (O : Own mg) (T : RoomC K C) (F : Fun K "told_fits" "told_fits" sToldF f fd)
    (WI : FnOk P w K mg base CX0 2 wi wid ["thing", "least", "most"] spWithin) (bW : Binds K wid ["thing", "least", "most"] []) (kW : PySem.W.keepIn K (.ref wi) = true) (mW : mg "is_within" = some (.ref wi)) {t40 : Tok} (m40 : mg "MOST_BOUND" = some (.int 40 t40))
    (IE : FnOk P w K mg base CX0 10 ie ied ps3 spIsE) (bIE : Binds K ied ps3 []) (kIE : PySem.W.keepIn K (.ref ie) = true) (mIE : mg "is_expression" = some (.ref ie))
    (BN : FnOk P w K mg base CX0 1 bn bnd ["room"] (spBn C)) (bB : Binds K bnd ["room"] []) (kB : PySem.W.keepIn K (.ref bn) = true) (mB : mg "box_names" = some (.ref bn)) :
    FnOk P w K mg base CX0 11 f fd ["room"] (spToldF C) := by
  refine F.ok scToldF (fun vs H Q E h => ?_) (fun cdv A outer s H vs Q E hr h => ?_)
  · obtain ⟨x, r, i, e, rfl, _⟩ := h
    rfl
  obtain ⟨x, r, i, e, rfl, hx, hz, ht, hi, he, q⟩ := h
  obtain ⟨dx, n, a, b, s', k, t, p, y, h1, h2⟩ := id hx
  have h3 := h2.told
  rw [ht] at h3
  obtain ⟨c, u, rfl, hc, hu⟩ := h3
  refine ⟨_, pss_cons (ps_if (PW.pt (pw_or (pt_not (pt_val (pe_callB call_isi rfl O.isi (by decide +kernel) (pa_cons (pe_fld (pv 0) rfl) (pa_cons (pe_bltn (v := .ty "tuple") rfl O.tuple (by decide +kernel) rfl) pa_nil)))))
      (pw_or1 (pt_cmpR op_ne (pe_callB call_len_seq rfl O.len PySem.boot_len (pa_cons (pe_fld (pv 0) rfl) pa_nil)) pe_int (nomark _))))) (pss_one (ps_ret pe_bl)) pss_nil)
    (pss_cons (ps_asg (pe_fld (pv 0) rfl) (pg_tup rfl (pgs_cons (pg_name (i := 1) scToldF.nd rfl (Or.inl rfl)) (pgs_cons (pg_name (i := 2) scToldF.nd rfl (Or.inl rfl)) pgs_nil))))
    (pss_one (ps_ret (pe_and (pe_call WI (hr.mono (by decide)) rfl mW kW bW .nil pass0 (pa_cons (pv 1) (pa_cons pe_int (pa_cons (pe_glob (v := .int 40) rfl m40 ⟨_, rfl⟩) pa_nil))))
      (pe_one (pe_call IE hr rfl mIE kIE bIE .nil pass0 (pa_cons (pv 2) (pa_cons (pe_call BN (hr.mono (by decide)) rfl mB kB bB .nil pass0 (pa_cons (pv 0) pa_nil)) (pa_cons (pe_tup (pa_cons pe_str pa_nil)) pa_nil))))))))), ?_⟩
  refine ⟨_, rfl, x, C, dx, _, _, rfl, h1, T.cl, T.n6, rf_told, _, _, _, _, true, rfl, .ty "tuple", .base (.tup hc), kb "tuple" "tuple" true, _, rfl, itF rfl ?_⟩
  refine ⟨_, rfl, x, C, dx, _, _, rfl, h1, T.cl, T.n6, rf_told, _, _, rfl, .inr (SqT.of hc), rfl, _, rfl, itF rfl ?_⟩
  refine ⟨_, rfl, x, C, dx, _, _, rfl, h1, T.cl, T.n6, rf_told, c, _, rfl, SqT.of hc, rfl, _, _, rfl, _, _, rfl, rfl, ?_⟩
  refine ⟨_, rfl, _, _, _, rfl, ?_⟩
  rw [decide_eq_true hi.1, decide_eq_true hi.2]
  refine ⟨_, rfl, itT rfl ?_⟩
  refine ⟨_, rfl, _, rfl, x, r, rfl, hx, hz, fun l H1 hl s1 hL => ?_⟩
  refine ⟨by show 1 ≤ sizeLine; decide, fun wd hwd => ?_⟩
  have s2 := s1.trans (same_new hwd (.tup [.str "asked"]))
  refine ⟨u, l, wd, e, r.bn, ["asked"], rfl, hu.keep (Same.tups s2), he, .inl ((same_new hwd _) _ _ hL), upd_same, fun H2 s3 => q H2 (s2.trans s3)⟩
theorem ok_firstf (T : RoomC K C) (F : Fun K "first_fault" "first_fault" sFirstF f fd) : FnOk P w K mg base CX0 1 f fd ["room"] (spFirstF C) := by
  refine F.ok scFirstF (fun vs H Q E h => ?_) (fun cdv A outer s H vs Q E hr h => ?_)
  · obtain ⟨x, r, rfl, _⟩ := h
    rfl
  obtain ⟨x, r, rfl, hx, ⟨e1, e2, e3⟩, q⟩ := h
  obtain ⟨dx, n, a, b, s', k, t, p, y, h1, h2⟩ := id hx
  have g1 := h2.ask
  have g2 := h2.told
  have g3 := h2.promise
  rw [e1] at g1
  rw [e2] at g2
  rw [e3] at g3
  cases g1
  cases g2
  cases g3
  refine ⟨_, pss_cons (ps_if (pt_cmpR op_notN (pe_fld (pv 0) rfl) pe_non (nomark _)) (pss_one (ps_ret pe_str)) pss_nil)
    (pss_cons (ps_if (pt_cmpR op_notN (pe_fld (pv 0) rfl) pe_non (nomark _)) (pss_one (ps_ret pe_str)) pss_nil)
    (pss_cons (ps_if (pt_cmpR op_notN (pe_fld (pv 0) rfl) pe_non (nomark _)) (pss_one (ps_ret pe_str)) pss_nil)
    (pss_one (ps_ret pe_str)))), ?_⟩
  refine ⟨_, rfl, x, C, dx, _, _, rfl, h1, T.cl, T.n5, rf_ask, rfl, _, rfl, itF rfl ?_⟩
  refine ⟨_, rfl, x, C, dx, _, _, rfl, h1, T.cl, T.n6, rf_told, rfl, _, rfl, itF rfl ?_⟩
  refine ⟨_, rfl, x, C, dx, _, _, rfl, h1, T.cl, T.n7, rf_promise, rfl, _, rfl, itF rfl ?_⟩
  exact q _ same_refl
theorem vow_ref {H : Hp} {v : V} {t : Ts} (h : TsAt H v t) : decide (v = .non) = false := by
  cases h <;> exact decide_eq_false (fun z => by cases z)
theorem ok_otherf (T : RoomC K C) (F : Fun K "other_fault" "other_fault" sOtherF f fd)
    (WI : FnOk P w K mg base CX0 2 wi wid ["thing", "least", "most"] spWithin) (bW : Binds K wid ["thing", "least", "most"] []) (kW : PySem.W.keepIn K (.ref wi) = true) (mW : mg "is_within" = some (.ref wi)) {t40 : Tok} (m40 : mg "MOST_BOUND" = some (.int 40 t40))
    (IT : FnOk P w K mg base CX0 16 it itd ps3 spIsT) (bIT : Binds K itd ps3 []) (kIT : PySem.W.keepIn K (.ref it) = true) (mIT : mg "is_test" = some (.ref it))
    (TF : FnOk P w K mg base CX0 11 tf tfd ["room"] (spToldF C)) (bT : Binds K tfd ["room"] []) (kT : PySem.W.keepIn K (.ref tf) = true) (mT : mg "told_fits" = some (.ref tf)) :
    FnOk P w K mg base CX0 17 f fd ["room"] (spOtherF C) := by
  refine F.ok scOtherF (fun vs H Q E h => ?_) (fun cdv A outer s H vs Q E hr h => ?_)
  · obtain ⟨x, r, rfl, _⟩ := h
    rfl
  obtain ⟨x, r, rfl, hx, hz, ⟨⟨i, e1, i1, i2⟩, ⟨j, e, e2, hj, he⟩, e3⟩, q⟩ := h
  obtain ⟨dx, n, a, b, s', k, t, p, y, h1, h2⟩ := id hx
  have g1 := h2.ask
  have g3 := h2.promise
  rw [e1] at g1
  cases g1
  refine ⟨_, pss_cons (ps_if (pt_not (pt_val (pe_call WI (hr.mono (by decide)) rfl mW kW bW .nil pass0 (pa_cons (pe_fld (pv 0) rfl) (pa_cons pe_int (pa_cons (pe_glob (v := .int 40) rfl m40 ⟨_, rfl⟩) pa_nil)))))) (pss_one (ps_ret pe_str)) pss_nil)
    (pss_cons (ps_if (pt_not (pt_val (pe_call TF (hr.mono (by decide)) rfl mT kT bT .nil pass0 (pa_cons (pv 0) pa_nil)))) (pss_one (ps_ret pe_str)) pss_nil)
    (pss_cons (ps_if (PW.pt (pw_and (pt_cmpR op_notN (pe_fld (pv 0) rfl) pe_non (nomark _)) (pw_and1 (pt_not (pt_val (pe_call IT hr rfl mIT kIT bIT .nil pass0 (pa_cons (pe_fld (pv 0) rfl) (pa_cons (pe_tup pa_nil) (pa_cons (pe_tup (pa_cons pe_str (pa_cons pe_str pa_nil))) pa_nil)))))))))
      (pss_one (ps_ret pe_str)) pss_nil)
    (pss_one (ps_ret pe_str)))), ?_⟩
  refine ⟨_, rfl, x, C, dx, _, _, rfl, h1, T.cl, T.n5, rf_ask, _, _, _, rfl, ?_⟩
  rw [decide_eq_true i1, decide_eq_true i2]
  refine ⟨_, rfl, itF rfl ?_⟩
  refine ⟨_, rfl, x, r, j, e, rfl, hx, hz, e2, hj, he, fun H1 s1 => ⟨_, rfl, itF rfl ?_⟩⟩
  refine ⟨_, rfl, x, C, dx, _, _, rfl, s1 _ _ h1, T.cl, T.n7, rf_promise, rfl, _, rfl, ?_⟩
  cases e4 : r.promise with
  | none =>
    rw [e4] at g3
    cases g3
    exact itF rfl (itF rfl (q H1 s1))
  | some vw =>
    rw [e4] at g3
    have g3 : TsAt H p vw := g3
    refine itT (by rw [vow_ref g3]; rfl) ?_
    refine ⟨_, rfl, x, C, dx, _, _, rfl, s1 _ _ h1, T.cl, T.n7, rf_promise, by show 0 ≤ sizeLine; decide, fun l hl => ?_⟩
    refine ⟨by show 2 ≤ sizeLine; decide, fun wd hwd => ?_⟩
    have s2 := s1.trans (same_new hl (.tup []))
    have s3 := s2.trans (same_new hwd (.tup [.str "asked", .str "told"]))
    refine ⟨p, l, wd, vw, [], ["asked", "told"], rfl, g3.keep (Same.tups s3), e3 _ e4, .inr ((same_new hwd _) _ _ upd_same), upd_same, fun H2 s4 => ⟨_, rfl, itF rfl (q H2 (s3.trans s4))⟩⟩
end
end Any
namespace Any
open L2 PySem PySem.Spec PyProof.Rows LamX NdefX
/-- a tuple of rooms -/
def RsAt (C : Addr) (H : Hp) (R : Addr) (rs : List Rm) : Prop := ∃ as : List Addr, H R = some (.tup (as.map V.ref)) ∧ Paired (RmAt C H) as rs
theorem RsAt.keep {C : Addr} {H H' : Hp} (k : Same H H') {R : Addr} {rs : List Rm} (h : RsAt C H R rs) : RsAt C H' R rs := by
  obtain ⟨as, h1, h2⟩ := h
  exact ⟨as, k _ _ h1, paired_imp (fun _ _ q => q.keep k) h2⟩
theorem refs_at {as : List Addr} {i : Nat} {v : V} (h : (as.map V.ref)[i]? = some v) : ∃ e, as[i]? = some e ∧ v = .ref e := by
  rw [List.getElem?_map] at h
  cases z : as[i]? with
  | none => rw [z] at h; cases h
  | some e => rw [z] at h; exact ⟨e, rfl, (Option.some.inj h).symm⟩
theorem paired_put {α β : Type} {R : α → β → Prop} : ∀ {xs : List α} {ys : List β}, Paired R xs ys → ∀ {i : Nat} {y : β}, ys[i]? = some y → ∃ x, xs[i]? = some x ∧ R x y
  | _, _, .nil, i, y, h => by simp at h
  | _, _, .cons r t, 0, y, h => by cases h; exact ⟨_, rfl, r⟩
  | _, _, .cons r t, i + 1, y, h => paired_put t (i := i) h
/-- what isinstance asks of the class -/
structure RoomI (K : PySem.W.Frag) (C : Addr) : Prop where
  ha : PySem.W.findIn K (.ref C) "__class__" = some (some (.builtin "object.__class__"))
  hn : PySem.W.specialIn K (.builtin "object.__class__") "__get__" = some (some (.builtin "getset_descriptor.__get__"))
  htk : PySem.W.takesIn K (.builtin "object.__class__") = some true
  hm : PySem.W.mroIn K C (.type "object") = some true
  one : PySem.W.kitOne K (.ref C) (.ref C) = some true
theorem scRooms : FnScope ["things", "thing"] ["things"] (defScope sRooms) := ⟨rfl, rfl, rfl, by decide +kernel, rfl, by decide +kernel, by decide +kernel⟩
theorem scNameF : FnScope ["rooms", "at", "name", "room"] ["rooms", "at"] (defScope sNameF) := ⟨rfl, rfl, rfl, by decide +kernel, rfl, by decide +kernel, by decide +kernel⟩
abbrev nmBo : List Str := ["rooms", "at", "words", "room", "beneath", "other"]
theorem scBodyF : FnScope nmBo ["rooms", "at", "words"] (defScope sBodyF) := ⟨rfl, rfl, rfl, by decide +kernel, rfl, by decide +kernel, by decide +kernel⟩
/-- the names of the rooms right beneath -/
def ben (rs : List Rm) (n : Str) : List Str := (rs.filter fun o => decide (o.above = n)).map (·.name)
theorem fm_ben (n : Str) : ∀ rs : List Rm, (rs.map fun o => if o.above = n then some (V.str o.name) else none).filterMap id = (ben rs n).map V.str
  | [] => rfl
  | o :: r => by
    have ih := fm_ben n r
    unfold ben at ih ⊢
    rw [List.map_cons]
    by_cases e : o.above = n
    · rw [if_pos e, List.filter_cons_of_pos (by simpa using e), List.map_cons, List.map_cons, ← ih]
      rfl
    · rw [if_neg e, List.filter_cons_of_neg (by simpa using e), ← ih]
      rfl
def spRooms (C : Addr) : Sp := fun vs H Q _ => ∃ R rs, vs = [.ref R] ∧ RsAt C H R rs ∧ 1 ≤ rs.length ∧ rs.length ≤ 8 ∧ ∀ H', Same H H' → Q (.bl true) H'
def spNameF (C : Addr) : Sp := fun vs H Q _ => ∃ (R : Addr) (i : Nat) (rs : List Rm) (r : Rm), vs = [.ref R, .int i] ∧ RsAt C H R rs ∧ rs.length ≤ 8 ∧ rs[i]? = some r ∧ Nm r.name ∧ r.name ∉ (rs.take i).map (·.name) ∧ ∀ H', Same H H' → Q (.bl true) H'
def spBodyF (C : Addr) : Sp := fun vs H Q _ => ∃ (R wd : Addr) (i : Nat) (rs : List Rm) (r : Rm) (ws : List Str), vs = [.ref R, .int i, .ref wd] ∧ RsAt C H R rs ∧ rs.length ≤ 8 ∧ rs[i]? = some r ∧ r.boxes.length ≤ 4 ∧
  r.body.right r.bn ws (ben rs r.name) ∧ H wd = some (.tup (ws.map V.str)) ∧ ∀ H', Same H H' → Q (.str "") H'
theorem cut_to (xs : List V) (i : Nat) (h : i ≤ xs.length) : cutV xs none (some (i : Int)) = xs.take i := by
  unfold cutV
  rw [HT.sIx_none, HT.sIx_nat, List.drop_zero, Nat.sub_zero, Nat.min_eq_left h]
theorem paired_take {α β : Type} {R : α → β → Prop} : ∀ {xs : List α} {ys : List β}, Paired R xs ys → ∀ i : Nat, Paired R (xs.take i) (ys.take i)
  | _, _, .nil, i => by rw [List.take_nil, List.take_nil]; exact .nil
  | _, _, .cons r t, 0 => .nil
  | _, _, .cons r t, i + 1 => by rw [List.take_succ_cons, List.take_succ_cons]; exact .cons r (paired_take t i)
section
variable {P : Program} {w : World} {K : PySem.W.Frag} {mg : Str → Option Value} {base : Heap} {f C nm ib bn : Addr} {fd nmd ibd bnd : FuncData}
theorem ok_rooms (O : Own mg) (T : RoomC K C) (TI : RoomI K C) (mR : mg "Room" = some (.ref C)) (F : Fun K "are_rooms" "are_rooms" sRooms f fd) {t8 : Tok} (m8 : mg "MOST_ROOMS" = some (.int 8 t8)) : FnOk P w K mg base CX0 1 f fd ["things"] (spRooms C) := by
  refine F.ok scRooms (fun vs H Q E h => ?_) (fun cdv A outer s H vs Q E hr h => ?_)
  · obtain ⟨R, rs, rfl, _⟩ := h
    rfl
  obtain ⟨R, rs, rfl, ⟨as, hR, hp⟩, z1, z8, q⟩ := h
  have hl := paired_len hp
  have hs : sizeLine = 16777216 := sizeLine_eq
  refine ⟨_, pss_cons (ps_if (PW.pt (pw_or (pt_not (pt_val (pe_callB call_isi rfl O.isi (by decide +kernel) (pa_cons (pv 0) (pa_cons (pe_bltn (v := .ty "tuple") rfl O.tuple (by decide +kernel) rfl) pa_nil)))))
      (pw_or1 (pt_not (pt_chain op_le op_le pe_int (pe_callB call_len_seq rfl O.len PySem.boot_len (pa_cons (pv 0) pa_nil)) (pe_glob (v := .int 8) rfl m8 ⟨_, rfl⟩)))))) (pss_one (ps_ret pe_bl)) pss_nil)
    (pss_one (ps_ret (pe_callB (cr_all rfl) rfl O.all (by decide +kernel) (pa_cons (pe_lc (own := [("thing", 1)]) (g := gName 1) (tt := tYes) rfl scRooms.nd
            (pi_tup (pv 0)) (blkOk_by (N := ["things", "thing"]) (sc := defScope sRooms) (by decide +kernel))
            (fun _ _ _ _ _ => pg_name (i := 1) scRooms.nd rfl (Or.inl rfl)) (fun _ _ _ _ _ => pts_nil)
            (fun _ _ _ _ _ => pe_callB (show CallR _ (.builtin "isinstance") (rIsi K) from call_isi) rfl O.isi (by decide +kernel) (pa_cons (pv 1) (pa_cons (pe_glob (v := .ref C) rfl mR rfl) pa_nil)))) pa_nil)))), ?_⟩
  refine ⟨_, rfl, _, _, _, _, true, rfl, .ty "tuple", .base (.tup hR), kb "tuple" "tuple" true, _, rfl, itF rfl ?_⟩
  refine ⟨_, rfl, R, _, rfl, .inr (SqT.of hR), _, _, rfl, rfl, _, rfl, itT ?_ ⟨_, _, rfl, rfl, _, rfl, itF ?_ ?_⟩⟩
  · exact decide_eq_true (by rw [List.length_map]; omega)
  · show (!decide (((as.map V.ref).length : Int) ≤ 8)) = false
    rw [decide_eq_true (by rw [List.length_map]; omega)]
    rfl
  refine ⟨_, rfl, R, rfl, ⟨_, SqT.of hR⟩, fun D hD => ?_⟩
  refine turns_tup (K := K) (a := R) (xs := as.map V.ref) ((as.map V.ref).map fun _ => some (.bl true)) hD (fun Hc sm => SqT.of (sm _ _ hR)) (by rw [List.length_map]) (by rw [List.length_map]; omega) ?_ ?_
  · intro i z o Hc Y N hz ho sm hY hN
    have eo : o = some (.bl true) := by
      rw [List.getElem?_map, hz] at ho
      exact (Option.some.inj ho).symm
    obtain ⟨e, he, rfl⟩ := refs_at hz
    obtain ⟨r, _, dx, n, a, b, s', k, t, p, y, h1, h2⟩ := paired_get hp he
    exact ⟨rfl, _, rfl, _, _, _, _, true, rfl, .own C, .base (.ins (sm _ _ h1) T.cl TI.ha TI.hn TI.htk TI.hm), TI.one, hY _ eo Hc same_refl⟩
  · intro Hc hc sm
    rw [fm_true] at hc
    refine ⟨D, _, rfl, SqL.of hc, ?_⟩
    rw [List.all_map, show ((as.map V.ref).all (id ∘ fun _ => true)) = true from List.all_eq_true.mpr fun _ _ => rfl]
    exact q Hc sm
theorem ok_namef (T : RoomC K C) (F : Fun K "name_fits" "name_fits" sNameF f fd) (GN : FnOk P w K mg base CX0 1 nm nmd ["thing"] spName) (bN : Binds K nmd ["thing"] []) (kN : PySem.W.keepIn K (.ref nm) = true) (mN : mg "is_name" = some (.ref nm)) :
    FnOk P w K mg base CX0 2 f fd ["rooms", "at"] (spNameF C) := by
  refine F.ok scNameF (fun vs H Q E h => ?_) (fun cdv A outer s H vs Q E hr h => ?_)
  · obtain ⟨R, i, rs, r, rfl, _⟩ := h
    rfl
  obtain ⟨R, i, rs, r, rfl, ⟨as, hR, hp⟩, z8, hi, k1, k2, q⟩ := h
  have hl := paired_len hp
  have hs : sizeLine = 16777216 := sizeLine_eq
  have hlt : i < rs.length := (List.getElem?_eq_some_iff.mp hi).1
  obtain ⟨e, he, hx⟩ := paired_put hp hi
  obtain ⟨dx, n, a, b, s', k, t, p, y, h1, h2⟩ := id hx
  have hn := h2.name
  subst hn
  have hlr : (as.map V.ref).length = rs.length := by rw [List.length_map]; exact hl
  refine ⟨_, pss_cons (ps_set (i := 2) scNameF.nd rfl (Or.inl rfl) (pe_fld (pe_ix ix_tup (pv 0) (pv 1) (fun _ _ => rfl)) rfl))
    (pss_one (ps_ret (pe_and (pe_call GN hr rfl mN kN bN .nil pass0 (pa_cons (pv 2) pa_nil)) (pe_one (pe_cmpR op_notIn_seq (pv 2) (pe_lc (own := [("room", 3)]) (g := gName 3) (tt := tYes) (te := tFld K (tVar 3) "name") rfl scNameF.nd
            (pi_tup (pe_slice sl_tup (pv 0) po_none (po_some (pv 1)))) (blkOk_by (N := ["rooms", "at", "name", "room"]) (sc := defScope sNameF) (by decide +kernel))
            (fun _ _ _ _ _ => pg_name (i := 3) scNameF.nd rfl (Or.inl rfl)) (fun _ _ _ _ _ => pts_nil) (fun _ _ _ _ _ => pe_fld (pv 3) rfl)) (by rfl)))))), ?_⟩
  refine ⟨_, rfl, _, rfl, R, _, i, _, rfl, rfl, SqT.of hR, atI_nat (j := i) (by rw [List.getElem?_map, he]; rfl), e, C, dx, _, _, rfl, h1, T.cl, T.n1, rf_name, ?_⟩
  refine ⟨_, rfl, r.name, rfl, k1, fun H1 s1 => ⟨_, rfl, itT rfl ?_⟩⟩
  refine ⟨_, rfl, _, rfl, _, rfl, i, rfl, R, _, rfl, SqT.of (s1 _ _ hR), ?_, fun p2 hp2 => ⟨p2, rfl, ⟨_, SqT.of upd_same⟩, fun D hD => ?_⟩⟩
  · rw [HT.sIx_nat, hlr]
    intro z
    have := z.2
    omega
  rw [cut_to _ _ (by rw [hlr]; omega), ← List.map_take] at hD ⊢
  have s2 := s1.trans (same_new hp2 (.tup ((as.take i).map V.ref)))
  have hp' := paired_take hp i
  refine turns_tup (K := K) (a := p2) (xs := (as.take i).map V.ref) ((rs.take i).map fun o => some (V.str o.name)) hD (fun Hc sm => SqT.of (sm _ _ upd_same)) (by rw [List.length_map, List.length_map]; exact (paired_len hp').symm) (by rw [List.length_map, List.length_take]; omega) ?_ ?_
  · intro j z o Hc Y N hz ho sm hY hN
    obtain ⟨e', he', rfl⟩ := refs_at hz
    obtain ⟨r', hr', dx', n', a', b', s'', k', t', p', y', h1', h2'⟩ := paired_get hp' he'
    rw [List.getElem?_map, hr'] at ho
    have hn' := h2'.name
    subst hn'
    exact ⟨rfl, _, rfl, e', C, dx', _, _, rfl, sm _ _ (s2 _ _ h1'), T.cl, T.n1, rf_name, hY _ (Option.some.inj ho).symm Hc same_refl⟩
  · intro Hc hc sm
    rw [fm_some (fun o : Rm => V.str o.name)] at hc
    have e3 : (rs.take i).map (fun o : Rm => V.str o.name) = ((rs.take i).map (·.name)).map V.str := by rw [List.map_map]; rfl
    rw [e3] at hc
    refine ⟨D, _, rfl, .inl (SqL.of hc), rfl, strs_flat _, ?_⟩
    show Q (.bl (!inV _ _)) Hc
    rw [in_strs, decide_eq_false k2]
    exact q Hc (s2.trans sm)
end
end Any
namespace Any
open L2 PySem PySem.Spec PyProof.Rows LamX NdefX
section
variable {P : Program} {w : World} {K : PySem.W.Frag} {mg : Str → Option Value} {base : Heap} {f C nm ib bn : Addr} {fd nmd ibd bnd : FuncData}
theorem ok_bodyf (T : RoomC K C) (F : Fun K "body_fault" "body_fault" sBodyF f fd) (IB : FnOk P w K mg base CX0 27 ib ibd ps4 spIsB) (bI : Binds K ibd ps4 []) (kI : PySem.W.keepIn K (.ref ib) = true) (mI : mg "is_body" = some (.ref ib))
    (BN : FnOk P w K mg base CX0 1 bn bnd ["room"] (spBn C)) (bB : Binds K bnd ["room"] []) (kB : PySem.W.keepIn K (.ref bn) = true) (mB : mg "box_names" = some (.ref bn)) :
    FnOk P w K mg base CX0 28 f fd ["rooms", "at", "words"] (spBodyF C) := by
  refine F.ok scBodyF (fun vs H Q E h => ?_) (fun cdv A outer s H vs Q E hr h => ?_)
  · obtain ⟨R, wd, i, rs, r, ws, rfl, _⟩ := h
    rfl
  obtain ⟨R, wd, i, rs, r, ws, rfl, ⟨as, hR, hp⟩, z8, hi, hz, hb, hw, q⟩ := h
  have hl := paired_len hp
  have hs : sizeLine = 16777216 := sizeLine_eq
  obtain ⟨e, he, hx⟩ := paired_put hp hi
  obtain ⟨dx, n, a, b, s', k, t, p, y, h1, h2⟩ := id hx
  have hn := h2.name
  subst hn
  obtain ⟨c, rfl, hc⟩ := h2.body
  refine ⟨_, pss_cons (ps_set (i := 3) scBodyF.nd rfl (Or.inr rfl) (pe_ix ix_tup (pv 0) (pv 1) (fun _ _ => rfl)))
    (pss_cons (ps_setLc (i := 4) (own := [("other", 5)]) (g := gName 5) (tt := tTest (tOp rEq (tFld K (tVar 5) "above") (tFld K (tVar 3) "name"))) (te := tFld K (tVar 5) "name") (by rfl) scBodyF.nd rfl rfl (sw_true rfl rfl rfl (by decide +kernel)) (pi_tup (pv 0)) (blkOk_by (N := nmBo) (sc := defScope sBodyF) (by decide +kernel))
          (fun _ _ _ _ _ => pg_name (i := 5) scBodyF.nd rfl (Or.inl rfl)) (fun _ _ _ _ _ => pts_one (pt_cmpR op_eq (pe_fld (pv 5) rfl) (pe_fld (pv 3) rfl) (nomark _))) (fun _ _ _ _ _ => pe_fld (pv 5) rfl))
    (pss_cons (ps_if (pt_val (pe_call IB hr rfl mI kI bI .nil pass0 (pa_cons (pe_fld (pv 3) rfl) (pa_cons (pe_call BN (hr.mono (by decide)) rfl mB kB bB .nil pass0 (pa_cons (pv 3) pa_nil)) (pa_cons (pv 2) (pa_cons (pv 4) pa_nil)))))) (pss_one (ps_ret pe_str)) pss_nil)
    (pss_one (ps_ret pe_str)))), ?_⟩
  refine ⟨_, rfl, _, rfl, R, _, i, _, rfl, rfl, SqT.of hR, atI_nat (j := i) (by rw [List.getElem?_map, he]; rfl), ?_⟩
  refine ⟨_, rfl, R, rfl, ⟨_, SqT.of hR⟩, fun D hD => ?_⟩
  refine turns_tup (K := K) (a := R) (xs := as.map V.ref) (rs.map fun o => if o.above = r.name then some (V.str o.name) else none) hD (fun Hc sm => SqT.of (sm _ _ hR)) (by rw [List.length_map, List.length_map]; exact hl.symm) (by rw [List.length_map]; omega) ?_ ?_
  · intro j z o Hc Y N hz2 ho sm hY hN
    obtain ⟨e', he', rfl⟩ := refs_at hz2
    obtain ⟨r', hr', dx', n', a', b', s'', k', t', p', y', h1', h2'⟩ := paired_get hp he'
    rw [List.getElem?_map, hr'] at ho
    have ho : o = if r'.above = r.name then some (V.str r'.name) else none := (Option.some.inj ho).symm
    have hn' := h2'.name
    have ha' := h2'.above
    subst hn' ha'
    refine ⟨rfl, _, rfl, e', C, dx', _, _, rfl, sm _ _ h1', T.cl, T.n2, rf_above, _, rfl, e, C, dx, _, _, rfl, sm _ _ h1, T.cl, T.n1, rf_name, rfl, _, rfl, ite2 (fun c1 => ?_) (fun c1 => ?_)⟩
    · have e9 : r'.above = r.name := V.str.inj (of_decide_eq_true c1)
      rw [if_pos e9] at ho
      exact ⟨_, rfl, e', C, dx', _, _, rfl, sm _ _ h1', T.cl, T.n1, rf_name, hY _ ho Hc same_refl⟩
    · have e9 : ¬ r'.above = r.name := fun z => c1 (decide_eq_true (by rw [z]))
      rw [if_neg e9] at ho
      exact hN ho Hc same_refl
  · intro Hc hc2 sm
    rw [fm_ben] at hc2
    refine ⟨_, rfl, e, C, dx, _, _, rfl, sm _ _ h1, T.cl, T.n8, rf_body, ?_⟩
    refine ⟨_, rfl, e, r, rfl, hx.keep sm, hz, fun l H2 hl2 s2 hL => ⟨_, rfl, _, rfl, ?_⟩⟩
    have s3 := sm.trans s2
    refine ⟨c, l, wd, D, r.body, r.bn, ws, ben rs r.name, rfl, hc.keep (Same.tups s3), hb, .inl hL, s3 _ _ hw, .inl (s2 _ _ hc2), fun H3 s4 => ⟨_, rfl, itT rfl (q H3 (s3.trans s4))⟩⟩
end
end Any
namespace Any
open L2 PySem PySem.Spec PyProof.Rows LamX NdefX
/-! ### floors -/
def climb (st : Nat × Str) (r : Rm) : Nat × Str := if r.name = st.2 then (st.1 + 1, r.above) else st
def floorOf (rs : List Rm) (i : Nat) (a : Str) : Nat := ((rs.take i).reverse.foldl climb (1, a)).1
theorem climb_yes {st : Nat × Str} {r : Rm} (h : r.name = st.2) : climb st r = (st.1 + 1, r.above) := if_pos h
theorem climb_no {st : Nat × Str} {r : Rm} (h : ¬ r.name = st.2) : climb st r = st := if_neg h
/-- what a loop over a row from its end asks -/
def Loop (J : It) (g : TG) (tb : TS) (D : Ends) (σ : L2.St) (H : Hp) : Prop :=
  ∃ W : Nat → Nat → L2.St → Hp → Prop, (∃ m, W 0 m σ H) ∧
    ∀ i m σ H, W i m σ H →
      (J.stop i H ∧ D.nx σ H) ∨
      (J.go i H ∧ ∃ N : L2.St → Hp → Prop, (∀ σ' H', N σ' H' → ∃ m', m' < m ∧ W (i + 1) m' σ' H') ∧
        ∀ x H', J.yld i H x H' → g x σ H' fun σ2 H2 => tb { D with nx := N, ct := N, bk := D.nx } σ2 H2)
theorem loop_rt {K : PySem.W.Frag} {a : Addr} {xs : List V} {g : TG} {tb : TS} {D : Ends} {σ : L2.St} {H : Hp} (Pv : Nat → L2.St → Hp → Prop) (h0 : Pv 0 σ H) (hl : ∀ i σ H, Pv i σ H → SqT K H a xs)
    (hs : ∀ i x σ H, xs.reverse[i]? = some x → Pv i σ H → g x σ H fun σ2 H2 => tb { D with nx := Pv (i + 1), ct := Pv (i + 1), bk := D.nx } σ2 H2) (hd : ∀ σ H, Pv xs.length σ H → D.nx σ H) : Loop (RT.ItvT K a xs.length) g tb D σ H := by
  refine ⟨fun i m σ H => m = xs.length - i ∧ i ≤ xs.length ∧ Pv i σ H, ⟨_, rfl, Nat.zero_le _, h0⟩, ?_⟩
  rintro i m σ H ⟨rfl, hi, p⟩
  have sq := hl i σ H p
  by_cases lt : i < xs.length
  · have e : xs.reverse[i]? = xs[xs.length - 1 - i]? := List.getElem?_reverse lt
    have e2 : xs[xs.length - 1 - i]? = some (xs[xs.length - 1 - i]'(by omega)) := by rw [List.getElem?_eq_getElem]
    refine .inr ⟨⟨lt, xs, _, sq, e2⟩, Pv (i + 1), fun σ' H' q => ⟨_, by omega, rfl, lt, q⟩, fun x H' y => ?_⟩
    obtain ⟨rfl, y⟩ := y
    exact hs i x σ H' (e.trans (y xs sq)) p
  · have e : i = xs.length := by omega
    subst e
    exact .inl ⟨Nat.le_refl _, hd σ H p⟩
abbrev nmFl : List Str := ["rooms", "at", "floor", "above", "room"]
theorem scFloor : FnScope nmFl ["rooms", "at"] (defScope sFloor) := ⟨rfl, rfl, rfl, by decide +kernel, rfl, by decide +kernel, by decide +kernel⟩
def spFloor (C : Addr) : Sp := fun vs H Q _ => ∃ (R : Addr) (i : Nat) (rs : List Rm) (r : Rm), vs = [.ref R, .int i] ∧ RsAt C H R rs ∧ rs[i]? = some r ∧ ∀ H', Same H H' → Q (.int (floorOf rs i r.above)) H'
theorem fold_take {α β : Type} (f : β → α → β) (b : β) {l : List α} {i : Nat} {x : α} (h : l[i]? = some x) : (l.take (i + 1)).foldl f b = f ((l.take i).foldl f b) x := by
  rw [List.take_add_one, h, List.foldl_append]
  rfl
theorem paired_rev {α β : Type} {R : α → β → Prop} : ∀ {xs : List α} {ys : List β}, Paired R xs ys → ∀ {us : List α} {vs : List β}, Paired R us vs → Paired R (xs.reverse ++ us) (ys.reverse ++ vs)
  | _, _, .nil, us, vs, h => h
  | _, _, .cons r t, us, vs, h => by
    rw [List.reverse_cons, List.reverse_cons, List.append_assoc, List.append_assoc]
    exact paired_rev t (.cons r h)
section
variable {P : Program} {w : World} {K : PySem.W.Frag} {mg : Str → Option Value} {base : Heap} {f C fl : Addr} {fd fld : FuncData}
theorem ok_floor (T : RoomC K C) (mrev : mg "reversed" = none) (F : Fun K "floor_of" "floor_of" sFloor f fd) : FnOk P w K mg base CX0 1 f fd ["rooms", "at"] (spFloor C) := by
  refine F.ok scFloor (fun vs H Q E h => ?_) (fun cdv A outer s H vs Q E hr h => ?_)
  · obtain ⟨R, i, rs, r, rfl, _⟩ := h
    rfl
  obtain ⟨R, i, rs, r, rfl, ⟨as, hR, hp⟩, hi, q⟩ := h
  have hl := paired_len hp
  have hlt : i < rs.length := (List.getElem?_eq_some_iff.mp hi).1
  obtain ⟨e, he, hx⟩ := paired_put hp hi
  obtain ⟨dx, n, a, b, s', k, t, p, y, h1, h2⟩ := id hx
  have ha := h2.above
  subst ha
  have hlr : (as.map V.ref).length = rs.length := by rw [List.length_map]; exact hl
  refine ⟨_, pss_cons (ps_set (i := 2) scFloor.nd rfl (Or.inl rfl) pe_int)
    (pss_cons (ps_set (i := 3) scFloor.nd rfl (Or.inl rfl) (pe_fld (pe_ix ix_tup (pv 0) (pv 1) (fun _ _ => rfl)) rfl))
    (pss_cons (ps_for PassesOwn.never rfl (RT.pi_revA rfl mrev (pe_slice sl_tup (pv 0) po_none (po_some (pv 1)))) (pg_name (i := 4) scFloor.nd rfl (Or.inl rfl))
      (pss_one (ps_if (pt_cmpR op_eq (pe_fld (pv 4) rfl) (pv 3) (nomark _)) (pss_cons (ps_set (i := 3) scFloor.nd rfl (Or.inl rfl) (pe_fld (pv 4) rfl)) (pss_one (ps_aug (i := 2) scFloor.nd rfl (Or.inl rfl) pe_int ip_add))) pss_nil)))
    (pss_one (ps_ret (pv 2))))), ?_⟩
  refine ⟨_, rfl, _, rfl, R, _, i, _, rfl, rfl, SqT.of hR, atI_nat (j := i) (by rw [List.getElem?_map, he]; rfl), e, C, dx, _, _, rfl, h1, T.cl, T.n2, rf_above, ?_⟩
  refine ⟨_, rfl, _, rfl, i, rfl, R, _, rfl, SqT.of hR, ?_, fun p2 hp2 => ?_⟩
  · rw [HT.sIx_nat, hlr]
    intro z
    have := z.2
    omega
  rw [cut_to _ _ (by rw [hlr]; omega), ← List.map_take]
  have hp' := paired_take hp i
  have hpr : Paired (RmAt C H) (as.take i).reverse (rs.take i).reverse := by
    have := paired_rev hp' .nil
    rw [List.append_nil, List.append_nil] at this
    exact this
  have s1 := same_new hp2 (.tup ((as.take i).map V.ref))
  refine ⟨p2, (as.take i).map V.ref, rfl, .inr ⟨SqT.of upd_same, ?_⟩⟩
  refine loop_rt (K := K) (a := p2) (xs := (as.take i).map V.ref) (fun j σ Hc => ∃ x, Hc = upd H p2 (.tup ((as.take i).map V.ref)) ∧ σ = [some (.ref R), some (.int i), some (.int (((rs.take i).reverse.take j).foldl climb (1, r.above)).1), some (.str (((rs.take i).reverse.take j).foldl climb (1, r.above)).2), x]) ?_ ?_ ?_ ?_
  · exact ⟨_, rfl, rfl⟩
  · rintro j σ Hc ⟨x, rfl, rfl⟩
    exact SqT.of upd_same
  · rintro j v σ Hc hv ⟨x, rfl, rfl⟩
    rw [← List.map_reverse] at hv
    obtain ⟨e', he', rfl⟩ := refs_at hv
    obtain ⟨r', hr', dx', n', a', b', s'', k', t', p', y', h1', h2'⟩ := paired_get hpr he'
    have hn' := h2'.name
    have ha' := h2'.above
    subst hn' ha'
    have ft := fold_take climb (1, r.above) hr'
    refine ⟨_, rfl, e', C, dx', _, _, rfl, s1 _ _ h1', T.cl, T.n1, rf_name, _, rfl, rfl, _, rfl, ite2 (fun c1 => ?_) (fun c1 => ?_)⟩
    · have e9 := V.str.inj (of_decide_eq_true c1)
      refine ⟨_, rfl, e', C, dx', _, _, rfl, s1 _ _ h1', T.cl, T.n2, rf_above, ?_⟩
      refine ⟨_, rfl, _, _, rfl, rfl, some (.ref e'), rfl, ?_⟩
      rw [ft, climb_yes e9]
      rfl
    · have e9 : ¬ r'.name = _ := fun z => c1 (decide_eq_true (by rw [z]))
      refine ⟨some (.ref e'), rfl, ?_⟩
      rw [ft, climb_no e9]
      rfl
  · rintro σ Hc ⟨x, rfl, rfl⟩
    refine ⟨_, rfl, ?_⟩
    have e5 : ((rs.take i).reverse.take ((as.take i).map V.ref).length) = (rs.take i).reverse := by
      rw [List.length_map, paired_len hp', ← List.length_reverse, List.take_length]
    rw [e5]
    exact q _ s1
theorem scAboveF : FnScope ["rooms", "at", "above", "room"] ["rooms", "at"] (defScope sAboveF) := ⟨rfl, rfl, rfl, by decide +kernel, rfl, by decide +kernel, by decide +kernel⟩
/-- above as point 7 has it -/
def aboveOk (rs : List Rm) (i : Nat) (r : Rm) : Prop := (i = 0 → r.above = "") ∧ (i ≠ 0 → r.above ∈ (rs.take i).map (·.name) ∧ floorOf rs i r.above ≤ 4)
def spAboveF (C : Addr) : Sp := fun vs H Q _ => ∃ (R : Addr) (i : Nat) (rs : List Rm) (r : Rm), vs = [.ref R, .int i] ∧ RsAt C H R rs ∧ rs.length ≤ 8 ∧ rs[i]? = some r ∧ aboveOk rs i r ∧ ∀ H', Same H H' → Q (.bl true) H'
theorem ok_abovef (T : RoomC K C) (F : Fun K "above_fits" "above_fits" sAboveF f fd) (GF : FnOk P w K mg base CX0 1 fl fld ["rooms", "at"] (spFloor C)) (bF : Binds K fld ["rooms", "at"] []) (kF : PySem.W.keepIn K (.ref fl) = true) (mF : mg "floor_of" = some (.ref fl))
    {t4 : Tok} (m4 : mg "MOST_FLOORS" = some (.int 4 t4)) : FnOk P w K mg base CX0 2 f fd ["rooms", "at"] (spAboveF C) := by
  refine F.ok scAboveF (fun vs H Q E h => ?_) (fun cdv A outer s H vs Q E hr h => ?_)
  · obtain ⟨R, i, rs, r, rfl, _⟩ := h
    rfl
  obtain ⟨R, i, rs, r, rfl, hRs, z8, hi, ok, q⟩ := h
  obtain ⟨as, hR, hp⟩ := id hRs
  have hl := paired_len hp
  have hs : sizeLine = 16777216 := sizeLine_eq
  have hlt : i < rs.length := (List.getElem?_eq_some_iff.mp hi).1
  obtain ⟨e, he, hx⟩ := paired_put hp hi
  obtain ⟨dx, n, a, b, s', k, t, p, y, h1, h2⟩ := id hx
  have ha := h2.above
  subst ha
  have hlr : (as.map V.ref).length = rs.length := by rw [List.length_map]; exact hl
  refine ⟨_, pss_cons (ps_set (i := 2) scAboveF.nd rfl (Or.inl rfl) (pe_fld (pe_ix ix_tup (pv 0) (pv 1) (fun _ _ => rfl)) rfl))
    (pss_cons (ps_if (pt_cmpR op_eq (pv 1) pe_int (nomark _)) (pss_one (ps_ret (pe_cmpR op_eq (pv 2) pe_str (nomark _)))) pss_nil)
    (pss_one (ps_ret (pe_and (pe_cmpR op_in_seq (pv 2) (pe_lc (own := [("room", 3)]) (g := gName 3) (tt := tYes) (te := tFld K (tVar 3) "name") rfl scAboveF.nd
            (pi_tup (pe_slice sl_tup (pv 0) po_none (po_some (pv 1)))) (blkOk_by (N := ["rooms", "at", "above", "room"]) (sc := defScope sAboveF) (by decide +kernel))
            (fun _ _ _ _ _ => pg_name (i := 3) scAboveF.nd rfl (Or.inl rfl)) (fun _ _ _ _ _ => pts_nil) (fun _ _ _ _ _ => pe_fld (pv 3) rfl)) (by rfl))
      (pe_one (pe_cmpR op_le (pe_call GF hr rfl mF kF bF .nil pass0 (pa_cons (pv 0) (pa_cons (pv 1) pa_nil))) (pe_glob (v := .int 4) rfl m4 ⟨_, rfl⟩) (nomark _))))))), ?_⟩
  refine ⟨_, rfl, _, rfl, R, _, i, _, rfl, rfl, SqT.of hR, atI_nat (j := i) (by rw [List.getElem?_map, he]; rfl), e, C, dx, _, _, rfl, h1, T.cl, T.n2, rf_above, ?_⟩
  refine ⟨_, rfl, rfl, _, rfl, ite2 (fun c1 => ?_) (fun c1 => ?_)⟩
  · have i0 : (i : Int) = 0 := V.int.inj (of_decide_eq_true c1)
    refine ⟨_, rfl, rfl, ?_⟩
    rw [ok.1 (by omega)]
    exact q _ same_refl
  have i0 : i ≠ 0 := fun z => c1 (decide_eq_true (by rw [z]; rfl))
  obtain ⟨o1, o2⟩ := ok.2 i0
  refine ⟨_, rfl, _, rfl, _, rfl, i, rfl, R, _, rfl, SqT.of hR, ?_, fun p2 hp2 => ⟨p2, rfl, ⟨_, SqT.of upd_same⟩, fun D hD => ?_⟩⟩
  · rw [HT.sIx_nat, hlr]
    intro z
    have := z.2
    omega
  rw [cut_to _ _ (by rw [hlr]; omega), ← List.map_take] at hD ⊢
  have s2 := same_new hp2 (.tup ((as.take i).map V.ref))
  have hp' := paired_take hp i
  refine turns_tup (K := K) (a := p2) (xs := (as.take i).map V.ref) ((rs.take i).map fun o => some (V.str o.name)) hD (fun Hc sm => SqT.of (sm _ _ upd_same)) (by rw [List.length_map, List.length_map]; exact (paired_len hp').symm) (by rw [List.length_map, List.length_take]; omega) ?_ ?_
  · intro j z o Hc Y N hz ho sm hY hN
    obtain ⟨e', he', rfl⟩ := refs_at hz
    obtain ⟨r', hr', dx', n', a', b', s'', k', t', p', y', h1', h2'⟩ := paired_get hp' he'
    rw [List.getElem?_map, hr'] at ho
    have hn' := h2'.name
    subst hn'
    exact ⟨rfl, _, rfl, e', C, dx', _, _, rfl, sm _ _ (s2 _ _ h1'), T.cl, T.n1, rf_name, hY _ (Option.some.inj ho).symm Hc same_refl⟩
  · intro Hc hc sm
    rw [fm_some (fun o : Rm => V.str o.name)] at hc
    have e3 : (rs.take i).map (fun o : Rm => V.str o.name) = ((rs.take i).map (·.name)).map V.str := by rw [List.map_map]; rfl
    rw [e3] at hc
    have s3 := s2.trans sm
    refine ⟨D, _, rfl, .inl (SqL.of hc), rfl, strs_flat _, true, congrArg V.bl (in_eq o1), itT rfl ?_⟩
    refine ⟨_, rfl, _, rfl, R, i, rs, r, rfl, hRs.keep s3, hi, fun H4 s4 => ⟨_, _, rfl, rfl, ?_⟩⟩
    show Q (.bl (decide ((floorOf rs i r.above : Int) ≤ 4))) H4
    rw [decide_eq_true (by omega)]
    exact q H4 (s3.trans s4)
end
end Any
namespace Any
open L2 PySem PySem.Spec PyProof.Rows LamX NdefX
theorem Gr.seq {T : List NTab} {K : PySem.W.Frag} {H H' : Hp} (g : Gr T H H') {a : Addr} {xs : List V} (h : SqL K H a xs) : SqL K H' a xs := by
  rcases h with (h | ⟨o, h⟩) | h
  · exact .inl (.inl (g.lst h))
  · exact .inl (.inr ⟨o, g.ext _ _ h fun _ z => by cases z⟩)
  · exact .inr h
theorem Bag.gr {T : List NTab} {H H' : Hp} {b : Addr} {n : Nat} (h : Bag H b n) (g : Gr T H H') : Bag H' b n := by
  obtain ⟨x, y, z, h1, h2⟩ := h
  exact ⟨x, y, z, g.lst h1, h2⟩
theorem tabs_kept {T : List NTab} {b : Addr} {H H' : Hp} {xs : List V} (t : TabsN T H) (hb : H b = some (.lst xs)) (k : Kept b H H') : TabsN T H' := fun p hp => by
  obtain ⟨ps, h1, h2, h3⟩ := t p hp
  refine ⟨ps, k _ _ (ne_of h1 hb (by intro z; cases z)) h1, h2, fun pos cv hc => ?_⟩
  obtain ⟨c, e1, e2⟩ := h3 pos cv hc
  exact ⟨c, e1, k _ _ (ne_of e2 hb (by unfold CodeO; intro z; cases z)) e2⟩
theorem gr_kept {T : List NTab} {b : Addr} {H0 H1 H2 : Hp} {m : Nat} (g : Gr T H0 H1) (n : H0 b = none) (B : Bag H1 b m) (k : Kept b H1 H2) : Gr T H0 H2 := by
  obtain ⟨xs, hb⟩ := B.lst
  refine ⟨fun a o h nt => k a o (ne_of_none h n) (g.ext a o h nt), fun c z => ?_, tabs_kept g.tabs hb k⟩
  by_cases e : c = b
  · rw [e]
    exact n
  · refine g.no c ?_
    cases q : H1 c with
    | none => rfl
    | some o => rw [k c o e q] at z; cases z
theorem gr_put {T : List NTab} {p : Addr} {H0 H1 : Hp} {xs ys : List V} (g : Gr T H0 H1) (n : H0 p = none) (h : H1 p = some (.lst xs)) : Gr T H0 (upd H1 p (.lst ys)) := by
  refine ⟨fun a o ha nt => ?_, fun c z => ?_, tabs_kept g.tabs h (Kept.put _)⟩
  · rw [upd_ne (ne_of_none ha n)]
    exact g.ext a o ha nt
  · by_cases e : c = p
    · rw [e]
      exact n
    · rw [upd_ne e] at z
      exact g.no c z
/-- as heaps grow, one object aside -/
structure Kg (T : List NTab) (b : Addr) (H H' : Hp) : Prop where
  ext : ∀ a o, a ≠ b → H a = some o → (∀ ps, o ≠ .tbl ps) → H' a = some o
  no : ∀ a, a ≠ b → H' a = none → H a = none
  tabs : TabsN T H'
section
variable {T : List NTab} {b : Addr} {H H1 H2 : Hp}
theorem tabs_keptO {o : HO} (t : TabsN T H) (hb : H b = some o) (n1 : ∀ ps, o ≠ .tbl ps) (n2 : ∀ c x, o ≠ CodeO c x) (k : Kept b H H1) : TabsN T H1 := fun p hp => by
  obtain ⟨ps, h1, h2, h3⟩ := t p hp
  refine ⟨ps, k _ _ (ne_of h1 hb (fun z => n1 _ z.symm)) h1, h2, fun pos cv hc => ?_⟩
  obtain ⟨c, e1, e2⟩ := h3 pos cv hc
  exact ⟨c, e1, k _ _ (ne_of e2 hb (fun z => n2 _ _ z.symm)) e2⟩
theorem kept_no (k : Kept b H H1) : ∀ a, a ≠ b → H1 a = none → H a = none := fun a n z => by
  cases q : H a with
  | none => rfl
  | some o => rw [k a o n q] at z; cases z
theorem Kg.of (g : Gr T H H1) : Kg T b H H1 := ⟨fun a o _ h n => g.ext a o h n, fun a _ z => g.no a z, g.tabs⟩
theorem Kg.refl (t : TabsN T H) : Kg T b H H := .of (.refl t)
theorem Kg.trans (k : Kg T b H H1) (g : Kg T b H1 H2) : Kg T b H H2 := ⟨fun a o n h m => g.ext a o n (k.ext a o n h m) m, fun a n z => k.no a n (g.no a n z), g.tabs⟩
theorem Kg.gr (k : Kg T b H H1) (g : Gr T H1 H2) : Kg T b H H2 := k.trans (.of g)
theorem Kg.same (k : Kg T b H H1) (s : Same H1 H2) : Kg T b H H2 := k.gr (.of k.tabs s)
theorem Kg.kept {m : Nat} (k : Kg T b H H1) (B : Bag H1 b m) (g : Kept b H1 H2) : Kg T b H H2 := by
  obtain ⟨xs, hb⟩ := B.lst
  exact k.trans ⟨fun a o n h _ => g a o n h, kept_no g, tabs_kept k.tabs hb g⟩
theorem Kg.lst (k : Kg T b H H1) {a : Addr} {xs : List V} (n : a ≠ b) (h : H a = some (.lst xs)) : H1 a = some (.lst xs) := k.ext _ _ n h fun _ z => by cases z
theorem Kg.dK (k : Kg T b H H1) {a : Addr} {xs : List (Key × V)} (n : a ≠ b) (h : H a = some (.dK xs)) : H1 a = some (.dK xs) := k.ext _ _ n h fun _ z => by cases z
theorem Bag.kgt {m : Nat} (B : Bag H b m) (k : Kg T b H H1) : Tups H H1 := fun a ts h => by
  obtain ⟨xs, hb⟩ := B.lst
  exact k.ext _ _ (ne_of h hb (by intro z; cases z)) h fun _ z => by cases z
theorem gr_kg {H0 : Hp} (g : Gr T H0 H1) (n : H0 b = none) (k : Kg T b H1 H2) : Gr T H0 H2 := by
  refine ⟨fun a o h nt => k.ext a o (ne_of_none h n) (g.ext a o h nt) nt, fun c z => ?_, k.tabs⟩
  by_cases e : c = b
  · rw [e]
    exact n
  · exact g.no c (k.no c e z)
theorem gr_keptO {H0 : Hp} {o : HO} (g : Gr T H0 H1) (n : H0 b = none) (hb : H1 b = some o) (n1 : ∀ ps, o ≠ .tbl ps) (n2 : ∀ c x, o ≠ CodeO c x) (k : Kept b H1 H2) : Gr T H0 H2 :=
  gr_kg g n ⟨fun a o m h _ => k a o m h, kept_no k, tabs_keptO g.tabs hb n1 n2 k⟩
end
theorem Gr.ins {T : List NTab} {H H' : Hp} (g : Gr T H H') {a C d : Addr} {fs : List (Str × V)} (h : H a = some (.ins C d fs)) : H' a = some (.ins C d fs) := g.ext _ _ h fun _ z => by cases z
theorem RmAt.gr {T : List NTab} {C : Addr} {H H' : Hp} (g : Gr T H H') {x : Addr} {r : Rm} (h : RmAt C H x r) : RmAt C H' x r := by
  obtain ⟨dx, n, a, b, s, q, t, p, y, h1, h2⟩ := h
  exact ⟨dx, n, a, b, s, q, t, p, y, g.ins h1, h2.keep g.tups⟩
theorem RsAt.gr {T : List NTab} {C : Addr} {H H' : Hp} (g : Gr T H H') {R : Addr} {rs : List Rm} (h : RsAt C H R rs) : RsAt C H' R rs := by
  obtain ⟨as, h1, h2⟩ := h
  exact ⟨as, g.tup h1, paired_imp (fun _ _ q => q.gr g) h2⟩
end Any
namespace Any
open L2 PySem PySem.Spec PyProof.Rows LamX NdefX
abbrev kwsW : List (Str × V) := [("asked", .int 0), ("told", .int 0)]
/-! ### a right one has its worth -/
theorem Ex.fit_good {xs ws : List Str} : ∀ {e : Ex}, e.fit xs ws → e.good xs
  | .num n, h => by
    have h : 0 ≤ n ∧ n ≤ 999 := h
    show 0 ≤ n ∧ n < 1024
    omega
  | .box x, h => h
  | .asked, _ => trivial
  | .told, _ => trivial
  | .op _ l r, h => ⟨Ex.fit_good h.1, Ex.fit_good h.2⟩
theorem Ts.fit_good {xs ws : List Str} : ∀ {e : Ts}, e.fit xs ws → e.dp ≤ 6 → e.good xs
  | .is l r, h, d => by
    have d : max l.deep r.deep + 1 ≤ 6 := d
    exact ⟨⟨Ex.fit_good h.1, by omega⟩, ⟨Ex.fit_good h.2, by omega⟩⟩
  | .bel l r, h, d => by
    have d : max l.deep r.deep + 1 ≤ 6 := d
    exact ⟨⟨Ex.fit_good h.1, by omega⟩, ⟨Ex.fit_good h.2, by omega⟩⟩
  | .nt t, h, d => by
    have d : t.dp + 1 ≤ 6 := d
    exact Ts.fit_good (e := t) h (by omega)
  | .both t u, h, d => by
    have d : max t.dp u.dp + 1 ≤ 6 := d
    exact ⟨Ts.fit_good h.1 (by omega), Ts.fit_good h.2 (by omega)⟩
  | .either t u, h, d => by
    have d : max t.dp u.dp + 1 ≤ 6 := d
    exact ⟨Ts.fit_good h.1 (by omega), Ts.fit_good h.2 (by omega)⟩
theorem Ts.deep_dp : ∀ e : Ts, e.deep ≤ e.dp
  | .is l r => by show 1 ≤ max l.deep r.deep + 1; omega
  | .bel l r => by show 1 ≤ max l.deep r.deep + 1; omega
  | .nt t => by have := t.deep_dp; show t.deep + 1 ≤ t.dp + 1; omega
  | .both t u => by have := t.deep_dp; have := u.deep_dp; show max t.deep u.deep + 1 ≤ max t.dp u.dp + 1; omega
  | .either t u => by have := t.deep_dp; have := u.deep_dp; show max t.deep u.deep + 1 ≤ max t.dp u.dp + 1; omega
/-- the firsts of a room's boxes -/
def Rm.firsts (r : Rm) : List (Str × Int) := r.boxes.map fun x => (x.1, x.2.2)
theorem firsts_look : ∀ {bs : List (Str × Int × Int)}, (∀ b ∈ bs, crateOk b) → ∀ x ∈ bs.map (·.1), ∃ n, look (bs.map fun b => (b.1, b.2.2)) x = some n ∧ 0 ≤ n ∧ n < 1024
  | [], _, x, h => by cases h
  | b :: bs, hb, x, h => by
    obtain ⟨_, ⟨_, h2⟩, h3, h4⟩ := hb b (List.mem_cons_self ..)
    unfold look
    rw [List.map_cons, List.find?_cons]
    by_cases e : b.1 = x
    · rw [decide_eq_true e]
      exact ⟨b.2.2, rfl, h3, by omega⟩
    · rw [decide_eq_false e]
      rcases List.mem_cons.mp h with z | z
      · exact absurd z.symm e
      · exact firsts_look (fun c hc => hb c (List.mem_cons_of_mem _ hc)) x z
theorem bx_new {kvs : List (Str × Int)} {x : Str} {n : Int} (h : x ∉ kvs.map (·.1)) : putK (bx kvs) (Sum.inr x) (.int n) = bx (kvs ++ [(x, n)]) := by
  rw [putK_new]
  · unfold bx
    rw [List.map_append]
    rfl
  · rw [bx_val]
    have : look kvs x = none := by
      unfold look
      rw [List.find?_eq_none.mpr fun p hp z => h (List.mem_map.mpr ⟨p, hp, of_decide_eq_true z⟩)]
      rfl
    rw [this]
    rfl
theorem nd_take {α : Type} : ∀ {l : List α} {i : Nat} {x : α}, l.Nodup → l[i]? = some x → x ∉ l.take i
  | [], i, x, _, h => by simp at h
  | y :: r, 0, x, _, _ => by intro m; cases m
  | y :: r, i + 1, x, nd, h => by
    rw [List.take_succ_cons]
    intro m
    have h' : r[i]? = some x := h
    obtain ⟨n1, n2⟩ := List.nodup_cons.mp nd
    rcases List.mem_cons.mp m with z | z
    · exact n1 (z ▸ List.mem_of_getElem? h')
    · exact nd_take n2 h' z
abbrev nmSy : List Str := ["room", "firsts", "name", "bound", "first", "saying"]
theorem scSaysF : FnScope nmSy ["room"] (defScope sSaysF) := ⟨rfl, rfl, rfl, by decide +kernel, rfl, by decide +kernel, by decide +kernel⟩
/-- the sayings as point 6 has them -/
def Rm.saysOk (r : Rm) : Prop := r.sayings.length ≤ 4 ∧ ∀ t ∈ r.sayings, t.right r.bn [] ∧ t.val r.firsts 0 0 = true
def Rm.boxesOk (r : Rm) : Prop := r.boxes.length ≤ 4 ∧ (∀ b ∈ r.boxes, crateOk b) ∧ r.bn.Nodup
def spSaysF (T : List NTab) (C : Addr) : Sp := fun vs H Q _ => ∃ x r, vs = [.ref x] ∧ RmAt C H x r ∧ r.boxesOk ∧ r.saysOk ∧ TabsN T H ∧ ∀ H', Gr T H H' → Q (.bl true) H'
section
variable {P : Program} {w : World} {K : PySem.W.Frag} {mg : Str → Option Value} {base : Heap} {f C it ho : Addr} {fd itd hod : FuncData} {T_ : List NTab}
theorem kh_plain (F : FunD K "holds" "holds" (defArgs sHolds) (defBody sHolds) (defScope sHolds) [] kwsW f fd) : ∃ ds, Vals [.int 0, .int 0] ds ∧ Binds K fd psH ds := by
  refine F.binds0 2 (by decide) rfl fun D doc pm an cdv ct us ks l1 l2 => ?_
  match us, ks, l1, l2 with
  | [u1, u2], [w1, w2], _, _ => exact ⟨_, _, _, _, _, _, rfl, rfl, _, _, _, _, _, _, rfl, rfl, rfl⟩
theorem ok_saysf (O : Own mg) (T : RoomC K C) (F : Fun K "sayings_fit" "sayings_fit" sSaysF f fd) {t4 : Tok} (m4 : mg "MOST_SAYINGS" = some (.int 4 t4))
    (IT : FnOk P w K mg base CX0 16 it itd ps3 spIsT) (bIT : Binds K itd ps3 []) (kIT : PySem.W.keepIn K (.ref it) = true) (mIT : mg "is_test" = some (.ref it))
    (W : FunD K "holds" "holds" (defArgs sHolds) (defBody sHolds) (defScope sHolds) [] kwsW ho hod) (GH : FnOk P w K mg base CX0 13 ho hod psH (spHolds T_ 5)) (mH : mg "holds" = some (.ref ho)) :
    FnOk P w K mg base CX0 17 f fd ["room"] (spSaysF T_ C) := by
  refine F.ok scSaysF (fun vs H Q E h => ?_) (fun cdv A outer s H vs Q E hr h => ?_)
  · obtain ⟨x, r, rfl, _⟩ := h
    rfl
  obtain ⟨x, r, rfl, hx, ⟨hz, hcr, hnd⟩, ⟨hy, hsy⟩, hT, q⟩ := h
  obtain ⟨dx, n, a, b, s', k, t, p, y, h1, h2⟩ := id hx
  obtain ⟨c, rfl, as, hc, hp⟩ := h2.boxes
  obtain ⟨d, rfl, us, hd, hu⟩ := h2.sayings
  obtain ⟨ds, hds, bH⟩ := kh_plain W
  have hr12 := hr.mono (show 13 ≤ 16 by decide)
  have hs : sizeLine = 16777216 := sizeLine_eq
  have hl := paired_len hp
  have hlu := paired_len hu
  refine ⟨_, pss_cons (ps_if (PW.pt (pw_or (pt_not (pt_val (pe_callB call_isi rfl O.isi (by decide +kernel) (pa_cons (pe_fld (pv 0) rfl) (pa_cons (pe_bltn (v := .ty "tuple") rfl O.tuple (by decide +kernel) rfl) pa_nil)))))
      (pw_or1 (pt_cmpR op_gt (pe_callB call_len_seq rfl O.len PySem.boot_len (pa_cons (pe_fld (pv 0) rfl) pa_nil)) (pe_glob (v := .int 4) rfl m4 ⟨_, rfl⟩) (nomark _))))) (pss_one (ps_ret pe_bl)) pss_nil)
    (pss_cons (ps_set (i := 1) scSaysF.nd rfl (Or.inr rfl) (pe_dc (own := [("name", 2), ("bound", 3), ("first", 4)]) (g := gTup K 3 (gCons (gName 2) (gCons (gName 3) (gCons (gName 4) gNil)))) (tt := tYes) rfl scSaysF.nd (pi_tup (pe_fld (pv 0) rfl)) (blkOk_by (N := nmSy) (sc := defScope sSaysF) (by decide +kernel))
        (fun _ _ _ _ _ => pg_tup rfl (pgs_cons (pg_name (i := 2) scSaysF.nd rfl (Or.inl rfl)) (pgs_cons (pg_name (i := 3) scSaysF.nd rfl (Or.inl rfl)) (pgs_cons (pg_name (i := 4) scSaysF.nd rfl (Or.inl rfl)) pgs_nil))))
        (fun _ _ _ _ _ => pts_nil) (fun _ _ _ _ _ => pv 2) (fun _ _ _ _ _ => pv 4)))
    (pss_cons (ps_if (pt_not (pt_val (pe_callB (cr_all rfl) rfl O.all (by decide +kernel) (pa_cons (pe_lc (own := [("saying", 5)]) (g := gName 5) (tt := tYes) rfl scSaysF.nd (pi_tup (pe_fld (pv 0) rfl)) (blkOk_by (N := nmSy) (sc := defScope sSaysF) (by decide +kernel))
        (fun _ _ _ _ _ => pg_name (i := 5) scSaysF.nd rfl (Or.inl rfl)) (fun _ _ _ _ _ => pts_nil)
        (fun _ _ _ _ _ => pe_call IT hr rfl mIT kIT bIT .nil pass0 (pa_cons (pv 5) (pa_cons (pe_callTy (call_listD rfl) rfl O.list (by decide +kernel) (pa_cons (pv 1) pa_nil)) (pa_cons (pe_tup pa_nil) pa_nil))))) pa_nil)))) (pss_one (ps_ret pe_bl)) pss_nil)
    (pss_one (ps_ret (pe_callB (cr_all rfl) rfl O.all (by decide +kernel) (pa_cons (pe_lc (own := [("saying", 5)]) (g := gName 5) (tt := tYes) rfl scSaysF.nd (pi_tup (pe_fld (pv 0) rfl)) (blkOk_by (N := nmSy) (sc := defScope sSaysF) (by decide +kernel))
        (fun _ _ _ _ _ => pg_name (i := 5) scSaysF.nd rfl (Or.inl rfl)) (fun _ _ _ _ _ => pts_nil)
        (fun _ _ _ _ _ => pe_call GH hr12 rfl mH W.kp bH hds pass0 (pa_cons (pv 5) (pa_cons (pv 1) pa_nil)))) pa_nil)))))), ?_⟩
  refine ⟨_, rfl, x, C, dx, _, _, rfl, h1, T.cl, T.n4, rf_sayings, _, _, _, _, true, rfl, .ty "tuple", .base (.tup hd), kb "tuple" "tuple" true, _, rfl, itF rfl ?_⟩
  refine ⟨_, rfl, x, C, dx, _, _, rfl, h1, T.cl, T.n4, rf_sayings, _, _, rfl, .inr (SqT.of hd), _, _, rfl, rfl, _, rfl, itF ?_ ?_⟩
  · exact decide_eq_false (by omega)
  refine ⟨_, rfl, x, C, dx, _, _, rfl, h1, T.cl, T.n3, rf_boxes, c, rfl, ⟨_, SqT.of hc⟩, fun D hD => ?_⟩
  refine dc_tup (K := K) (a := c) (xs := as.map V.ref) (fun i Hc => Hc D = some (.dK (bx (r.firsts.take i))) ∧ Same H Hc) ⟨upd_same, same_new hD _⟩ (fun i Hc _ z => SqT.of (z.2 _ _ hc)) ?_ ?_
  · rintro i v Hc hv ⟨hC, sm⟩
    obtain ⟨e, he, rfl⟩ := refs_at hv
    obtain ⟨z, hz2, hat⟩ := paired_get hp he
    refine ⟨e, _, rfl, SqT.of (sm _ _ hat), rfl, _, _, rfl, _, _, rfl, _, _, rfl, rfl, rfl, _, rfl, _, rfl, _, Sum.inr z.1, rfl, hC, ?_, ?_, fun b o hb => ?_⟩
    · unfold bx Rm.firsts
      rw [List.length_map, List.length_take, List.length_map]
      omega
    · have hf : r.firsts[i]? = some (z.1, z.2.2) := by
        unfold Rm.firsts
        rw [List.getElem?_map, hz2]
        rfl
      rw [upd_same, bx_new]
      · rw [List.take_add_one, hf]
        rfl
      · have eb : (r.firsts.take i).map (·.1) = r.bn.take i := by
          unfold Rm.firsts Rm.bn
          rw [← List.map_take, ← List.map_take, List.map_map]
          rfl
        rw [eb]
        refine nd_take hnd ?_
        unfold Rm.bn
        rw [List.getElem?_map, hz2]
        rfl
    · rw [upd_ne (ne_of_none hb hD)]
      exact sm _ _ hb
  · rintro Hc ⟨hC, sm⟩
    have e0 : r.firsts.take (as.map V.ref).length = r.firsts := by
      have : (as.map V.ref).length = r.firsts.length := by
        unfold Rm.firsts
        rw [List.length_map, List.length_map]
        exact hl
      rw [this, List.take_length]
    rw [e0] at hC
    have hN : (bx r.firsts).map (fun kv => kV kv.1) = r.bn.map V.str := by
      unfold bx Rm.firsts Rm.bn
      rw [List.map_map, List.map_map, List.map_map]
      rfl
    have hB : Bx r.firsts r.bn := ⟨firsts_look hcr⟩
    refine ⟨_, rfl, x, C, dx, _, _, rfl, sm _ _ h1, T.cl, T.n4, rf_sayings, d, rfl, ⟨_, SqT.of (sm _ _ hd)⟩, fun D2 hD2 => ?_⟩
    refine turns_tup (K := K) (a := d) (xs := us) (us.map fun _ => some (.bl true)) hD2 (fun Hc' sm' => SqT.of (sm' _ _ (sm _ _ hd))) (by rw [List.length_map]) (by omega) ?_ ?_
    · intro i z o Hc' Y N hz3 ho sm' hY hN2
      have eo : o = some (.bl true) := by
        rw [List.getElem?_map, hz3] at ho
        exact (Option.some.inj ho).symm
      obtain ⟨t1, ht1, hat⟩ := paired_get hu hz3
      obtain ⟨k1, k2⟩ := hsy t1 (List.mem_of_getElem? ht1)
      have s3 := sm.trans sm'
      refine ⟨rfl, _, rfl, _, rfl, D, _, rfl, .inl (sm' _ _ hC), fun l hl2 => ⟨by show 0 ≤ sizeLine; decide, fun wd hwd => ?_⟩⟩
      have s4 := (same_new hl2 (.lst ((bx r.firsts).map fun kv => kV kv.1))).trans (same_new hwd (.tup []))
      refine ⟨z, l, wd, t1, r.bn, [], rfl, hat.keep (Same.tups (s3.trans s4)), k1, .inl ?_, upd_same, fun H4 s5 => hY _ eo H4 (s4.trans s5)⟩
      rw [← hN]
      exact (same_new hwd _) _ _ upd_same
    · intro H2 hc2 sm2
      rw [fm_true] at hc2
      have s3 := sm.trans sm2
      refine ⟨D2, _, rfl, SqL.of hc2, _, rfl, itF ?_ ?_⟩
      · rw [List.all_map, show (us.all (id ∘ fun _ => true)) = true from List.all_eq_true.mpr fun _ _ => rfl]
        rfl
      refine ⟨_, rfl, x, C, dx, _, _, rfl, s3 _ _ h1, T.cl, T.n4, rf_sayings, d, rfl, ⟨_, SqT.of (s3 _ _ hd)⟩, fun D3 hD3 => ?_⟩
      have t3 : TabsN T_ H2 := hT.ext s3
      refine lc_tup (K := K) (a := d) (xs := us) (fun i Hc' => Hc' D3 = some (.lst ((List.replicate i true).map V.bl)) ∧ Gr T_ H2 Hc') ⟨upd_same, Gr.of t3 (same_new hD3 _)⟩ (fun i Hc' _ z => SqT.of (z.2.tup (s3 _ _ hd))) ?_ ?_
      · rintro i z Hc' hz3 ⟨hC3, gr⟩
        obtain ⟨t1, ht1, hat⟩ := paired_get hu hz3
        obtain ⟨k1, k2⟩ := hsy t1 (List.mem_of_getElem? ht1)
        have dd := t1.deep_dp
        have d5 := k1.2.1
        have hi3 : i < us.length := (List.getElem?_eq_some_iff.mp hz3).1
        refine ⟨rfl, _, rfl, _, rfl, z, D, t1, r.firsts, r.bn, 0, 0, rfl, (hat.keep (Same.tups s3)).keep gr.tups, by omega, Ts.fit_good k1.1 (by omega), hB, gr.dK (sm2 _ _ hC), ⟨by decide, by decide⟩, ⟨by decide, by decide⟩, gr.tabs, fun H4 g4 => ?_⟩
        rw [k2]
        refine ⟨_, g4.lst hC3, by rw [List.length_map, List.length_replicate]; omega, ?_, gr_put (gr.trans g4) hD3 (g4.lst hC3)⟩
        rw [upd_same, List.replicate_succ', List.map_append]
        rfl
      · rintro H3 ⟨hc3, gr⟩
        refine ⟨D3, _, rfl, SqL.of hc3, ?_⟩
        rw [show ((List.replicate us.length true).all id) = true from List.all_eq_true.mpr fun b hb => (List.eq_of_mem_replicate hb)]
        exact q H3 ((Gr.of hT s3).trans gr)
end
end Any
namespace Any
open L2 PySem PySem.Spec PyProof.Rows LamX NdefX
/-- a statement that is never come to -/
theorem ps_never {X : Cx} {st : Stmt} : PS X st (fun _ _ _ => False) := ⟨fun _ _ _ _ _ _ h => h.elim⟩
def spBoxesF : Sp := fun vs H Q _ => ∃ c bs, vs = [.ref c] ∧ CratesAt H c bs ∧ bs.length ≤ 4 ∧ (∀ b ∈ bs, crateOk b) ∧ (bs.map (·.1)).Nodup ∧ sortedS (bs.map (·.1)) = true ∧ ∀ H', Same H H' → Q (.bl true) H'
/-- a room as points 6 and 7 have it, at its place -/
structure roomOk (rs : List Rm) (i : Nat) (r : Rm) : Prop where
  name : Nm r.name
  one : r.name ∉ (rs.take i).map (·.name)
  above : aboveOk rs i r
  boxes : r.boxesOk
  asc : sortedS r.bn = true
  says : r.saysOk
  first : i = 0 → r.firstOk ∧ r.body.right r.bn [] (ben rs r.name)
  other : i ≠ 0 → r.otherOk ∧ r.body.right r.bn ["asked"] (ben rs r.name)
theorem scFault : FnScope ["rooms", "at", "room"] ["rooms", "at"] (defScope sFault) := ⟨rfl, rfl, rfl, by decide +kernel, rfl, by decide +kernel, by decide +kernel⟩
def spFault (T : List NTab) (C : Addr) : Sp := fun vs H Q _ => ∃ (R : Addr) (i : Nat) (rs : List Rm) (r : Rm), vs = [.ref R, .int i] ∧ RsAt C H R rs ∧ rs.length ≤ 8 ∧ rs[i]? = some r ∧ roomOk rs i r ∧ TabsN T H ∧ ∀ H', Gr T H H' → Q (.str "") H'
abbrev psRA : List Str := ["rooms", "at"]
section
variable {P : Program} {w : World} {K : PySem.W.Frag} {mg : Str → Option Value} {base : Heap} {f C g1 g2 g3 g4 g5 g6 g7 : Addr} {fd d1 d2 d3 d4 d5 d6 d7 : FuncData} {T_ : List NTab}
theorem no_str {H : Hp} : TruV K (.str "") H false := ⟨by decide, by decide⟩
theorem ok_fault (T : RoomC K C) (F : Fun K "fault_of" "fault_of" sFault f fd)
    (G1 : FnOk P w K mg base CX0 2 g1 d1 psRA (spNameF C)) (b1 : Binds K d1 psRA []) (k1 : PySem.W.keepIn K (.ref g1) = true) (m1 : mg "name_fits" = some (.ref g1))
    (G2 : FnOk P w K mg base CX0 2 g2 d2 psRA (spAboveF C)) (b2 : Binds K d2 psRA []) (k2 : PySem.W.keepIn K (.ref g2) = true) (m2 : mg "above_fits" = some (.ref g2))
    (G3 : FnOk P w K mg base CX0 4 g3 d3 ["boxes"] spBoxesF) (b3 : Binds K d3 ["boxes"] []) (k3 : PySem.W.keepIn K (.ref g3) = true) (m3 : mg "boxes_fit" = some (.ref g3))
    (G4 : FnOk P w K mg base CX0 17 g4 d4 ["room"] (spSaysF T_ C)) (b4 : Binds K d4 ["room"] []) (k4 : PySem.W.keepIn K (.ref g4) = true) (m4 : mg "sayings_fit" = some (.ref g4))
    (G5 : FnOk P w K mg base CX0 1 g5 d5 ["room"] (spFirstF C)) (b5 : Binds K d5 ["room"] []) (k5 : PySem.W.keepIn K (.ref g5) = true) (m5 : mg "first_fault" = some (.ref g5))
    (G6 : FnOk P w K mg base CX0 17 g6 d6 ["room"] (spOtherF C)) (b6 : Binds K d6 ["room"] []) (k6 : PySem.W.keepIn K (.ref g6) = true) (m6 : mg "other_fault" = some (.ref g6))
    (G7 : FnOk P w K mg base CX0 28 g7 d7 ["rooms", "at", "words"] (spBodyF C)) (b7 : Binds K d7 ["rooms", "at", "words"] []) (k7 : PySem.W.keepIn K (.ref g7) = true) (m7 : mg "body_fault" = some (.ref g7)) :
    FnOk P w K mg base CX0 29 f fd psRA (spFault T_ C) := by
  refine F.ok scFault (fun vs H Q E h => ?_) (fun cdv A outer s H vs Q E hr h => ?_)
  · obtain ⟨R, i, rs, r, rfl, _⟩ := h
    rfl
  obtain ⟨R, i, rs, r, rfl, hRs, z8, hi, ok, hT, q⟩ := h
  obtain ⟨as, hR, hp⟩ := id hRs
  obtain ⟨e, he, hx⟩ := paired_put hp hi
  obtain ⟨dx, n, a, b, s', k, t, p, y, h1, h2⟩ := id hx
  obtain ⟨c, rfl, hc⟩ := h2.boxes
  have hr2 := hr.mono (show 2 ≤ 28 by decide)
  have hr17 := hr.mono (show 17 ≤ 28 by decide)
  refine ⟨_, pss_cons (ps_set (i := 2) scFault.nd rfl (Or.inl rfl) (pe_ix ix_tup (pv 0) (pv 1) (fun _ _ => rfl)))
    (pss_cons (ps_if (pt_not (pt_val (pe_call G1 hr2 rfl m1 k1 b1 .nil pass0 (pa_cons (pv 0) (pa_cons (pv 1) pa_nil))))) (pss_one (ps_ret pe_str)) pss_nil)
    (pss_cons (ps_if (pt_not (pt_val (pe_call G2 hr2 rfl m2 k2 b2 .nil pass0 (pa_cons (pv 0) (pa_cons (pv 1) pa_nil))))) (pss_one (ps_ret pe_str)) pss_nil)
    (pss_cons (ps_if (pt_not (pt_val (pe_call G3 (hr.mono (by decide)) rfl m3 k3 b3 .nil pass0 (pa_cons (pe_fld (pv 2) rfl) pa_nil)))) (pss_one (ps_ret pe_str)) pss_nil)
    (pss_cons (ps_if (pt_not (pt_val (pe_call G4 hr17 rfl m4 k4 b4 .nil pass0 (pa_cons (pv 2) pa_nil)))) (pss_one (ps_ret pe_str)) pss_nil)
    (pss_cons (ps_if (pt_cmpR op_eq (pv 1) pe_int (nomark _)) (pss_one (ps_ret (pe_orT (pe_call G5 (hr.mono (by decide)) rfl m5 k5 b5 .nil pass0 (pa_cons (pv 2) pa_nil)) (pe_one (pe_call G7 hr rfl m7 k7 b7 .nil pass0 (pa_cons (pv 0) (pa_cons (pv 1) (pa_cons (pe_tup pa_nil) pa_nil)))))))) pss_nil)
    (pss_one (ps_ret (pe_orT (pe_call G6 hr17 rfl m6 k6 b6 .nil pass0 (pa_cons (pv 2) pa_nil)) (pe_one (pe_call G7 hr rfl m7 k7 b7 .nil pass0 (pa_cons (pv 0) (pa_cons (pv 1) (pa_cons (pe_tup (pa_cons pe_str pa_nil)) pa_nil))))))))))))), ?_⟩
  refine ⟨_, rfl, _, rfl, R, _, i, _, rfl, rfl, SqT.of hR, atI_nat (j := i) (by rw [List.getElem?_map, he]; rfl), ?_⟩
  refine ⟨_, rfl, _, rfl, R, i, rs, r, rfl, hRs, z8, hi, ok.name, ok.one, fun H1 s1 => ⟨_, rfl, itF rfl ?_⟩⟩
  refine ⟨_, rfl, _, rfl, R, i, rs, r, rfl, hRs.keep s1, z8, hi, ok.above, fun H2 s2 => ⟨_, rfl, itF rfl ?_⟩⟩
  have s2 := s1.trans s2
  refine ⟨_, rfl, e, C, dx, _, _, rfl, s2 _ _ h1, T.cl, T.n3, rf_boxes, c, r.boxes, rfl, hc.keep (Same.tups s2), ok.boxes.1, ok.boxes.2.1, ok.boxes.2.2, ok.asc, fun H3 s3 => ⟨_, rfl, itF rfl ?_⟩⟩
  have s3 := s2.trans s3
  refine ⟨_, rfl, e, r, rfl, hx.keep s3, ok.boxes, ok.says, hT.ext s3, fun H4 s4 => ⟨_, rfl, itF rfl ?_⟩⟩
  have s4 := (Gr.of hT s3).trans s4
  refine ⟨_, rfl, rfl, _, rfl, ite2 (fun c1 => ?_) (fun c1 => ?_)⟩
  · have i0 : (i : Int) = 0 := V.int.inj (of_decide_eq_true c1)
    obtain ⟨o1, o2⟩ := ok.first (by omega)
    refine ⟨_, rfl, e, r, rfl, hx.gr s4, o1, fun H5 s5 => ⟨false, no_str, itF rfl ?_⟩⟩
    have s5 := s4.same s5
    refine ⟨_, rfl, _, rfl, by show 0 ≤ sizeLine; decide, fun wd hwd => ?_⟩
    have s6 := s5.same (same_new hwd (.tup []))
    exact ⟨R, wd, i, rs, r, [], rfl, hRs.gr s6, z8, hi, ok.boxes.1, o2, upd_same, fun H7 s7 => q H7 (s6.same s7)⟩
  · have i0 : i ≠ 0 := fun z => c1 (decide_eq_true (by rw [z]; rfl))
    obtain ⟨o1, o2⟩ := ok.other i0
    refine ⟨_, rfl, e, r, rfl, hx.gr s4, ok.boxes.1, o1, fun H5 s5 => ⟨false, no_str, itF rfl ?_⟩⟩
    have s5 := s4.same s5
    refine ⟨_, rfl, _, rfl, by show 1 ≤ sizeLine; decide, fun wd hwd => ?_⟩
    have s6 := s5.same (same_new hwd (.tup [.str "asked"]))
    exact ⟨R, wd, i, rs, r, ["asked"], rfl, hRs.gr s6, z8, hi, ok.boxes.1, o2, upd_same, fun H7 s7 => q H7 (s6.same s7)⟩
end
/-! ### Program.__init__ -/
abbrev cProg : Stmt := top 52
abbrev sPInit : Stmt := inClass (top 52) 0
abbrev nmPI : List Str := ["self", "rooms", "at", "why"]
theorem scPInit : FnScope nmPI ["self", "rooms"] (defScope sPInit) := ⟨rfl, rfl, rfl, by decide +kernel, rfl, by decide +kernel, by decide +kernel⟩
structure ProgC (K : PySem.W.Frag) (D : Addr) : Prop where
  cl : Cls K D
  held : NoAttr K D "held"
  drawn : NoAttr K D "drawn"
/-- a right program -/
structure Right (rs : List Rm) : Prop where
  lo : 1 ≤ rs.length
  hi : rs.length ≤ 8
  all : ∀ i r, rs[i]? = some r → roomOk rs i r
def spPInit (T : List NTab) (C D : Addr) : Sp := fun vs H Q _ => ∃ (x dx R : Addr) (rs : List Rm), vs = [.ref x, .ref R] ∧ H x = some (.ins D dx []) ∧ RsAt C H R rs ∧ Right rs ∧ TabsN T H ∧
  ∀ p H', Kg T x H H' → H' x = some (.ins D dx [("held", .ref R), ("drawn", .ref p)]) → H' p = some (.tup []) → Q .non H'
theorem kg_ins {T : List NTab} {x D d : Addr} {H H1 : Hp} {fs gs : List (Str × V)} (g : Kg T x H H1) (hx : H1 x = some (.ins D d fs)) : Kg T x H (upd H1 x (.ins D d gs)) :=
  g.trans ⟨fun a o n h _ => by rw [upd_ne n]; exact h, fun a n z => by rw [upd_ne n] at z; exact z, tabs_keptO g.tabs hx (fun _ z => by cases z) (fun _ _ z => by unfold CodeO at z; cases z) (Kept.put _)⟩
section
variable {P : Program} {w : World} {K : PySem.W.Frag} {mg : Str → Option Value} {base : Heap} {f C D g1 g2 : Addr} {fd d1 d2 : FuncData} {T_ : List NTab}
theorem ok_pinit (O : Own mg) (mr : mg "range" = none) (TP : ProgC K D) (F : Fun K "__init__" "Program.__init__" sPInit f fd)
    (G1 : FnOk P w K mg base CX0 1 g1 d1 ["things"] (spRooms C)) (b1 : Binds K d1 ["things"] []) (k1 : PySem.W.keepIn K (.ref g1) = true) (m1 : mg "are_rooms" = some (.ref g1))
    (G2 : FnOk P w K mg base CX0 29 g2 d2 psRA (spFault T_ C)) (b2 : Binds K d2 psRA []) (k2 : PySem.W.keepIn K (.ref g2) = true) (m2 : mg "fault_of" = some (.ref g2)) :
    FnOk P w K mg base CX0 30 f fd ["self", "rooms"] (spPInit T_ C D) := by
  refine F.ok scPInit (fun vs H Q E h => ?_) (fun cdv A outer s H vs Q E hr h => ?_)
  · obtain ⟨x, dx, R, rs, rfl, _⟩ := h
    rfl
  obtain ⟨x, dx, R, rs, rfl, hx, hRs, ok, hT, q⟩ := h
  have hlo := ok.lo
  have hhi := ok.hi
  refine ⟨_, pss_cons (ps_if (pt_not (pt_val (pe_call G1 (hr.mono (by decide)) rfl m1 k1 b1 .nil pass0 (pa_cons (pv 1) pa_nil)))) (pss_one ps_never) pss_nil)
    (pss_cons (ps_for PassesOwn.never rfl (pi_range1 rfl mr (pa_cons (pe_callB call_len_seq rfl O.len PySem.boot_len (pa_cons (pv 1) pa_nil)) pa_nil)) (pg_name (i := 2) scPInit.nd rfl (Or.inl rfl))
      (pss_cons (ps_set (i := 3) scPInit.nd rfl (Or.inl rfl) (pe_call G2 hr rfl m2 k2 b2 .nil pass0 (pa_cons (pv 1) (pa_cons (pv 2) pa_nil))))
      (pss_one (ps_if (pt_cmpR op_ne (pv 3) pe_str (nomark _)) (pss_one ps_never) pss_nil))))
    (pss_cons (ps_fld (pv 0) (pv 1) rfl) (pss_one (ps_fld (pv 0) (pe_tup pa_nil) rfl)))), ?_⟩
  refine ⟨_, rfl, R, rs, rfl, hRs, hlo, hhi, fun H1 s1 => ⟨_, rfl, itF rfl ?_⟩⟩
  obtain ⟨as, hR, hp⟩ := hRs.keep s1
  have hl := paired_len hp
  have hlr : (as.map V.ref).length = rs.length := by rw [List.length_map]; exact hl
  refine ⟨_, rfl, R, _, rfl, .inr (SqT.of hR), _, rfl, by omega, by omega, ?_⟩
  refine for_range (lo := 0) (fun i σ Hc => ∃ y z, σ = [some (.ref x), some (.ref R), y, z] ∧ Gr T_ H Hc) ⟨_, _, rfl, Gr.of hT s1⟩ ?_ ?_
  · rintro i σ Hc hi ⟨y, z, rfl, sm⟩
    have hi' : i < rs.length := by omega
    obtain ⟨r, hir⟩ : ∃ r, rs[i]? = some r := ⟨rs[i], List.getElem?_eq_getElem hi'⟩
    refine ⟨_, rfl, _, rfl, R, i, rs, r, (by rw [Int.zero_add]; rfl), hRs.gr sm, hhi, hir, ok.all i r hir, sm.tabs, fun H2 s2 => ⟨_, rfl, rfl, _, rfl, itF ?_ ⟨_, _, rfl, sm.trans s2⟩⟩⟩
    rw [decide_eq_true rfl]
    rfl
  · rintro σ Hc ⟨y, z, rfl, sm⟩
    refine ⟨_, rfl, _, rfl, x, D, dx, [], rfl, sm.ins hx, TP.cl, TP.held, (by show 0 < 1000; decide), ?_⟩
    have e1 : upd Hc x (.ins D dx (putF "held" (.ref R) [])) x = some (.ins D dx [("held", .ref R)]) := upd_same
    have g1 : Kg T_ x H (upd Hc x (.ins D dx (putF "held" (.ref R) []))) := kg_ins (.of sm) (sm.ins hx)
    generalize upd Hc x (.ins D dx (putF "held" (.ref R) [])) = H5 at *
    refine ⟨by show 0 ≤ sizeLine; decide, fun p hp => ?_⟩
    have s6 := same_new hp (.tup [])
    refine ⟨_, rfl, x, D, dx, [("held", .ref R)], rfl, s6 _ _ e1, TP.cl, TP.drawn, (by show 1 < 1000; decide), ?_⟩
    have ef : putF "drawn" (.ref p) ([("held", .ref R)] : List (Str × V)) = ([("held", .ref R), ("drawn", .ref p)] : List (Str × V)) := by simp (decide := true) [putF]
    rw [ef]
    refine q p _ (kg_ins (g1.same s6) (s6 _ _ e1)) upd_same ?_
    rw [upd_ne (ne_of (o := .tup []) upd_same (s6 _ _ e1) (by intro z; cases z))]
    exact upd_same
end
end Any
namespace Any
open L2 PySem PySem.Spec PyProof.Rows LamX NdefX
/-! ### sets of texts -/
def keyT (e : Int × Value) : Str := match e.2 with
  | .str k _ => k
  | _ => ""
def GoodT (P : Program) (w : World) (e : Int × Value) : Prop := ∃ k u, e.2 = Value.str k u ∧ e.1 = (PySem.strKind P w).hash k
/-- the set of these texts at a: it can be walked -/
def SetX (P : Program) (w : World) (h : Heap) (a : Addr) (l : List Str) : Prop :=
  ∃ (o : Obj) (es : Array (Int × Value)) (ep : Nat) (t : SetTable), (h.get? a = some o ∧ o.ExactSet ∧ o.data = .set es ep t) ∧ ((∀ e ∈ es.toList, GoodT P w e) ∧ (es.toList.map keyT).Perm l) ∧
    (es.size < scanBound ∧ t.fits es.size = true) ∧ (Ris t.place.toList ∧ (w.params.followText "set-order" = true ∨ t.led = true))
section
variable {P : Program} {w : World} {A : Around} {E : Value → Shared → Prop} {s : Shared} {a : Addr} {l : List Str} {h h' : Heap}
theorem SetX.at (R : SetX P w h a l) (k : ∀ o, h.get? a = some o → h'.get? a = some o) : SetX P w h' a l := by
  obtain ⟨o, es, ep, t, ⟨h1, h2⟩, r⟩ := R
  exact ⟨o, es, ep, t, ⟨k o h1, h2⟩, r⟩
theorem goodT_elems {es : List (Int × Value)} (g : ∀ e ∈ es, GoodT P w e) : ElemsOf (PySem.strKind P w) es := by
  intro e he
  obtain ⟨k, u, q1, q2⟩ := g e he
  exact ⟨⟨k, by rw [q1]; exact strKind_is P w k u, q2⟩, by rw [q1] <;> rfl⟩
theorem goodT_is {e : Int × Value} (g : GoodT P w e) {k : Str} (q : (PySem.strKind P w).is k e.2 = true) : keyT e = k := by
  obtain ⟨k0, u, q1, _⟩ := g
  rw [q1] at q
  obtain ⟨u', z⟩ := Value.isStrOf_shape (show Value.isStrOf k (Value.str k0 u) = true from q)
  unfold keyT
  rw [q1]
  injection z
/-- the end of adding a new one -/
theorem addX_tail {g : Bool → Sem Unit} (hg : ∀ (b : Bool) (s1 : Shared) (Q1 : Unit → Shared → Prop), Q1 () s1 → wpAny (model P w) A (g b) Q1 E s1) {o : Obj} {es es1 : Array (Int × Value)} {ep : Nat} {t t2 : SetTable}
    (ho : s.heap.get? a = some o) (hex : o.ExactSet) (hd : o.data = .set es ep t) (gd : ∀ e ∈ es1.toList, GoodT P w e) (pm0 : (es1.toList.map keyT).Perm l) (hb : es1.size < scanBound) (hf : t2.fits es1.size = true)
    (hr : Ris t2.place.toList) (hl : w.params.followText "set-order" = true ∨ t2.led = true) {wasDummy : Bool} {R : Option Bool → Shared → Prop} (hR : ∀ h', Heap.SameBut a s.heap h' → SetX P w h' a l → R (some true) { s with heap := h' }) :
    wpAny (model P w) A (storeSet a es1 t2 >>= fun _ => if (!wasDummy && t2.tooFull) = true then (g (relayAll t2 es1 (SetTable.grown es1.size)).2.2 >>= fun _ =>
        storeSet a (relayAll t2 es1 (SetTable.grown es1.size)).1 (relayAll t2 es1 (SetTable.grown es1.size)).2.1 >>= fun _ => pure (some true)) else pure (some true)) R E s := by
  refine wpAny_bind (wpAny_storeSet_of ho hd ?_ (fits_of_scanBound hb))
  have st1 := store_at (es' := es1) (t' := t2) ho hd
  have sb := Heap.SameBut.update s.heap a (Obj.putSet es1 t2)
  split
  · have p1 := relayAll_perm t2 es1 (SetTable.grown es1.size)
    have p2 := relayAll_fits t2 es1 (SetTable.grown es1.size)
    have p3 := relayAll_ris t2 es1 (SetTable.grown es1.size)
    have p4 := relayAll_led t2 es1 (SetTable.grown es1.size)
    generalize relayAll t2 es1 (SetTable.grown es1.size) = Z at p1 p2 p3 p4 ⊢
    obtain ⟨es2, t3, gv⟩ := Z
    dsimp only at p1 p2 p3 p4 ⊢
    have sz : es2.size = es1.size := by
      have := p1.length_eq
      rw [Array.length_toList, Array.length_toList] at this
      exact this
    have hb2 : es2.size < scanBound := by omega
    refine wpAny_bind (hg _ _ _ (wpAny_bind (wpAny_storeSet_of st1 rfl ?_ (fits_of_scanBound hb2))))
    refine wpAny_pure (hR _ (sb.trans (Heap.SameBut.update _ a _)) ?_)
    exact ⟨_, es2, _, t3, ⟨store_at (es' := es2) (t' := t3) st1 rfl, hex, rfl⟩, ⟨fun e he => gd e (p1.mem_iff.mp he), (p1.map keyT).trans pm0⟩, ⟨hb2, p2⟩, p3, hl.imp id fun z => by rw [p4]; exact z⟩
  · exact wpAny_pure (hR _ sb ⟨_, es1, _, t2, ⟨st1, hex, rfl⟩, ⟨gd, pm0⟩, ⟨hb, hf⟩, hr, hl⟩)
theorem addX {k : Str} {u : Tok} {Q : Bool → Shared → Prop} (R : SetX P w s.heap a l) (hk : k ∉ l) (room : l.length + 1 < scanBound) (hQ : ∀ h', Heap.SameBut a s.heap h' → SetX P w h' a (k :: l) → Q true { s with heap := h' }) :
    wpAny (model P w) A (setAddHashed a (.str k u) ((PySem.strKind P w).hash k)) Q E s := by
  obtain ⟨o, es, ep, t, ⟨ho, hex, hd⟩, ⟨gd, pm0⟩, ⟨hb, hf⟩, hr, hl⟩ := R
  have isk : (PySem.strKind P w).is k (.str k u) = true := strKind_is P w k u
  have scn : (Value.str k u).scannable = true := rfl
  have elm := goodT_elems gd
  unfold setAddHashed setAddHashedIn
  refine wpAny_holding (wpAny_bind (wpAny_setState_of ho hd hf ?_))
  dsimp only
  rw [byScan_of scn hb elm]
  simp only [↓reduceIte]
  unfold setAddByScan
  refine wpAny_bind (wpAny_bind (wpAny_rule (wpAny_bind (wpAny_setScan_of isk ho hd hf elm ?_))))
  cases hfi : List.findIdx? (fun e => (PySem.strKind P w).is k e.2) es.toList with
  | some j =>
    obtain ⟨hj, pj, _⟩ := List.findIdx?_eq_some_iff_getElem.mp hfi
    have mm : es.toList[j] ∈ es.toList := List.getElem_mem hj
    exact absurd (pm0.mem_iff.mp (List.mem_map.mpr ⟨_, mm, goodT_is (gd _ mm) pj⟩)) hk
  | none =>
    dsimp only
    have p1 := layNew_perm t es ((PySem.strKind P w).hash k) (.str k u)
    have p2 := layNew_fits t es ((PySem.strKind P w).hash k) (.str k u)
    have p3 := layNew_ris t es ((PySem.strKind P w).hash k) (.str k u) hr
    have p4 := layNew_led t es ((PySem.strKind P w).hash k) (.str k u)
    generalize layNew t es ((PySem.strKind P w).hash k) (.str k u) = Z at p1 p2 p3 p4 ⊢
    obtain ⟨es1, t1, wd, gv⟩ := Z
    dsimp only at p1 p2 p3 p4 ⊢
    rw [Array.toList_push] at p1
    have pc := p1.trans (List.perm_append_singleton _ _)
    have pk : (es1.toList.map keyT).Perm (k :: l) := (pc.map keyT).trans (pm0.cons k)
    have gd1 : ∀ e ∈ es1.toList, GoodT P w e := fun e he => (List.mem_cons.mp (pc.mem_iff.mp he)).elim (fun z => z ▸ ⟨k, u, rfl, rfl⟩) (gd e)
    have sz : es1.size = l.length + 1 := by
      have := pk.length_eq
      rw [List.length_map, Array.length_toList, List.length_cons] at this
      exact this
    have hb1 : es1.size < scanBound := by omega
    have led1 : w.params.followText "set-order" = true ∨ t1.led = true := hl.imp id fun z => by rw [p4]; exact z
    have gw : ∀ (b : Bool) {s1 : Shared} {Q1 : Unit → Shared → Prop}, Q1 () s1 → wpAny (model P w) A (match b with | true => rule "set.scan.the-table-gave-way" | false => pure ()) Q1 E s1 := by
      intro b s1 Q1 q
      cases b <;> first | exact wpAny_pure q | exact wpAny_rule q
    refine wpAny_bind (gw _ ?_)
    split
    · refine wpAny_bind ?_
      rw [hashByValue_scannable 8 scn]
      refine wpAny_pure ?_
      refine addX_tail ?_ ho hex hd gd1 pk hb1 ?_ ?_ ?_ ?_
      · intro b s1 Q1 q
        cases b <;> first | exact wpAny_pure q | exact wpAny_rule q
      · first | (split <;> first | exact p2 | exact SetTable.fits_plain_off p2) | exact p2
      · first | (split <;> exact p3) | exact p3
      · first | (split <;> exact led1) | exact led1
      · intro h' sb r
        dsimp only
        exact wpAny_pure (hQ h' sb r)
    · refine wpAny_bind (wpAny_pure ?_)
      simp only [↓reduceIte]
      refine addX_tail ?_ ho hex hd gd1 pk hb1 p2 p3 led1 ?_
      · intro b s1 Q1 q
        cases b <;> first | exact wpAny_pure q | exact wpAny_rule q
      · intro h' sb r
        dsimp only
        exact wpAny_pure (hQ h' sb r)
end
end Any
namespace Any
open L2 PySem PySem.Spec PyProof.Rows LamX NdefX
section
variable {P : Program} {w : World} {A : Around} {E : Value → Shared → Prop} {s : Shared}
theorem take_rev {xs : List Str} {i : Nat} {k : Str} (h : xs[i]? = some k) : k :: (xs.take i).reverse = (xs.take (i + 1)).reverse := by
  rw [List.take_add_one, h, List.reverse_append]
  rfl
/-- set.update's loop over unlike texts -/
theorem loopX {I : Addr} {fp wr : List Addr} {G : Array GenState → Array GenState → Prop} {n : Nat} {Pv : Nat → Value → Prop} {St : Nat → Shared → Prop} {R : Result → Shared → Prop} (W : WalksS P w A.in1 I fp wr G n Pv St)
    (S : Addr) (off : S ∉ fp) (xs : List Str) (hn : n = xs.length) (nd : xs.Nodup) (few : xs.length + 1 < scanBound) (hv : ∀ i v, Pv i v → ∃ k u, xs[i]? = some k ∧ v = .str k u) :
    ∀ (m i : Nat) (s : Shared), n - i = m → i ≤ n → St i s → SetX P w s.heap S (xs.take i).reverse → (∀ s', Moved (S :: wr) G s s' → SetX P w s'.heap S xs.reverse → R (.ok (.ret .none)) s') →
      codeAny (model P w) A (.builtin "set.update.loop" ⟨[.ref S, .ref I], []⟩) R s := by
  have offw : S ∉ wr := fun z => off (W.sub _ z)
  have more : ∀ b ∈ wr, b ∈ S :: wr := fun b z => List.mem_cons_of_mem _ z
  intro m
  induction m with
  | zero =>
    intro i s em hi st hS hR
    obtain rfl : i = n := by omega
    refine codeAny_builtin F.entry_set_update_loop ?_
    rw [Around.under_plainId F.plain_set_update_loop _]
    show wpAny _ A.in1 (pyNext (.ref I) >>= _) _ _ s
    refine wpAny_bind (W.done s _ _ st fun s1 mv => ?_)
    rw [hn, List.take_length] at hS
    exact wpAny_pure (hR s1 (mv.mono more) (hS.at fun o e => mv.heap S o offw e))
  | succ m ih =>
    intro i s em hi st hS hR
    have lt : i < n := by omega
    refine codeAny_builtin F.entry_set_update_loop ?_
    rw [Around.under_plainId F.plain_set_update_loop _]
    show wpAny _ A.in1 (pyNext (.ref I) >>= _) _ _ s
    refine wpAny_bind (W.item i s _ _ lt st fun v s1 hP st1 mv => ?_)
    obtain ⟨k, u, hk, rfl⟩ := hv i v hP
    have hS1 : SetX P w s1.heap S (xs.take i).reverse := hS.at fun o e => mv.heap S o offw e
    show wpAny _ A.in1 (holding [Value.str k u] (setAdd S (.str k u)) >>= _) _ _ s1
    refine wpAny_bind (wpAny_holding ?_)
    unfold setAdd
    refine wpAny_holding (wpAny_bind ((PySem.strKind P w).pyHash (k := k) (strKind_is P w k u) ?_))
    have nk : k ∉ (xs.take i).reverse := fun z => nd_take nd hk (List.mem_reverse.mp z)
    refine addX (s := { s1 with toks := s1.toks + 1 }) hS1 nk (by rw [List.length_reverse, List.length_take]; omega) fun h2 sb hS2 => ?_
    rw [take_rev hk] at hS2
    refine wpAny_pure ⟨plainId_quiet F.plain_set_update_loop _, ih (i + 1) _ (by omega) lt (W.frame _ s1 _ _ st1 (Nat.le_succ _) fun b hb o e => ?_) hS2 fun s3 mv3 hS3 => ?_⟩
    · exact (sb.2 b (fun z : b = S => off (z ▸ hb))).trans e
    · refine hR s3 (Moved.trans W.gtrans ((mv.mono more).then_heap (Nat.le_succ _) fun b o hb e => ?_) mv3) hS3
      exact (sb.2 b (fun z : b = S => hb (by rw [z]; exact List.mem_cons_self))).trans e
theorem strs_get : ∀ {xs : List Str} {us : List Value}, Vals (xs.map V.str) us → ∀ {i : Nat} {v : Value}, us[i]? = some v → ∃ k u, xs[i]? = some k ∧ v = .str k u
  | [], _, .nil, i, v, h => by simp at h
  | x :: xs, _, .cons r t, 0, v, h => by
    cases h
    obtain ⟨u, q⟩ := r
    exact ⟨x, u, rfl, q⟩
  | x :: xs, _, .cons r t, i + 1, v, h => strs_get t (i := i) h
abbrev newS (w : World) : Obj := { cls := .type "set", dict := none, data := .set #[] 0 (.fresh 0 0 (!w.params.followText "set-order")) }
theorem setX_new {h : Heap} {a : Addr} (hg : h.get? a = some (newS w)) : SetX P w h a [] := by
  refine ⟨_, #[], 0, _, ⟨hg, ⟨rfl, rfl, rfl⟩, rfl⟩, ⟨fun e he => by simp at he, .nil⟩, ⟨by decide, rfl⟩, List.Pairwise.nil, ?_⟩
  show _ ∨ (!w.params.followText "set-order") = true
  cases w.params.followText "set-order"
  · exact .inr rfl
  · exact .inl rfl
set_option maxHeartbeats 3200000 in
/-- set(xs), xs a list of unlike texts -/
theorem call_setX {l : Addr} {its : Array Value} (xs : List Str) {Q : Value → Shared → Prop} (hh : A.handled = none) (hl : s.heap.IsList l its) (hv : Vals (xs.map V.str) its.toList) (nd : xs.Nodup) (few : xs.length + 1 < scanBound)
    (k : ∀ (h' : Heap) (tk : Nat), SetX P w h' s.heap.objs.size xs.reverse → (∀ b o, s.heap.get? b = some o → h'.get? b = some o) → Q (.ref s.heap.objs.size) { s with heap := h', toks := tk }) :
    wpAny (model P w) A (call (.type "set") [.ref l]) Q E s := by
  have sz : its.size = xs.length := by
    have := hv.length
    rw [List.length_map, Array.length_toList] at this
    exact this.symm
  obtain ⟨c, tl, mro⟩ := F.called_set.mro
  have mad := F.called_set.made
  have sub := F.called_set.sub
  refine wpAny_call (codeAny_of_tree ?_)
  show wpAny _ _ (callAny (.type "set") _) _ _ _
  refine wpAny_pure ⟨Code.quiet_builtin _ (by decide +kernel), codeAny_builtin F.entry_type_call ?_⟩
  rw [Around.under_plain (weight_type_call_type "set" [.ref l] []) rfl]
  have nt := F.called_set.notType
  have cc := F.called_set.canCreate
  have ct := F.typeCall_set_1 (.ref l)
  repeat (any_goals (first | assumption | wp_step))
  refine codeAny_mono (code_set_led1 (.ref l) (E := E) (Q₁ := fun ob s1 => ob = .ref s.heap.objs.size ∧ s1 = { s with heap := s.heap.push (newS w) }) ⟨rfl, rfl⟩) fun r s1 hr => ?_
  cases r with
  | error e => exact hr
  | ok fl =>
    cases fl with
    | ret ob =>
      obtain ⟨rfl, rfl⟩ := hr
      have gS : (s.heap.push (newS w)).get? s.heap.objs.size = some (newS w) := Heap.get?_push_size _ rfl
      have tS : Shared.TypeIs { s with heap := s.heap.push (newS w) } (.ref s.heap.objs.size) "set" := ⟨_, gS, rfl⟩
      have il := F.called_set.init.lookup
      have ib := F.called_set.init.bind (.ref s.heap.objs.size)
      repeat (any_goals (first | assumption | wp_step))
      refine codeAny_mono (codeAny_call_builtin (R := wants (fun r s2 => r = .none ∧ ∃ h' tk, s2 = { s with heap := h', toks := tk } ∧ SetX P w h' s.heap.objs.size xs.reverse ∧
          (∀ b o, s.heap.get? b = some o → h'.get? b = some o)) E) F.called_set.init.plain F.entry_set_init (check_set_init_1 tS ?_)) fun r2 s2 hr2 => ?_
      · obtain ⟨ol, hol, hcl, nl, hdl⟩ := hl
        obtain ⟨oc, od, oda, os⟩ := ol
        simp only at hcl hdl
        subst hcl hdl
        have hol1 : (s.heap.push (newS w)).get? l = some { cls := .type "list", dict := od, data := .seq its nl, slots := os } := Heap.get?_push_of_some _ hol
        have n1 := F.sub_list_set
        have n2 := F.sub_list_frozenset
        have n3 : (Value.type "list" == Value.type "dict") = false := by decide
        have l1 : (s.heap.push (newS w)).IsList l its := ⟨_, hol1, rfl, nl, rfl⟩
        unfold Builtin.«set.__init__» noKeywords Builtin.Frozenset.updateFrom
        generalize hPI : pyIter = PI
        wp_walk
        subst hPI
        refine wpAny_pyIter_list l1 (wpAny_bind (wpAny_runValue ?_))
        have lS : l < s.heap.objs.size := Heap.lt_size hol
        have h3 : A.in1.in1.in1.handled = none := by simp [hh]
        have lI : l ≠ (s.heap.push (newS w)).objs.size := by
          rw [Heap.size_push]
          exact Nat.ne_of_lt (Nat.lt_succ_of_lt lS)
        have off : s.heap.objs.size ∉ [(s.heap.push (newS w)).objs.size, l] := by
          rw [Heap.size_push]
          simp only [List.mem_cons, List.mem_singleton, List.not_mem_nil, or_false, not_or]
          exact ⟨Nat.ne_of_lt (Nat.lt_succ_self _), Nat.ne_of_gt lS⟩
        have val : ∀ (i : Nat) (v : Value), its[i]? = some v → ∃ k u, xs[i]? = some k ∧ v = .str k u := fun i v e => strs_get hv (by rw [Array.getElem?_toList]; exact e)
        refine loopX ((Walks.list h3 _ l lI its).toS) s.heap.objs.size off xs sz nd few val (its.size - 0) 0 _ (by omega) (Nat.zero_le _) ⟨⟨_, Heap.get?_push_size _ rfl, rfl, rfl⟩, (l1.push _)⟩ ?hS ?hR
        case hS => exact setX_new (Heap.get?_push_of_some _ gS)
        case hR =>
          intro s3 mv hS3
          obtain ⟨h3', g3, d3, tk3, os3⟩ := s3
          have e1 : g3 = s.gens := mv.gens
          have e2 : d3 = s.drawn := mv.drawn
          have e3 : os3 = s.os := mv.os
          subst e1 e2 e3
          show wpAny _ _ _ _ _ _
          refine wpAny_pure ?_
          show wpAny _ _ (ret Value.none) _ _ _
          refine wpAny_pure ⟨rfl, h3', tk3, rfl, hS3, fun b o e => ?_⟩
          have lb : b < s.heap.objs.size := Heap.lt_size e
          refine mv.heap b o ?_ (Heap.get?_push_of_some _ (Heap.get?_push_of_some _ e))
          simp only [List.mem_cons, List.mem_singleton, List.not_mem_nil, or_false, not_or]
          refine ⟨Nat.ne_of_lt lb, ?_⟩
          rw [Heap.size_push]
          exact Nat.ne_of_lt (Nat.lt_succ_of_lt lb)
      · cases r2 with
        | error e => exact hr2
        | ok fl2 =>
          cases fl2 with
          | ret r =>
            obtain ⟨rfl, h', tk, rfl, hS3, kp⟩ := hr2
            repeat (any_goals (first | assumption | wp_step))
            exact k _ _ hS3 kp
          | _ => exact hr2.elim
    | _ => exact hr.elim
end
end Any
set_option maxHeartbeats 2000000
namespace Any
open L2 PySem PySem.Spec PyProof.Rows LamX NdefX
section
variable {P : Program} {w : World} {A : Around} {E : Value → Shared → Prop} {s : Shared} {a : Addr} {l : List Str}
/-- values that are texts, and which -/
theorem strsAre_of : ∀ (vs : List Value), (∀ v ∈ vs, ∃ k u, v = Value.str k u) → ∃ ks : List Str, StrsAre vs ks ∧ vs.map (fun v => keyT (0, v)) = ks
  | [], _ => ⟨[], .nil, rfl⟩
  | v :: vs, h => by
    obtain ⟨k, u, rfl⟩ := h v List.mem_cons_self
    obtain ⟨ks, h1, h2⟩ := strsAre_of vs fun x hx => h x (List.mem_cons_of_mem _ hx)
    exact ⟨k :: ks, .cons k u h1, by rw [List.map_cons, h2]; rfl⟩
/-- sorted(set of texts) -/
theorem sortedX {Q : Value → Shared → Prop} (R : SetX P w s.heap a l) (hh : A.handled = none) (h64 : l.length < 64)
    (hQ : ∀ s1 p (out : Array Value) (c : Nat) (ys : List Str), (∀ b o, s.heap.get? b = some o → s1.heap.get? b = some o) → s1.gens = s.gens → s1.os = s.os → s.heap.objs.size ≤ p →
      s1.heap.get? p = some (seqObj "list" out c) → StrsAre out.toList ys → ys.Perm l → sortedS ys = true → Q (.ref p) s1) : wpAny (model P w) A (call (.builtin "sorted") [.ref a]) Q E s := by
  obtain ⟨o, es, ep, t, ⟨ho, hex, hd⟩, ⟨gd, pm0⟩, ⟨hb, hf⟩, hr, hl⟩ := R
  refine Calls.call_function_entry kind_sorted plain_sorted entry_sorted (args_sorted1 _) ?_
  unfold Builtin.«sorted»
  refine wpAny_bind (m := checkCount "sorted" 1 1 _) (wpAny_pure ?_)
  refine wpAny_bind (collect_set (A := A.in1) hh ⟨o, ho, hex.1, hd⟩ hf hb hr hl fun s1 vs kp sz gs os pm => ?_)
  obtain ⟨ks, hS, ek⟩ := strsAre_of vs fun v hv => by
    obtain ⟨e, he, q⟩ := List.mem_map.mp (pm.mem_iff.mp hv)
    obtain ⟨k, u, q1, _⟩ := gd e he
    exact ⟨k, u, by rw [← q]; exact q1⟩
  have pk : ks.Perm l := by
    rw [← ek]
    refine ((pm.map fun v => keyT (0, v)).trans ?_).trans pm0
    rw [List.map_map]
    exact List.Perm.of_eq rfl
  have vl : vs.length = l.length := by
    rw [← pk.length_eq, ← ek, List.length_map]
  refine wpAny_bind (wpAny_newList ?_ (by rw [vl, sizeLine_eq]; omega))
  have gL : (s1.heap.push (seqObj "list" vs.toArray 0)).get? s1.heap.objs.size = some (seqObj "list" vs.toArray 0) := Heap.get?_push_size _ rfl
  refine wpAny_bind (wpAny_holding (wpAny_call_entry slot_list_sort ⟨_, gL, rfl⟩ entry_list_sort
    (list_sort_treeK strKind_oneLt gL hS.keysOf (fun v1 v2 rest e => keyKind_strs (by rw [← e]; exact hS)) (by rw [vl]; exact h64) fun st hp hs => ⟨_, rfl, ?_⟩) (args_list_sort _)))
  obtain ⟨ys, g1, g2, g3⟩ := sorted_out_str hS hp hs
  obtain ⟨c, hc⟩ := sortedHeap_at (vs := vs) (out := (arrOf st).map (·.2)) gL
  refine wpAny_pure ⟨_, rfl, hQ _ s1.heap.objs.size _ c ys (fun b u e => ?_) gs os sz hc g1 (g2.trans pk) g3⟩
  have q := kp b u e
  have lt := Heap.lt_size q
  refine (sortedHeap_old (Nat.ne_of_lt lt) (by rw [size_push']; exact Nat.lt_succ_of_lt lt)).trans ?_
  exact Heap.get?_push_of_some _ q
end
/-- a set of texts, as the abstract heap has it -/
def SetXO (P : Program) (w : World) (a : Addr) (l : List Str) : HO := .ext fun h => SetX P w h a l
section
variable {X : Cx}
theorem setXO_ok {P : Program} {w : World} {H : Hp} {h : Heap} {a : Addr} {l : List Str} (R : SetX P w h a l) : ObjOk P w H h a (SetXO P w a l) := by
  have R2 := R
  obtain ⟨o, es, ep, t, ⟨h1, _⟩, _⟩ := R2
  exact ⟨R, ⟨o, h1⟩, fun h2 h3 p k => SetX.at p k⟩
theorem cr_setX (hc : X.calm = true) : CallR X (.type "set") (fun vs H Q => ∃ (a : Addr) (xs : List Str), vs = [.ref a] ∧ SqL X.K H a (xs.map V.str) ∧ xs.Nodup ∧ xs.length < 64 ∧ ∀ p, H p = none → Q (.ref p) (upd H p (SetXO X.prog X.w p xs.reverse))) := by
  intro pins s σ H vs us Q I r h
  obtain ⟨a, xs, rfl, hs, nd, few, q⟩ := h
  rw [Vals.ref1 r]
  obtain ⟨its, rv, pl, _⟩ := I.list hs
  refine call_setX (P := X.prog) (w := X.w) xs (I.ok.hd hc) pl.isList (by simpa using rv) nd (by unfold scanBound; omega) fun h' tk R kp => ?_
  exact ⟨.ref s.heap.objs.size, _, I.laid (t' := tk) kp (Nat.le_refl _) (setXO_ok R), rfl, q _ (I.hok.fresh (Nat.le_refl _))⟩
theorem cr_sortedX (hc : X.calm = true) : CallR X (.builtin "sorted") (fun vs H Q => ∃ (a : Addr) (l : List Str), vs = [.ref a] ∧ H a = some (SetXO X.prog X.w a l) ∧ l.length < 64 ∧ ∀ (ys : List Str) (p : Addr), ys.Perm l → sortedS ys = true → H p = none → Q (.ref p) (upd H p (.lst (ys.map V.str)))) := by
  intro pins s σ H vs us Q I r h
  obtain ⟨a, l, rfl, ha, few, q⟩ := h
  have R : SetX X.prog X.w s.heap a l := (I.hok a _ ha).1
  rw [Vals.ref1 r]
  refine sortedX R (I.ok.hd hc) few fun s1 p out c ys kp gs os hp hg hout pm srt => ?_
  have hlen : (ys.map V.str).length ≤ sizeLine := by rw [List.length_map, pm.length_eq, sizeLine_eq]; omega
  have hn : H p = none := I.hok.fresh hp
  have J : Inv X pins σ (upd H p (.lst (ys.map V.str))) { s with heap := s1.heap, gens := s1.gens, drawn := s1.drawn, toks := s1.toks } :=
    I.call (ch := []) (Un.laid kp hp hn) (I.hok.laid kp hp ⟨hlen, out.toList, c, vals_of_strs hout, hg⟩) (by rw [gs]; exact I.bare) (fun _ z => nomatch z)
  have e : s1 = { s with heap := s1.heap, gens := s1.gens, drawn := s1.drawn, toks := s1.toks } := by
    obtain ⟨_, _, _, _, _⟩ := s1
    obtain ⟨_, _, _, _, _⟩ := s
    cases os
    rfl
  rw [e]
  exact ⟨.ref p, _, J, rfl, q ys p pm srt hn⟩
end
end Any
namespace Any
open L2 PySem PySem.Spec PyProof.Rows LamX NdefX
/-! ### sorted rows of the same things are the same -/
theorem uniq {α : Type} {le : α → α → Prop} (anti : ∀ x y, le x y → le y x → x = y) : ∀ {l1 l2 : List α}, l1.Pairwise le → l2.Pairwise le → l1.Perm l2 → l1 = l2
  | [], l2, _, _, p => (List.nil_perm.mp p).symm ▸ rfl
  | x :: r, [], _, _, p => by have := p.length_eq; simp at this
  | x :: r, y :: t, h1, h2, p => by
    obtain ⟨a1, a2⟩ := List.pairwise_cons.mp h1
    obtain ⟨b1, b2⟩ := List.pairwise_cons.mp h2
    have e : x = y := by
      rcases List.mem_cons.mp (p.mem_iff.mp (List.mem_cons_self (a := x))) with z | z
      · exact z
      · rcases List.mem_cons.mp (p.mem_iff.mpr (List.mem_cons_self (a := y))) with z2 | z2
        · exact z2.symm
        · exact anti x y (a1 y z2) (b1 x z)
    subst e
    rw [uniq anti a2 b2 (List.perm_cons x |>.mp p)]
def leS (x y : Str) : Prop := x.cps.toList ≤ y.cps.toList
theorem rising_pw : ∀ (l : List Str) (p : Str), risingS p l = true → (p :: l).Pairwise leS
  | [], p, _ => by simp
  | x :: r, p, h => by
    have h : (!ltCps x.cps.toList p.cps.toList && risingS x r) = true := h
    rw [Bool.and_eq_true, Bool.not_eq_true', ltCps_eq] at h
    have px : leS p x := List.not_lt.mp (of_decide_eq_false h.1)
    have ih := rising_pw r x h.2
    refine List.pairwise_cons.mpr ⟨fun y hy => ?_, ih⟩
    rcases List.mem_cons.mp hy with z | z
    · rw [z]; exact px
    · exact List.le_trans px ((List.pairwise_cons.mp ih).1 y z)
theorem sorted_pw : ∀ {l : List Str}, sortedS l = true → l.Pairwise leS
  | [], _ => .nil
  | x :: r, h => rising_pw r x h
theorem leS_anti (x y : Str) (h : leS x y) (g : leS y x) : x = y := by
  have e := List.le_antisymm h g
  obtain ⟨⟨a⟩⟩ := x
  obtain ⟨⟨b⟩⟩ := y
  cases e
  rfl
theorem sorted_uniq {xs ys : List Str} (h : sortedS xs = true) (g : sortedS ys = true) (p : ys.Perm xs) : ys = xs := uniq leS_anti (sorted_pw g) (sorted_pw h) p
theorem scBoxesF : FnScope ["boxes", "names", "box"] ["boxes"] (defScope sBoxesF) := ⟨rfl, rfl, rfl, by decide +kernel, rfl, by decide +kernel, by decide +kernel⟩
theorem eq_strs {K : PySem.W.Frag} {H : Hp} : ∀ xs : List Str, Paired (EqV K H 1) (xs.map V.str) (xs.map V.str)
  | [] => .nil
  | x :: r => .cons (.inl ⟨rfl, rfl⟩) (eq_strs r)
section
variable {P : Program} {w : World} {K : PySem.W.Frag} {mg : Str → Option Value} {base : Heap} {f bf : Addr} {fd bfd : FuncData}
theorem ok_boxesf (O : Own mg) (mset : mg "set" = none) (msrt : mg "sorted" = none) (F : Fun K "boxes_fit" "boxes_fit" sBoxesF f fd) {t4 : Tok} (m4 : mg "MOST_BOXES" = some (.int 4 t4))
    (G : FnOk P w K mg base CX0 3 bf bfd ["box"] spBoxF) (bG : Binds K bfd ["box"] []) (kG : PySem.W.keepIn K (.ref bf) = true) (mG : mg "box_fits" = some (.ref bf)) : FnOk P w K mg base CX0 4 f fd ["boxes"] spBoxesF := by
  refine F.ok scBoxesF (fun vs H Q E h => ?_) (fun cdv A outer s H vs Q E hr h => ?_)
  · obtain ⟨c, bs, rfl, _⟩ := h
    rfl
  obtain ⟨c, bs, rfl, ⟨as, hc, hp⟩, hz, hcr, hnd, hso, q⟩ := h
  have hl := paired_len hp
  have hs : sizeLine = 16777216 := sizeLine_eq
  have hlr : (as.map V.ref).length = bs.length := by rw [List.length_map]; exact hl
  refine ⟨_, pss_cons (ps_if (PW.pt (pw_or (pt_not (pt_val (pe_callB call_isi rfl O.isi (by decide +kernel) (pa_cons (pv 0) (pa_cons (pe_bltn (v := .ty "tuple") rfl O.tuple (by decide +kernel) rfl) pa_nil)))))
      (pw_or1 (pt_cmpR op_gt (pe_callB call_len_seq rfl O.len PySem.boot_len (pa_cons (pv 0) pa_nil)) (pe_glob (v := .int 4) rfl m4 ⟨_, rfl⟩) (nomark _))))) (pss_one (ps_ret pe_bl)) pss_nil)
    (pss_cons (ps_if (pt_not (pt_val (pe_callB (cr_all rfl) rfl O.all (by decide +kernel) (pa_cons (pe_lc (own := [("box", 2)]) (g := gName 2) (tt := tYes) rfl scBoxesF.nd (pi_tup (pv 0)) (blkOk_by (N := ["boxes", "names", "box"]) (sc := defScope sBoxesF) (by decide +kernel))
        (fun _ _ _ _ _ => pg_name (i := 2) scBoxesF.nd rfl (Or.inl rfl)) (fun _ _ _ _ _ => pts_nil) (fun _ _ _ _ _ => pe_call G hr rfl mG kG bG .nil pass0 (pa_cons (pv 2) pa_nil))) pa_nil)))) (pss_one (ps_ret pe_bl)) pss_nil)
    (pss_cons (ps_setLc (i := 1) (own := [("box", 2)]) (g := gName 2) (tt := tYes) (by rfl) scBoxesF.nd rfl rfl (sw_true rfl rfl rfl (by decide +kernel)) (pi_tup (pv 0)) (blkOk_by (N := ["boxes", "names", "box"]) (sc := defScope sBoxesF) (by decide +kernel))
        (fun _ _ _ _ _ => pg_name (i := 2) scBoxesF.nd rfl (Or.inl rfl)) (fun _ _ _ _ _ => pts_nil) (fun _ _ _ _ _ => pe_ix (show IxR _ (rIxT K) from ix_tup) (pv 2) pe_int (fun _ _ => rfl)))
    (pss_one (ps_ret (pe_cmpR (op_eqV hr.units) (pv 1) (pe_callB (cr_sortedX rfl) rfl msrt (by decide +kernel) (pa_cons (pe_callTy (cr_setX rfl) rfl mset (by decide +kernel) (pa_cons (pv 1) pa_nil)) pa_nil)) (nomark _)))))), ?_⟩
  refine ⟨_, rfl, _, _, _, _, true, rfl, .ty "tuple", .base (.tup hc), kb "tuple" "tuple" true, _, rfl, itF rfl ?_⟩
  refine ⟨_, rfl, _, _, rfl, .inr (SqT.of hc), _, _, rfl, rfl, _, rfl, itF ?_ ?_⟩
  · exact decide_eq_false (by omega)
  refine ⟨_, rfl, c, rfl, ⟨_, SqT.of hc⟩, fun D hD => ?_⟩
  refine turns_tup (K := K) (a := c) (xs := as.map V.ref) ((as.map V.ref).map fun _ => some (.bl true)) hD (fun Hc sm => SqT.of (sm _ _ hc)) (by rw [List.length_map]) (by omega) ?_ ?_
  · intro i z o Hc Y N hz2 ho sm hY hN
    have eo : o = some (.bl true) := by
      rw [List.getElem?_map, hz2] at ho
      exact (Option.some.inj ho).symm
    obtain ⟨e, he, rfl⟩ := refs_at hz2
    obtain ⟨b, hb, hat⟩ := paired_get hp he
    exact ⟨rfl, _, rfl, e, b, rfl, sm _ _ hat, hcr b (List.mem_of_getElem? hb), fun H4 s4 => hY _ eo H4 s4⟩
  · intro H1 hc1 s1
    rw [fm_true] at hc1
    refine ⟨D, _, rfl, SqL.of hc1, _, rfl, itF ?_ ?_⟩
    · rw [List.all_map, show ((as.map V.ref).all (id ∘ fun _ => true)) = true from List.all_eq_true.mpr fun _ _ => rfl]
      rfl
    refine ⟨_, rfl, c, rfl, ⟨_, SqT.of (s1 _ _ hc)⟩, fun D2 hD2 => ?_⟩
    refine turns_tup (K := K) (a := c) (xs := as.map V.ref) (bs.map fun b => some (V.str b.1)) hD2 (fun Hc sm => SqT.of (sm _ _ (s1 _ _ hc))) (by rw [List.length_map]; exact hlr.symm) (by omega) ?_ ?_
    · intro i z o Hc Y N hz2 ho sm hY hN
      obtain ⟨e, he, rfl⟩ := refs_at hz2
      obtain ⟨b, hb, hat⟩ := paired_get hp he
      rw [List.getElem?_map, hb] at ho
      exact ⟨rfl, _, rfl, _, _, _, _, rfl, rfl, SqT.of (sm _ _ (s1 _ _ hat)), atI_nat (j := 0) rfl, hY _ (Option.some.inj ho).symm Hc same_refl⟩
    · intro H2 hc2 s2
      rw [fm_some (fun b : Str × Int × Int => V.str b.1)] at hc2
      have e3 : bs.map (fun b : Str × Int × Int => V.str b.1) = (bs.map (·.1)).map V.str := by rw [List.map_map]; rfl
      rw [e3] at hc2
      have s3 := s1.trans s2
      refine ⟨_, rfl, _, rfl, D2, bs.map (·.1), rfl, SqL.of hc2, hnd, by rw [List.length_map]; omega, fun p2 hp2 => ?_⟩
      refine ⟨p2, (bs.map (·.1)).reverse, rfl, upd_same, by rw [List.length_reverse, List.length_map]; omega, fun ys p3 pm srt hp3 => ?_⟩
      have ey : ys = bs.map (·.1) := sorted_uniq hso srt (pm.trans (List.reverse_perm _))
      subst ey
      have s4 := Same.trans (same_new hp2 _) (same_new hp3 (.lst ((bs.map fun b : Str × Int × Int => b.1).map V.str)))
      exact ⟨1, by decide, .inl ⟨D2, p3, _, _, rfl, rfl, SqL.of (s4 _ _ hc2), SqL.of upd_same, eq_strs _⟩, q _ (s3.trans s4)⟩
end
end Any
namespace Any
open L2 PySem PySem.Spec PyProof.Rows LamX NdefX
abbrev sExpr : Stmt := top 73
abbrev nmExpr : List Str := ["_law_bag_here", "_law_names", "_law_asks", "_law_deep", "_law_some", "_law_word", "_law_name"]
abbrev psE : List Str := ["_law_bag_here", "_law_names", "_law_asks", "_law_deep"]
theorem scExpr : FnScope nmExpr psE (defScope sExpr) := ⟨rfl, rfl, rfl, by decide +kernel, rfl, by decide +kernel, by decide +kernel⟩
def ce : Nat → Nat
  | 0 => 5
  | n + 1 => 2 * ce n + 5
theorem ce_pos (n : Nat) : 5 ≤ ce n := by
  cases n with
  | zero => exact Nat.le_refl _
  | succ n => show 5 ≤ 2 * ce n + 5; omega
def wsOf (a : Nat) : List Str := if a = 0 then [] else ["asked"]
def spExpr (n : Nat) : Sp := fun vs H Q _ => ∃ (b l : Addr) (d m : Nat) (xs : List Str) (a : Nat), vs = [.ref b, .ref l, .int a, .int d] ∧ a ≤ 1 ∧ d < n ∧ Bag H b m ∧ m + ce d < 2 ^ 40 ∧ H l = some (.lst (xs.map V.str)) ∧ l ≠ b ∧ xs.length ≤ 8 ∧
  ∀ (v : V) (e : Ex) (H' : Hp), Kept b H H' → Bag H' b (m + ce d) → ExAt H' v e → e.deep ≤ max d 1 → e.fit xs (wsOf a) → Q v H'
def ifBody : Stmt → List Stmt
  | .If _ b _ _ => b
  | _ => []
abbrev leafBody : List Stmt := ifBody ((defBody sExpr).getD 0 (.Pass ⟨0, 0, 0, 0⟩))
section
variable {P : Program} {w : World} {K : PySem.W.Frag} {mg : Str → Option Value} {base : Heap} {f : Addr} {fd : FuncData}
theorem no_expr {k : Nat} : FnOk P w K mg base CX0 k f fd psE (spExpr 0) := by
  have no : ∀ vs H Q E, ¬ spExpr 0 vs H Q E := fun vs H Q E h => by
    obtain ⟨b, l, d, m, xs, a, _, _, hd, _⟩ := h
    omega
  exact ⟨fun vs H Q E h => absurd h (no vs H Q E), fun A outer s H args us vs Q E _ _ _ _ h => absurd h (no vs H Q E)⟩
theorem many_at {r : Int} (h0 : 0 ≤ r) (h1 : r < 3) : ∃ n : Int, atI [V.int 4, V.int 12, V.int 1000] r = some (.int n) ∧ 1 ≤ n ∧ n ≤ 1000 := by
  have : r = 0 ∨ r = 1 ∨ r = 2 := by omega
  rcases this with rfl | rfl | rfl
  · exact ⟨4, rfl, by decide, by decide⟩
  · exact ⟨12, rfl, by decide, by decide⟩
  · exact ⟨1000, rfl, by decide, by decide⟩
theorem word_at {r : Int} (h0 : 0 ≤ r) (h1 : r < 5) : ∃ d : Dd, atI [V.str "plus", V.str "less", V.str "times", V.str "over", V.str "rest"] r = some (.str d.word) := by
  have : r = 0 ∨ r = 1 ∨ r = 2 ∨ r = 3 ∨ r = 4 := by omega
  rcases this with rfl | rfl | rfl | rfl | rfl
  · exact ⟨.plus, rfl⟩
  · exact ⟨.less, rfl⟩
  · exact ⟨.times, rfl⟩
  · exact ⟨.over, rfl⟩
  · exact ⟨.rest, rfl⟩
theorem ok_expr {n : Nat} {t o : Addr} {td od : FuncData} (F : Fun K "_law_expr" "_law_expr" sExpr f fd) (T : FnOk P w K mg base CX0 1 t td ["_law_bag_here", "_law_many_here"] spTake) (bT : Binds K td ["_law_bag_here", "_law_many_here"] []) (kT : PySem.W.keepIn K (.ref t) = true) (mT : mg "_law_take" = some (.ref t))
    (O : FnOk P w K mg base CX0 2 o od ["_law_bag_here", "_law_some"] spOf) (bO : Binds K od ["_law_bag_here", "_law_some"] []) (kO : PySem.W.keepIn K (.ref o) = true) (mO : mg "_law_of" = some (.ref o))
    (G : FnOk P w K mg base CX0 (n + 2) f fd psE (spExpr n)) (bG : Binds K fd psE []) (mG : mg "_law_expr" = some (.ref f)) : FnOk P w K mg base CX0 (n + 3) f fd psE (spExpr (n + 1)) := by
  refine F.ok scExpr (fun vs H Q E h => ?_) (fun cdv A outer s H vs Q E hr h => ?_)
  · obtain ⟨b, l, d, m, xs, a, rfl, _⟩ := h
    rfl
  obtain ⟨b, l, d, m, xs, as, rfl, has, hd, hB, hm, hl, hne, hxs, q⟩ := h
  have hr1 := hr.mono (show 1 ≤ n + 2 by omega)
  have hr2 := hr.mono (show 2 ≤ n + 2 by omega)
  have kG := F.kp
  obtain ⟨t1, ht1, leaf⟩ : ∃ t1, PSs (cxOf CX0 P w K mg base nmExpr "_law_expr" (defScope sExpr) f cdv A outer s H E).nox leafBody t1 ∧
      ∀ (D : Ends) (H0 : Hp) (m0 : Nat), D.rt = Q → Kept b H H0 → Bag H0 b m0 → m0 ≤ m + 1 → t1 D (start nmExpr [.ref b, .ref l, .int as, .int d]) H0 := by
    refine ⟨_, pss_cons (ps_set (i := 4) scExpr.nd rfl (Or.inl rfl) (pe_op op_cat (pe_lst (pa_cons (pe_tup (pa_cons pe_str (pa_cons (pe_call T hr1 rfl mT kT bT .nil pass0 (pa_cons (pv 0) (pa_cons (pe_ix ix_list (pe_lst (pa_cons pe_int (pa_cons pe_int (pa_cons pe_int pa_nil))))
          (pe_call T hr1 rfl mT kT bT .nil pass0 (pa_cons (pv 0) (pa_cons pe_int pa_nil))) (fun _ _ => rfl)) pa_nil))) pa_nil))) pa_nil)) (pe_op op_rep (pe_lst (pa_cons (pe_tup (pa_cons pe_str pa_nil)) pa_nil)) (pv 2))))
      (pss_one (ps_ret (pe_call O hr2 rfl mO kO bO .nil pass0 (pa_cons (pv 0) (pa_cons (pe_op op_cat (pv 4) (pe_op op_rep (pe_lc (own := [("_law_name", 6)]) (g := gName 6) (tt := tYes) rfl scExpr.nd (pi_list (pv 1)) (blkOk_by (N := nmExpr) (sc := defScope sExpr) (by decide +kernel))
        (fun _ _ _ _ _ => pg_name (i := 6) scExpr.nd rfl (Or.inl rfl)) (fun _ _ _ _ _ => pts_nil) (fun _ _ _ _ _ => pe_tup (pa_cons pe_str (pa_cons (pv 6) pa_nil)))) pe_int)) pa_nil))))), ?_⟩
    intro D H0 m0 eD k0 B0 hm0
    have cp := ce_pos d
    refine ⟨_, rfl, (by show 3 ≤ sizeLine; decide), fun p1 hp1 => ?_⟩
    refine ⟨_, rfl, b, 3, m0, rfl, B0.keep (same_new hp1 _), by omega, by decide, by decide, fun d1 H1 k1 B1 d10 d11 => ?_⟩
    obtain ⟨mv, em, mv0, mv1⟩ := many_at d10 d11
    refine ⟨p1, _, _, _, rfl, rfl, SqL.of (k1 _ _ (B0.ne hp1) upd_same), em, b, mv, m0 + 1, rfl, B1, by omega, mv0, mv1, fun d2 H2 k2 B2 d20 d21 => ?_⟩
    refine ⟨(by show 2 ≤ sizeLine; decide), fun p2 hp2 => ⟨(by show 1 ≤ sizeLine; decide), fun p3 hp3 => ⟨(by show 1 ≤ sizeLine; decide), fun p4 hp4 => ⟨(by show 1 ≤ sizeLine; decide), fun p5 hp5 => ?_⟩⟩⟩⟩
    refine ⟨_, rfl, p5, (as : Int), _, rfl, rfl, upd_same, by omega, by omega, small (by show 1 * (Int.toNat (as : Int)) ≤ 1000; omega), fun p6 hp6 => ?_⟩
    have zl : (List.replicate (Int.toNat (as : Int)) [V.ref p4]).flatten.length ≤ 1 := by
      rcases (show as = 0 ∨ as = 1 by omega) with rfl | rfl
      · exact Nat.zero_le _
      · exact Nat.le_refl _
    have s2 := same_new hp2 (.tup [.str "number", .int d2])
    have s3 := same_new hp3 (.lst [.ref p2])
    have s4 := same_new hp4 (.tup [.str "asked"])
    have s5 := same_new hp5 (.lst [.ref p4])
    have s6 := same_new hp6 (.lst (List.replicate (Int.toNat (as : Int)) [V.ref p4]).flatten)
    refine ⟨p3, p6, _, _, rfl, rfl, ((s4.trans s5).trans s6) _ _ upd_same, upd_same, small (by show 1 + _ ≤ 1000; omega), fun p7 hp7 => ?_⟩
    have s7 := same_new hp7 (.lst ([V.ref p2] ++ (List.replicate (Int.toNat (as : Int)) [V.ref p4]).flatten))
    have k7 : Kept b H _ := k0.trans ((Kept.new hp1 _).trans (k1.trans (k2.trans (.of (((((s2.trans s3).trans s4).trans s5).trans s6).trans s7)))))
    have B7 := B2.keep (((((s2.trans s3).trans s4).trans s5).trans s6).trans s7)
    have e2 : ExAt _ (.ref p2) (.num d2) := .num (((((s3.trans s4).trans s5).trans s6).trans s7) _ _ upd_same)
    have e4 : ExAt _ (.ref p4) .asked := .asked (((s5.trans s6).trans s7) _ _ upd_same)
    have e7 := @upd_same (upd (upd (upd (upd (upd H2 p2 (.tup [.str "number", .int d2])) p3 (.lst [.ref p2])) p4 (.tup [.str "asked"])) p5 (.lst [.ref p4])) p6 (.lst (List.replicate (Int.toNat (as : Int)) [V.ref p4]).flatten)) p7 (.lst ([V.ref p2] ++ (List.replicate (Int.toNat (as : Int)) [V.ref p4]).flatten))
    have hl7 := k7 _ _ hne hl
    refine ⟨_, rfl, _, rfl, _, rfl, l, rfl, ⟨_, SqL.of hl7⟩, fun C hC => ?_⟩
    clear s7
    have hC' : upd (upd (upd (upd (upd (upd H2 p2 (.tup [.str "number", .int d2])) p3 (.lst [.ref p2])) p4 (.tup [.str "asked"])) p5 (.lst [.ref p4])) p6 (.lst (List.replicate (Int.toNat (as : Int)) [V.ref p4]).flatten)) p7 (.lst ([V.ref p2] ++ (List.replicate (Int.toNat (as : Int)) [V.ref p4]).flatten)) C = none := hC
    revert e2 e4 e7 hl7 k7 B7 hC'
    generalize eH : upd (upd (upd (upd (upd (upd H2 p2 (.tup [.str "number", .int d2])) p3 (.lst [.ref p2])) p4 (.tup [.str "asked"])) p5 (.lst [.ref p4])) p6 (.lst (List.replicate (Int.toNat (as : Int)) [V.ref p4]).flatten)) p7 (.lst ([V.ref p2] ++ (List.replicate (Int.toNat (as : Int)) [V.ref p4]).flatten)) = H7
    intro k7 B7 e2 e4 e7 hl7 hC'
    have s0 : Same H7 (upd (upd (upd (upd (upd (upd (upd H2 p2 (.tup [.str "number", .int d2])) p3 (.lst [.ref p2])) p4 (.tup [.str "asked"])) p5 (.lst [.ref p4])) p6 (.lst (List.replicate (Int.toNat (as : Int)) [V.ref p4]).flatten)) p7 (.lst ([V.ref p2] ++ (List.replicate (Int.toNat (as : Int)) [V.ref p4]).flatten))) C (.lst [])) := by
      rw [eH]
      exact same_new hC' _
    refine lc_list (K := K) (a := l) (xs := xs.map V.str) (fun i Hc => ∃ ys : List V, Hc C = some (.lst ys) ∧ ys.length = i ∧ (∀ v ∈ ys, ∃ x ∈ xs, ExAt Hc v (.box x)) ∧ Same H7 Hc)
      ⟨[], upd_same, rfl, (fun v hv => by cases hv), same_new hC' _⟩ (fun i Hc _ ⟨ys, _, _, _, sm⟩ => SqL.of (sm _ _ hl7)) (fun i x Hc hx ⟨ys, y1, y2, y3, sm⟩ => ?_) (fun Hc ⟨ys, y1, y2, y3, sm⟩ => ?_)
    · rw [List.getElem?_map] at hx
      obtain ⟨z, hz, rfl⟩ := Option.map_eq_some_iff.mp hx
      have iz : i < xs.length := (List.getElem?_eq_some_iff.mp hz).1
      refine ⟨rfl, _, rfl, (by show 2 ≤ sizeLine; decide), fun p hp => ⟨ys, (same_new hp _) _ _ y1, small1000 (by omega), ys ++ [.ref p], upd_same, by rw [List.length_append, y2]; rfl, fun v hv => ?_, ?_⟩⟩
      · have tp : Tups Hc (upd (upd Hc p (.tup [.str "box", .str z])) C (.lst (ys ++ [.ref p]))) := fun a ts ha => by
          have h1 := (same_new hp (.tup [.str "box", .str z])) _ _ ha
          rw [upd_ne (ne_of ha y1 (by intro z; cases z))]
          exact h1
        rcases List.mem_append.mp hv with hv | hv
        · obtain ⟨x, hx, ex⟩ := y3 v hv
          exact ⟨x, hx, ex.keep tp⟩
        · rw [List.mem_singleton.mp hv]
          refine ⟨z, List.mem_of_getElem? hz, .box ?_⟩
          rw [upd_ne (ne_of_none y1 hp).symm]
          exact upd_same
      · intro a u ha
        have nC : a ≠ C := ne_of_none ha hC'
        rw [upd_ne nC]
        exact (sm.trans (same_new hp _)) _ _ ha
    · have ly : ys.length ≤ 8 := by rw [y2, List.length_map]; exact hxs
      have l2 : (List.replicate (Int.toNat 2) ys).flatten.length = ys.length + (ys.length + 0) := by
        show (ys ++ (ys ++ [])).length = _
        rw [List.length_append, List.length_append]
        rfl
      refine ⟨C, 2, ys, rfl, rfl, y1, by decide, by decide, small (by show ys.length * 2 ≤ 1000; omega), fun p8 hp8 => ?_⟩
      have s8 := sm.trans (same_new hp8 (.lst (List.replicate (Int.toNat 2) ys).flatten))
      refine ⟨p7, p8, _, _, rfl, rfl, s8 _ _ e7, upd_same, small (by rw [l2, List.length_append]; show (1 + _) + _ ≤ 1000; omega), fun p9 hp9 => ?_⟩
      have s9 := s8.trans (same_new hp9 (HO.lst (([V.ref p2] ++ (List.replicate (Int.toNat (as : Int)) [V.ref p4]).flatten) ++ (List.replicate (Int.toNat 2) ys).flatten)))
      have B9 := B7.keep s9
      refine ⟨b, p9, _, m0 + 1 + 1, rfl, B9, by omega, upd_same, (B7.keep s8).ne hp9, ?_, ?_, fun v H' k10 B10 hv => ?_⟩
      · rw [List.length_append, List.length_append]; show 1 ≤ (1 + _) + _; omega
      · rw [List.length_append, List.length_append, l2]; show (1 + _) + _ ≤ 1000; omega
      rw [eD]
      have kk : Kept b H H' := k7.trans ((Kept.of s9).trans k10)
      have tp : Tups H7 H' := fun a ts ha => k10 _ _ (by obtain ⟨_, z⟩ := B9.lst; exact ne_of (s9 _ _ ha) z (by intro z; cases z)) (s9 _ _ ha)
      have B11 : Bag H' b (m + ce d) := B10.more (by omega)
      have one : 1 ≤ max d 1 := Nat.le_max_right ..
      rcases List.mem_append.mp hv with hv | hv
      · rcases List.mem_cons.mp hv with rfl | hv
        · exact q _ _ H' kk B11 (e2.keep tp) one ⟨d20, by omega⟩
        obtain ⟨l', g1, g2⟩ := List.mem_flatten.mp hv
        obtain ⟨g3, g4⟩ := List.mem_replicate.mp g1
        rw [g4] at g2
        rw [List.mem_singleton.mp g2]
        refine q _ _ H' kk B11 (e4.keep tp) one ?_
        show ("asked" : Str) ∈ wsOf as
        unfold wsOf
        rw [if_neg (by omega)]
        exact List.mem_singleton.mpr rfl
      · have hv : v ∈ ys := by
          obtain ⟨l', h1, h2⟩ := List.mem_flatten.mp hv
          rw [(List.mem_replicate.mp h1).2] at h2
          exact h2
        obtain ⟨x, hx, ex⟩ := y3 v hv
        have tc : Tups Hc H' := fun a ts ha => by
          have ha9 := ((same_new hp8 (.lst (List.replicate (Int.toNat 2) ys).flatten)).trans (same_new hp9 (HO.lst (([V.ref p2] ++ (List.replicate (Int.toNat (as : Int)) [V.ref p4]).flatten) ++ (List.replicate (Int.toNat 2) ys).flatten)))) _ _ ha
          obtain ⟨_, z⟩ := B9.lst
          exact k10 _ _ (ne_of ha9 z (by intro z; cases z)) ha9
        exact q _ _ H' kk B11 (ex.keep tc) one hx
  refine ⟨_, pss_cons (ps_if (PW.pt (pw_or (pt_cmpR op_lt (pv 3) pe_int (nomark _)) (pw_or1 (pt_cmpR op_eq (pe_call T hr1 rfl mT kT bT .nil pass0 (pa_cons (pv 0) (pa_cons pe_int pa_nil))) pe_int (nomark _))))) ht1 pss_nil)
    (pss_cons (ps_set (i := 5) scExpr.nd rfl (Or.inl rfl) (pe_ix ix_list (pe_lst (pa_cons pe_str (pa_cons pe_str (pa_cons pe_str (pa_cons pe_str (pa_cons pe_str pa_nil)))))) (pe_call T hr1 rfl mT kT bT .nil pass0 (pa_cons (pv 0) (pa_cons pe_int pa_nil))) (fun _ _ => rfl)))
    (pss_one (ps_ret (pe_tup (pa_cons (pv 5) (pa_cons (pe_call G hr rfl mG kG bG .nil pass0 (pa_cons (pv 0) (pa_cons (pv 1) (pa_cons (pv 2) (pa_cons (pe_op op_sub (pv 3) pe_int) pa_nil))))) (pa_cons (pe_call G hr rfl mG kG bG .nil pass0 (pa_cons (pv 0) (pa_cons (pv 1) (pa_cons (pv 2) (pa_cons (pe_op op_sub (pv 3) pe_int) pa_nil))))) pa_nil))))))), ?_⟩
  have cp := ce_pos d
  refine ⟨_, rfl, _, _, rfl, rfl, _, rfl, ?_⟩
  refine ite2 (fun c => ?_) (fun c => ?_)
  · exact leaf _ H m rfl .refl hB (by omega)
  have c' : ¬ (d : Int) < 2 := of_decide_eq_false (Bool.eq_false_iff.mpr c)
  refine ⟨_, rfl, b, 3, m, rfl, hB, by omega, by decide, by decide, fun d1 H1 k1 B1 d10 d11 => ⟨rfl, _, rfl, ?_⟩⟩
  refine ite2 (fun c2 => ?_) (fun c2 => ?_)
  · exact leaf _ H1 (m + 1) rfl k1 B1 (Nat.le_refl _)
  obtain ⟨e, rfl⟩ : ∃ e, d = e + 1 := ⟨d - 1, by omega⟩
  have he : 1 ≤ e := by omega
  have cee : ce (e + 1) = 2 * ce e + 5 := rfl
  have i1 : (((e + 1 : Nat) : Int)) - 1 = ((e : Nat) : Int) := by omega
  refine ⟨(by show 5 ≤ sizeLine; decide), fun p1 hp1 => ?_⟩
  refine ⟨_, rfl, b, 5, m + 1, rfl, B1.keep (same_new hp1 _), by omega, by decide, by decide, fun d2 H2 k2 B2 d20 d21 => ?_⟩
  obtain ⟨dd, ed⟩ := word_at d20 d21
  refine ⟨p1, _, _, _, rfl, rfl, SqL.of (k2 _ _ (B1.ne hp1) upd_same), ed, ?_⟩
  have kk2 : Kept b H H2 := k1.trans ((Kept.new hp1 _).trans k2)
  refine ⟨_, rfl, _, rfl, _, rfl, _, rfl, _, rfl, _, _, rfl, rfl, b, l, e, m + 1 + 1, xs, as, (by rw [← i1]; rfl), has, by omega, B2, by omega, kk2 _ _ hne hl, hne, hxs, fun v1 x1 H3 k3 B3 a1 a2 a3 => ?_⟩
  have kk3 := kk2.trans k3
  refine ⟨_, rfl, _, rfl, _, rfl, _, rfl, _, _, rfl, rfl, b, l, e, m + 1 + 1 + ce e, xs, as, (by rw [← i1]; rfl), has, by omega, B3, by omega, kk3 _ _ hne hl, hne, hxs, fun v2 x2 H4 k4 B4 b1 b2 b3 => ?_⟩
  have kk4 := kk3.trans k4
  have a1 := a1.keep (B3.tups k4)
  refine ⟨(by show 3 ≤ sizeLine; decide), fun p5 hp5 => ?_⟩
  have s5 := same_new hp5 (.tup [.str dd.word, v1, v2])
  refine q _ (.op dd x1 x2) _ (kk4.trans (.of s5)) ((B4.keep s5).more (by omega)) (.op upd_same (a1.keep (Same.tups s5)) (b1.keep (Same.tups s5))) ?_ ⟨a3, b3⟩
  show max x1.deep x2.deep + 1 ≤ max (e + 1) 1
  omega
theorem all_expr {t o : Addr} {td od : FuncData} (F : Fun K "_law_expr" "_law_expr" sExpr f fd) (T : FnOk P w K mg base CX0 1 t td ["_law_bag_here", "_law_many_here"] spTake) (bT : Binds K td ["_law_bag_here", "_law_many_here"] []) (kT : PySem.W.keepIn K (.ref t) = true) (mT : mg "_law_take" = some (.ref t))
    (O : FnOk P w K mg base CX0 2 o od ["_law_bag_here", "_law_some"] spOf) (bO : Binds K od ["_law_bag_here", "_law_some"] []) (kO : PySem.W.keepIn K (.ref o) = true) (mO : mg "_law_of" = some (.ref o))
    (bG : Binds K fd psE []) (mG : mg "_law_expr" = some (.ref f)) : ∀ n : Nat, FnOk P w K mg base CX0 (n + 2) f fd psE (spExpr n)
  | 0 => no_expr
  | n + 1 => ok_expr F T bT kT mT O bO kO mO (all_expr F T bT kT mT O bO kO mO bG mG n) bG mG
end
end Any
namespace Any
open L2 PySem PySem.Spec PyProof.Rows LamX NdefX
abbrev sTest : Stmt := top 74
abbrev nmTest : List Str := ["_law_bag_here", "_law_names", "_law_asks", "_law_deep", "_law_sort", "_law_one"]
theorem scTest : FnScope nmTest psE (defScope sTest) := ⟨rfl, rfl, rfl, by decide +kernel, rfl, by decide +kernel, by decide +kernel⟩
def ct : Nat → Nat
  | 0 => 20
  | n + 1 => 2 * ct n + 2 * ce n + 5
def spTest (n : Nat) : Sp := fun vs H Q _ => ∃ (b l : Addr) (d m : Nat) (xs : List Str) (a : Nat), vs = [.ref b, .ref l, .int a, .int d] ∧ a ≤ 1 ∧ 1 ≤ d ∧ d < n ∧ d ≤ 7 ∧ Bag H b m ∧ m + ct d < 2 ^ 40 ∧ H l = some (.lst (xs.map V.str)) ∧ l ≠ b ∧ xs.length ≤ 8 ∧
  ∀ (v : V) (e : Ts) (H' : Hp), Kept b H H' → Bag H' b (m + ct d) → TsAt H' v e → e.dp ≤ max d 2 → e.fit xs (wsOf a) → Q v H'
section
variable {P : Program} {w : World} {K : PySem.W.Frag} {mg : Str → Option Value} {base : Heap} {f t ex : Addr} {fd td exd : FuncData}
theorem no_test {k : Nat} : FnOk P w K mg base CX0 k f fd psE (spTest 0) := by
  have no : ∀ vs H Q E, ¬ spTest 0 vs H Q E := fun vs H Q E h => by
    obtain ⟨b, l, d, m, xs, a, _, _, _, hd, _⟩ := h
    omega
  exact ⟨fun vs H Q E h => absurd h (no vs H Q E), fun A outer s H args us vs Q E _ _ _ _ h => absurd h (no vs H Q E)⟩
theorem two_ix {x y : V} {r : Int} (h0 : 0 ≤ r) (h1 : r < 2) : (atI [x, y] r = some x) ∨ (atI [x, y] r = some y) := by
  have : r = 0 ∨ r = 1 := by omega
  rcases this with rfl | rfl
  · exact .inl rfl
  · exact .inr rfl
theorem ok_test {n : Nat} (F : Fun K "_law_test" "_law_test" sTest f fd) (T : FnOk P w K mg base CX0 1 t td ["_law_bag_here", "_law_many_here"] spTake) (bT : Binds K td ["_law_bag_here", "_law_many_here"] []) (kT : PySem.W.keepIn K (.ref t) = true) (mT : mg "_law_take" = some (.ref t))
    (X : FnOk P w K mg base CX0 9 ex exd psE (spExpr 7)) (bX : Binds K exd psE []) (kX : PySem.W.keepIn K (.ref ex) = true) (mX : mg "_law_expr" = some (.ref ex))
    (G : FnOk P w K mg base CX0 (n + 9) f fd psE (spTest n)) (bG : Binds K fd psE []) (mG : mg "_law_test" = some (.ref f)) : FnOk P w K mg base CX0 (n + 10) f fd psE (spTest (n + 1)) := by
  refine F.ok scTest (fun vs H Q E h => ?_) (fun cdv A outer s H vs Q E hr h => ?_)
  · obtain ⟨b, l, d, m, xs, as, rfl, _⟩ := h
    rfl
  obtain ⟨b, l, d, m, xs, as, rfl, has, hd1, hd, hd7, hB, hm, hl, hne, hxs, q⟩ := h
  have hr1 := hr.mono (show 1 ≤ n + 9 by omega)
  have hr9 := hr.mono (show 9 ≤ n + 9 by omega)
  have kG := F.kp
  obtain ⟨e, rfl⟩ : ∃ e, d = e + 1 := ⟨d - 1, by omega⟩
  have cee : ct (e + 1) = 2 * ct e + 2 * ce e + 5 := rfl
  have i1 : (((e + 1 : Nat) : Int)) - 1 = ((e : Nat) : Int) := by omega
  obtain ⟨t2, ht2, tail⟩ : ∃ t2, PSs (cxOf CX0 P w K mg base nmTest "_law_test" (defScope sTest) f cdv A outer s H E).nox ((defBody sTest).drop 3) t2 ∧
      ∀ (D : Ends) (H1 : Hp) (srt : Int), D.rt = Q → Kept b H H1 → Bag H1 b (m + 1) → 3 ≤ srt → srt < 5 → t2 D [some (.ref b), some (.ref l), some (.int as), some (.int ((e + 1 : Nat) : Int)), some (.int srt), none] H1 := by
    refine ⟨_, pss_cons (ps_set (i := 5) scTest.nd rfl (Or.inl rfl) (pe_call X hr9 rfl mX kX bX .nil pass0 (pa_cons (pv 0) (pa_cons (pv 1) (pa_cons (pv 2) (pa_cons (pe_op op_sub (pv 3) pe_int) pa_nil))))))
      (pss_one (ps_ret (pe_tup (pa_cons (pe_ix ix_list (pe_lst (pa_cons pe_str (pa_cons pe_str pa_nil))) (pe_op op_sub (pv 4) pe_int) (fun _ _ => rfl)) (pa_cons (pv 5) (pa_cons (pe_call X hr9 rfl mX kX bX .nil pass0 (pa_cons (pv 0) (pa_cons (pv 1) (pa_cons (pv 2) (pa_cons (pe_op op_sub (pv 3) pe_int) pa_nil))))) pa_nil)))))), ?_⟩
    intro D H1 srt eD k1 B1 h3 h5
    refine ⟨_, rfl, _, rfl, _, rfl, _, rfl, _, _, rfl, rfl, b, l, e, m + 1, xs, as, (by rw [← i1]; rfl), has, by omega, B1, by omega, k1 _ _ hne hl, hne, hxs, fun v1 x1 H3 k3 B3 a1 a2 a3 => ?_⟩
    refine ⟨(by show 2 ≤ sizeLine; decide), fun p4 hp4 => ?_⟩
    have s4 := same_new hp4 (.lst [.str "is", .str "below"])
    have kk := (k1.trans k3).trans (.of s4)
    rcases two_ix (x := V.str "is") (y := V.str "below") (r := srt - 3) (by omega) (by omega) with ei | ei
    · refine ⟨_, rfl, _, _, rfl, rfl, p4, _, _, _, rfl, rfl, SqL.of upd_same, ei, _, rfl, ?_⟩
      refine ⟨_, rfl, _, rfl, _, rfl, _, rfl, _, _, rfl, rfl, b, l, e, m + 1 + ce e, xs, as, (by rw [← i1]; rfl), has, by omega, B3.keep s4, by omega, kk _ _ hne hl, hne, hxs, fun v2 x2 H6 k6 B6 b1 b2 b3 => ?_⟩
      refine ⟨(by show 3 ≤ sizeLine; decide), fun p7 hp7 => ?_⟩
      have s7 := same_new hp7 (.tup [.str "is", v1, v2])
      have a6 := (a1.keep (Same.tups s4)).keep ((B3.keep s4).tups k6)
      rw [eD]
      exact q _ (.is x1 x2) _ ((kk.trans k6).trans (.of s7)) ((B6.keep s7).more (by omega)) (.is upd_same (a6.keep (Same.tups s7)) (b1.keep (Same.tups s7))) (by show max x1.deep x2.deep + 1 ≤ max (e + 1) 2; omega) ⟨a3, b3⟩
    · refine ⟨_, rfl, _, _, rfl, rfl, p4, _, _, _, rfl, rfl, SqL.of upd_same, ei, _, rfl, ?_⟩
      refine ⟨_, rfl, _, rfl, _, rfl, _, rfl, _, _, rfl, rfl, b, l, e, m + 1 + ce e, xs, as, (by rw [← i1]; rfl), has, by omega, B3.keep s4, by omega, kk _ _ hne hl, hne, hxs, fun v2 x2 H6 k6 B6 b1 b2 b3 => ?_⟩
      refine ⟨(by show 3 ≤ sizeLine; decide), fun p7 hp7 => ?_⟩
      have s7 := same_new hp7 (.tup [.str "below", v1, v2])
      have a6 := (a1.keep (Same.tups s4)).keep ((B3.keep s4).tups k6)
      rw [eD]
      exact q _ (.bel x1 x2) _ ((kk.trans k6).trans (.of s7)) ((B6.keep s7).more (by omega)) (.bel upd_same (a6.keep (Same.tups s7)) (b1.keep (Same.tups s7))) (by show max x1.deep x2.deep + 1 ≤ max (e + 1) 2; omega) ⟨a3, b3⟩
  refine ⟨_, pss_cons (ps_set (i := 4) scTest.nd rfl (Or.inl rfl) (pe_ifExp (pt_cmpR op_gt (pv 3) pe_int (nomark _)) (pe_call T hr1 rfl mT kT bT .nil pass0 (pa_cons (pv 0) (pa_cons pe_int pa_nil))) (pe_op op_add pe_int (pe_call T hr1 rfl mT kT bT .nil pass0 (pa_cons (pv 0) (pa_cons pe_int pa_nil))))))
    (pss_cons (ps_if (pt_cmpR op_eq (pv 4) pe_int (nomark _)) (pss_one (ps_ret (pe_tup (pa_cons pe_str (pa_cons (pe_call G hr rfl mG kG bG .nil pass0 (pa_cons (pv 0) (pa_cons (pv 1) (pa_cons (pv 2) (pa_cons (pe_op op_sub (pv 3) pe_int) pa_nil))))) pa_nil))))) pss_nil)
    (pss_cons (ps_if (pt_cmpR op_lt (pv 4) pe_int (nomark _))
      (pss_cons (ps_set (i := 5) scTest.nd rfl (Or.inl rfl) (pe_call G hr rfl mG kG bG .nil pass0 (pa_cons (pv 0) (pa_cons (pv 1) (pa_cons (pv 2) (pa_cons (pe_op op_sub (pv 3) pe_int) pa_nil))))))
      (pss_one (ps_ret (pe_tup (pa_cons (pe_ix ix_list (pe_lst (pa_cons pe_str (pa_cons pe_str pa_nil))) (pe_op op_sub (pv 4) pe_int) (fun _ _ => rfl)) (pa_cons (pv 5) (pa_cons (pe_call G hr rfl mG kG bG .nil pass0 (pa_cons (pv 0) (pa_cons (pv 1) (pa_cons (pv 2) (pa_cons (pe_op op_sub (pv 3) pe_int) pa_nil))))) pa_nil))))))) pss_nil)
    ht2)), ?_⟩
  refine ⟨_, rfl, _, _, rfl, rfl, _, rfl, ?_⟩
  refine ite2 (fun c => ?_) (fun c => ?_)
  · have c' : (2 : Int) < ((e + 1 : Nat) : Int) := of_decide_eq_true c
    refine ⟨_, rfl, b, 5, m, rfl, hB, by omega, by decide, by decide, fun d1 H1 k1 B1 d10 d11 => ?_⟩
    refine ⟨_, rfl, rfl, _, rfl, ?_⟩
    refine ite2 (fun c1 => ?_) (fun c1 => ?_)
    · refine ⟨_, rfl, _, rfl, _, rfl, _, rfl, _, _, rfl, rfl, b, l, e, m + 1, xs, as, (by rw [← i1]; rfl), has, by omega, by omega, by omega, B1, by omega, k1 _ _ hne hl, hne, hxs, fun v1 x1 H3 k3 B3 a1 a2 a3 => ?_⟩
      refine ⟨(by show 2 ≤ sizeLine; decide), fun p5 hp5 => ?_⟩
      have s5 := same_new hp5 (.tup [.str "not", v1])
      exact q _ (.nt x1) _ ((k1.trans k3).trans (.of s5)) ((B3.keep s5).more (by omega)) (.nt upd_same (a1.keep (Same.tups s5))) (by show x1.dp + 1 ≤ max (e + 1) 2; omega) a3
    · have c1' : ¬ V.int d1 = V.int 0 := of_decide_eq_false (Bool.eq_false_iff.mpr c1)
      have nz : d1 ≠ 0 := fun z => c1' (by rw [z])
      refine ⟨_, rfl, _, _, rfl, rfl, _, rfl, ?_⟩
      refine ite2 (fun c2 => ?_) (fun c2 => ?_)
      · have c2' : d1 < 3 := of_decide_eq_true c2
        refine ⟨_, rfl, _, rfl, _, rfl, _, rfl, _, _, rfl, rfl, b, l, e, m + 1, xs, as, (by rw [← i1]; rfl), has, by omega, by omega, by omega, B1, by omega, k1 _ _ hne hl, hne, hxs, fun v1 x1 H3 k3 B3 a1 a2 a3 => ?_⟩
        refine ⟨(by show 2 ≤ sizeLine; decide), fun p4 hp4 => ?_⟩
        have s4 := same_new hp4 (.lst [.str "both", .str "either"])
        have kk := (k1.trans k3).trans (.of s4)
        rcases two_ix (x := V.str "both") (y := V.str "either") (r := d1 - 1) (by omega) (by omega) with ei | ei
        · refine ⟨_, rfl, _, _, rfl, rfl, p4, _, _, _, rfl, rfl, SqL.of upd_same, ei, _, rfl, ?_⟩
          refine ⟨_, rfl, _, rfl, _, rfl, _, rfl, _, _, rfl, rfl, b, l, e, m + 1 + ct e, xs, as, (by rw [← i1]; rfl), has, by omega, by omega, by omega, B3.keep s4, by omega, kk _ _ hne hl, hne, hxs, fun v2 x2 H6 k6 B6 b1 b2 b3 => ?_⟩
          refine ⟨(by show 3 ≤ sizeLine; decide), fun p7 hp7 => ?_⟩
          have s7 := same_new hp7 (.tup [.str "both", v1, v2])
          have a6 := (a1.keep (Same.tups s4)).keep ((B3.keep s4).tups k6)
          exact q _ (.both x1 x2) _ ((kk.trans k6).trans (.of s7)) ((B6.keep s7).more (by omega)) (.both upd_same (a6.keep (Same.tups s7)) (b1.keep (Same.tups s7))) (by show max x1.dp x2.dp + 1 ≤ max (e + 1) 2; omega) ⟨a3, b3⟩
        · refine ⟨_, rfl, _, _, rfl, rfl, p4, _, _, _, rfl, rfl, SqL.of upd_same, ei, _, rfl, ?_⟩
          refine ⟨_, rfl, _, rfl, _, rfl, _, rfl, _, _, rfl, rfl, b, l, e, m + 1 + ct e, xs, as, (by rw [← i1]; rfl), has, by omega, by omega, by omega, B3.keep s4, by omega, kk _ _ hne hl, hne, hxs, fun v2 x2 H6 k6 B6 b1 b2 b3 => ?_⟩
          refine ⟨(by show 3 ≤ sizeLine; decide), fun p7 hp7 => ?_⟩
          have s7 := same_new hp7 (.tup [.str "either", v1, v2])
          have a6 := (a1.keep (Same.tups s4)).keep ((B3.keep s4).tups k6)
          exact q _ (.either x1 x2) _ ((kk.trans k6).trans (.of s7)) ((B6.keep s7).more (by omega)) (.either upd_same (a6.keep (Same.tups s7)) (b1.keep (Same.tups s7))) (by show max x1.dp x2.dp + 1 ≤ max (e + 1) 2; omega) ⟨a3, b3⟩
      · have c2' : ¬ d1 < 3 := of_decide_eq_false (Bool.eq_false_iff.mpr c2)
        exact tail _ H1 d1 rfl k1 B1 (by omega) (by omega)
  · refine ⟨_, rfl, b, 2, m, rfl, hB, by omega, by decide, by decide, fun d1 H1 k1 B1 d10 d11 => ⟨_, _, rfl, rfl, ?_⟩⟩
    have f1 : decide (V.int (3 + d1) = V.int 0) = false := decide_eq_false fun z => by have := V.int.inj z; omega
    refine ⟨_, rfl, rfl, _, rfl, itF f1 ?_⟩
    refine ⟨_, rfl, _, _, rfl, rfl, _, rfl, itF (decide_eq_false (by omega)) ?_⟩
    exact tail _ H1 (3 + d1) rfl k1 B1 (by omega) (by omega)
theorem all_test (F : Fun K "_law_test" "_law_test" sTest f fd) (T : FnOk P w K mg base CX0 1 t td ["_law_bag_here", "_law_many_here"] spTake) (bT : Binds K td ["_law_bag_here", "_law_many_here"] []) (kT : PySem.W.keepIn K (.ref t) = true) (mT : mg "_law_take" = some (.ref t))
    (X : FnOk P w K mg base CX0 9 ex exd psE (spExpr 7)) (bX : Binds K exd psE []) (kX : PySem.W.keepIn K (.ref ex) = true) (mX : mg "_law_expr" = some (.ref ex)) (bG : Binds K fd psE []) (mG : mg "_law_test" = some (.ref f)) :
    ∀ n : Nat, FnOk P w K mg base CX0 (n + 9) f fd psE (spTest n)
  | 0 => no_test
  | n + 1 => ok_test F T bT kT mT X bX kX mX (all_test F T bT kT mT X bX kX mX bG mG n) bG mG
end
/-! ### small ones are few -/
theorem Ex.cnt_lt : ∀ e : Ex, e.cnt + 1 ≤ 2 ^ e.deep
  | .num _ => Nat.le_refl _
  | .box _ => Nat.le_refl _
  | .asked => Nat.le_refl _
  | .told => Nat.le_refl _
  | .op _ l r => by
    have h1 := l.cnt_lt
    have h2 := r.cnt_lt
    have h3 : 2 ^ l.deep ≤ 2 ^ max l.deep r.deep := Nat.pow_le_pow_right (by decide) (Nat.le_max_left ..)
    have h4 : 2 ^ r.deep ≤ 2 ^ max l.deep r.deep := Nat.pow_le_pow_right (by decide) (Nat.le_max_right ..)
    show 1 + (l.cnt + r.cnt) + 1 ≤ 2 ^ (max l.deep r.deep + 1)
    rw [Nat.pow_succ]
    omega
theorem Ts.cnt_lt : ∀ e : Ts, e.cnt + 1 ≤ 2 ^ e.dp
  | .is l r => by
    have h1 := l.cnt_lt
    have h2 := r.cnt_lt
    have h3 : 2 ^ l.deep ≤ 2 ^ max l.deep r.deep := Nat.pow_le_pow_right (by decide) (Nat.le_max_left ..)
    have h4 : 2 ^ r.deep ≤ 2 ^ max l.deep r.deep := Nat.pow_le_pow_right (by decide) (Nat.le_max_right ..)
    show 1 + (l.cnt + r.cnt) + 1 ≤ 2 ^ (max l.deep r.deep + 1)
    rw [Nat.pow_succ]
    omega
  | .bel l r => by
    have h1 := l.cnt_lt
    have h2 := r.cnt_lt
    have h3 : 2 ^ l.deep ≤ 2 ^ max l.deep r.deep := Nat.pow_le_pow_right (by decide) (Nat.le_max_left ..)
    have h4 : 2 ^ r.deep ≤ 2 ^ max l.deep r.deep := Nat.pow_le_pow_right (by decide) (Nat.le_max_right ..)
    show 1 + (l.cnt + r.cnt) + 1 ≤ 2 ^ (max l.deep r.deep + 1)
    rw [Nat.pow_succ]
    omega
  | .nt t => by
    have h1 := t.cnt_lt
    have h2 : 0 < 2 ^ t.dp := Nat.pow_pos (by decide)
    show 1 + t.cnt + 1 ≤ 2 ^ (t.dp + 1)
    rw [Nat.pow_succ]
    omega
  | .both l r => by
    have h1 := l.cnt_lt
    have h2 := r.cnt_lt
    have h3 : 2 ^ l.dp ≤ 2 ^ max l.dp r.dp := Nat.pow_le_pow_right (by decide) (Nat.le_max_left ..)
    have h4 : 2 ^ r.dp ≤ 2 ^ max l.dp r.dp := Nat.pow_le_pow_right (by decide) (Nat.le_max_right ..)
    show 1 + (l.cnt + r.cnt) + 1 ≤ 2 ^ (max l.dp r.dp + 1)
    rw [Nat.pow_succ]
    omega
  | .either l r => by
    have h1 := l.cnt_lt
    have h2 := r.cnt_lt
    have h3 : 2 ^ l.dp ≤ 2 ^ max l.dp r.dp := Nat.pow_le_pow_right (by decide) (Nat.le_max_left ..)
    have h4 : 2 ^ r.dp ≤ 2 ^ max l.dp r.dp := Nat.pow_le_pow_right (by decide) (Nat.le_max_right ..)
    show 1 + (l.cnt + r.cnt) + 1 ≤ 2 ^ (max l.dp r.dp + 1)
    rw [Nat.pow_succ]
    omega
theorem Ex.right_of {xs ws : List Str} {e : Ex} (h : e.fit xs ws) (d : e.deep ≤ 4) : e.right xs ws := by
  have h1 := e.cnt_lt
  have h2 : 2 ^ e.deep ≤ 2 ^ 4 := Nat.pow_le_pow_right (by decide) d
  exact ⟨h, by omega, by omega⟩
theorem Ts.right_of {xs ws : List Str} {e : Ts} (h : e.fit xs ws) (d : e.dp ≤ 4) : e.right xs ws := by
  have h1 := e.cnt_lt
  have h2 : 2 ^ e.dp ≤ 2 ^ 4 := Nat.pow_le_pow_right (by decide) d
  exact ⟨h, by omega, by omega⟩
end Any
namespace Any
open L2 PySem PySem.Spec PyProof.Rows LamX NdefX
abbrev sMixed : Stmt := top 70
abbrev nmMix : List Str := ["_law_bag_here", "_law_some", "_law_left", "_law_one"]
theorem scMixed : FnScope nmMix ["_law_bag_here", "_law_some"] (defScope sMixed) := ⟨rfl, rfl, rfl, by decide +kernel, rfl, by decide +kernel, by decide +kernel⟩
def spMixed : Sp := fun vs H Q _ => ∃ (b l : Addr) (xs : List V) (n : Nat), vs = [.ref b, .ref l] ∧ Bag H b n ∧ n + xs.length < 2 ^ 40 ∧ H l = some (.lst xs) ∧ l ≠ b ∧ xs.length ≤ 1000 ∧
  ∀ (p : Addr) (ys : List V) (H' : Hp), H p = none → Kept b H H' → Bag H' b (n + xs.length) → H' p = some (.lst ys) → ys.Perm xs → Q (.ref p) H'
theorem erase_perm2 {α : Type} : ∀ {l : List α} {k : Nat} {y : α}, l[k]? = some y → (y :: l.eraseIdx k).Perm l
  | [], k, y, h => by simp at h
  | x :: r, 0, y, h => by cases h; exact .refl _
  | x :: r, k + 1, y, h => by
    have := erase_perm2 (l := r) (k := k) h
    exact (List.Perm.swap x y _).trans (this.cons x)
theorem seqIx {k n : Nat} (h : k < n) : seqIndex? (k : Int) n = some k := by
  unfold seqIndex?
  simp
  omega
theorem Bag.off {H : Hp} {b z : Addr} {n : Nat} (h : Bag H b n) (zb : z ≠ b) (o : HO) : Bag (upd H z o) b n := by
  obtain ⟨g, s, c, h1, r⟩ := h
  exact ⟨g, s, c, by rw [upd_ne zb.symm]; exact h1, r⟩
theorem Kept.put2 {b z C : Addr} {H H2 : Hp} {o o' : HO} (k : Kept b H H2) (hz : H z = none) (hC : H C = none) : Kept b H (upd (upd H2 z o) C o') := fun a u n q => by
  rw [upd_ne (ne_of_none q hC), upd_ne (ne_of_none q hz)]
  exact k a u n q
section
variable {P : Program} {w : World} {K : PySem.W.Frag} {mg : Str → Option Value} {base : Heap} {f t : Addr} {fd td : FuncData}
theorem ok_mixed (ml : mg "list" = none) (mn : mg "len" = none) (F : Fun K "_law_mixed" "_law_mixed" sMixed f fd) (T : FnOk P w K mg base CX0 1 t td ["_law_bag_here", "_law_many_here"] spTake) (bT : Binds K td ["_law_bag_here", "_law_many_here"] []) (kT : PySem.W.keepIn K (.ref t) = true) (mT : mg "_law_take" = some (.ref t)) :
    FnOk P w K mg base CX0 2 f fd ["_law_bag_here", "_law_some"] spMixed := by
  refine F.ok scMixed (fun vs H Q E h => ?_) (fun cdv A outer s H vs Q E hr h => ?_)
  · obtain ⟨b, l, xs, n, rfl, _⟩ := h
    rfl
  obtain ⟨b, l, xs, n, rfl, hB, hn, hl, hne, hz, q⟩ := h
  have hs : sizeLine = 16777216 := sizeLine_eq
  refine ⟨_, pss_cons (ps_set (i := 2) scMixed.nd rfl (Or.inr rfl) (pe_callTy call_list_of rfl ml (by decide +kernel) (pa_cons (pv 1) pa_nil)))
    (pss_one (ps_ret (pe_lc (own := [("_law_one", 3)]) (g := gName 3) (tt := tYes) (te := tBM K "list" rPopAt (tVar 2) _) rfl scMixed.nd (pi_list (pv 1)) (blkOk_by (N := nmMix) (sc := defScope sMixed) (by decide +kernel))
      (fun _ _ _ _ _ => pg_name (i := 3) scMixed.nd rfl (Or.inl rfl)) (fun _ _ _ _ _ => pts_nil)
      (fun _ _ _ _ _ => pe_bm PySem.F.plainAttrs_list PySem.F.slot_list_pop PySem.F.type_list_pop mt_popAt (pv 2) (pa_cons (pe_call T hr rfl mT kT bT .nil pass0 (pa_cons (pv 0) (pa_cons (pe_callB (show CallR _ (.builtin "len") (fun xs H Q => ∃ p ys, xs = [V.ref p] ∧ (SqL K H p ys ∨ SqT K H p ys) ∧ Q (.int ys.length) H) from call_len_seq) rfl mn PySem.boot_len (pa_cons (pv 2) pa_nil)) pa_nil))) pa_nil))))), ?_⟩
  refine ⟨_, rfl, l, _, rfl, .inl (SqL.of hl), fun z hz2 => ?_⟩
  have s1 := same_new hz2 (.lst xs)
  have zb : z ≠ b := (hB.ne hz2)
  refine ⟨_, rfl, l, rfl, ⟨_, SqL.of (s1 _ _ hl)⟩, fun C hC => ?_⟩
  have Cz : C ≠ z := fun e => by rw [e, upd_same] at hC; cases hC
  have hC0 : H C = none := by rw [← hC, upd_ne Cz]
  have Cb : C ≠ b := hB.ne hC0
  have zl : z ≠ l := fun e => by rw [e, hl] at hz2; cases hz2
  refine lc_list (K := K) (a := l) (xs := xs) (fun i Hc => ∃ ys zs : List V, Hc C = some (.lst ys) ∧ Hc z = some (.lst zs) ∧ ys.length = i ∧ (ys ++ zs).Perm xs ∧ Bag Hc b (n + i) ∧ Kept b H Hc) ?_ ?_ ?_ ?_
  · refine ⟨[], xs, upd_same, ?_, rfl, .refl _, ?_, ?_⟩
    · rw [upd_ne Cz.symm]
      exact upd_same
    · exact (hB.keep s1).keep (same_new hC _)
    · exact .of (s1.trans (same_new hC _))
  · rintro i Hc _ ⟨ys, zs, _, _, _, _, _, k1⟩
    exact SqL.of (k1 _ _ hne hl)
  · rintro i x Hc hx ⟨ys, zs, y1, y2, y3, y4, B1, k1⟩
    have hi : i < xs.length := (List.getElem?_eq_some_iff.mp hx).1
    have le : ys.length + zs.length = xs.length := by rw [← y4.length_eq, List.length_append]
    refine ⟨rfl, _, rfl, .inl ⟨rfl, _, SqL.of y2⟩, _, rfl, _, rfl, z, zs, rfl, .inl (SqL.of y2), ?_⟩
    refine ⟨b, zs.length, n + i, rfl, B1, by omega, by omega, by omega, fun d H2 k2 B2 d0 d1 => ?_⟩
    obtain ⟨dn, rfl⟩ : ∃ dn : Nat, d = dn := ⟨d.toNat, by omega⟩
    have hd : dn < zs.length := by omega
    have y2' : H2 z = some (.lst zs) := k2 _ _ zb y2
    have y1' : H2 C = some (.lst ys) := k2 _ _ Cb y1
    have hy : zs[dn]? = some zs[dn] := List.getElem?_eq_getElem hd
    refine ⟨z, zs, dn, dn, zs[dn], rfl, rfl, y2', by omega, by omega, ?_, hy, ?_⟩
    · exact seqIx hd
    refine ⟨ys, by rw [upd_ne Cz]; exact y1', by omega, ys ++ [zs[dn]], zs.eraseIdx dn, upd_same, ?_, ?_, ?_, ?_, ?_⟩
    · rw [upd_ne Cz.symm]
      exact upd_same
    · rw [List.length_append, y3]
      rfl
    · rw [List.append_assoc]
      exact ((erase_perm2 hy).append_left ys).trans y4
    · exact (B2.off (z := z) zb _).off Cb _ |>.more (by omega)
    · exact (k1.trans k2).put2 hz2 hC0
  · rintro Hc ⟨ys, zs, y1, y2, y3, y4, B1, k1⟩
    have le : ys.length + zs.length = xs.length := by rw [← y4.length_eq, List.length_append]
    have e0 : zs = [] := List.eq_nil_of_length_eq_zero (by omega)
    subst e0
    rw [List.append_nil] at y4
    exact q C ys Hc hC0 k1 B1 y1 y4
end
end Any
namespace Any
open L2 PySem PySem.Spec PyProof.Rows LamX NdefX
abbrev sMade : Stmt := top 80
abbrev sLProg : Stmt := top 81
theorem scMade : FnScope ["_law_some"] ["_law_some"] (defScope sMade) := ⟨rfl, rfl, rfl, by decide +kernel, rfl, by decide +kernel, by decide +kernel⟩
theorem scLProg : FnScope ["_law_rooms_here", "_law_some"] ["_law_rooms_here"] (defScope sLProg) := ⟨rfl, rfl, rfl, by decide +kernel, rfl, by decide +kernel, by decide +kernel⟩
/-- a room's eight parts as a tuple -/
def EightAt (H : Hp) (a : Addr) (r : Rm) : Prop := ∃ n ab b s k t p y, H a = some (.tup [n, ab, b, s, k, t, p, y]) ∧ PartsAt H r n ab b s k t p y
theorem EightAt.keep {H H' : Hp} (k : Tups H H') {a : Addr} {r : Rm} (h : EightAt H a r) : EightAt H' a r := by
  obtain ⟨n, ab, b, s, q, t, p, y, h1, h2⟩ := h
  exact ⟨n, ab, b, s, q, t, p, y, k _ _ h1, h2.keep k⟩
def spMade (C : Addr) : Sp := fun vs H Q _ => ∃ a r, vs = [.ref a] ∧ EightAt H a r ∧ ∀ x H', H x = none → Same H H' → RmAt C H' x r → Q (.ref x) H'
abbrev ks7 : List Str := ["above", "boxes", "sayings", "ask", "told", "promise", "body"]
section
variable {P : Program} {w : World} {K : PySem.W.Frag} {mg : Str → Option Value} {base : Heap} {f C fI : Addr} {fd fdI : FuncData}
set_option maxHeartbeats 4000000 in
theorem kb_rinit {kws : List (Str × V)} (F : FunD K "__init__" "Room.__init__" (defArgs sRInit) (defBody sRInit) (defScope sRInit) [] kws f fd) : KBn K fd psRI 2 ks7 (fun us ws => us ++ ws) (fun us ws => us ++ ws) := by
  obtain ⟨oc, od, dV, kV, doc, pm, an, cdv, ct, osl, rfl, lk, hcd, hD, hK⟩ := F.ex
  have hd : dV = .none := hD.elim (fun z => z.2) (fun z => absurd rfl z.1)
  subst hd
  refine ⟨fun s us ws _ l1 l2 => ?_, fun r1 r2 => r1.append r2⟩
  match us, ws, l1, l2 with
  | [u1, u2], [w1, w2, w3, w4, w5, w6, w7], _, _ => exact .of_eq (by first | kernel_rfl | rfl)
theorem ok_made {kws : List (Str × V)} (F : Fun K "_law_made" "_law_made" sMade f fd) (M : Mk K C fI) (mC : mg "Room" = some (.ref C)) (T : RoomC K C)
    (FI : FunD K "__init__" "Room.__init__" (defArgs sRInit) (defBody sRInit) (defScope sRInit) [] kws fI fdI) : FnOk P w K mg base CX0 3 f fd ["_law_some"] (spMade C) := by
  have GI : FnOk P w K mg base CX0 1 fI fdI psRI (spRInit C) := ok_rinit T FI
  have kI := kb_rinit FI
  refine F.ok scMade (fun vs H Q E h => ?_) (fun cdv A outer s H vs Q E hr h => ?_)
  · obtain ⟨a, r, rfl, _⟩ := h
    rfl
  obtain ⟨a, r, rfl, ⟨n, ab, b, s', k, t, p, y, ha, hp⟩, q⟩ := h
  refine ⟨_, pss_one (ps_ret (pe_makeK M GI hr rfl mC kI pass0 (pa_cons (pe_ix ix_tup (pv 0) pe_int (fun _ _ => rfl)) pa_nil)
    (pk_cons (pe_ix ix_tup (pv 0) pe_int (fun _ _ => rfl)) (pk_cons (pe_ix ix_tup (pv 0) pe_int (fun _ _ => rfl)) (pk_cons (pe_ix ix_tup (pv 0) pe_int (fun _ _ => rfl)) (pk_cons (pe_ix ix_tup (pv 0) pe_int (fun _ _ => rfl))
    (pk_cons (pe_ix ix_tup (pv 0) pe_int (fun _ _ => rfl)) (pk_cons (pe_ix ix_tup (pv 0) pe_int (fun _ _ => rfl)) (pk_cons (pe_ix ix_tup (pv 0) pe_int (fun _ _ => rfl)) pk_nil))))))))), ?_⟩
  refine ⟨_, rfl, _, _, _, _, rfl, rfl, SqT.of ha, atI_nat (j := 0) rfl, ?_⟩
  refine ⟨_, rfl, _, _, _, _, rfl, rfl, SqT.of ha, atI_nat (j := 1) rfl, ?_⟩
  refine ⟨_, rfl, _, _, _, _, rfl, rfl, SqT.of ha, atI_nat (j := 2) rfl, ?_⟩
  refine ⟨_, rfl, _, _, _, _, rfl, rfl, SqT.of ha, atI_nat (j := 3) rfl, ?_⟩
  refine ⟨_, rfl, _, _, _, _, rfl, rfl, SqT.of ha, atI_nat (j := 4) rfl, ?_⟩
  refine ⟨_, rfl, _, _, _, _, rfl, rfl, SqT.of ha, atI_nat (j := 5) rfl, ?_⟩
  refine ⟨_, rfl, _, _, _, _, rfl, rfl, SqT.of ha, atI_nat (j := 6) rfl, ?_⟩
  refine ⟨_, rfl, _, _, _, _, rfl, rfl, SqT.of ha, atI_nat (j := 7) rfl, rfl, rfl, fun x dx hx hdx ne => ?_⟩
  refine ⟨x, dx, n, ab, b, s', k, t, p, y, rfl, upd_same, rfl, ?_⟩
  have s1 : Same H (upd (upd (upd H dx (.own x)) x (.ins C dx [])) x (.ins C dx (roomF n ab b s' k t p y))) := fun c o hc => by
    rw [upd_ne (ne_of_none hc hx), upd_ne (ne_of_none hc hx), upd_ne (ne_of_none hc hdx)]
    exact hc
  exact q x _ hx s1 ⟨dx, n, ab, b, s', k, t, p, y, upd_same, hp.keep (Same.tups s1)⟩
end
end Any
namespace Any
open L2 PySem PySem.Spec PyProof.Rows LamX NdefX
/-- all but lists stay -/
def Objs (H H' : Hp) : Prop := ∀ a o, (∀ xs, o ≠ .lst xs) → H a = some o → H' a = some o
theorem Objs.tups {H H' : Hp} (k : Objs H H') : Tups H H' := fun a xs h => k a _ (fun ys z => by cases z) h
theorem Same.objs {H H' : Hp} (k : Same H H') : Objs H H' := fun a o _ h => k a o h
theorem Objs.put {H : Hp} {C : Addr} {xs ys : List V} (h : H C = some (.lst xs)) : Objs H (upd H C (.lst ys)) := fun a o n q => by
  rw [upd_ne (fun z => by rw [z, h] at q; exact n xs (Option.some.inj q).symm)]
  exact q
theorem RmAt.keepO {C : Addr} {H H' : Hp} (k : Objs H H') {x : Addr} {r : Rm} (h : RmAt C H x r) : RmAt C H' x r := by
  obtain ⟨dx, n, a, b, s, q, t, p, y, h1, h2⟩ := h
  exact ⟨dx, n, a, b, s, q, t, p, y, k _ _ (fun ys z => by cases z) h1, h2.keep k.tups⟩
/-- a program in the heap -/
def PgAt (C D : Addr) (H : Hp) (x : Addr) (rs : List Rm) : Prop := ∃ dx R p, H x = some (.ins D dx [("held", .ref R), ("drawn", .ref p)]) ∧ H p = some (.tup []) ∧ RsAt C H R rs
def spLProg (T : List NTab) (C D : Addr) : Sp := fun vs H Q _ => ∃ l as rs, vs = [.ref l] ∧ H l = some (.lst (as.map V.ref)) ∧ Paired (EightAt H) as rs ∧ Right rs ∧ TabsN T H ∧ ∀ x H', H x = none → Gr T H H' → PgAt C D H' x rs → Q (.ref x) H'
theorem paired_snoc {α β : Type} {R : α → β → Prop} : ∀ {xs : List α} {ys : List β}, Paired R xs ys → ∀ {x : α} {y : β}, R x y → Paired R (xs ++ [x]) (ys ++ [y])
  | _, _, .nil, x, y, h => .cons h .nil
  | _, _, .cons r t, x, y, h => .cons r (paired_snoc t h)
section
variable {P : Program} {w : World} {K : PySem.W.Frag} {mg : Str → Option Value} {base : Heap} {f C D md pI : Addr} {fd mdd pId : FuncData} {T_ : List NTab}
theorem ok_lprog (mt : mg "tuple" = none) (F : Fun K "_law_program" "_law_program" sLProg f fd) (G : FnOk P w K mg base CX0 3 md mdd ["_law_some"] (spMade C)) (bG : Binds K mdd ["_law_some"] []) (kG : PySem.W.keepIn K (.ref md) = true) (mG : mg "_law_made" = some (.ref md))
    (M : Mk K D pI) (mD : mg "Program" = some (.ref D)) (GP : FnOk P w K mg base CX0 30 pI pId ["self", "rooms"] (spPInit T_ C D)) (bP : Binds K pId ["self", "rooms"] []) : FnOk P w K mg base CX0 32 f fd ["_law_rooms_here"] (spLProg T_ C D) := by
  refine F.ok scLProg (fun vs H Q E h => ?_) (fun cdv A outer s H vs Q E hr h => ?_)
  · obtain ⟨l, as, rs, rfl, _⟩ := h
    rfl
  obtain ⟨l, as, rs, rfl, hl, hp, ok, hT, q⟩ := h
  have hlen := paired_len hp
  have hs : sizeLine = 16777216 := sizeLine_eq
  have hhi := ok.hi
  refine ⟨_, pss_one (ps_ret (pe_make M GP hr rfl mD bP .nil pass0 (pa_cons (pe_callTy call_tuple_of rfl mt (by decide +kernel) (pa_cons (pe_lc (own := [("_law_some", 1)]) (g := gName 1) (tt := tYes) rfl scLProg.nd (pi_list (pv 0))
    (blkOk_by (N := ["_law_rooms_here", "_law_some"]) (sc := defScope sLProg) (by decide +kernel)) (fun _ _ _ _ _ => pg_name (i := 1) scLProg.nd rfl (Or.inl rfl)) (fun _ _ _ _ _ => pts_nil)
    (fun _ _ _ _ _ => pe_call G (hr.mono (by decide)) rfl mG kG bG .nil pass0 (pa_cons (pv 1) pa_nil))) pa_nil)) pa_nil))), ?_⟩
  refine ⟨_, rfl, l, rfl, ⟨_, SqL.of hl⟩, fun c hc => ?_⟩
  refine lc_list (K := K) (a := l) (xs := as.map V.ref) (fun i Hc => ∃ xs : List Addr, Hc c = some (.lst (xs.map V.ref)) ∧ Paired (RmAt C Hc) xs (rs.take i) ∧ Same H Hc) ?_ ?_ ?_ ?_
  · exact ⟨[], upd_same, .nil, same_new hc _⟩
  · rintro i Hc _ ⟨xs, _, _, sm⟩
    exact SqL.of (sm _ _ hl)
  · rintro i v Hc hv ⟨xs, x1, x2, sm⟩
    obtain ⟨e, he, rfl⟩ := refs_at hv
    obtain ⟨r, hri, hat⟩ := paired_get hp he
    have xl := paired_len x2
    rw [List.length_take] at xl
    refine ⟨rfl, _, rfl, e, r, rfl, hat.keep (Same.tups sm), fun x H2 hx s2 hr2 => ?_⟩
    refine ⟨_, s2 _ _ x1, by rw [List.length_map]; omega, xs ++ [x], by rw [upd_same, List.map_append]; rfl, ?_, fun a o ha => ?_⟩
    · have ob := Objs.put (ys := xs.map V.ref ++ [V.ref x]) (s2 _ _ x1)
      rw [List.take_add_one, hri]
      exact paired_snoc (paired_imp (fun _ _ z => (z.keep s2).keepO ob) x2) (hr2.keepO ob)
    · rw [upd_ne (ne_of_none ha hc)]
      exact s2 _ _ (sm _ _ ha)
  · rintro Hc ⟨xs, x1, x2, sm⟩
    rw [List.length_map, hlen, List.take_length] at x2
    refine ⟨c, _, rfl, .inl ⟨SqL.of x1, fun R hR => ?_⟩⟩
    have s1 := same_new hR (.tup (xs.map V.ref))
    intro x dx hx hdx ne
    have r1 : RsAt C (upd Hc R (.tup (xs.map V.ref))) R rs := ⟨xs, upd_same, paired_imp (fun _ _ z => z.keep s1) x2⟩
    have s2 : Same (upd Hc R (.tup (xs.map V.ref))) (upd (upd (upd Hc R (.tup (xs.map V.ref))) dx (.own x)) x (.ins D dx [])) := fun a o ha => by
      rw [upd_ne (ne_of_none ha hx), upd_ne (ne_of_none ha hdx)]
      exact ha
    have g2 := Gr.of hT ((sm.trans s1).trans s2)
    have gR := Gr.of hT (sm.trans s1)
    refine ⟨x, dx, R, rs, rfl, upd_same, r1.keep s2, ok, g2.tabs, fun p H3 k3 h3 hp3 => ⟨rfl, ?_⟩⟩
    have g3 : Gr T_ (upd Hc R (.tup (xs.map V.ref))) H3 := gr_kg (Gr.of gR.tabs s2) hx k3
    exact q x H3 ((sm.trans s1).free hx) (gR.trans g3) ⟨dx, R, p, h3, hp3, r1.gr g3⟩
end
end Any
namespace Any
open L2 PySem PySem.Spec PyProof.Rows LamX NdefX
/-! ### defs by their names -/
section
variable (P : Program) (w : World) (K : PySem.W.Frag) (mg : Str → Option Value) (base : Heap)
/-- the name x of the module holds this def -/
def Nd (x : Str) (st : Stmt) (ps : List Str) : Prop := ∃ f fd, mg x = some (.ref f) ∧ Fun K x x st f fd ∧ Binds K fd ps []
/-- .. one that keeps this promise -/
def Df (k : Nat) (x : Str) (ps : List Str) (sp : Sp) : Prop := ∃ f fd, mg x = some (.ref f) ∧ PySem.W.keepIn K (.ref f) = true ∧ FnOk P w K mg base CX0 k f fd ps sp ∧ Binds K fd ps []
/-- .. where no repr is under way -/
def DfG (k : Nat) (x : Str) (ps : List Str) (sp : Sp) : Prop := ∃ f fd, mg x = some (.ref f) ∧ PySem.W.keepIn K (.ref f) = true ∧ FnG P w K mg base CX0 k f fd ps sp ∧ Binds K fd ps []
/-- a method of the class at C -/
def Mf (C : Addr) (k : Nat) (m : Str) (ps : List Str) (sp : Sp) : Prop := ∃ f fd, Meth K C m f ∧ FnOk P w K mg base CX0 k f fd ps sp ∧ Binds K fd ps []
end
section
variable {X : Cx} {k : Nat} {x m : Str} {C : Addr} {ps : List Str} {sp : Sp} {p pos apos : Pos} {e o : Expr} {es : List Expr} {t : TA} {ta : TE}
theorem pe_D (D : Df X.prog X.w X.K X.mg X.base k x ps sp) (hr : Room k X.A) (hg : Gl X x) (ha : PA X (e :: es) t) (hdb : (x == ("__debug__" : Str)) = false := by decide)
    (he : starEach (e :: es) X.env = (false, eval e X.env) :: starEach es X.env := by rfl) (hpl : (backTo pos (starEach es X.env)).any (·.1) = false := by rfl) : PE X (.Call (.Name x p) (e :: es) [] pos) (tCall sp [] E0 t) := by
  obtain ⟨f, fd, hm, hk, F, hb⟩ := D
  exact pe_call F hr hg hm hk hb .nil pass0 ha hdb he hpl
theorem pe_DG (D : DfG X.prog X.w X.K X.mg X.base k x ps sp) (hG : X.A.guards = some []) (hr : Room k X.A) (hg : Gl X x) (ha : PA X (e :: es) t) (hdb : (x == ("__debug__" : Str)) = false := by decide)
    (he : starEach (e :: es) X.env = (false, eval e X.env) :: starEach es X.env := by rfl) (hpl : (backTo pos (starEach es X.env)).any (·.1) = false := by rfl) : PE X (.Call (.Name x p) (e :: es) [] pos) (tCall sp [] E0 t) := by
  obtain ⟨f, fd, hm, hk, F, hb⟩ := D
  exact pe_callG F hG hr hg hm hk hb .nil pass0 ha hdb he hpl
theorem pe_M {pl : Sem Bool} (D : Mf X.prog X.w X.K X.mg X.base C k m ps sp) (c : Cls X.K C) (he : PE X o ta) (hr : Room k X.A) (ha : PA X (e :: es) t)
    (hst : starEach (e :: es) X.env = (false, eval e X.env) :: starEach es X.env := by rfl) (hpl : (backTo pos (starEach es X.env)).any (·.1) = false := by rfl)
    (ht : eval (.Call (.Attribute o m apos) (e :: es) [] pos) X.env = (do
      let ov ← eval o X.env
      standAt apos.atName
      let (f, first) ← holding [ov] (getMethod ov m pl)
      callWith pos f first (backTo pos (starEach (e :: es) X.env)) (backToKw pos (keywordEach [] X.env))) := by rfl) :
    PE X (.Call (.Attribute o m apos) (e :: es) [] pos) (tMeth C m sp [] E0 ta t) := by
  obtain ⟨f, fd, hm, F, hb⟩ := D
  exact pe_meth he c hm F hr hb .nil pass0 ha hst hpl ht
end
section
variable {P : Program} {w : World} {K : PySem.W.Frag} {mg : Str → Option Value} {base : Heap}
theorem Df.mono {j k : Nat} {x : Str} {ps : List Str} {sp : Sp} (D : Df P w K mg base j x ps sp) (h : j ≤ k) : Df P w K mg base k x ps sp := by
  obtain ⟨f, fd, hm, hk, F, hb⟩ := D
  exact ⟨f, fd, hm, hk, F.mono h, hb⟩
end
theorem itD {c A B : Prop} [Decidable c] (h1 : c → A) (h2 : ¬ c → B) : if decide c = true then A else B := ite2 (fun z => h1 (of_decide_eq_true z)) fun z => h2 fun q => z (decide_eq_true q)
theorem itN {c A B : Prop} [Decidable c] (h1 : ¬ c → A) (h2 : c → B) : if (!decide c) = true then A else B := by
  by_cases h : c
  · rw [decide_eq_true h]
    exact itF rfl (h2 h)
  · rw [decide_eq_false h]
    exact itT rfl (h1 h)
theorem itEq {i j : Int} {A B : Prop} (h1 : i = j → A) (h2 : i ≠ j → B) : if decide (V.int i = V.int j) = true then A else B := itD (fun z => h1 (V.int.inj z)) fun z => h2 fun q => z (by rw [q])
theorem itNe {i j : Int} {A B : Prop} (h1 : i ≠ j → A) (h2 : i = j → B) : if (!decide (V.int i = V.int j)) = true then A else B := itN (fun z => h1 fun q => z (by rw [q])) fun z => h2 (V.int.inj z)
theorem kept_same {l : Addr} {H H1 H2 : Hp} (s : Same H H1) (n : H l = none) (k : Kept l H1 H2) : Same H H2 := fun a o h => k a o (ne_of_none h n) (s a o h)
theorem Bd.ok_mem {xs ws rs : List Str} : ∀ {b : Bd} {s : Sg}, b.ok xs ws rs → s ∈ b.toL → s.ok xs ws rs
  | .nil, s, _, h => by unfold Bd.toL at h; cases h
  | .cons t b, s, h, m => by
    unfold Bd.ok at h
    unfold Bd.toL at m
    rcases List.mem_cons.mp m with e | m
    · rw [e]
      exact h.1
    · exact Bd.ok_mem h.2 m
end Any
set_option maxHeartbeats 4000000
namespace Any
open L2 PySem PySem.Spec PyProof.Rows
/-! ### own exceptions straight over one of Python's own classes -/
/-- what is asked of that class: its name, how it is made, how it is begun, its mro -/
structure Over (B nw ini : String) (T : List Value) : Prop where
  facts : PySem.ExcBaseFacts B nw ini T
  pass : ∀ self, refuseLoop self "__setattr__" T = pure ()
  obj : T.contains (.type "object") = true
abbrev tLookup : List Value := [.type "LookupError", .type "Exception", .type "BaseException", .type "object"]
abbrev tRuntime : List Value := [.type "RuntimeError", .type "Exception", .type "BaseException", .type "object"]
abbrev tValue : List Value := [.type "ValueError", .type "Exception", .type "BaseException", .type "object"]
theorem over_lookup : Over "LookupError" "LookupError.__new__" "LookupError.__init__" tLookup := ⟨PySem.F.excBase_LookupError, fun self => by kernel_rfl, by decide +kernel⟩
theorem over_runtime : Over "RuntimeError" "RuntimeError.__new__" "RuntimeError.__init__" tRuntime := ⟨PySem.F.excBase_RuntimeError, fun self => by kernel_rfl, by decide +kernel⟩
theorem over_value : Over "ValueError" "ValueError.__new__" "ValueError.__init__" tValue := ⟨PySem.F.excBase_ValueError, fun self => by kernel_rfl, by decide +kernel⟩
section
open Builtin Builtin.ObjectAttr
variable {pr : Program} {wo : World} {Ar : Around} {R : Result → Shared → Prop} {h : Heap} {gs : Array GenState} {dr : Drawn} {n : Nat} {os : OsState} {K : PySem.W.Frag} {y : Str} {u : Tok} {v : Value} {e C dx : Addr} {vs : Array Value} {cd : ClassData} {B nw ini : String} {T : List Value} {m : Str → Option Value} {ys : List Str}
theorem Over.ne (O : Over B nw ini T) (z : Value) : (z :: T).isEmpty = false := rfl
theorem oset_first (O : Over B nw ini T) (X : K.In h) (he : h.get? e = some { cls := .ref C, data := .fields vs }) (hc : PySem.W.clsIn K C = some cd) (hm : cd.mro = .ref C :: T) (hd : cd.hasDict = true) (hn : PySem.W.findIn K (.ref C) y = some none)
    (q : ∀ h' u' dx, (∀ b o, b ≠ e → h.get? b = some o → h'.get? b = some o) → h.objs.size ≤ dx → dx ≠ e → h'.get? e = some { cls := .ref C, dict := some dx, data := .fields vs } →
      h'.Ns1 dx (fun z => if z = y then some v else none) → R (.ok (.ret .none)) ⟨h', gs, dr, u', os⟩) :
    codeAny (model pr wo) Ar (.call (.builtin "object.__setattr__") ⟨[.ref e, .str y u, v], []⟩) R ⟨h, gs, dr, n, os⟩ := by
  have J : PySem.W.InstAt h e { cls := .ref C, data := .fields vs } C none := ⟨he, rfl, rfl, trivial⟩
  have S := PySem.F.store_object
  have isO : (.ref C :: T : List Value).contains (.type "object") = true := by rw [List.contains_cons, O.obj, Bool.or_true]
  have apart : e ≠ h.objs.size := Nat.ne_of_lt (Heap.lt_size he)
  have sb : PySem.W.Looks (model pr wo) h (isInstance (.ref e) (.type "object")) true :=
    J.type.andThen (PySem.W.looks_mroIn X (by unfold PySem.W.mroIn; rw [hc, Option.bind_some, hm, if_neg (by rw [O.ne]; decide), isO]))
  refine codeAny_call_builtin S.slot.plain S.entry (@PySem.W.check_slot (model pr wo) _ _ ⟨h, gs, dr, n, os⟩ "object.__setattr__" "object" "__setattr__" (.ref e) [.str y u, v] [] _ S.kind S.split sb (S.args (.ref e) (.str y u) v) ?_)
  have lm : PySem.W.Looks (model pr wo) h (mroOf (.ref C)) cd.mro := (PySem.W.looks_clsIn X hc).andThen .now
  have ls : PySem.W.Looks (model pr wo) h (storeTaker? none) none := .now
  have lc : PySem.W.Looks (model pr wo) h (classData C) cd := PySem.W.looks_clsIn X hc
  rw [PySem.W.osa_eq, refuse_eq]
  refine wpAny_bind (wpAny_bind (J.type.at (wpAny_bind (lm.at ?_))))
  rw [hm, refuseLoop_ref, O.pass]
  refine wpAny_pure (wpAny_bind (J.type.at (wpAny_bind ((PySem.W.looks_findIn X hn).at (wpAny_bind (ls.at ?_))))))
  show wpAny _ _ (storeInOwnDict (.ref e) (.ref C) (.str y u) y v false) _ _ _
  obtain ⟨_, _, _, _, _, hd', _, _, _, _, _⟩ := cd
  dsimp only at hd
  subst hd
  unfold storeInOwnDict ownDictForStores
  repeat (first
    | with_reducible refine PySem.HandSPX.store_in_new ?_ ?_
    | with_reducible refine wpAny_loadPart_at he ?_
    | with_reducible refine lc.at ?_
    | wp_step)
  · exact ⟨_, #[], _, (Heap.get?_update_ne _ _ _ _ apart.symm).trans (Heap.get?_push_at rfl rfl), rfl, fun z hz => absurd hz (by simp), fun _ => rfl⟩
  · intro h' u' hn' hs
    have he2 : (h.push { cls := .type "dict", data := .dict #[] }).get? e = some { cls := .ref C, data := .fields vs } := Heap.get?_push_of_some _ he
    refine q h' u' h.objs.size (fun b o hb ho => ?_) (Nat.le_refl _) apart.symm ?_ hn'
    · exact (hs.2 b (Nat.ne_of_lt (Heap.lt_size ho))).trans ((Heap.get?_update_ne _ _ _ _ hb).trans (Heap.get?_push_of_some _ ho))
    · exact (hs.2 e apart).trans (Heap.get?_update_self _ he2 rfl)
theorem oset_next (O : Over B nw ini T) (X : K.In h) (he : h.get? e = some { cls := .ref C, dict := some dx, data := .fields vs }) (hx : h.Ns1 dx m) (hw : Within m ys) (hz : ys.length ≤ 1000) (hc : PySem.W.clsIn K C = some cd) (hm : cd.mro = .ref C :: T) (hd : cd.hasDict = true)
    (hn : PySem.W.findIn K (.ref C) y = some none) (q : ∀ h' u', (∀ b o, b ≠ dx → h.get? b = some o → h'.get? b = some o) → h'.Ns1 dx (fun z => if z = y then some v else m z) → R (.ok (.ret .none)) ⟨h', gs, dr, u', os⟩) :
    codeAny (model pr wo) Ar (.call (.builtin "object.__setattr__") ⟨[.ref e, .str y u, v], []⟩) R ⟨h, gs, dr, n, os⟩ := by
  obtain ⟨oD, _, _, hoD, _, _⟩ := hx.count hw
  have J : PySem.W.InstAt h e { cls := .ref C, dict := some dx, data := .fields vs } C (some oD) := ⟨he, rfl, rfl, hoD⟩
  have S := PySem.F.store_object
  have isO : (.ref C :: T : List Value).contains (.type "object") = true := by rw [List.contains_cons, O.obj, Bool.or_true]
  have sb : PySem.W.Looks (model pr wo) h (isInstance (.ref e) (.type "object")) true :=
    J.type.andThen (PySem.W.looks_mroIn X (by unfold PySem.W.mroIn; rw [hc, Option.bind_some, hm, if_neg (by rw [O.ne]; decide), isO]))
  refine codeAny_call_builtin S.slot.plain S.entry (@PySem.W.check_slot (model pr wo) _ _ ⟨h, gs, dr, n, os⟩ "object.__setattr__" "object" "__setattr__" (.ref e) [.str y u, v] [] _ S.kind S.split sb (S.args (.ref e) (.str y u) v) ?_)
  have lm : PySem.W.Looks (model pr wo) h (mroOf (.ref C)) cd.mro := (PySem.W.looks_clsIn X hc).andThen .now
  have ls : PySem.W.Looks (model pr wo) h (storeTaker? none) none := .now
  have lc : PySem.W.Looks (model pr wo) h (classData C) cd := PySem.W.looks_clsIn X hc
  rw [PySem.W.osa_eq, refuse_eq]
  refine wpAny_bind (wpAny_bind (J.type.at (wpAny_bind (lm.at ?_))))
  rw [hm, refuseLoop_ref, O.pass]
  refine wpAny_pure (wpAny_bind (J.type.at (wpAny_bind ((PySem.W.looks_findIn X hn).at (wpAny_bind (ls.at ?_))))))
  show wpAny _ _ (storeInOwnDict (.ref e) (.ref C) (.str y u) y v false) _ _ _
  obtain ⟨_, _, _, _, _, hd', _, _, _, _, _⟩ := cd
  dsimp only at hd
  subst hd
  unfold storeInOwnDict ownDictForStores
  repeat (first
    | with_reducible refine PySem.OEX.store_in_old hx hw hz ?_
    | with_reducible refine wpAny_loadPart_at he ?_
    | with_reducible refine lc.at ?_
    | wp_step)
  intro h' u' hn' hs
  exact q h' u' (fun b o hb ho => (hs.2 b hb).trans ho) hn'
end
/-- what the written part says of an own exception's class -/
structure OxC (K : PySem.W.Frag) (C : Addr) (B nw ini : String) (T : List Value) : Prop where
  over : Over B nw ini T
  cls : ∃ nm q N bs sn sub ab col dd k0 k1 k2 k3 k5, K.lookup C = some (excClassObj nm q C N bs T true sn sub ab col dd k0 k1 k2 k3 k5 nw)
  sa : PySem.W.findIn K (.ref C) "__setattr__" = some (some (.builtin "object.__setattr__"))
  exC : PySem.W.subIn K (.ref C) (.type "BaseException") = some true
  tyC : PySem.W.typeIn K (.ref C) = some (.type "type")
  kC : PySem.W.keepIn K (.ref C) = true
section
variable {K : PySem.W.Frag} {C : Addr} {B nw ini : String} {T : List Value}
theorem OxC.data (Z : OxC K C B nw ini T) : ∃ cd, PySem.W.clsIn K C = some cd ∧ cd.mro = .ref C :: T ∧ cd.hasDict = true := by
  obtain ⟨nm, q, N, bs, sn, sub, ab, col, dd, k0, k1, k2, k3, k5, hC⟩ := Z.cls
  refine ⟨{ name := nm, bases := bs, mro := .ref C :: T, ns := N, qualname := q, hasDict := true, slotNames := sn, subclasses := sub, abstract := ab, collection := col, hasDel := false }, ?_, rfl, rfl⟩
  unfold PySem.W.clsIn
  rw [hC] <;> rfl
end
section
variable {X : Cx} {pins : List (Addr × Obj)} {σ : L2.St} {H : Hp} {s : Shared} {a C dx : Addr} {f : Str} {y : V} {u : Value} {fs : List (Str × V)} {Q : Unit → Shared → Prop} {E : Value → Shared → Prop} {A : Around} {B nw ini : String} {T : List Value}
/-- self.f = y, the first of its fields -/
theorem xset_first (Z : OxC X.K C B nw ini T) (I : Inv X pins σ H s) (e : H a = some (exo a C none)) (hno : PySem.W.findIn X.K (.ref C) f = some none) (ry : RelV y u)
    (h : ∀ dx s', H dx = none → dx ≠ a → Inv X pins σ (upd (upd H dx (exd dx [(f, y)])) a (exo a C (some dx))) s' → Q () s') : wpAny (model X.prog X.w) A (setAttr (.ref a) f u) Q E s := by
  obtain ⟨cd, hcl, hm, hd⟩ := Z.data
  obtain ⟨t1, ho⟩ := exo_at I.hok e
  obtain ⟨hp, g, d, t, os⟩ := s
  refine PySem.W.set_plain I.kIn (ox := { cls := .ref C, dict := none, data := .fields #[.ref t1, .none, .none, .none, .bool false, .none] }) (od := none) ⟨ho, rfl, rfl, trivial⟩ Z.sa ?_
  refine oset_first Z.over I.kIn ho hcl hm hd hno (fun h' tk' dx k dn dne hx hn => ?_)
  have nD : H dx = none := I.hok.fresh dn
  have lo : ∀ {b : Addr} {o : Obj}, hp.get? b = some o → b ≠ dx := fun {b o} q => Nat.ne_of_lt (Nat.lt_of_lt_of_le (Heap.lt_size q) dn)
  have off : ∀ {b : Addr}, H b = none → b ≠ a := fun {b} n z => by rw [z, e] at n; cases n
  have U : Un X.fs [] H (upd (upd H dx (exd dx [(f, y)])) a (exo a C (some dx))) hp h' :=
    ⟨fun b o q n _ _ => k b o (off n) q, fun b o q n _ _ => ⟨o.slots, k b o (off n) q⟩, fun b o q n _ => by rw [upd_ne (off n), upd_ne (lo q)]; exact n,
     fun b o q _ => by
      by_cases hb : b = a
      · exact ⟨_, by rw [hb]; exact hx⟩
      · exact ⟨o, k b o hb q⟩,
     fun b xs q => by rw [upd_ne (at_ne e q exo_tup), upd_ne (ne_of_none q nD)]; exact q,
     fun b o v q => by rw [upd_ne (at_ne e q exo_frz), upd_ne (ne_of_none q nD)]; exact q,
     fun b ps q => ⟨#[], by rw [upd_ne (at_ne e q exo_tbl), upd_ne (ne_of_none q nD), q]; simp⟩⟩
  refine h dx _ nD dne (I.un (t' := tk') U fun b o q => ?_)
  by_cases hb : b = a
  · subst hb
    rw [upd_same] at q
    cases q
    exact exo_ok hx
  rw [upd_ne hb] at q
  by_cases hd2 : b = dx
  · subst hd2
    rw [upd_same] at q
    cases q
    exact exd_ok hn (relO_put (fs := []) ry fun g => True.intro)
  rw [upd_ne hd2] at q
  refine (I.hok b o q).stay (fun c v hc z => k c v ?_ z) (fun c hc => by rw [upd_ne (at_ne e hc exo_own), upd_ne (ne_of_none hc nD)]; exact hc) (fun c xs hc => by rw [upd_ne (at_ne e hc exo_tup), upd_ne (ne_of_none hc nD)]; exact hc)
  rcases hc with hc | hc
  · rw [hc]; exact hb
  · exact at_ne e hc exo_own
/-- .. a further one -/
theorem xset_next (Z : OxC X.K C B nw ini T) (I : Inv X pins σ H s) (e : H a = some (exo a C (some dx))) (ed : H dx = some (exd dx fs)) (hl : fs.length ≤ 900) (hno : PySem.W.findIn X.K (.ref C) f = some none) (ry : RelV y u)
    (h : ∀ s', Inv X pins σ (upd H dx (exd dx ((f, y) :: fs))) s' → Q () s') : wpAny (model X.prog X.w) A (setAttr (.ref a) f u) Q E s := by
  obtain ⟨cd, hcl, hm, hd⟩ := Z.data
  obtain ⟨t1, ho⟩ := exo_at I.hok e
  obtain ⟨mA, hns, rel⟩ := exd_at I.hok ed
  have hw := within_of rel
  obtain ⟨hp, g, d, t, os⟩ := s
  obtain ⟨oD, _, _, hoD, _, _⟩ := hns.count hw
  refine PySem.W.set_plain I.kIn (ox := { cls := .ref C, dict := some dx, data := .fields #[.ref t1, .none, .none, .none, .bool false, .none] }) (od := some oD) ⟨ho, rfl, rfl, hoD⟩ Z.sa ?_
  refine oset_next Z.over I.kIn ho hns hw (by rw [List.length_map]; omega) hcl hm hd hno (fun h' tk' k hn => ?_)
  have th : ∃ o, h'.get? dx = some o := hn.imp fun o ⟨_, _, e', _⟩ => e'
  exact h _ (I.write (t' := tk') (x := dx) (e := dx) (o := exd dx ((f, y) :: fs)) (by rw [ed]; exact True.intro) (.inl rfl) k th (exd_ok hn (relO_put ry rel)))
/-- B.__init__(self, ..): nothing of it is told -/
theorem xinit_run {us : List Value} {Q : Value → Shared → Prop} (Z : OxC X.K C B nw ini T) (I : Inv X pins σ H s) (e : H a = some (exo a C none)) (hl : us.length ≤ sizeLine) (h : ∀ s', Inv X pins σ H s' → Q .none s') :
    wpAny (model X.prog X.w) A (call (.builtin ini) (.ref a :: us)) Q E s := by
  obtain ⟨nm, q, N, bs, sn, sub, ab, col, dd, k0, k1, k2, k3, k5, hC⟩ := Z.cls
  obtain ⟨t1, ho⟩ := exo_at I.hok e
  obtain ⟨hp, g, d, t, os⟩ := s
  refine wpAny_call (PySem.HandSPX.init_base Z.over.facts (fun _ => rfl) (I.kIn _ _ hC) ho hl fun h' t2 k hx => ?_)
  have J := I.write (t' := t) (x := a) (e := a) (o := exo a C none) (by rw [e]; exact True.intro) (.inl rfl) k ⟨_, hx⟩ (exo_ok hx)
  rw [show upd H a (exo a C none) = H from funext fun b => by
    by_cases hb : b = a
    · rw [hb, upd_same, e]
    · rw [upd_ne hb]] at J
  exact h _ J
end
/-! ### readings and rules -/
def tXi (K : PySem.W.Frag) (B nw ini : String) (T : List Value) (ta : TA) : TE := fun σ H Q => ta σ H fun vs H1 => ∃ (a C : Addr) (ws : List V), vs = .ref a :: ws ∧ ws.length ≤ 1000 ∧ OxC K C B nw ini T ∧ H1 a = some (exo a C none) ∧ Q .non H1
def tXs (K : PySem.W.Frag) (B nw ini : String) (T : List Value) (f : Str) (to te : TE) : TS := fun D σ H => te σ H fun y H1 => to σ H1 fun x H2 => ∃ a C : Addr, x = .ref a ∧ OxC K C B nw ini T ∧ PySem.W.findIn K (.ref C) f = some none ∧
  ((H2 a = some (exo a C none) ∧ ∀ dx, H2 dx = none → dx ≠ a → D.nx σ (upd (upd H2 dx (exd dx [(f, y)])) a (exo a C (some dx)))) ∨
    ∃ (dx : Addr) (fs : List (Str × V)), H2 a = some (exo a C (some dx)) ∧ H2 dx = some (exd dx fs) ∧ fs.length ≤ 900 ∧ D.nx σ (upd H2 dx (exd dx ((f, y) :: fs))))
section
variable {X : Cx} {o e : Expr} {es : List Expr} {to te : TE} {ta : TA} {f : Str} {p p' p1 p2 pos : Pos} {B nw ini : String} {T : List Value}
theorem pe_xinit {pl : Sem Bool} {Bs : Str} (hg : Gl X Bs) (hm : X.mg Bs = none) (vV : PySem.W.findCls X.K (.type B) (.type "type") "__init__" = some (.val (.builtin ini))) (ha : PA X (e :: es) ta)
    (hc : eval (.Call (.Attribute (.Name Bs p1) "__init__" p2) (e :: es) [] pos) X.env = (do
      let ov ← eval (.Name Bs p1) X.env
      standAt p2.atName
      let (f, first) ← holding [ov] (getMethod ov "__init__" pl)
      callWith pos f first (backTo pos (starEach (e :: es) X.env)) (backToKw pos (keywordEach [] X.env))) := by rfl)
    (he : starEach (e :: es) X.env = (false, eval e X.env) :: starEach es X.env := by rfl) (hpl : (backTo pos (starEach es X.env)).any (·.1) = false := by rfl)
    (hB : bootBuiltins Bs = some (.type B) := by decide +kernel) (hn1 : Bs ≠ "__name__" := by decide) (hn2 : (Bs == ("__debug__" : Str)) = false := by decide) (hty : typeOf (.type B) = pure (.type "type") := by kernel_rfl)
    (hst : Manifest.isStub B = false := by decide +kernel) (hhi : PySem.W.handedIn (.builtin ini) = true := by decide +kernel) :
    PE X (.Call (.Attribute (.Name Bs p1) "__init__" p2) (e :: es) [] pos) (tXi X.K B nw ini T ta) := by
  refine ⟨fun pins s σ H Q I h => ?_⟩
  refine PySem.W.methodCall_KW (ld_blt I hg hm hB ?_ hn1 hn2) hc
  obtain ⟨m, fr⟩ := I.fr
  refine PySem.W.method_type fr I.ok.mod.kin hty hst vV hhi ?_
  show wpAny _ _ (callWith pos (Value.builtin ini) [] (backTo pos (starEach (e :: es) X.env)) []) _ _ _
  refine PyProof.Rows.callWith_method1 (thn (ha.run pos pins _ σ H _ (I.tok _) h) fun us s1 ⟨vs, H1, I1, r1, a, C, ws, ev, hl, Z, ea, q⟩ => ?_) he hpl
  subst ev
  cases r1 with
  | @cons _ z0 _ zs rz rr =>
    obtain rfl : z0 = Value.ref a := rz
    exact xinit_run Z I1 ea (by rw [← Paired.length rr, sizeLine_eq]; omega) fun s' J => ⟨.non, H1, J, rfl, q⟩
theorem ps_xset (ho : PE X o to) (he : PE X e te) (hs : swapsWith e (some (.Attribute o f p')) pos.line X.env = pure false := by rfl) : PS X (.Assign [.Attribute o f p'] e pos) (tXs X.K B nw ini T f to te) := by
  refine ⟨fun pins s σ H D I h => ?_⟩
  refine plainObj_wpAny_Assign_Attribute (thn (he.run pins s σ H _ I h) fun v s1 ⟨y, H1, I1, r1, q1⟩ => thn (ho.run pins s1 σ H1 _ I1 q1) fun u s2 ⟨x, H2, I2, r2, a, C, ex, Z, hno, q⟩ => ?_) hs
  subst ex
  obtain rfl : u = Value.ref a := r2
  exact q.elim (fun ⟨ea, q⟩ => xset_first Z I2 ea hno r1 fun dx s' n ne J => ⟨σ, _, J, q dx n ne⟩) fun ⟨dx, fs, ea, ed, hl, q⟩ => xset_next Z I2 ea ed hl hno r1 fun s' J => ⟨σ, _, J, q⟩
theorem pmk_xex {CX : CXT} {x : Str} {C fI : Addr} {k : Nat} {fd : FuncData} {ps : List Str} {sp : Sp} (Z : OxC X.K C B nw ini T) (iC : PySem.W.findIn X.K (.ref C) "__init__" = some (some (.ref fI))) (tI : PySem.W.typeIn X.K (.ref fI) = some (.type "function"))
    (hG : X.A.guards = some []) (F1 : FnG X.prog X.w X.K X.mg X.base CX k fI fd ps sp) (hr : Room (k + 1) X.A) (hb : Binds X.K fd ps []) (hx : Passes CX X (fun _ _ _ => False)) (hg : Gl X x) (hm : X.mg x = some (.ref C)) (ha : PA X (e :: es) ta)
    (hdb : (x == ("__debug__" : Str)) = false := by decide) (he : starEach (e :: es) X.env = (false, eval e X.env) :: starEach es X.env := by rfl) (hpl : (backTo pos (starEach es X.env)).any (·.1) = false := by rfl) :
    PMk X (.Call (.Name x p) (e :: es) [] pos) (tMkO C sp [] ta) := by
  intro pins s σ H Q I h
  obtain ⟨nm, q, N, bs, sn, sub, ab, col, dd, k0, k1, k2, k3, k5, hC⟩ := Z.cls
  refine wpAny_Call_Name_kw (ld_glob I hg hm ?_ hdb)
  refine PySem.W.callWith_K (h₀ := X.base) I.ok.mod.kin Z.kC (thn (ha.run pos pins s σ H _ I h) fun us s1 ⟨vs, H1, I1, r1, hz, q1⟩ => ⟨I1.kIn, ?_⟩) he hpl
  show wpAny _ _ (call (.ref C) us) _ _ _
  obtain ⟨hp, g, dr, tk, os⟩ := s1
  have le1 : hp.objs.size ≤ hp.objs.size + 1 := Nat.le_succ _
  have free1 : H1 (hp.objs.size + 1) = none := I1.hok.fresh le1
  have hq := q1 (hp.objs.size + 1) free1
  have keep1 : ∀ b o, hp.get? b = some o → ((hp.push (PySem.W.kdv_tup us)).push (PySem.HandSPX.excO C hp.objs.size)).get? b = some o := fun b o z => Heap.get?_push_of_some _ (Heap.get?_push_of_some _ z)
  have at1 : ((hp.push (PySem.W.kdv_tup us)).push (PySem.HandSPX.excO C hp.objs.size)).get? (hp.objs.size + 1) = some (PySem.HandSPX.excO C hp.objs.size) := by heap_get
  have I2 : Inv X pins σ (upd H1 (hp.objs.size + 1) (exo (hp.objs.size + 1) C none)) ⟨(hp.push (PySem.W.kdv_tup us)).push (PySem.HandSPX.excO C hp.objs.size), g, dr, tk, os⟩ :=
    I1.laid (t' := tk) (a := hp.objs.size + 1) (o := exo (hp.objs.size + 1) C none) (h' := (hp.push (PySem.W.kdv_tup us)).push (PySem.HandSPX.excO C hp.objs.size)) keep1 le1 (exo_ok at1)
  have r2 : Vals (V.ref (hp.objs.size + 1) :: (vs ++ [])) (Value.ref (hp.objs.size + 1) :: us ++ []) := .cons rfl (r1.append .nil)
  have hl : (Value.ref (hp.objs.size + 1) :: us ++ []).length = ps.length := r2.length.symm.trans (F1.len _ _ _ _ hq)
  refine wpAny_call (PySem.HandSPX.call_own Z.over.facts (fun _ => rfl) (I1.kIn _ _ hC) (PySem.W.looks_findIn I1.kIn iC) (fun self => PySem.W.bind_fn I1.kIn self tI) (by rw [← Paired.length r1, sizeLine_eq]; omega)
    (codeAny_mono (F1.go _ X.stack _ _ ⟨Value.ref (hp.objs.size + 1) :: us, []⟩ (Value.ref (hp.objs.size + 1) :: us ++ []) _ _ (fun _ _ _ => False) hG (hr.make C us []) (I2.env0.make C us []) (hb _ (Value.ref (hp.objs.size + 1) :: us) I2.kIn hl) r2 hq) fun r s' hq' => ?_))
  cases r with
  | error er => exact hx pins σ _ _ er s' I2 hq'
  | ok fl =>
    cases fl with
    | ret z =>
      obtain ⟨v, H2, os2, bare2, un2, hok2, rv, ev, d, fs, ea, ed, hd1, q2⟩ := hq'
      subst ev
      obtain ⟨h2, g2, d2, t2, os'⟩ := s'
      exact ⟨rv, mk_end (raises_own Z.exC Z.tyC) I1 le1 keep1 un2 hok2 os2 bare2 ea ed hd1 q2⟩
    | next => exact False.elim hq'
    | brk => exact False.elim hq'
    | cont => exact False.elim hq'
end
/-! ### {x!r} of any thing -/
/-- z is the text that repr tells of x -/
inductive Shown (K : PySem.W.Frag) (H : Hp) : V → Str → Prop
  | str (y : Str) : Shown K H (.str y) (reprText y)
  | int (i : Int) (h : i.natAbs.log2 < 1920) : Shown K H (.int i) (toString i)
  | bl (b : Bool) : Shown K H (.bl b) (if b then "True" else "False")
  | non : Shown K H .non "None"
  | dat {a : Addr} {d : PyData} (h : Shows K H a d) (h1 : d.showable = true) (h2 : d.depth ≤ 60) : Shown K H (.ref a) d.shown
section
variable {X : Cx} {e : Expr} {te : TE} {pos : Pos}
def tFmtA (K : PySem.W.Frag) (te : TE) : TE := fun σ H Q => te σ H fun x H1 => ∃ z : Str, Shown K H1 x z ∧ z.length ≤ sizeLine ∧ Q (.str z) H1
theorem shows_reads {pins : List (Addr × Obj)} {σ : L2.St} {H : Hp} {s : Shared} {a : Addr} {d : PyData} (I : Inv X pins σ H s) (h : Shows X.K H a d) : ∃ as, Reads s.heap (.ref a) d as ∧ (d.hasDict = true → sysModules ∉ as) := by
  cases h with
  | seq h1 h2 =>
    obtain ⟨as, q1⟩ := Dp.reads I d _ _ h1 rfl
    exact ⟨as, q1, fun z => by rw [h2] at z; cases z⟩
  | dct h1 h2 =>
    obtain ⟨_, ns, vs, kv, o, es, ep, e1, e2, e3, _, e5, _⟩ := I.hok a _ h1
    obtain ⟨q1, q2⟩ := dct_reads (h := s.heap) h2 kv e5
    refine ⟨_, Reads.dict e1 e2.1 e3 q1 q2, fun _ z => ?_⟩
    simp at z
    rw [← z] at ns
    simp at ns
theorem pe_fmtA (hG : X.A.guards = some []) (hu : X.A.units + 70 < cLine) (he : PE X e te) : PE X (.FormattedValue e 114 none pos) (tFmtA X.K te) := by
  refine ⟨fun pins s σ H Q I h => ?_⟩
  refine wpAny_FormattedValue_repr (thn (he.run pins s σ H _ I h) fun v s1 hv => ?_)
  obtain ⟨x, H1, I1, r1, z, hs, hz, q⟩ := hv
  cases hs with
  | str y =>
    obtain ⟨t, rfl⟩ := r1
    exact pyReprObj_str (wpAny_formatField_str ⟨.str _, H1, I1.tok _, ⟨_, rfl⟩, q⟩ ⟨.str _, H1, I1.tok _, ⟨_, rfl⟩, q⟩ hz) hz
  | int i hi =>
    obtain ⟨t, rfl⟩ := r1
    exact pyReprObj_int hi (wpAny_formatField_str ⟨.str _, H1, I1.tok _, ⟨_, rfl⟩, q⟩ ⟨.str _, H1, I1.tok _, ⟨_, rfl⟩, q⟩ hz)
  | bl b =>
    cases r1
    refine pyReprObj_bool (wpAny_formatField_str ⟨.str _, H1, I1.tok _, ⟨_, rfl⟩, q⟩ ⟨.str _, H1, I1.tok _, ⟨_, rfl⟩, q⟩ hz)
  | non =>
    cases r1
    exact pyReprObj_none (wpAny_formatField_str ⟨.str _, H1, I1.tok _, ⟨_, rfl⟩, q⟩ ⟨.str _, H1, I1.tok _, ⟨_, rfl⟩, q⟩ hz)
  | dat h h1 h2 =>
    cases r1
    obtain ⟨as, rd, sm⟩ := shows_reads I1 h
    refine pyReprObj_of_reads rd h1 sm hG (by omega) (fun _ _ e => e) (fun h' u tk hk => ?_) hz
    have J := I1.kept (t' := tk) hk
    exact wpAny_formatField_str ⟨.str _, H1, J, ⟨_, rfl⟩, q⟩ ⟨.str _, H1, J.tok _, ⟨_, rfl⟩, q⟩ hz
end
end Any
namespace Any
open L2 PySem PySem.Spec PyProof.Rows
/-! ### defs that may raise, where no repr is under way -/
section
variable {P : Program} {w : World} {K : PySem.W.Frag} {mg : Str → Option Value} {base : Heap}
theorem fun_gX {x ql : Str} {st : Stmt} {f : Addr} {fd : FuncData} {N ps : List Str} {k : Nat} {sp : Sp} (F : Fun K x ql st f fd) (S : FnScope N ps (defScope st)) (ln : ∀ vs H Q E, sp vs H Q E → vs.length = ps.length)
    (hb : ∀ (cv : Value) (A : Around) (out : List Env) (s : Shared) (H : Hp) (vs : List V) (Q : VK) (E : XK), A.guards = some [] → Room k (A.deeper (envOfC ql (defScope st) s.heap.objs.size f cv)) → sp vs H Q E →
      ∃ t, PSs (cxOf (L2.CX P w) P w K mg base N ql (defScope st) f cv A out s H E) (defBody st) t ∧ t ⟨fun _ H' => Q .non H', Q, fun _ _ => False, fun _ _ => False⟩ (L2.start N vs) H) : FnG P w K mg base (L2.CX P w) (k + 1) f fd ps sp := by
  obtain ⟨_, _, _, _, _, _, cv, _, _, rfl, lk, hc⟩ := F.ex
  exact fn_g lk hc S ln fun A out s H vs Q E hg hr hs => hb cv A out s H vs Q E hg hr hs
end
section
variable {X : Cx} {C : CXT} {k : Nat} {f D : Addr} {fd : FuncData} {ps : List Str} {sp : Sp} {E : XK} {m : Str} {p pos apos : Pos} {o e : Expr} {es : List Expr} {t : TA} {ta : TE}
theorem run_fnG {pins : List (Addr × Obj)} {σ : L2.St} {H : Hp} {s : Shared} {us : List Value} {vs : List V} {Q : VK} (F : FnG X.prog X.w X.K X.mg X.base C k f fd ps sp) (hG : X.A.guards = some []) (hr : Room k X.A) (hb : Binds X.K fd ps []) (hx : Passes C X E)
    (I : Inv X pins σ H s) (rv : Vals vs us) (q : sp vs H Q E) : wpAny (model X.prog X.w) X.A (call (.ref f) us) (EP X pins σ Q) X.xe s := by
  have hl : us.length = ps.length := rv.length.symm.trans (F.len _ _ _ _ q)
  have bi := hb s us I.kIn (by rw [List.append_nil]; exact hl)
  rw [List.append_nil] at bi
  refine wpAny_call (codeAny_mono (F.go X.A X.stack s H ⟨us, []⟩ us vs Q E hG hr I.env0 bi rv q) ?_)
  rintro (err | fl) s' hq
  · exact hx pins σ H s err s' I hq
  · cases fl with
    | ret u => exact I.after hq
    | next => cases hq
    | brk => cases hq
    | cont => cases hq
theorem pe_methG {pl : Sem Bool} (he : PE X o ta) (c : Cls X.K D) (hm : Meth X.K D m f) (F : FnG X.prog X.w X.K X.mg X.base C k f fd ps sp) (hG : X.A.guards = some []) (hr : Room k X.A) (hb : Binds X.K fd ps []) (hx : Passes C X E) (ha : PA X (e :: es) t)
    (hst : starEach (e :: es) X.env = (false, eval e X.env) :: starEach es X.env := by rfl) (hpl : (backTo pos (starEach es X.env)).any (·.1) = false := by rfl)
    (ht : eval (.Call (.Attribute o m apos) (e :: es) [] pos) X.env = (do
      let ov ← eval o X.env
      standAt apos.atName
      let (f, first) ← holding [ov] (getMethod ov m pl)
      callWith pos f first (backTo pos (starEach (e :: es) X.env)) (backToKw pos (keywordEach [] X.env))) := by rfl) :
    PE X (.Call (.Attribute o m apos) (e :: es) [] pos) (tMeth D m sp [] E ta t) := by
  refine ⟨fun pins s σ H Q I h => ?_⟩
  refine PySem.W.methodCall_KW (pl := pl) (thn (he.run pins s σ H _ I h) fun u s1 ⟨x, H1, I1, rx, a, dx, fs, ex, ea, l, q⟩ => ?_) ht
  subst ex
  obtain rfl : u = Value.ref a := rx
  refine getmeth_ok I1 ea c hm l ?_
  refine PySem.W.callWith_K (first := [.ref a]) (h₀ := X.base) I.ok.mod.kin hm.kp (thn (ha.run pos pins s1 σ H1 _ I1 q) fun us s2 ⟨vs, H2, I2, r, q2⟩ => ⟨I2.kIn, ?_⟩) hst hpl
  have q2 : sp (V.ref a :: (vs ++ [])) H2 Q E := q2
  rw [List.append_nil] at q2
  exact run_fnG (us := .ref a :: us) (vs := .ref a :: vs) F hG hr hb hx I2 (.cons rfl r) q2
theorem pe_callGX {x : Str} (F : FnG X.prog X.w X.K X.mg X.base C k f fd ps sp) (hG : X.A.guards = some []) (hr : Room k X.A) (hg : Gl X x) (hm : X.mg x = some (.ref f)) (hk : PySem.W.keepIn X.K (.ref f) = true) (hb : Binds X.K fd ps []) (hx : Passes C X E) (ha : PA X (e :: es) t)
    (h1 : (x == ("__debug__" : Str)) = false := by decide) (h2 : starEach (e :: es) X.env = (false, eval e X.env) :: starEach es X.env := by rfl) (h3 : (backTo pos (starEach es X.env)).any (·.1) = false := by rfl) :
    PE X (.Call (.Name x p) (e :: es) [] pos) (tCall sp [] E t) := pe_callG F hG hr hg hm hk hb .nil hx ha h1 h2 h3
end
/-- C's __init__ puts what it is given into its field f -/
def spX1 (C : Addr) (f : Str) (ok : Hp → V → Prop) : Sp := fun vs H Q _ => ∃ a y, vs = [.ref a, y] ∧ ok H y ∧ H a = some (exo a C none) ∧
  ∀ dx, H dx = none → dx ≠ a → Q .non (upd (upd H dx (exd dx [(f, y)])) a (exo a C (some dx)))
/-- what comes of raise C(y) -/
theorem x1_made {C : Addr} {f : Str} {ok : Hp → V → Prop} {H : Hp} {y : V} {E : XK} (hy : ∀ H', Same H H' → ok H' y) (h : ∀ d H', Same H H' → H' d = some (.xd [(f, y)]) → E (.ref C) (some d) H') :
    ([y] : List V).length ≤ 1000 ∧ ∀ a, H a = none → spX1 C f ok (.ref a :: ([y] ++ [])) (upd H a (exo a C none))
      (fun v H2 => v = .non ∧ ∃ (d : Addr) (fs : List (Str × V)), H2 a = some (exo a C (some d)) ∧ H2 d = some (exd d fs) ∧ H d = none ∧ E (.ref C) (some d) (upd (del H2 a) d (.xd fs))) (fun _ _ _ => False) := by
  refine ⟨by show 1 ≤ 1000; decide, fun a ha => ⟨a, y, rfl, hy _ (fun b u q => by rw [upd_ne (ne_of_none q ha)]; exact q), upd_same, fun dx h1 h2 => ⟨rfl, dx, [(f, y)], upd_same, ?_, ?_, ?_⟩⟩⟩
  · rw [upd_ne h2]
    exact upd_same
  · rw [upd_ne h2] at h1
    exact h1
  · refine h dx _ (fun b o hb => ?_) upd_same
    have hbd : b ≠ dx := by
      rw [upd_ne h2] at h1
      exact ne_of_none hb h1
    have hba : b ≠ a := ne_of_none hb ha
    rw [upd_ne hbd, del_ne hba, upd_ne hba, upd_ne hbd, upd_ne hba]
    exact hb
/-- things whose text is not long -/
def Small (K : PySem.W.Frag) (H : Hp) (y : V) : Prop := ∃ z : Str, Shown K H y z ∧ z.length ≤ 2000
end Any
namespace Any
open L2 PySem PySem.Spec PyProof.Rows
/-! ### == and != by an own __eq__, repr by an own __repr__ -/
section
variable {prog : Program} {w : World} {A : Around} {E : Value → Shared → Prop} {s : Shared} {K : PySem.W.Frag} {x C f : Addr} {ox : Obj} {od : Option Obj} {b tb : Value}
theorem ifBound_ne {M : Model} {args : List Value} {Q : Option Value → Shared → Prop} (X : K.In s.heap) (I : PySem.W.InstAt s.heap x ox C od) (hn : PySem.W.findIn K (.ref C) "__ne__" = some (some (.builtin "object.__ne__")))
    (h : wpAny M A (call (.builtin "object.__ne__") (.ref x :: args)) (fun v => Q (some v)) E s) : wpAny M A (callSpecialIfBound? (.ref x) "__ne__" args) Q E s := by
  simp only [callSpecialIfBound?, bindSpecialIfBound?]
  refine wpAny_holding (wpAny_bind (wpAny_bind (wpAny_bind (I.type.here ((PySem.W.looks_findIn X hn).here ?_)))))
  simp only [PySem.F.cmp_object.ne.bind]
  refine wpAny_bind (wpAny_askSetting (wpAny_ite ?_))
  have fin : wpAny M A (call (.builtin "object.__ne__") ([.ref x] ++ args) >>= fun v => pure (some v)) Q E s := wpAny_bind (wpAny_mono h (fun v s' h' => wpAny_pure h') fun _ _ h' => h')
  split
  · exact wpAny_bind (wpAny_pure (wpAny_pure fin))
  · exact wpAny_tryCatch (wpAny_bind (wpAny_pure (wpAny_pure fin)))
theorem entry_ne {Q : Fin → Shared → Prop} (hu : A.units < cLine) (X : K.In s.heap) (I : PySem.W.InstAt s.heap x ox C od) (hs : PySem.W.findIn K (.ref C) "__eq__" = some (some (.ref f))) (hf : PySem.W.isFn K (.ref f) = true)
    (h : wpAny (model prog w) A (call (.ref f) [.ref x, b]) (fun v s' => ∃ c, v = .bool c ∧ Q (.done (.ret (.bool (!c)))) s') E s) :
    wpAny (model prog w) A (Builtin.«object.__ne__» ⟨[.ref x, b], []⟩) Q E s := by
  obtain ⟨hh, g, d, t, os⟩ := s
  unfold Builtin.«object.__ne__»
  repeat (first
    | with_reducible refine wpAny_cRoomFor hu ?_
    | (refine wpAny_bind (m := callSpecialIfBound? (.ref x) (Str.ofString "__eq__") [b]) (PySem.W.ifBound_K X I hs hf (wpAny_mono h (fun r s' hr => by
          obtain ⟨c, rfl, hq⟩ := hr
          repeat (first | exact hq | exact wpAny_pure hq | exact wpAny_truthy_bool hq | (refine wpAny_bind (m := truthy (.bool _)) (wpAny_truthy_bool ?_)) | wp_step)) fun _ _ e => e)))
    | wp_step)
theorem ne_K {Q : Value → Shared → Prop} (hu : A.units + 1 < cLine) (X : K.In s.heap) (I : PySem.W.InstAt s.heap x ox C od) (hb : PySem.W.Looks (model prog w) s.heap (typeOf b) tb) (hn : PySem.W.notFirst K C tb = true)
    (hne : PySem.W.findIn K (.ref C) "__ne__" = some (some (.builtin "object.__ne__"))) (hm : PySem.W.mroIn K C (.type "object") = some true) (hs : PySem.W.findIn K (.ref C) "__eq__" = some (some (.ref f))) (hf : PySem.W.isFn K (.ref f) = true)
    (h : wpAny (model prog w) A.in1 (call (.ref f) [.ref x, b]) (fun v s' => ∃ c, v = .bool c ∧ Q (.bool (!c)) s') E s) : wpAny (model prog w) A (richCompare .NotEq (.ref x) b) Q E s := by
  have one : wpAny (model prog w) A (tryCompare (.ref x) "__ne__" b) (fun r s' => ∃ v, r = some v ∧ Q v s') E s := by
    unfold tryCompare
    refine wpAny_bind (ifBound_ne X I hne (wpAny_call (codeAny_call_builtin PySem.F.cmp_object.ne.plain PySem.F.cmpEntry_ne
      (PySem.W.check_slot PySem.F.cmpKind_ne PySem.F.cmpSplit_ne (I.type.andThen (PySem.W.looks_mroIn X hm)) (PySem.F.cmpArgs_ne _ _) (entry_ne (A := A.in1) hu X I hs hf (wpAny_mono h (fun v s' hv => ?_) fun _ _ e => e))))))
    obtain ⟨c, rfl, hq⟩ := hv
    first | exact ⟨c, rfl, wpAny_pure ⟨_, rfl, hq⟩⟩ | exact ⟨c, rfl, _, rfl, hq⟩
  unfold richCompare
  simp only [oneThing_ref]
  refine wpAny_holding (wpAny_bind (wpAny_cRoomFor (Nat.lt_of_succ_lt hu) ?_))
  rw [cmpInfo_NotEq]
  dsimp only
  refine wpAny_bind (I.type.here (wpAny_bind (hb.here ?_)))
  split
  · rename_i q
    have e : PySem.W.subIn K tb (.ref C) = some false := by
      rcases Bool.or_eq_true_iff.mp hn with e | e
      · rw [beq_iff_eq.mp e] at q; simp at q
      · exact beq_iff_eq.mp e
    refine wpAny_bind ((PySem.W.looks_subIn X e).here ?_)
    simp only [Bool.false_eq_true, if_false]
    refine wpAny_bind (wpAny_mono one (fun r s' z => ?_) fun _ _ e => e)
    obtain ⟨v, rfl, hq⟩ := z
    exact wpAny_pure hq
  · refine wpAny_bind (wpAny_pure ?_)
    simp only [Bool.false_eq_true, if_false]
    refine wpAny_bind (wpAny_mono one (fun r s' z => ?_) fun _ _ e => e)
    obtain ⟨v, rfl, hq⟩ := z
    exact wpAny_pure hq
end
/-- what an own object is held against: an int, a tuple, one of its class -/
inductive Oth (C : Addr) (H : Hp) : V → Prop
  | non : Oth C H .non
  | str (x : Str) : Oth C H (.str x)
  | tup {a : Addr} {xs : List V} (h : H a = some (.tup xs)) : Oth C H (.ref a)
  | ins {a dx : Addr} {fs : List (Str × V)} (h : H a = some (.ins C dx fs)) : Oth C H (.ref a)
theorem mro_none : fastBuiltinMro "NoneType" = some [.type "NoneType", .type "object"] := by decide +kernel
theorem mro_str : fastBuiltinMro "str" = some [.type "str", .type "object"] := by decide +kernel
theorem mro_tuple : fastBuiltinMro "tuple" = some [.type "tuple", .type "object"] := by decide +kernel
section
variable {X : Cx} {pins : List (Addr × Obj)} {σ : L2.St} {H : Hp} {s : Shared} {C f : Addr} {k : Nat} {sp : Sp}
theorem Oth.looks {y : V} {u : Value} (o : Oth C H y) (I : Inv X pins σ H s) (r : RelV y u) : ∃ t, PySem.W.Looks (model X.prog X.w) s.heap (typeOf u) t ∧ PySem.W.notFirst X.K C t = true := by
  cases o with
  | non =>
    cases r
    refine ⟨.type "NoneType", .of_pure rfl, ?_⟩
    unfold PySem.W.notFirst PySem.W.subIn
    dsimp only
    rw [mro_none]
    simp
  | str i =>
    obtain ⟨t, rfl⟩ := r
    refine ⟨.type "str", .of_pure rfl, ?_⟩
    unfold PySem.W.notFirst PySem.W.subIn
    dsimp only
    rw [mro_str]
    simp
  | @tup a xs h =>
    cases r
    obtain ⟨_, _, _, o, h1, h2, _⟩ := (show ObjOk X.prog X.w H s.heap a (.tup xs) from I.hok a _ h)
    refine ⟨.type "tuple", h2 ▸ (PySem.W.Looks.ld h1).andThen .now, ?_⟩
    unfold PySem.W.notFirst PySem.W.subIn
    dsimp only
    rw [mro_tuple]
    simp
  | @ins a dx fs h =>
    cases r
    obtain ⟨mA, J, _⟩ := ins_get I.hok h
    obtain ⟨od, J, _⟩ := J.look
    exact ⟨.ref C, J.type, by simp [PySem.W.notFirst]⟩
theorem run_R {A : Around} {us : List Value} {vs : List V} {Q : VK} (hA : A = X.A ∨ A = X.A.in1) (F : FnR X.prog X.w X.K X.mg X.base CX0 k f sp) (hr : Room k A) (I : Inv X pins σ H s) (r : Vals vs us) (h : sp vs H Q E0) :
    wpAny (model X.prog X.w) A (call (.ref f) us) (EP X pins σ Q) X.xe s := by
  have e0 : Env0 X.prog X.w X.K X.mg X.base A X.stack s H := by
    rcases hA with rfl | rfl
    · exact I.env0
    · exact I.env0.in1
  refine wpAny_call (codeAny_mono (F A X.stack s H us vs Q E0 hr e0 r h) fun r s' hq => ?_)
  cases r with
  | error e => exact pass0 pins σ H s e s' I hq
  | ok fl =>
    cases fl with
    | ret u => exact I.after hq
    | next => exact False.elim hq
    | brk => exact False.elim hq
    | cont => exact False.elim hq
/-- an own class with an __eq__ -/
structure EqD (P : Program) (w : World) (K : PySem.W.Frag) (mg : Str → Option Value) (base : Heap) (C : Addr) (k : Nat) (sp : Sp) : Prop where
  ex : ∃ f, PySem.W.findIn K (.ref C) "__eq__" = some (some (.ref f)) ∧ PySem.W.isFn K (.ref f) = true ∧ FnR P w K mg base CX0 k f sp
  ne : PySem.W.findIn K (.ref C) "__ne__" = some (some (.builtin "object.__ne__"))
  ob : PySem.W.mroIn K C (.type "object") = some true
def rEqO (C : Addr) (sp : Sp) : R2 := fun x y H Q => ∃ a dx fs, x = .ref a ∧ H a = some (.ins C dx fs) ∧ Oth C H y ∧ sp [x, y] H (fun v H' => ∃ b, v = .bl b ∧ Q (.bl b) H') E0
def rNeO (C : Addr) (sp : Sp) : R2 := fun x y H Q => ∃ a dx fs, x = .ref a ∧ H a = some (.ins C dx fs) ∧ Oth C H y ∧ sp [x, y] H (fun v H' => ∃ b, v = .bl b ∧ Q (.bl (!b)) H') E0
theorem op_eqO (D : EqD X.prog X.w X.K X.mg X.base C k sp) (hr : Room k X.A) : OpR X (compareOp .Eq) (rEqO C sp) := by
  intro pins s σ H x y v u Q I rx ry h
  obtain ⟨a, dx, fs, rfl, ha, ho, hsp⟩ := h
  obtain ⟨f, hs, hf, F⟩ := D.ex
  cases rx
  obtain ⟨t, lt, nt⟩ := ho.looks I ry
  obtain ⟨mA, J, _⟩ := ins_get I.hok ha
  obtain ⟨od, J, _⟩ := J.look
  obtain ⟨m, hF⟩ := I.fr
  show wpAny (model X.prog X.w) X.A (richCompare .Eq (.ref a) u) (EP X pins σ Q) X.xe s
  refine PySem.W.cmp_K (op := .Eq) hr.units0 hF I.ok.mod.kin J lt nt hs hf (wpAny_mono (run_R (us := [.ref a, u]) (vs := [.ref a, y]) (.inl rfl) F hr I (.cons rfl (.cons ry .nil)) hsp) (fun v s' z => ?_) fun _ _ e => e)
  obtain ⟨z, H', I', rz, b, rfl, q⟩ := z
  cases rz
  exact ⟨.bl b, H', I', rfl, q⟩
theorem op_neO (D : EqD X.prog X.w X.K X.mg X.base C k sp) (hr : Room (k + 1) X.A) : OpR X (compareOp .NotEq) (rNeO C sp) := by
  intro pins s σ H x y v u Q I rx ry h
  obtain ⟨a, dx, fs, rfl, ha, ho, hsp⟩ := h
  obtain ⟨f, hs, hf, F⟩ := D.ex
  cases rx
  obtain ⟨t, lt, nt⟩ := ho.looks I ry
  obtain ⟨mA, J, _⟩ := ins_get I.hok ha
  obtain ⟨od, J, _⟩ := J.look
  show wpAny (model X.prog X.w) X.A (richCompare .NotEq (.ref a) u) (EP X pins σ Q) X.xe s
  refine ne_K (by have := hr.units; omega) I.kIn J lt nt D.ne D.ob hs hf (wpAny_mono (run_R (us := [.ref a, u]) (vs := [.ref a, y]) (.inr rfl) F hr.in1 I (.cons rfl (.cons ry .nil)) hsp) (fun v s' z => ?_) fun _ _ e => e)
  obtain ⟨z, H', I', rz, b, rfl, q⟩ := z
  cases rz
  exact ⟨b, rfl, .bl (!b), H', I', rfl, q⟩
/-- repr(o), o of an own class with a __repr__ -/
structure ReD (P : Program) (w : World) (K : PySem.W.Frag) (mg : Str → Option Value) (base : Heap) (C : Addr) (k : Nat) (sp : Sp) : Prop where
  ex : ∃ f, PySem.W.findIn K (.ref C) "__repr__" = some (some (.ref f)) ∧ PySem.W.isFn K (.ref f) = true ∧ FnR P w K mg base CX0 k f sp
theorem call_reprO (D : ReD X.prog X.w X.K X.mg X.base C k sp) (hr : Room (k + 1) X.A) :
    CallR X (.builtin "repr") (fun xs H Q => ∃ a dx fs, xs = [.ref a] ∧ H a = some (.ins C dx fs) ∧ sp [.ref a] H (fun v H' => ∃ z : Str, v = .str z ∧ Q (.str z) H') E0) := by
  intro pins s σ H xs us Q I r h
  obtain ⟨a, dx, fs, rfl, ha, hsp⟩ := h
  obtain ⟨f, hs, hf, F⟩ := D.ex
  obtain ⟨u, rfl, ru⟩ := vals1 r
  cases ru
  obtain ⟨mA, J, _⟩ := ins_get I.hok ha
  obtain ⟨od, J, _⟩ := J.look
  obtain ⟨m, hF⟩ := I.fr
  refine PySem.W.repr_K hr.in1.units0 hF I.ok.mod.kin J hs hf (wpAny_mono (run_R (us := [.ref a]) (vs := [.ref a]) (.inr rfl) F hr.in1 I (.cons rfl .nil) hsp) (fun v s' z => ?_) fun _ _ e => e)
  obtain ⟨z, H', I', rz, b, rfl, q⟩ := z
  obtain ⟨t, rfl⟩ := rz
  exact ⟨.str b, H', I', ⟨t, rfl⟩, q⟩
end
end Any
namespace GQ
open PySem PySem.SeqAt
open AutoSeq1 (wpAny_loadPart')
open MeetsSeq MeetsSeq2 MeetsSeq3 SeqRoads2
/-! ### tuple == tuple, and in of a list, where items are held against one another by defs of the program -/
section
variable {prog : Program} {w : World} {A : Around} {R : Result → Shared → Prop}
theorem tuple_eqQ (l b : Addr) (items items2 : Array Value) (n n2 : Nat) (dd dd2 : Option Addr) (sl sl2 : Array (Option Value)) (e : Nat → Bool) (I : Shared → Prop)
    (turn : ∀ i (h1 : i < items.size) (h2 : i < items2.size) s, I s → wpAny (model prog w) A.in1 (eqBool items[i] items2[i]) (fun r s' => r = e i ∧ I s') (fun e s' => R (.error e) s') s)
    (fin : ∀ s, I s → R (.ok (.ret (.bool ((List.range (min items.size items2.size)).all e && items.size == items2.size)))) s) {s : Shared} (hl1 : s.heap.get? l = some { cls := .type "tuple", dict := dd, data := .seq items n, slots := sl }) (hb1 : s.heap.get? b = some { cls := .type "tuple", dict := dd2, data := .seq items2 n2, slots := sl2 }) (h : I s) :
    wpAny (model prog w) A.in1 (Builtin.«tuple.__eq__» ⟨[.ref l, .ref b], []⟩) (FinOf prog w A R) (fun e s' => R (.error e) s') s := by
  have f2 := AutoSeq1.sub_tuple_tuple
  have hZ : (items.toList.zip items2.toList).length = min items.size items2.size := by simp
  have h0 := h
  obtain ⟨hp, g, d, tk, os⟩ := s
  wp_walk using wpAny_loadPart' hl1, wpAny_loadPart' hb1, wpAny_forIn_list _ (fun rest b s' => b.1 = none ∧ I s' ∧ ∃ i, rest = (items.toList.zip items2.toList).drop i ∧ (List.range (min items.size items2.size)).all e = ((List.range (min items.size items2.size)).drop i).all e) _
  case turn =>
    rintro ⟨y, x⟩ rest b s' ⟨hb', hI, i, hz, hR⟩
    have hlt : i < (items.toList.zip items2.toList).length := by
      rcases Nat.lt_or_ge i (items.toList.zip items2.toList).length with h' | h'
      · exact h'
      · rw [List.drop_of_length_le h'] at hz; cases hz
    have hm : i < min items.size items2.size := hZ ▸ hlt
    have h1 : i < items.size := Nat.lt_of_lt_of_le hm (Nat.min_le_left _ _)
    have h2 : i < items2.size := Nat.lt_of_lt_of_le hm (Nat.min_le_right _ _)
    rw [List.drop_eq_getElem_cons hlt] at hz
    injection hz with hyx hrest
    have hy : y = items[i] := by have := congrArg Prod.fst hyx; simpa using this
    have hx : x = items2[i] := by have := congrArg Prod.snd hyx; simpa using this
    subst hy hx
    have hd : (List.range (min items.size items2.size)).drop i = i :: (List.range (min items.size items2.size)).drop (i + 1) := by simp [List.drop_eq_getElem_cons, hm]
    rw [hd, List.all_cons] at hR
    refine wpAny_bind (wpAny_mono (turn i h1 h2 s' hI) (fun r s2 q2 => ?_) fun _ _ x => x)
    obtain ⟨hr, q2⟩ := q2
    cases hy : e i with
    | true =>
      rw [hy] at hR hr
      subst hr
      wp_walk
      exact ⟨rfl, q2, i + 1, hrest, by simpa using hR⟩
    | false =>
      rw [hy] at hR hr
      subst hr
      have z := fin s2 q2
      rw [hR] at z
      wp_walk
      simpa using z
  case fin =>
    rintro ⟨b1, b2⟩ s' ⟨hb', hI, i, hz, hR⟩
    simp only at hb'
    subst hb'
    have hge : min items.size items2.size ≤ i := by
      rcases Nat.lt_or_ge i (items.toList.zip items2.toList).length with h' | h'
      · rw [List.drop_eq_getElem_cons h'] at hz; cases hz
      · exact hZ ▸ h'
    rw [List.drop_of_length_le (l := List.range (min items.size items2.size)) (by simpa using hge)] at hR
    have z := fin s' hI
    rw [hR] at z
    wp_walk
    simpa [Builtin.Tuple.tupleCompareSizes] using z
  case h =>
    exact ⟨rfl, h0, 0, rfl, rfl⟩
theorem tuple_neQ (l b : Addr) (items items2 : Array Value) (n n2 : Nat) (dd dd2 : Option Addr) (sl sl2 : Array (Option Value)) (e : Nat → Bool) (I : Shared → Prop)
    (turn : ∀ i (h1 : i < items.size) (h2 : i < items2.size) s, I s → wpAny (model prog w) A.in1 (eqBool items[i] items2[i]) (fun r s' => r = e i ∧ I s') (fun e s' => R (.error e) s') s)
    (fin : ∀ s, I s → R (.ok (.ret (.bool (!((List.range (min items.size items2.size)).all e && items.size == items2.size))))) s) {s : Shared} (hl1 : s.heap.get? l = some { cls := .type "tuple", dict := dd, data := .seq items n, slots := sl }) (hb1 : s.heap.get? b = some { cls := .type "tuple", dict := dd2, data := .seq items2 n2, slots := sl2 }) (h : I s) :
    wpAny (model prog w) A.in1 (Builtin.«tuple.__ne__» ⟨[.ref l, .ref b], []⟩) (FinOf prog w A R) (fun e s' => R (.error e) s') s := by
  have f2 := AutoSeq1.sub_tuple_tuple
  have hZ : (items.toList.zip items2.toList).length = min items.size items2.size := by simp
  have h0 := h
  obtain ⟨hp, g, d, tk, os⟩ := s
  wp_walk using wpAny_loadPart' hl1, wpAny_loadPart' hb1, wpAny_forIn_list _ (fun rest b s' => b.1 = none ∧ I s' ∧ ∃ i, rest = (items.toList.zip items2.toList).drop i ∧ (List.range (min items.size items2.size)).all e = ((List.range (min items.size items2.size)).drop i).all e) _
  case turn =>
    rintro ⟨y, x⟩ rest b s' ⟨hb', hI, i, hz, hR⟩
    have hlt : i < (items.toList.zip items2.toList).length := by
      rcases Nat.lt_or_ge i (items.toList.zip items2.toList).length with h' | h'
      · exact h'
      · rw [List.drop_of_length_le h'] at hz; cases hz
    have hm : i < min items.size items2.size := hZ ▸ hlt
    have h1 : i < items.size := Nat.lt_of_lt_of_le hm (Nat.min_le_left _ _)
    have h2 : i < items2.size := Nat.lt_of_lt_of_le hm (Nat.min_le_right _ _)
    rw [List.drop_eq_getElem_cons hlt] at hz
    injection hz with hyx hrest
    have hy : y = items[i] := by have := congrArg Prod.fst hyx; simpa using this
    have hx : x = items2[i] := by have := congrArg Prod.snd hyx; simpa using this
    subst hy hx
    have hd : (List.range (min items.size items2.size)).drop i = i :: (List.range (min items.size items2.size)).drop (i + 1) := by simp [List.drop_eq_getElem_cons, hm]
    rw [hd, List.all_cons] at hR
    refine wpAny_bind (wpAny_mono (turn i h1 h2 s' hI) (fun r s2 q2 => ?_) fun _ _ x => x)
    obtain ⟨hr, q2⟩ := q2
    cases hy : e i with
    | true =>
      rw [hy] at hR hr
      subst hr
      wp_walk
      exact ⟨rfl, q2, i + 1, hrest, by simpa using hR⟩
    | false =>
      rw [hy] at hR hr
      subst hr
      have z := fin s2 q2
      rw [hR] at z
      wp_walk
      simpa using z
  case fin =>
    rintro ⟨b1, b2⟩ s' ⟨hb', hI, i, hz, hR⟩
    simp only at hb'
    subst hb'
    have hge : min items.size items2.size ≤ i := by
      rcases Nat.lt_or_ge i (items.toList.zip items2.toList).length with h' | h'
      · rw [List.drop_eq_getElem_cons h'] at hz; cases hz
      · exact hZ ▸ h'
    rw [List.drop_of_length_le (l := List.range (min items.size items2.size)) (by simpa using hge)] at hR
    have z := fin s' hI
    rw [hR] at z
    wp_walk
    have e0 : (items.size != items2.size) = !(items.size == items2.size) := rfl
    simpa [Builtin.Tuple.tupleCompareSizes, e0] using z
  case h =>
    exact ⟨rfl, h0, 0, rfl, rfl⟩
end
section
variable {prog : Program} {w : World} {A : Around} {E : Value → Shared → Prop} {s : Shared}
theorem rc_tupQ {l b : Addr} {items items2 : Array Value} {Q : Value → Shared → Prop} (hu : A.units < cLine) (e : Nat → Bool) (I : Shared → Prop)
    (hl : s.heap.IsTuple l items) (hb : s.heap.IsTuple b items2)
    (turn : ∀ i (h1 : i < items.size) (h2 : i < items2.size) s, I s → wpAny (model prog w) A.in1 (eqBool items[i] items2[i]) (fun r s' => r = e i ∧ I s') E s)
    (fin : ∀ s, I s → Q (.bool ((List.range (min items.size items2.size)).all e && items.size == items2.size)) s) (h : I s) : wpAny (model prog w) A (richCompare .Eq (.ref l) (.ref b)) Q E s := by
  obtain ⟨⟨cls, dd, data, sl⟩, ho, hc, n, hd⟩ := id hl
  obtain ⟨⟨cls2, dd2, data2, sl2⟩, ho2, hc2, n2, hd2⟩ := id hb
  simp only at hc hd hc2 hd2
  subst hc hd hc2 hd2
  refine wpAny_richCompare_same_room (op := .Eq) ⟨_, ho, rfl⟩ ⟨_, ho2, rfl⟩ F.slot_tuple_eq (call_here F.slot_tuple_eq ⟨_, ho, rfl⟩ F.entry_tuple_eq (F.args_tuple_eq_2 _ _) ?_) hu
  exact tuple_eqQ (R := wants (fun v s' => v ≠ .notImplemented ∧ Q v s') E) l b items items2 n n2 dd dd2 sl sl2 e I turn (fun s' q => ⟨(fun x => nomatch x), fin s' q⟩) ho ho2 h
theorem rc_tupNeQ {l b : Addr} {items items2 : Array Value} {Q : Value → Shared → Prop} (hu : A.units < cLine) (e : Nat → Bool) (I : Shared → Prop)
    (hl : s.heap.IsTuple l items) (hb : s.heap.IsTuple b items2)
    (turn : ∀ i (h1 : i < items.size) (h2 : i < items2.size) s, I s → wpAny (model prog w) A.in1 (eqBool items[i] items2[i]) (fun r s' => r = e i ∧ I s') E s)
    (fin : ∀ s, I s → Q (.bool (!((List.range (min items.size items2.size)).all e && items.size == items2.size))) s) (h : I s) : wpAny (model prog w) A (richCompare .NotEq (.ref l) (.ref b)) Q E s := by
  obtain ⟨⟨cls, dd, data, sl⟩, ho, hc, n, hd⟩ := id hl
  obtain ⟨⟨cls2, dd2, data2, sl2⟩, ho2, hc2, n2, hd2⟩ := id hb
  simp only at hc hd hc2 hd2
  subst hc hd hc2 hd2
  refine wpAny_richCompare_same_room (op := .NotEq) ⟨_, ho, rfl⟩ ⟨_, ho2, rfl⟩ F.slot_tuple_ne (call_here F.slot_tuple_ne ⟨_, ho, rfl⟩ F.entry_tuple_ne (F.args_tuple_ne_2 _ _) ?_) hu
  exact tuple_neQ (R := wants (fun v s' => v ≠ .notImplemented ∧ Q v s') E) l b items items2 n n2 dd dd2 sl sl2 e I turn (fun s' q => ⟨(fun x => nomatch x), fin s' q⟩) ho ho2 h
end
section
variable {prog : Program} {w : World} {A : Around} {R : Result → Shared → Prop}
/-- the list is read anew at each turn -/
def InI (prog : Program) (w : World) (A : Around) (E : Value → Shared → Prop) (l : Addr) (x : Value) (N : Nat) (e : Nat → Bool) (I : Shared → Prop) : Prop :=
  ∀ s, I s → ∃ (items : Array Value) (n : Nat), s.heap.get? l = some { cls := .type "list", data := .seq items n } ∧ items.size = N ∧
    ∀ i (h : i < items.size), wpAny (model prog w) A.in1 (eqBool items[i] x) (fun r s' => r = e i ∧ I s') E s
theorem contains_loopQ (l : Addr) (x : Value) (N : Nat) (e : Nat → Bool) (I : Shared → Prop) (hl : InI prog w A (fun e s' => R (.error e) s') l x N e I)
    (fin : ∀ s, I s → R (.ok (.ret (.bool ((List.range N).any e)))) s) (k : Nat) :
    ∀ i : Nat, N - i = k → (List.range N).any e = ((List.range N).drop i).any e → ∀ s, I s →
      wpAny (model prog w) A.in1 (Builtin.«list.__contains__.loop» ⟨[.ref l, x, rawInt i], []⟩) (FinOf prog w A R) (fun e s' => R (.error e) s') s := by
  induction k with
  | zero =>
    intro i hk hR s h
    obtain ⟨items, n, hl1, hs1, _⟩ := hl _ h
    have z := fin s h
    rw [hR, List.drop_of_length_le (by simp; omega)] at z
    obtain ⟨hp, g, d, tk, os⟩ := s
    wp_walk using wpAny_loadPart' hl1
    have hi : items[((i : Nat) : Int).toNat]? = none := by simp; omega
    rw [hi]
    wp_walk
    simpa using z
  | succ k ih =>
    intro i hk hR s h
    obtain ⟨items, n, hl1, hs1, turn⟩ := hl _ h
    have hlt : i < items.size := by omega
    have ht := turn i hlt
    obtain ⟨hp, g, d, tk, os⟩ := s
    wp_walk using wpAny_loadPart' hl1
    have hi : items[((i : Nat) : Int).toNat]? = some items[i] := by simp [hlt]
    have hd : (List.range N).drop i = i :: (List.range N).drop (i + 1) := by
      rw [List.drop_eq_getElem_cons (by simp; omega)]
      simp
    rw [hd, List.any_cons] at hR
    rw [hi]
    refine wpAny_bind (wpAny_mono ht (fun r s2 h2 => ?_) fun _ _ x => x)
    obtain ⟨hr, h2⟩ := h2
    cases hb : e i with
    | true =>
      rw [hb] at hR hr
      subst hr
      have z := fin s2 h2
      rw [hR] at z
      wp_walk
      simpa using z
    | false =>
      rw [hb] at hR hr
      subst hr
      have hc : ((i : Int) + 1) = ((i + 1 : Nat) : Int) := by omega
      have hrec := ih (i + 1) (by omega) (by simpa using hR) s2 h2
      obtain ⟨hp2, g2, d2, tk2, os2⟩ := s2
      wp_walk
      rw [hc]
      exact ⟨plainId_quiet plain_contains_loop _, codeAny_builtin entry_contains_loop (by
        rw [Around.under_plainId plain_contains_loop _]
        exact hrec)⟩
theorem list_containsQ (l : Addr) (x : Value) (N : Nat) (e : Nat → Bool) (I : Shared → Prop) (hl : InI prog w A (fun e s' => R (.error e) s') l x N e I)
    (fin : ∀ s, I s → R (.ok (.ret (.bool ((List.range N).any e)))) s) {s : Shared} (h : I s) :
    wpAny (model prog w) A.in1 (Builtin.«list.__contains__» ⟨[.ref l, x], []⟩) (FinOf prog w A R) (fun e s' => R (.error e) s') s := by
  obtain ⟨items, n, hl1, hs1, _⟩ := hl _ h
  have hrec := contains_loopQ (A := A) (R := R) l x N e I hl fin _ 0 rfl rfl s h
  obtain ⟨hp, g, d, tk, os⟩ := s
  wp_walk using wpAny_loadPart' hl1
  exact ⟨plainId_quiet plain_contains_loop _, codeAny_builtin entry_contains_loop (by
    rw [Around.under_plainId plain_contains_loop _]
    exact hrec)⟩
end
section
variable {prog : Program} {w : World} {A : Around} {E : Value → Shared → Prop} {s : Shared}
theorem in_listQ {l : Addr} {x : Value} {N : Nat} {Q : Value → Shared → Prop} (e : Nat → Bool) (I : Shared → Prop) (hl : InI prog w A E l x N e I)
    (fin : ∀ s, I s → Q (.bool ((List.range N).any e)) s) (h : I s) : wpAny (model prog w) A (compareOp .In x (.ref l)) Q E s := by
  obtain ⟨items, n, hl1, _, _⟩ := hl _ h
  show wpAny _ A (do return .bool (← contains (.ref l) x)) Q E s
  refine wpAny_bind (wpAny_contains_slot (T := "list") ⟨_, hl1, rfl⟩ F.slot_list_contains (call_here F.slot_list_contains ⟨_, hl1, rfl⟩ F.entry_list_contains (F.args_list_contains_2 _ _) ?_))
  exact list_containsQ (R := wants (fun v s' => wpAny (model prog w) A (truthy v) (fun b s'' => wpAny (model prog w) A (pure (Value.bool b)) Q E s'') E s') E) l x N e I hl (fun s' q => wpAny_truthy_bool (wpAny_pure (fin s' q))) h
theorem notIn_listQ {l : Addr} {x : Value} {N : Nat} {Q : Value → Shared → Prop} (e : Nat → Bool) (I : Shared → Prop) (hl : InI prog w A E l x N e I)
    (fin : ∀ s, I s → Q (.bool (!(List.range N).any e)) s) (h : I s) : wpAny (model prog w) A (compareOp .NotIn x (.ref l)) Q E s := by
  obtain ⟨items, n, hl1, _, _⟩ := hl _ h
  show wpAny _ A (do return .bool (!(← contains (.ref l) x))) Q E s
  refine wpAny_bind (wpAny_contains_slot (T := "list") ⟨_, hl1, rfl⟩ F.slot_list_contains (call_here F.slot_list_contains ⟨_, hl1, rfl⟩ F.entry_list_contains (F.args_list_contains_2 _ _) ?_))
  exact list_containsQ (R := wants (fun v s' => wpAny (model prog w) A (truthy v) (fun b s'' => wpAny (model prog w) A (pure (Value.bool (!b))) Q E s'') E s') E) l x N e I hl (fun s' q => wpAny_truthy_bool (wpAny_pure (fin s' q))) h
end
section
variable {prog : Program} {w : World} {A : Around} {E : Value → Shared → Prop} {s : Shared} {K : PySem.W.Frag} {x C f L : Addr} {ox : Obj} {od : Option Obj} {h₀ : Heap} {m : Str → Option Value}
/-- a == x, x of an own class with an __eq__: a's own == declines, x's is asked -/
theorem rc_reflQ {a : Value} {T ida : String} {Q : Value → Shared → Prop} (hu : A.units < cLine) (ha : ∀ s' : Shared, s'.heap = s.heap → s'.TypeIs a T) (X : K.In s.heap) (I : PySem.W.InstAt s.heap x ox C od)
    (slot : Slot T "__eq__" ida) (dec : ∀ Q' : Value → Shared → Prop, Q' .notImplemented s → wpAny (model prog w) A (call (.builtin ida) [a, .ref x]) Q' E s) (hsub : PySem.W.mroIn K C (.type T) = some false)
    (hs : PySem.W.findIn K (.ref C) "__eq__" = some (some (.ref f))) (hf : PySem.W.isFn K (.ref f) = true)
    (h : wpAny (model prog w) A (call (.ref f) [.ref x, a]) (fun v s' => ∃ b, v = .bool b ∧ Q (.bool b) s') E s) : wpAny (model prog w) A (richCompare .Eq a (.ref x)) Q E s := by
  have ta := ha s rfl
  have two : wpAny (model prog w) A (tryCompare (.ref x) "__eq__" a) (fun r s' => ∃ v, r = some v ∧ Q v s') E s := by
    unfold tryCompare
    refine wpAny_bind (PySem.W.ifBound_K X I hs hf (wpAny_mono h (fun v s' hv => ?_) fun _ _ e => e))
    obtain ⟨b, rfl, q⟩ := hv
    exact wpAny_pure ⟨_, rfl, q⟩
  simp only [richCompare, cmpInfo_Eq, ta.oneThing_none]
  refine wpAny_holding (wpAny_bind (wpAny_cRoomFor hu ?_))
  refine wpAny_bind (wpAny_typeOf ta (wpAny_bind (I.type.here ?_)))
  split
  · refine wpAny_bind ((PySem.W.looks_mroIn X hsub).here ?_)
    simp only [Bool.false_eq_true, if_false, Bool.not_false, if_true]
    refine wpAny_bind (m := tryCompare a _ (.ref x)) (wpAny_tryCompare_declines ta slot (dec _ ⟨rfl, ?_⟩))
    refine wpAny_bind (m := tryCompare (.ref x) _ a) (wpAny_mono two (fun r s2 z => ?_) fun _ _ e => e)
    obtain ⟨v, rfl, hq⟩ := z
    exact wpAny_pure hq
  · rename_i q
    exact absurd (by simp) q
theorem none_dec {s : Shared} (a : Addr) {Q : Value → Shared → Prop} (q : Q .notImplemented s) : wpAny (model prog w) A (call (.builtin "NoneType.__eq__") [.none, .ref a]) Q E s :=
  call_gives F.slot_NoneType_eq_refl (show s.TypeIs .none "NoneType" from rfl) F.entry_NoneType_eq (F.args_NoneType_eq_2 _ _) (NoneType___eq___none_ref_0 a) q
theorem str_eq_declines_ins (b : Str) (u : Tok) (l C dx : Addr) :
    Meets (Builtin.«str.__eq__» ⟨[.str b u, .ref l], []⟩) (fun _ R s => s.heap.get? l = some (PySem.W.instObj C dx) ∧ R (.ok (.ret .notImplemented)) s) :=
  .of_wp fun prog w A R s h => by obtain ⟨hp, g, d, tk, os⟩ := s; obtain ⟨hl, h⟩ := h; wp_walk using wpAny_loadPart' hl, wpAny_load hl; exact ⟨_, rfl, h⟩
theorem str_dec {dx : Addr} (b : Str) (u : Tok) (hx : s.heap.get? x = some (PySem.W.instObj C dx)) {Q : Value → Shared → Prop} (q : Q .notImplemented s) :
    wpAny (model prog w) A (call (.builtin "str.__eq__") [.str b u, .ref x]) Q E s :=
  call_meets F.slot_str_eq (typeIs_str s b u) F.entry_str_eq (F.args_str_eq_2 _ _) (str_eq_declines_ins b u x C dx) ⟨hx, q⟩
theorem tup_dec {dx : Addr} {l : Addr} {items : Array Value} (hl : s.heap.IsTuple l items) (X : K.In s.heap) (hx : s.heap.get? x = some (PySem.W.instObj C dx)) (hsub : PySem.W.mroIn K C (.type "tuple") = some false) {Q : Value → Shared → Prop} (q : Q .notImplemented s) :
    wpAny (model prog w) A (call (.builtin "tuple.__eq__") [.ref l, .ref x]) Q E s := by
  obtain ⟨⟨cls, dd, data, sl⟩, ho, hc, n, hd⟩ := id hl
  simp only at hc hd
  subst hc hd
  refine call_here F.slot_tuple_eq ⟨_, ho, rfl⟩ F.entry_tuple_eq (F.args_tuple_eq_2 _ _) ?_
  have hz := PySem.W.looks_mroIn (M := model prog w) X hsub
  obtain ⟨hp, g, d, tk, os⟩ := s
  wp_walk using wpAny_loadPart' ho, wpAny_loadPart' hx, wpAny_load hx, hz.here
  exact q
end
end GQ
namespace Any
open L2 PySem PySem.Spec PyProof.Rows
/-! ### ==, != and in of things that are told by defs of the program; what stands in the heap stays -/
/-- x == y is b -/
abbrev Eqq := V → V → Hp → Bool → Prop
def EqQ (X : Cx) (n : Nat) (D : Eqq) : Prop :=
  ∀ (A : Around) (pins : List (Addr × Obj)) (s : Shared) (σ : L2.St) (H : Hp) (x y : V) (u v : Value) (b : Bool), Sub X n A → Inv X pins σ H s → RelV x u → RelV y v → D x y H b →
    wpAny (model X.prog X.w) A (eqBool u v) (fun r s' => r = b ∧ Inv X pins σ H s') X.xe s
def RcQ (X : Cx) (n : Nat) (D : Eqq) : Prop :=
  ∀ (A : Around) (pins : List (Addr × Obj)) (s : Shared) (σ : L2.St) (H : Hp) (x y : V) (u v : Value) (b : Bool), Sub X n A → Inv X pins σ H s → RelV x u → RelV y v → D x y H b →
    wpAny (model X.prog X.w) A (richCompare .Eq u v) (fun r s' => r = .bool b ∧ Inv X pins σ H s') X.xe s
section
variable {X : Cx} {n m : Nat} {D D' : Eqq}
theorem EqQ.mono (h : EqQ X n D) (hn : n ≤ m) : EqQ X m D := fun A pins s σ H x y u v b sb => h A pins s σ H x y u v b (sb.mono hn)
theorem RcQ.mono (h : RcQ X n D) (hn : n ≤ m) : RcQ X m D := fun A pins s σ H x y u v b sb => h A pins s σ H x y u v b (sb.mono hn)
theorem EqQ.or (h : EqQ X n D) (h' : EqQ X n D') : EqQ X n (fun x y H b => D x y H b ∨ D' x y H b) := fun A pins s σ H x y u v b sb I rx ry d => by
  rcases d with d | d
  · exact h A pins s σ H x y u v b sb I rx ry d
  · exact h' A pins s σ H x y u v b sb I rx ry d
theorem RcQ.or (h : RcQ X n D) (h' : RcQ X n D') : RcQ X n (fun x y H b => D x y H b ∨ D' x y H b) := fun A pins s σ H x y u v b sb I rx ry d => by
  rcases d with d | d
  · exact h A pins s σ H x y u v b sb I rx ry d
  · exact h' A pins s σ H x y u v b sb I rx ry d
theorem RcQ.eqQ (h : RcQ X n D) (hr : ∀ x y H b u, D x y H b → RelV x u → RelV y u → b = true) (href : ∀ x y H b, D x y H b → (∃ a, x = .ref a) ∨ ∃ a, y = .ref a) : EqQ X n D := by
  intro A pins s σ H x y u v b sb I rx ry d
  unfold eqBool
  refine wpAny_holding ?_
  refine wpAny_ite_split (fun hab => ?_) (fun _ => ?_)
  · have e := eq_of_beq hab
    subst e
    exact wpAny_bind (wpAny_rule (wpAny_pure ⟨(hr x y H b u d rx ry).symm, I⟩))
  · have go : wpAny (model X.prog X.w) A (richCompare .Eq u v >>= fun r => truthOfDropped r) (fun r s' => r = b ∧ Inv X pins σ H s') X.xe s :=
      wpAny_bind (wpAny_mono (h A pins s σ H x y u v b sb I rx ry d) (fun r s' q => by
        obtain ⟨rfl, I'⟩ := q
        exact wpAny_truthy_bool ⟨rfl, I'⟩) fun _ _ x => x)
    rcases href x y H b d with ⟨a, rfl⟩ | ⟨a, rfl⟩
    · cases rx
      exact go
    · cases ry
      cases u <;> exact go
/-- the very same -/
def DSame : Eqq := fun x y _ b => ∃ a, x = .ref a ∧ y = .ref a ∧ b = true
theorem eqQ_same : EqQ X 0 DSame := by
  intro A pins s σ H x y u v b sb I rx ry d
  obtain ⟨a, rfl, rfl, rfl⟩ := d
  cases rx
  cases ry
  exact SeqAt.EqAt.same (A := A) (s := s) (.ref a) X.prog X.w X.xe _ ⟨rfl, I⟩
def DFlatQ : Eqq := fun x y _ b => flatV x = true ∧ flatV y = true ∧ eqV x y = b
theorem eqQ_flat : EqQ X 0 DFlatQ := by
  intro A pins s σ H x y u v b sb I rx ry d
  obtain ⟨fx, fy, rfl⟩ := d
  exact eqAt_V (A := A) (s := s) rx ry fx fy X.prog X.w X.xe _ ⟨rfl, I⟩
theorem run_S {A : Around} {k : Nat} {f : Addr} {sp : Sp} {pins : List (Addr × Obj)} {σ : L2.St} {H : Hp} {s : Shared} {us : List Value} {vs : List V} {Q : VK} (sb : Sub X k A) (F : FnR X.prog X.w X.K X.mg X.base CX0 k f sp) (I : Inv X pins σ H s) (r : Vals vs us) (h : sp vs H Q E0) :
    wpAny (model X.prog X.w) A (call (.ref f) us) (EP X pins σ Q) X.xe s := by
  have e0 : Env0 X.prog X.w X.K X.mg X.base A X.stack s H := by
    have e := I.env0
    exact ⟨by rw [sb.fr]; exact e.frames, e.mod, e.bs, e.bsz, e.funs, e.frf, e.hok, e.bare⟩
  refine wpAny_call (codeAny_mono (F A X.stack s H us vs Q E0 sb.room e0 r h) fun r s' hq => ?_)
  cases r with
  | error e => exact pass0 pins σ H s e s' I hq
  | ok fl =>
    cases fl with
    | ret u => exact I.after hq
    | next => exact False.elim hq
    | brk => exact False.elim hq
    | cont => exact False.elim hq
/-- x of an own class; its __eq__ is asked -/
def DOwn (C : Addr) (sp : Sp) : Eqq := fun x y H b => ∃ a dx fs, x = .ref a ∧ H a = some (.ins C dx fs) ∧ Oth C H y ∧ ∀ Q : VK, Q (.bl b) H → sp [x, y] H Q E0
theorem rcQ_own {C : Addr} {k : Nat} {sp : Sp} (D : EqD X.prog X.w X.K X.mg X.base C k sp) : RcQ X k (DOwn C sp) := by
  intro A pins s σ H x y u v b sb I rx ry d
  obtain ⟨a, dx, fs, rfl, ha, ho, hsp⟩ := d
  obtain ⟨f, hs, hf, F⟩ := D.ex
  cases rx
  obtain ⟨t, lt, nt⟩ := ho.looks I ry
  obtain ⟨mA, J, _⟩ := ins_get I.hok ha
  obtain ⟨od, J, _⟩ := J.look
  obtain ⟨m, hF⟩ := I.fr
  refine PySem.W.cmp_K (op := .Eq) sb.room.units0 hF I.ok.mod.kin J lt nt hs hf (wpAny_mono (run_S (us := [.ref a, v]) (vs := [.ref a, y]) sb F I (.cons rfl (.cons ry .nil)) (hsp (fun v H' => v = .bl b ∧ H' = H) ⟨rfl, rfl⟩)) (fun v s' z => ?_) fun _ _ e => e)
  obtain ⟨z, H', I', rz, rfl, rfl⟩ := z
  cases rz
  exact ⟨rfl, I'⟩
/-- what no class of the program is -/
structure NoTy (K : PySem.W.Frag) (C : Addr) : Prop where
  non : PySem.W.mroIn K C (.type "NoneType") = some false
  str : PySem.W.mroIn K C (.type "str") = some false
  tup : PySem.W.mroIn K C (.type "tuple") = some false
/-- None, a text, a tuple -/
inductive Lft (H : Hp) : V → Prop
  | non : Lft H .non
  | str (x : Str) : Lft H (.str x)
  | tup {a : Addr} {xs : List V} (h : H a = some (.tup xs)) : Lft H (.ref a)
/-- y of an own class, x of one of Python's own: y's __eq__ is asked -/
def DRef (C : Addr) (sp : Sp) : Eqq := fun x y H b => ∃ a dx fs, y = .ref a ∧ H a = some (.ins C dx fs) ∧ Lft H x ∧ ∀ Q : VK, Q (.bl b) H → sp [y, x] H Q E0
theorem rcQ_ref {C : Addr} {k : Nat} {sp : Sp} (D : EqD X.prog X.w X.K X.mg X.base C k sp) (T : NoTy X.K C) : RcQ X k (DRef C sp) := by
  intro A pins s σ H x y u v b sb I rx ry d
  obtain ⟨a, dx, fs, rfl, ha, ho, hsp⟩ := d
  obtain ⟨f, hs, hf, F⟩ := D.ex
  cases ry
  obtain ⟨mA, J0, _⟩ := ins_get I.hok ha
  obtain ⟨od, J, _⟩ := J0.look
  have go : wpAny (model X.prog X.w) A (call (.ref f) [.ref a, u]) (fun v s' => ∃ b', v = .bool b' ∧ (Value.bool b' = .bool b ∧ Inv X pins σ H s')) X.xe s :=
    wpAny_mono (run_S (us := [.ref a, u]) (vs := [.ref a, x]) sb F I (.cons rfl (.cons rx .nil)) (hsp (fun v H' => v = .bl b ∧ H' = H) ⟨rfl, rfl⟩)) (fun v s' z => by
      obtain ⟨z, H', I', rz, rfl, rfl⟩ := z
      cases rz
      exact ⟨b, rfl, rfl, I'⟩) fun _ _ e => e
  cases ho with
  | non =>
    cases rx
    exact GQ.rc_reflQ (T := "NoneType") sb.room.units0 (fun _ _ => rfl) I.kIn J PySem.F.slot_NoneType_eq_refl (fun Q' q => GQ.none_dec a q) T.non hs hf go
  | str z =>
    obtain ⟨t, rfl⟩ := rx
    exact GQ.rc_reflQ (T := "str") sb.room.units0 (fun _ _ => rfl) I.kIn J PySem.F.slot_str_eq (fun Q' q => GQ.str_dec z t J0.obj q) T.str hs hf go
  | @tup l xs h =>
    cases rx
    obtain ⟨its, r, e, z⟩ := I.tuple (SqT.of h)
    obtain ⟨o, ho, hc, _⟩ := id e
    exact GQ.rc_reflQ (T := "tuple") sb.room.units0 (fun s' hs' => ⟨o, by rw [hs']; exact ho, hc⟩) I.kIn J PySem.F.slot_tuple_eq (fun Q' q => GQ.tup_dec e I.kIn J0.obj T.tup q) T.tup hs hf go
/-- item by item -/
def Prq (D : Eqq) (xs ys : List V) (H : Hp) (e : Nat → Bool) : Prop := ∀ (i : Nat) x y, xs[i]? = some x → ys[i]? = some y → D x y H (e i)
theorem turnQ (h : EqQ X n D) {A : Around} (sb : Sub X (n + 1) A) {pins : List (Addr × Obj)} {σ : L2.St} {H : Hp} {xs ys : List V} {its its2 : List Value} {e : Nat → Bool} (p : Prq D xs ys H e) (r : Vals xs its) (r2 : Vals ys its2)
    (i : Nat) (h1 : i < its.toArray.size) (h2 : i < its2.toArray.size) (s' : Shared) (I : Inv X pins σ H s') :
    wpAny (model X.prog X.w) A.in1 (eqBool its.toArray[i] its2.toArray[i]) (fun r s2 => r = e i ∧ Inv X pins σ H s2) X.xe s' := by
  have g1 : its[i]? = some its.toArray[i] := by
    have h1' : i < its.length := by simpa using h1
    rw [List.getElem?_eq_getElem h1'] <;> simp
  have g2 : its2[i]? = some its2.toArray[i] := by
    have h2' : i < its2.length := by simpa using h2
    rw [List.getElem?_eq_getElem h2'] <;> simp
  have k1 : i < xs.length := by rw [r.length]; simpa using h1
  have k2 : i < ys.length := by rw [r2.length]; simpa using h2
  obtain ⟨u, hu, ru⟩ := r.get (List.getElem?_eq_getElem k1)
  obtain ⟨v, hv, rv⟩ := r2.get (List.getElem?_eq_getElem k2)
  rw [g1] at hu
  rw [g2] at hv
  rw [Option.some.inj hu, Option.some.inj hv]
  exact h A.in1 pins s' σ H _ _ u v _ sb.in1 I ru rv (p i _ _ (List.getElem?_eq_getElem k1) (List.getElem?_eq_getElem k2))
/-- two tuples -/
def tupB (e : Nat → Bool) (n m : Nat) : Bool := (List.range (min n m)).all e && n == m
def DTupQ (K : PySem.W.Frag) (D : Eqq) : Eqq := fun x y H b => ∃ a c xs ys e, x = .ref a ∧ y = .ref c ∧ SqT K H a xs ∧ SqT K H c ys ∧ Prq D xs ys H e ∧ b = tupB e xs.length ys.length
theorem rcQ_tup (h : EqQ X n D) : RcQ X (n + 1) (DTupQ X.K D) := by
  intro A pins s σ H x y u v b sb I rx ry d
  obtain ⟨a, c, xs, ys, e, rfl, rfl, ha, hc, p, rfl⟩ := d
  cases rx
  cases ry
  obtain ⟨its, r, e1, z⟩ := I.tuple ha
  obtain ⟨its2, r2, e2, z2⟩ := I.tuple hc
  refine GQ.rc_tupQ sb.room.units0 e (fun s' => Inv X pins σ H s') e1 e2 (fun i h1 h2 s' I' => turnQ h sb p r r2 i h1 h2 s' I') (fun s' I' => ⟨?_, I'⟩) I
  unfold tupB
  rw [List.size_toArray, List.size_toArray, ← r.length, ← r2.length]
/-- x == y, x != y as expressions -/
def rEqQ (D : Eqq) : R2 := fun x y H Q => ∃ b, D x y H b ∧ Q (.bl b) H
def rNeQ (D : Eqq) : R2 := fun x y H Q => ∃ b, D x y H b ∧ Q (.bl (!b)) H
theorem op_eqQ (h : RcQ X n D) (hr : Room n X.A) : OpR X (compareOp .Eq) (rEqQ D) := by
  intro pins s σ H x y v u Q I rx ry hq
  obtain ⟨b, d, q⟩ := hq
  show wpAny (model X.prog X.w) X.A (richCompare .Eq v u) (EP X pins σ Q) X.xe s
  refine wpAny_mono (h X.A pins s σ H x y v u b ⟨hr, rfl⟩ I rx ry d) (fun r s' z => ?_) fun _ _ x => x
  obtain ⟨rfl, I'⟩ := z
  exact ⟨.bl b, H, I', rfl, q⟩
theorem op_neTupQ (h : EqQ X n D) (hr : Room (n + 1) X.A) : OpR X (compareOp .NotEq) (rNeQ (DTupQ X.K D)) := by
  intro pins s σ H x y v u Q I rx ry hq
  obtain ⟨b, ⟨a, c, xs, ys, e, rfl, rfl, ha, hc, p, rfl⟩, q⟩ := hq
  cases rx
  cases ry
  obtain ⟨its, r, e1, z⟩ := I.tuple ha
  obtain ⟨its2, r2, e2, z2⟩ := I.tuple hc
  show wpAny (model X.prog X.w) X.A (richCompare .NotEq (.ref a) (.ref c)) (EP X pins σ Q) X.xe s
  refine GQ.rc_tupNeQ hr.units0 e (fun s' => Inv X pins σ H s') e1 e2 (fun i h1 h2 s' I' => turnQ h ⟨hr, rfl⟩ p r r2 i h1 h2 s' I') (fun s' I' => ⟨.bl _, H, I', rfl, ?_⟩) I
  unfold tupB at q
  rw [List.size_toArray, List.size_toArray, ← r.length, ← r2.length]
  exact q
/-- x in a list of such -/
def rInQ (D : Eqq) (neg : Bool) : R2 := fun x y H Q => ∃ p ys e, y = .ref p ∧ H p = some (.lst ys) ∧ (∀ i z, ys[i]? = some z → D z x H (e i)) ∧ Q (.bl (if neg then !(List.range ys.length).any e else (List.range ys.length).any e)) H
theorem inI_of (h : EqQ X n D) {A : Around} (sb : Sub X (n + 1) A) {pins : List (Addr × Obj)} {σ : L2.St} {H : Hp} {p : Addr} {ys : List V} {x : V} {u : Value} {e : Nat → Bool} (hp : H p = some (.lst ys)) (rx : RelV x u) (hd : ∀ i z, ys[i]? = some z → D z x H (e i)) :
    GQ.InI X.prog X.w A X.xe p u ys.length e (fun s' => Inv X pins σ H s') := by
  intro s' I
  obtain ⟨z, its, k, r, e1⟩ := I.hok p _ hp
  refine ⟨its.toArray, k, e1, by rw [List.size_toArray, ← r.length], fun i h1 => ?_⟩
  have g1 : its[i]? = some its.toArray[i] := by
    have h1' : i < its.length := by simpa using h1
    rw [List.getElem?_eq_getElem h1'] <;> simp
  have k1 : i < ys.length := by rw [r.length]; simpa using h1
  obtain ⟨v, hv, rv⟩ := r.get (List.getElem?_eq_getElem k1)
  rw [g1] at hv
  rw [Option.some.inj hv]
  exact h A.in1 pins s' σ H _ _ v u _ sb.in1 I rv rx (hd i _ (List.getElem?_eq_getElem k1))
theorem op_inQ (h : EqQ X n D) (hr : Room (n + 1) X.A) : OpR X (compareOp .In) (rInQ D false) := by
  intro pins s σ H x y v u Q I rx ry hq
  obtain ⟨p, ys, e, rfl, hp, hd, q⟩ := hq
  cases ry
  exact GQ.in_listQ e (fun s' => Inv X pins σ H s') (inI_of h ⟨hr, rfl⟩ hp rx hd) (fun s' I' => ⟨.bl _, H, I', rfl, q⟩) I
theorem op_notInQ (h : EqQ X n D) (hr : Room (n + 1) X.A) : OpR X (compareOp .NotIn) (rInQ D true) := by
  intro pins s σ H x y v u Q I rx ry hq
  obtain ⟨p, ys, e, rfl, hp, hd, q⟩ := hq
  cases ry
  exact GQ.notIn_listQ e (fun s' => Inv X pins σ H s') (inI_of h ⟨hr, rfl⟩ hp rx hd) (fun s' I' => ⟨.bl _, H, I', rfl, q⟩) I
end
end Any
namespace Any
open L2 PySem PySem.Spec PyProof.Rows LamX NdefX
/-! ### _law_steps -/
def Bd.of : List Sg → Bd
  | [] => .nil
  | s :: r => .cons s (Bd.of r)
theorem of_at {H : Hp} : ∀ {vs : List V} {l : List Sg}, Paired (SgAt H) vs l → BdL H vs (Bd.of l)
  | _, _, .nil => by
    unfold Bd.of BdL
    rfl
  | _, _, .cons r t => by
    unfold Bd.of BdL
    exact ⟨_, _, rfl, r, of_at t⟩
theorem of_ok {xs ws rs : List Str} : ∀ {l : List Sg}, (∀ s ∈ l, s.ok xs ws rs) → (Bd.of l).ok xs ws rs
  | [], _ => by
    unfold Bd.of Bd.ok
    trivial
  | s :: r, h => by
    unfold Bd.of Bd.ok
    exact ⟨h s (List.mem_cons_self ..), of_ok fun t ht => h t (List.mem_cons_of_mem _ ht)⟩
theorem of_len : ∀ l : List Sg, (Bd.of l).len = l.length
  | [] => rfl
  | s :: r => by
    unfold Bd.of Bd.len
    rw [of_len r]
    rfl
theorem of_dp {k : Nat} : ∀ {l : List Sg}, (∀ s ∈ l, s.dp ≤ k) → (Bd.of l).dp ≤ k
  | [], _ => by
    unfold Bd.of Bd.dp
    omega
  | s :: r, h => by
    unfold Bd.of Bd.dp
    have h1 := h s (List.mem_cons_self ..)
    have h2 := of_dp (l := r) fun t ht => h t (List.mem_cons_of_mem _ ht)
    omega
theorem of_tot : ∀ l : List Sg, (Bd.of l).tot = (l.map Sg.tot).sum
  | [] => by
    unfold Bd.of Bd.tot
    rfl
  | s :: r => by
    unfold Bd.of Bd.tot
    rw [of_tot r, List.map_cons, List.sum_cons]
/-- how often a bag is asked, at most -/
def cs : Nat → Nat
  | 0 => 1000
  | n + 1 => 10 * cs n
/-- how many steps in all, at most -/
def inn : Nat → Nat
  | 0 => 0
  | 1 => 2
  | _ => 6
def rr : Nat → Nat
  | 2 => 4
  | _ => 2
def tt (d : Nat) : Nat := rr d + 2 * inn d
/-- what one turn asks of a bag, at most -/
def itc : Nat → Nat
  | 0 => 403
  | n + 1 => 403 + 2 * cs n
theorem itc_fits {d r : Nat} (h : d ≤ 2) (k : r ≤ rr d) : 2 + r * itc d ≤ cs d := by
  have : d = 0 ∨ d = 1 ∨ d = 2 := by omega
  rcases this with rfl | rfl | rfl
  · have k : r ≤ 2 := k
    show 2 + r * 403 ≤ 1000
    omega
  · have k : r ≤ 2 := k
    show 2 + r * 2403 ≤ 10000
    omega
  · have k : r ≤ 4 := k
    show 2 + r * 20403 ≤ 100000
    omega
/-- the list of boxes or rooms, by their names -/
structure StepsOk (d a : Nat) (xs rs : List Str) (bd : Bd) : Prop where
  ok : bd.ok xs (wsOf a) rs
  len : bd.len ≤ rr d
  dp : bd.dp ≤ d + 1
  tot : bd.tot ≤ tt d
def spSteps (n : Nat) : Sp := fun vs H Q _ => ∃ (b l bn : Addr) (d m a : Nat) (xs rs : List Str), vs = [.ref b, .ref l, .int a, .ref bn, .int d] ∧ a ≤ 1 ∧ d < n ∧ d ≤ 2 ∧ Bag H b m ∧ m + cs d < 2 ^ 40 ∧ H l = some (.lst (xs.map V.str)) ∧ l ≠ b ∧ 1 ≤ xs.length ∧ xs.length ≤ 8 ∧
  H bn = some (.lst (rs.map V.str)) ∧ bn ≠ b ∧ rs.length ≤ 8 ∧ (∀ r ∈ rs, PyData.strOk r = true) ∧ ∀ (p : Addr) (bd : Bd) (H' : Hp), Kept b H H' → Bag H' b (m + cs d) → BdAt H' p bd → StepsOk d a xs rs bd → Q (.ref p) H'
abbrev sSteps : Stmt := top 75
abbrev psSt : List Str := ["_law_bag_here", "_law_names", "_law_asks", "_law_beneath", "_law_deep"]
abbrev nmSt : List Str := ["_law_bag_here", "_law_names", "_law_asks", "_law_beneath", "_law_deep", "_law_found", "_law_spot", "_law_k", "_law_sort", "_law_box", "_law_term", "_law_inner", "_law_other_here", "_law_test_here"]
theorem scSt : FnScope nmSt psSt (defScope sSteps) := ⟨rfl, rfl, rfl, by decide +kernel, rfl, by decide +kernel, by decide +kernel⟩
theorem turns_at {d : Nat} (h : d ≤ 2) : ∃ n : Int, atI [V.int 3, V.int 3, V.int 5] (d : Int) = some (.int n) ∧ 1 ≤ n ∧ n ≤ 5 ∧ n = rr d + 1 := by
  have : d = 0 ∨ d = 1 ∨ d = 2 := by omega
  rcases this with rfl | rfl | rfl
  · exact ⟨3, rfl, by decide, by decide, rfl⟩
  · exact ⟨3, rfl, by decide, by decide, rfl⟩
  · exact ⟨5, rfl, by decide, by decide, rfl⟩
theorem strs_data {K : PySem.W.Frag} {H : Hp} : ∀ xs : List Str, DpAll K H (xs.map V.str) (xs.map PyData.str)
  | [] => .nil
  | x :: r => .cons (.str x) (strs_data r)
end Any
namespace Any
open L2 PySem PySem.Spec PyProof.Rows LamX NdefX
def elBody : Stmt → List Stmt
  | .If _ _ b _ => b
  | _ => []
def forBody : Stmt → List Stmt
  | .For _ _ b _ _ => b
  | _ => []
def stAt (l : List Stmt) (i : Nat) : Stmt := l.getD i (.Pass ⟨0, 0, 0, 0⟩)
theorem shaped_strs : ∀ rs : List Str, (∀ r ∈ rs, PyData.strOk r = true) → PyData.canLayAll0 (rs.map PyData.str) = true ∧ PyData.depthAll (rs.map PyData.str) = 0
  | [], _ => ⟨rfl, rfl⟩
  | x :: r, h => by
    obtain ⟨h1, h2⟩ := shaped_strs r fun y hy => h y (List.mem_cons_of_mem _ hy)
    have h3 := h x (List.mem_cons_self ..)
    refine ⟨?_, ?_⟩
    · show (PyData.strOk x && PyData.canLayAll0 (r.map PyData.str)) = true
      rw [h1, h3]
      rfl
    · show max 0 (PyData.depthAll (r.map PyData.str)) = 0
      rw [h2]
      rfl
theorem shaped_lst {rs : List Str} (h : ∀ r ∈ rs, PyData.strOk r = true) : SeqAt.shaped (.list (rs.map PyData.str)) = true := by
  obtain ⟨h1, h2⟩ := shaped_strs rs h
  unfold SeqAt.shaped
  show (PyData.canLayAll0 (rs.map PyData.str) && decide (PyData.depthAll (rs.map PyData.str) + 1 ≤ 64)) = true
  rw [h1, h2]
  rfl
theorem eqv_nil (rs : List Str) : PyData.eqv (.list (rs.map PyData.str)) (.list []) = decide (rs = []) := by
  cases rs with
  | nil => rfl
  | cons x r => rfl
theorem inn_tt {e : Nat} (h : e + 1 ≤ 2) : inn (e + 1) = tt e := by
  have : e = 0 ∨ e = 1 := by omega
  rcases this with rfl | rfl <;> rfl
theorem rr_le (e : Nat) : rr e ≤ 4 := by
  unfold rr
  split <;> omega
theorem itc_lo (d : Nat) : 403 ≤ itc d := by
  cases d with
  | zero => exact Nat.le_refl _
  | succ n => exact Nat.le_add_right _ _
theorem in45 {s : Int} (h : inV (.int s) [.int 4, .int 5] = true) : s = 4 ∨ s = 5 := by
  have h : ((4 : Int) == s || ((5 : Int) == s || false)) = true := h
  simp at h
  omega
theorem cs_lo (d : Nat) : 1000 ≤ cs d := by
  cases d with
  | zero => exact Nat.le_refl _
  | succ n =>
    have := cs_lo n
    show 1000 ≤ 10 * cs n
    omega
theorem strs_mem {xs : List Str} {v : V} (h : v ∈ xs.map V.str) : ∃ x ∈ xs, v = .str x := by
  obtain ⟨x, h1, h2⟩ := List.mem_map.mp h
  exact ⟨x, h1, h2.symm⟩
section
variable {P : Program} {w : World} {K : PySem.W.Frag} {mg : Str → Option Value} {base : Heap} {f : Addr} {fd : FuncData}
theorem no_steps {k : Nat} : FnOk P w K mg base CX0 k f fd psSt (spSteps 0) := by
  have no : ∀ vs H Q E, ¬ spSteps 0 vs H Q E := fun vs H Q E h => by
    obtain ⟨b, l, bn, d, m, a, xs, rs, _, _, hd, _⟩ := h
    omega
  exact ⟨fun vs H Q E h => absurd h (no vs H Q E), fun A outer s H args us vs Q E _ _ _ _ h => absurd h (no vs H Q E)⟩
set_option maxHeartbeats 1000000 in
theorem ok_steps {n : Nat} (mr : mg "range" = none) (mt : mg "tuple" = none) (F : Fun K "_law_steps" "_law_steps" sSteps f fd) (DT : Df P w K mg base 1 "_law_take" ["_law_bag_here", "_law_many_here"] spTake) (DO : Df P w K mg base 2 "_law_of" ["_law_bag_here", "_law_some"] spOf)
    (DX : Df P w K mg base 9 "_law_expr" psE (spExpr 7)) (DS : Df P w K mg base 17 "_law_test" psE (spTest 8)) (DG : Df P w K mg base (n + 18) "_law_steps" psSt (spSteps n)) : FnOk P w K mg base CX0 (n + 19) f fd psSt (spSteps (n + 1)) := by
  refine F.ok scSt (fun vs H Q E h => ?_) (fun cdv A outer s H vs Q E hr h => ?_)
  · obtain ⟨b, l, bn, d, m, a, xs, rs, rfl, _⟩ := h
    rfl
  obtain ⟨b, l, bn, d, m, as, xs, rs, rfl, has, hd, hd2, hB, hm, hl, hlb, hx1, hx8, hbn, hbb, hr8, hro, q⟩ := h
  have hr1 := hr.mono (show 1 ≤ n + 18 by omega)
  have hr2 := hr.mono (show 2 ≤ n + 18 by omega)
  have hr9 := hr.mono (show 9 ≤ n + 18 by omega)
  have hr17 := hr.mono (show 17 ≤ n + 18 by omega)
  have hs : sizeLine = 16777216 := sizeLine_eq
  have c2 : ce 2 = 35 := rfl
  have hcs := cs_lo d
  have c3 : ce 3 = 75 := rfl
  have tc3 : ct 3 = 365 := rfl
  -- a set, a hear or a say
  obtain ⟨t3, ht3, leaf3⟩ : ∃ t3, PSs (cxOf CX0 P w K mg base nmSt "_law_steps" (defScope sSteps) f cdv A outer s H E).nox (elBody (stAt (elBody (stAt (forBody (stAt (defBody sSteps) 1)) 1)) 0)) t3 ∧
      ∀ (D : Ends) (H6 : Hp) (L : Addr) (z6 z7 z11 z12 z13 : Option V) (srt : Int) (xb : Str) (ve : V) (e : Ex) (M : Nat) (vs : List V), 0 ≤ srt → srt < 10 → xb ∈ xs → ExAt H6 ve e → e.right xs (wsOf as) → Bag H6 b M → M + 76 ≤ m + cs d → Kept b H H6 → L ≠ b → H6 L = some (.lst vs) →
        (∀ v sg H9, Kept b H6 H9 → Bag H9 b (M + 76) → SgAt H9 v sg → sg.ok xs (wsOf as) rs → sg.dp ≤ d + 1 → sg.tot ≤ 1 → H9 L = some (.lst vs) ∧ vs.length < sizeLine ∧
          D.nx [some (.ref b), some (.ref l), some (.int as), some (.ref bn), some (.int d), some (.ref L), z6, z7, some (.int srt), some (.str xb), some ve, z11, z12, z13] (upd H9 L (.lst (vs ++ [v])))) →
        t3 D [some (.ref b), some (.ref l), some (.int as), some (.ref bn), some (.int d), some (.ref L), z6, z7, some (.int srt), some (.str xb), some ve, z11, z12, z13] H6 := by
    refine ⟨_, (pss_one (ps_if (pt_cmpR op_in_seq (pv 8) (pe_tup (pa_cons pe_int (pa_cons pe_int pa_nil))) (by rfl))
            (pss_one (ps_expr (pe_bm PySem.F.plainAttrs_list PySem.F.slot_list_append PySem.F.type_list_append mt_append (pv 5) (pa_cons (pe_ix ix_list (pe_lst (pa_cons (pe_tup (pa_cons pe_str (pa_cons (pv 9) pa_nil))) (pa_cons (pe_tup (pa_cons pe_str (pa_cons (pv 9) (pa_cons (pv 10) pa_nil)))) pa_nil))) (pe_op op_sub (pv 8) pe_int) (fun _ _ => rfl)) pa_nil))))
            (pss_one (ps_expr (pe_bm PySem.F.plainAttrs_list PySem.F.slot_list_append PySem.F.type_list_append mt_append (pv 5) (pa_cons (pe_tup (pa_cons pe_str (pa_cons (pv 9) (pa_cons (pe_D DX hr9 rfl (pa_cons (pv 0) (pa_cons (pv 1) (pa_cons (pv 2) (pa_cons pe_int pa_nil))))) pa_nil)))) pa_nil)))))), ?_⟩
    intro D H6 L z6 z7 z11 z12 z13 srt xb ve e M vs s0 s1 hxb he her B6 hM k6 hLb eL fin
    refine ⟨_, rfl, (by show 2 ≤ sizeLine; omega), fun p np => ⟨p, _, rfl, .inr (SqT.of upd_same), rfl, rfl, inV (.int srt) [.int 4, .int 5], rfl, ?_⟩⟩
    have sp := same_new np (.tup [.int 4, .int 5])
    cases e45 : inV (.int srt) [.int 4, .int 5] with
    | true =>
      refine itT rfl ⟨_, rfl, .inl ⟨rfl, _, SqL.of (sp _ _ eL)⟩, ?_⟩
      refine ⟨_, rfl, (by show 2 ≤ sizeLine; omega), fun p1 n1 => ⟨_, rfl, _, rfl, (by show 3 ≤ sizeLine; omega), fun p2 n2 => ⟨(by show 2 ≤ sizeLine; omega), fun p4 n4 => ?_⟩⟩⟩
      have s1' := same_new n1 (.tup [.str "hear", .str xb])
      have s2' := same_new n2 (.tup [.str "say", .str xb, ve])
      have s4' := same_new n4 (.lst [.ref p1, .ref p2])
      have sA := sp.trans (s1'.trans (s2'.trans s4'))
      have a1 := s4' _ _ (s2' _ _ (@upd_same (upd H6 p (.tup [.int 4, .int 5])) p1 (.tup [.str "hear", .str xb])))
      have a2 := s4' _ _ (@upd_same (upd (upd H6 p (.tup [.int 4, .int 5])) p1 (.tup [.str "hear", .str xb])) p2 (.tup [.str "say", .str xb, ve]))
      rcases in45 e45 with rfl | rfl
      · obtain ⟨f1, f2, f3⟩ := fin (.ref p1) (.hear xb) _ (.of sA) ((B6.keep sA).more (by omega)) (by unfold SgAt; exact ⟨p1, rfl, a1⟩) (by unfold Sg.ok; exact hxb) (by unfold Sg.dp; omega) (by unfold Sg.tot; omega)
        exact ⟨_, rfl, _, _, rfl, rfl, p4, _, _, _, rfl, rfl, SqL.of upd_same, rfl, L, vs, _, rfl, rfl, f1, f2, f3⟩
      · obtain ⟨f1, f2, f3⟩ := fin (.ref p2) (.say xb e) _ (.of sA) ((B6.keep sA).more (by omega)) (by unfold SgAt; exact ⟨p2, ve, rfl, a2, he.keep (Same.tups sA)⟩) (by unfold Sg.ok; exact ⟨hxb, her⟩) (by unfold Sg.dp; omega) (by unfold Sg.tot; omega)
        exact ⟨_, rfl, _, _, rfl, rfl, p4, _, _, _, rfl, rfl, SqL.of upd_same, rfl, L, vs, _, rfl, rfl, f1, f2, f3⟩
    | false =>
      refine itF rfl ⟨_, rfl, .inl ⟨rfl, _, SqL.of (sp _ _ eL)⟩, ?_⟩
      refine ⟨_, rfl, _, rfl, _, rfl, _, rfl, b, l, 3, M, xs, as, rfl, has, by decide, B6.keep sp, by omega, sp _ _ (k6 _ _ hlb hl), hlb, hx8, fun v2 e2 H8 k8 B8 b1 b2 b3 => ⟨(by show 3 ≤ sizeLine; omega), fun p5 n5 => ?_⟩⟩
      have s5 := same_new n5 (.tup [.str "set", .str xb, v2])
      obtain ⟨f1, f2, f3⟩ := fin (.ref p5) (.set xb e2) _ ((Kept.of sp).trans (k8.trans (.of s5))) ((B8.keep s5).more (by omega)) (by unfold SgAt; exact ⟨p5, v2, rfl, upd_same, b1.keep (Same.tups s5)⟩)
        (by unfold Sg.ok; exact ⟨hxb, Ex.right_of b3 (by have : max 3 1 = 3 := rfl; omega)⟩) (by unfold Sg.dp; omega) (by unfold Sg.tot; omega)
      exact ⟨L, vs, _, rfl, rfl, f1, f2, f3⟩
  obtain ⟨t2, ht2, leaf⟩ : ∃ t2, PSs (cxOf CX0 P w K mg base nmSt "_law_steps" (defScope sSteps) f cdv A outer s H E).nox (elBody (stAt (forBody (stAt (defBody sSteps) 1)) 1)) t2 ∧
      ∀ (D : Ends) (H6 : Hp) (L : Addr) (z6 z7 z11 z12 z13 : Option V) (srt : Int) (xb : Str) (ve : V) (e : Ex) (M : Nat) (vs : List V), 0 ≤ srt → srt < 10 → xb ∈ xs → ExAt H6 ve e → e.right xs (wsOf as) → Bag H6 b M → M + 76 ≤ m + cs d → Kept b H H6 → L ≠ b → H6 L = some (.lst vs) →
        (∀ v sg H9, Kept b H6 H9 → Bag H9 b (M + 76) → SgAt H9 v sg → sg.ok xs (wsOf as) rs → sg.dp ≤ d + 1 → sg.tot ≤ 1 → H9 L = some (.lst vs) ∧ vs.length < sizeLine ∧
          D.nx [some (.ref b), some (.ref l), some (.int as), some (.ref bn), some (.int d), some (.ref L), z6, z7, some (.int srt), some (.str xb), some ve, z11, z12, z13] (upd H9 L (.lst (vs ++ [v])))) →
        t2 D [some (.ref b), some (.ref l), some (.int as), some (.ref bn), some (.int d), some (.ref L), z6, z7, some (.int srt), some (.str xb), some ve, z11, z12, z13] H6 := by
    refine ⟨_, (pss_one (ps_if (PW.pt (pw_and (pt_cmpR op_gt (pv 8) pe_int (nomark _)) (pw_and1 (pt_cmpR (op_neD hr.units) (pv 3) (pe_lst pa_nil) (nomark _)))))
          (pss_one (ps_expr (pe_bm PySem.F.plainAttrs_list PySem.F.slot_list_append PySem.F.type_list_append mt_append (pv 5) (pa_cons (pe_tup (pa_cons pe_str (pa_cons (pv 9) (pa_cons (pe_D DO hr2 rfl (pa_cons (pv 0) (pa_cons (pv 3) pa_nil))) (pa_cons (pv 10) pa_nil))))) pa_nil)))) ht3)), ?_⟩
    intro D H6 L z6 z7 z11 z12 z13 srt xb ve e M vs s0 s1 hxb he her B6 hM k6 hLb eL fin
    refine ⟨_, rfl, _, _, rfl, rfl, _, rfl, itD (fun c => ?_) (fun c => itF rfl (leaf3 D H6 L z6 z7 z11 z12 z13 srt xb ve e M vs s0 s1 hxb he her B6 hM k6 hLb eL fin))⟩
    refine ⟨_, rfl, (by show 0 ≤ sizeLine; omega), fun p np => ?_⟩
    have sp := same_new np (.lst [])
    refine ⟨.list (rs.map PyData.str), .list [], .lst (SqL.of (sp _ _ (k6 _ _ hbb hbn))) (strs_data rs), .lst (SqL.of upd_same) .nil, shaped_lst hro, rfl, _, rfl, ?_⟩
    rw [eqv_nil]
    refine itN (fun c2 => ?_) (fun c2 => ?_)
    · have hr1' : 1 ≤ rs.length := by
        cases rs with
        | nil => exact absurd rfl c2
        | cons x r => exact Nat.le_add_left 1 _
      refine ⟨_, rfl, .inl ⟨rfl, _, SqL.of (sp _ _ eL)⟩, ?_⟩
      refine ⟨_, rfl, _, rfl, _, rfl, b, bn, rs.map V.str, M, rfl, B6.keep sp, by omega, sp _ _ (k6 _ _ hbb hbn), hbb, by rw [List.length_map]; exact hr1', by rw [List.length_map]; omega, fun vr H8 k8 B8 hvr => ⟨_, rfl, (by show 4 ≤ sizeLine; omega), fun p5 n5 => ?_⟩⟩
      obtain ⟨xr, hxr, rfl⟩ := strs_mem hvr
      have s5 := same_new n5 (.tup [.str "call", .str xb, .str xr, ve])
      have t8 : Tups H6 _ := B6.tups ((Kept.of sp).trans (k8.trans (.of s5)))
      obtain ⟨f1, f2, f3⟩ := fin (.ref p5) (.call xb xr e) _ ((Kept.of sp).trans (k8.trans (.of s5))) ((B8.keep s5).more (by omega)) (by unfold SgAt; exact ⟨p5, ve, rfl, upd_same, he.keep t8⟩)
        (by unfold Sg.ok; exact ⟨hxb, hxr, her⟩) (by unfold Sg.dp; omega) (by unfold Sg.tot; omega)
      exact ⟨L, vs, _, rfl, rfl, f1, f2, f3⟩
    · exact leaf3 D _ L z6 z7 z11 z12 z13 srt xb ve e M vs s0 s1 hxb (he.keep (Same.tups sp)) her (B6.keep sp) hM (k6.trans (.of sp)) hLb (sp _ _ eL) (fun v sg H9 k9 => fin v sg H9 ((Kept.of sp).trans k9))
  refine ⟨_, pss_cons (ps_par (i := 5) (j := 6) (by rfl) scSt.nd rfl rfl (by decide) rfl rfl (pa_cons (pe_lst pa_nil) (pa_cons (pe_D DT hr1 rfl (pa_cons (pv 0) (pa_cons pe_int pa_nil))) pa_nil)) (by rfl))
    (pss_cons (ps_for PassesOwn.never rfl (pi_range1 rfl mr (pa_cons (pe_D DT hr1 rfl (pa_cons (pv 0) (pa_cons (pe_ix ix_list (pe_lst (pa_cons pe_int (pa_cons pe_int (pa_cons pe_int pa_nil)))) (pv 4) (fun _ _ => rfl)) pa_nil))) pa_nil)) (pg_name (i := 7) scSt.nd rfl (Or.inl rfl))
      (pss_cons (ps_par3 (i := 8) (j := 9) (l := 10) (by rfl) scSt.nd rfl rfl rfl (by decide) (by decide) (by decide) rfl rfl rfl (pa_cons (pe_D DT hr1 rfl (pa_cons (pv 0) (pa_cons pe_int pa_nil))) (pa_cons (pe_D DO hr2 rfl (pa_cons (pv 0) (pa_cons (pv 1) pa_nil))) (pa_cons (pe_D DX hr9 rfl (pa_cons (pv 0) (pa_cons (pv 1) (pa_cons (pv 2) (pa_cons pe_int pa_nil))))) pa_nil))) (by rfl))
      (pss_one (ps_if (PW.pt (pw_and (pt_cmpR op_eq (pv 7) (pv 6) (nomark _)) (pw_and (pt_cmpR op_gt (pv 4) pe_int (nomark _)) (pw_and1 (pt_cmpR op_gt (pv 8) pe_int (nomark _))))))
        (pss_cons (ps_set (i := 11) scSt.nd rfl (Or.inl rfl) (pe_D DG hr rfl (pa_cons (pv 0) (pa_cons (pv 1) (pa_cons (pv 2) (pa_cons (pv 3) (pa_cons (pe_op op_sub (pv 4) pe_int) pa_nil)))))))
        (pss_cons (ps_set (i := 12) scSt.nd rfl (Or.inl rfl) (pe_D DG hr rfl (pa_cons (pv 0) (pa_cons (pv 1) (pa_cons (pv 2) (pa_cons (pv 3) (pa_cons (pe_op op_sub (pv 4) pe_int) pa_nil)))))))
        (pss_cons (ps_set (i := 13) scSt.nd rfl (Or.inl rfl) (pe_D DS hr17 rfl (pa_cons (pv 0) (pa_cons (pv 1) (pa_cons (pv 2) (pa_cons pe_int pa_nil))))))
        (pss_one (ps_expr (pe_bm PySem.F.plainAttrs_list PySem.F.slot_list_append PySem.F.type_list_append mt_append (pv 5) (pa_cons (pe_ix ix_list (pe_lst (pa_cons (pe_tup (pa_cons pe_str (pa_cons (pv 13) (pa_cons (pv 11) (pa_cons (pv 12) pa_nil)))))
          (pa_cons (pe_tup (pa_cons pe_str (pa_cons (pv 10) (pa_cons (pe_op op_add pe_int (pe_D DT hr1 rfl (pa_cons (pv 0) (pa_cons pe_int pa_nil)))) (pa_cons (pv 11) pa_nil))))) pa_nil))) (pe_op op_mod (pv 8) pe_int) (fun _ _ => rfl)) pa_nil)))))))
        ht2))))
    (pss_one (ps_ret (pe_callTy call_tuple_of rfl mt (by decide +kernel) (pa_cons (pv 5) pa_nil))))), ?_⟩
  refine ⟨(by show 0 ≤ sizeLine; omega), fun L nL => ⟨_, rfl, b, 3, m, rfl, hB.keep (same_new nL _), by omega, by decide, by decide, fun spot H1 k1 B1 sp0 sp3 => ⟨_, _, rfl, ?_⟩⟩⟩
  have bL : L ≠ b := hB.ne nL
  have eL1 : H1 L = some (.lst []) := k1 _ _ bL upd_same
  have k1 : Kept b H H1 := (Kept.new nL _).trans k1
  obtain ⟨tn, etn, tn1, tn5, etr⟩ := turns_at hd2
  refine ⟨_, rfl, (by show 3 ≤ sizeLine; omega), fun p3 n3 => ⟨_, rfl, p3, _, _, _, rfl, rfl, SqL.of upd_same, etn, ?_⟩⟩
  refine ⟨b, tn, m + 1, rfl, B1.keep (same_new n3 _), by omega, tn1, by omega, fun cnt H2 k2 B2 c0 c1 => ⟨cnt, rfl, by omega, by omega, ?_⟩⟩
  have k2 := (Kept.new n3 _).trans k2
  have eL2 : H2 L = some (.lst []) := k2 _ _ bL eL1
  have k2 : Kept b H H2 := k1.trans k2
  let Pv : Nat → L2.St → Hp → Prop := fun i σ Hc => ∃ (ss : List Sg) (vs : List V) (y7 y8 y9 y10 y11 y12 y13 : Option V),
    σ = [some (.ref b), some (.ref l), some (.int as), some (.ref bn), some (.int d), some (.ref L), some (.int spot), y7, y8, y9, y10, y11, y12, y13] ∧ Hc L = some (.lst vs) ∧ Paired (SgAt Hc) vs ss ∧ ss.length = i ∧
    (∀ sg ∈ ss, sg.ok xs (wsOf as) rs ∧ sg.dp ≤ d + 1) ∧ (ss.map Sg.tot).sum ≤ i + (if spot < i then 2 * inn d else 0) ∧ Bag Hc b (m + 2 + i * itc d) ∧ Kept b H Hc
  refine for_range (lo := 0) Pv ⟨[], [], none, none, none, none, none, none, none, rfl, eL2, .nil, rfl, (fun sg hg => by cases hg), Nat.zero_le _, B2.more (by omega), k2⟩ ?_ ?_
  · rintro i σ Hc hi ⟨ss, vs, y7, y8, y9, y10, y11, y12, y13, rfl, eL, hp, hlen, hok, htot, B3, k3⟩
    have hit := itc_fits (d := d) (r := i + 1) hd2 (by omega)
    rw [Nat.succ_mul] at hit
    have hlo := itc_lo d
    have hrr := rr_le d
    have hvs := paired_len hp
    -- one step more
    have fin : ∀ (v : V) (sg : Sg) (H9 : Hp), Kept b Hc H9 → Bag H9 b (m + 2 + i * itc d + itc d) → SgAt H9 v sg → sg.ok xs (wsOf as) rs → sg.dp ≤ d + 1 → sg.tot ≤ 1 + (if (0 : Int) + i = spot then 2 * inn d else 0) →
        H9 L = some (.lst vs) ∧ vs.length < sizeLine ∧ ∀ y7 y8 y9 y10 y11 y12 y13 : Option V, Pv (i + 1) [some (.ref b), some (.ref l), some (.int as), some (.ref bn), some (.int d), some (.ref L), some (.int spot), y7, y8, y9, y10, y11, y12, y13] (upd H9 L (.lst (vs ++ [v]))) := by
      intro v sg H9 k9 B9 hv o1 o2 o3
      have eL9 := k9 _ _ bL eL
      have t9 := B3.tups k9
      have tL : Tups H9 (upd H9 L (.lst (vs ++ [v]))) := fun a' ts ha => by
        rw [upd_ne (ne_of ha eL9 (by intro z; cases z))]
        exact ha
      refine ⟨eL9, by omega, fun z7 z8 z9 z10 z11 z12 z13 => ⟨ss ++ [sg], vs ++ [v], z7, z8, z9, z10, z11, z12, z13, rfl, upd_same, ?_, by rw [List.length_append, hlen]; rfl, fun g hg => ?_, ?_, ?_, ?_⟩⟩
      · exact paired_snoc (paired_imp (fun _ _ z => SgAt.keep tL _ (SgAt.keep t9 _ z)) hp) (SgAt.keep tL _ hv)
      · rcases List.mem_append.mp hg with hg | hg
        · exact hok g hg
        · rw [List.mem_singleton.mp hg]
          exact ⟨o1, o2⟩
      · rw [List.map_append, List.sum_append]
        show _ + (sg.tot + 0) ≤ _
        by_cases z : (0 : Int) + i = spot
        · rw [if_pos z] at o3
          rw [if_neg (by omega)] at htot
          rw [if_pos (by omega)]
          omega
        · rw [if_neg z] at o3
          by_cases z2 : spot < i
          · rw [if_pos z2] at htot
            rw [if_pos (by omega)]
            omega
          · rw [if_neg z2] at htot
            rw [if_neg (by omega)]
            omega
      · exact (B9.off bL _).more (by rw [Nat.succ_mul]; omega)
      · intro a' o' na ha
        rw [upd_ne (fun z => by rw [z, nL] at ha; cases ha)]
        exact k9 _ _ na (k3 _ _ na ha)
    generalize eN : i * itc d = N at *
    refine ⟨_, rfl, b, 10, m + 2 + N, rfl, B3, by omega, by decide, by decide, fun srt H4 k4 B4 s0 s1 => ?_⟩
    refine ⟨_, rfl, _, rfl, b, l, xs.map V.str, m + 2 + N + 1, rfl, B4, by omega, (k3.trans k4) _ _ hlb hl, hlb, by rw [List.length_map]; exact hx1, by rw [List.length_map]; omega, fun vb H5 k5 B5 hvb => ?_⟩
    obtain ⟨xb, hxb, rfl⟩ := strs_mem hvb
    refine ⟨_, rfl, _, rfl, _, rfl, b, l, 2, m + 2 + N + 1 + 1, xs, as, rfl, has, by decide, B5, by omega, (k3.trans (k4.trans k5)) _ _ hlb hl, hlb, hx8, fun ve ex0 H6 k6 B6 a1 a2 a3 => ⟨_, _, _, rfl, ?_⟩⟩
    rw [c2] at B6
    have her : ex0.right xs (wsOf as) := Ex.right_of a3 (by have : max 2 1 = 2 := rfl; omega)
    have kc6 : Kept b Hc H6 := k4.trans (k5.trans k6)
    have k6' : Kept b H H6 := k3.trans kc6
    have go : ∀ (D : Ends) (z6 z7 z11 z12 z13 : Option V), z6 = some (.int spot) → D.nx = Pv (i + 1) → t2 D [some (.ref b), some (.ref l), some (.int as), some (.ref bn), some (.int d), some (.ref L), z6, z7, some (.int srt), some (.str xb), some ve, z11, z12, z13] H6 := by
      intro D z6 z7 z11 z12 z13 e6 eD
      refine leaf D H6 L z6 z7 z11 z12 z13 srt xb ve ex0 (m + 2 + N + 1 + 1 + 35) vs s0 s1 hxb a1 her B6 (by omega) k6' bL (kc6 _ _ bL eL) (fun v sg H9 k9 B9 g1 g2 g3 g4 => ?_)
      obtain ⟨f1, f2, f3⟩ := fin v sg H9 (kc6.trans k9) (B9.more (by omega)) g1 g2 g3 (by omega)
      refine ⟨f1, f2, ?_⟩
      rw [eD, e6]
      exact f3 _ _ _ _ _ _ _
    refine ⟨_, rfl, _, rfl, rfl, _, rfl, itEq (fun e1 => ?_) (fun e1 => itF rfl (go _ _ _ _ _ _ rfl rfl))⟩
    refine ⟨_, rfl, _, _, rfl, rfl, _, rfl, itD (fun e2 => ?_) (fun e2 => itF rfl (go _ _ _ _ _ _ rfl rfl))⟩
    refine ⟨_, rfl, _, _, rfl, rfl, _, rfl, itD (fun e3 => ?_) (fun e3 => go _ _ _ _ _ _ rfl rfl)⟩
    obtain ⟨g, hg⟩ : ∃ g, d = g + 1 := ⟨d - 1, by omega⟩
    have hg1 : (d : Int) - 1 = (g : Int) := by omega
    have hig : itc d = 403 + 2 * cs g := by rw [hg]; rfl
    have hint : inn d = tt g := by rw [hg]; exact inn_tt (by omega)
    have htg : tt g ≤ 100 := by
      have := rr_le g
      unfold tt inn
      split <;> omega
    have hrg := rr_le g
    refine ⟨_, rfl, _, rfl, _, rfl, _, rfl, _, rfl, _, _, rfl, rfl, b, l, bn, g, m + 2 + N + 1 + 1 + 35, as, xs, rs, (by rw [← hg1]; rfl), has, by omega, by omega, B6, by omega, k6' _ _ hlb hl, hlb, hx1, hx8, k6' _ _ hbb hbn, hbb, hr8, hro, fun pA bA H7 k7 B7 atA okA => ?_⟩
    have k7' := k6'.trans k7
    refine ⟨_, rfl, _, rfl, _, rfl, _, rfl, _, rfl, _, _, rfl, rfl, b, l, bn, g, m + 2 + N + 1 + 1 + 35 + cs g, as, xs, rs, (by rw [← hg1]; rfl), has, by omega, by omega, B7, by omega, k7' _ _ hlb hl, hlb, hx1, hx8, k7' _ _ hbb hbn, hbb, hr8, hro, fun pB bB H8 k8 B8 atB okB => ?_⟩
    have k8' := k7'.trans k8
    refine ⟨_, rfl, _, rfl, _, rfl, b, l, 3, m + 2 + N + 1 + 1 + 35 + cs g + cs g, xs, as, rfl, has, by decide, by decide, by decide, B8, by omega, k8' _ _ hlb hl, hlb, hx8, fun vt tst H9 k9 B9 q1 q2 q3 => ?_⟩
    rw [tc3] at B9
    have k9' := k8'.trans k9
    have kc9 : Kept b Hc H9 := kc6.trans (k7.trans (k8.trans k9))
    have atA := (atA.keep (B7.tups k8)).keep (B8.tups k9)
    have atB := atB.keep (B8.tups k9)
    have a1 := ((a1.keep (B6.tups k7)).keep (B7.tups k8)).keep (B8.tups k9)
    have eL9 := kc9 _ _ bL eL
    refine ⟨_, rfl, .inl ⟨rfl, _, SqL.of eL9⟩, ?_⟩
    refine ⟨_, rfl, _, rfl, _, rfl, (by show 4 ≤ sizeLine; omega), fun p1 n1 => ?_⟩
    have s1' := same_new n1 (.tup [.str "if", vt, .ref pA, .ref pB])
    refine ⟨_, rfl, _, rfl, b, 3, m + 2 + N + 1 + 1 + 35 + cs g + cs g + 365, rfl, B9.keep s1', by omega, by decide, by decide, fun dm H10 k10 B10 dm0 dm3 => ⟨_, _, rfl, rfl, _, rfl, (by show 4 ≤ sizeLine; omega), fun p2 n2 => ⟨(by show 2 ≤ sizeLine; omega), fun p4 n4 => ?_⟩⟩⟩
    have s2' := same_new n2 (.tup [.str "for", ve, .int (1 + dm), .ref pA])
    have s4' := same_new n4 (.lst [.ref p1, .ref p2])
    have b1 : p1 ≠ b := B9.ne n1
    have e1' := s4' _ _ (s2' _ _ (k10 _ _ b1 (@upd_same H9 p1 (.tup [.str "if", vt, .ref pA, .ref pB]))))
    have e2' := s4' _ _ (@upd_same H10 p2 (.tup [.str "for", ve, .int (1 + dm), .ref pA]))
    have kA : Kept b H9 _ := (Kept.of s1').trans (k10.trans (.of (s2'.trans s4')))
    have tA : Tups H9 _ := B9.tups kA
    have BA := ((B10.keep s2').keep s4').more (show m + 2 + N + 1 + 1 + 35 + cs g + cs g + 365 + 1 ≤ m + 2 + N + itc d by omega)
    refine ⟨_, rfl, _, _, rfl, rfl, (by show (0 : Int) < 2; decide), ?_⟩
    obtain ⟨usA, uA1, uA2⟩ := atA.keep tA
    obtain ⟨usB, uB1, uB2⟩ := atB.keep tA
    have m0 : 0 ≤ srt % 2 := Int.emod_nonneg _ (by decide)
    have m1 : srt % 2 < 2 := Int.emod_lt_of_pos _ (by decide)
    rcases two_ix (x := V.ref p1) (y := V.ref p2) m0 m1 with e | e
    · obtain ⟨f1, f2, f3⟩ := fin (.ref p1) (.ifs tst bA bB) _ (kc9.trans kA) BA (by unfold SgAt; exact ⟨p1, vt, pA, pB, usA, usB, rfl, e1', q1.keep tA, uA1, uA2, uB1, uB2⟩)
        (by unfold Sg.ok; exact ⟨Ts.right_of q3 (by have : max 3 2 = 3 := rfl; omega), ⟨okA.ok, by have := okA.len; omega⟩, ⟨okB.ok, by have := okB.len; omega⟩⟩) (by have h1 := okA.dp; have h2 := okB.dp; unfold Sg.dp; omega)
        (by have h1 := okA.tot; have h2 := okB.tot; rw [if_pos e1]; unfold Sg.tot; omega)
      exact ⟨p4, _, _, _, rfl, rfl, SqL.of upd_same, e, L, vs, _, rfl, rfl, f1, f2, f3 _ _ _ _ _ _ _⟩
    · obtain ⟨f1, f2, f3⟩ := fin (.ref p2) (Sg.fors ex0 (1 + dm) bA) _ (kc9.trans kA) BA (by unfold SgAt; exact ⟨p2, ve, pA, usA, rfl, e2', a1.keep tA, uA1, uA2⟩)
        (by unfold Sg.ok; exact ⟨her, ⟨by omega, by omega⟩, ⟨okA.ok, by have := okA.len; omega⟩⟩) (by have h1 := okA.dp; unfold Sg.dp; omega)
        (by have h1 := okA.tot; rw [if_pos e1]; unfold Sg.tot; omega)
      exact ⟨p4, _, _, _, rfl, rfl, SqL.of upd_same, e, L, vs, _, rfl, rfl, f1, f2, f3 _ _ _ _ _ _ _⟩
  · rintro σ Hc ⟨ss, vs, y7, y8, y9, y10, y11, y12, y13, rfl, eL, hp, hlen, hok, htot, B3, k3⟩
    have hit := itc_fits (d := d) (r := cnt.toNat) hd2 (by omega)
    have hrr := rr_le d
    refine ⟨_, rfl, L, _, rfl, .inl ⟨SqL.of eL, fun p np => ?_⟩⟩
    have sp := same_new np (.tup vs)
    refine q p (Bd.of ss) _ (k3.trans (.of sp)) ((B3.keep sp).more (by omega)) ⟨vs, upd_same, of_at (paired_imp (fun _ _ z => SgAt.keep (Same.tups sp) _ z) hp)⟩ ⟨of_ok fun sg hg => (hok sg hg).1, by rw [of_len]; omega, of_dp fun sg hg => (hok sg hg).2, ?_⟩
    rw [of_tot]
    unfold tt
    split at htot <;> omega
/-- steps that stand within one another n deep -/
theorem all_steps_ {n : Nat} (mr : mg "range" = none) (mt : mg "tuple" = none) (N : Nd K mg "_law_steps" sSteps psSt) (DT : Df P w K mg base 1 "_law_take" ["_law_bag_here", "_law_many_here"] spTake) (DO : Df P w K mg base 2 "_law_of" ["_law_bag_here", "_law_some"] spOf)
    (DX : Df P w K mg base 9 "_law_expr" psE (spExpr 7)) (DS : Df P w K mg base 17 "_law_test" psE (spTest 8)) : Df P w K mg base (n + 18) "_law_steps" psSt (spSteps n) := by
  obtain ⟨f, fd, hm, F, hb⟩ := N
  induction n with
  | zero => exact ⟨f, fd, hm, F.kp, no_steps, hb⟩
  | succ n ih => exact ⟨f, fd, hm, F.kp, ok_steps mr mt F DT DO DX DS ih, hb⟩
end
end Any
set_option pp.maxSteps 600
namespace Any
open L2 PySem PySem.Spec PyProof.Rows LamX NdefX
/-! ### _law_group -/
def CrL (H : Hp) (C : Addr) (cr : List (Str × Int × Int)) : Prop := ∃ as : List Addr, H C = some (.lst (as.map V.ref)) ∧ Paired (fun (a : Addr) (x : Str × Int × Int) => H a = some (.tup [.str x.1, .int x.2.1, .int x.2.2])) as cr
def TsL (H : Hp) (S : Addr) (ts : List Ts) : Prop := ∃ vs, H S = some (.lst vs) ∧ Paired (TsAt H) vs ts
def SgL (H : Hp) (L : Addr) (ss : List Sg) : Prop := ∃ vs, H L = some (.lst vs) ∧ Paired (SgAt H) vs ss
/-- names of rooms, each with a number -/
def LowsAt (H : Hp) (l : Addr) (ls : List (Str × Int)) : Prop := ∃ as : List Addr, H l = some (.lst (as.map V.ref)) ∧ Paired (fun (a : Addr) (x : Str × Int) => H a = some (.tup [.str x.1, .int x.2])) as ls
theorem CrL.keep {H H' : Hp} (s : Same H H') {C : Addr} {cr : List (Str × Int × Int)} (h : CrL H C cr) : CrL H' C cr := by
  obtain ⟨as, h1, h2⟩ := h
  exact ⟨as, s _ _ h1, paired_imp (fun _ _ z => s _ _ z) h2⟩
theorem TsL.keep {H H' : Hp} (s : Same H H') {C : Addr} {ts : List Ts} (h : TsL H C ts) : TsL H' C ts := by
  obtain ⟨vs, h1, h2⟩ := h
  exact ⟨vs, s _ _ h1, paired_imp (fun _ _ z => z.keep (Same.tups s)) h2⟩
theorem SgL.keep {H H' : Hp} (s : Same H H') {C : Addr} {ss : List Sg} (h : SgL H C ss) : SgL H' C ss := by
  obtain ⟨vs, h1, h2⟩ := h
  exact ⟨vs, s _ _ h1, paired_imp (fun _ g z => SgAt.keep (Same.tups s) g z) h2⟩
/-- a saying that is no test of a number alone -/
def Ts.lb : Ts → Prop
  | .is (.num _) _ => False
  | _ => True
/-- what a group is like, of these names -/
structure GrpOk (names : List Str) (a : Nat) (rs : List Str) (cr : List (Str × Int × Int)) (ts : List Ts) (ss : List Sg) : Prop where
  one : 1 ≤ cr.length
  nm : cr.map (·.1) = names.take cr.length
  crate : ∀ c ∈ cr, (1 ≤ c.2.1 ∧ c.2.1 ≤ 40) ∧ (0 ≤ c.2.2 ∧ c.2.2 ≤ c.2.1 - 1)
  tl : ts.length ≤ 1
  tr : ∀ t ∈ ts, ∀ xs : List Str, (∀ x ∈ names, x ∈ xs) → t.right xs []
  tv : ∀ t ∈ ts, ∀ kvs : List (Str × Int), (∀ c ∈ cr, look kvs c.1 = some c.2.2) → t.val kvs 0 0 = true
  tb : ∀ t ∈ ts, t.lb
  sl : ss.length ≤ 1
  so : ∀ s ∈ ss, (∀ xs : List Str, (∀ x ∈ names, x ∈ xs) → s.ok xs (wsOf a) rs) ∧ s.dp ≤ 1 ∧ s.tot ≤ 1
def spGroup : Sp := fun vs H Q _ => ∃ (b l lw : Addr) (m a : Nat) (lots : Int) (xs : List Str) (ls : List (Str × Int)), vs = [.ref b, .ref l, .int a, .ref lw, .int lots] ∧ a ≤ 1 ∧ Bag H b m ∧ m + 200 < 2 ^ 40 ∧ H l = some (.lst (xs.map V.str)) ∧ l ≠ b ∧ 1 ≤ xs.length ∧ xs.length ≤ 8 ∧
  LowsAt H lw ls ∧ lw ≠ b ∧ ls.length ≤ 8 ∧ (∀ z ∈ ls, PyData.strOk z.1 = true) ∧
  ∀ (p C S L : Addr) (cr : List (Str × Int × Int)) (ts : List Ts) (ss : List Sg) (H' : Hp), Kept b H H' → Bag H' b (m + 200) → H' p = some (.tup [.ref C, .ref S, .ref L]) → CrL H' C cr → TsL H' S ts → SgL H' L ss → GrpOk xs a (ls.map (·.1)) cr ts ss → Q (.ref p) H'
abbrev sGroup : Stmt := top 76
abbrev psGr : List Str := ["_law_bag_here", "_law_names", "_law_asks", "_law_lows", "_law_lots"]
abbrev nmGr0 : List Str := ["_law_bag_here", "_law_names", "_law_asks", "_law_lows", "_law_lots", "_law_sort", "_law_most", "_law_term", "_law_first", "_law_one", "_law_least", "_law_fits", "_law_last", "_law_other_here", "_law_crates"]
abbrev nmGr : List Str := ["_law_bag_here", "_law_names", "_law_asks", "_law_lows", "_law_lots", "_law_sort", "_law_most", "_law_term", "_law_first", "_law_one", "_law_least", "_law_fits", "_law_last", "_law_other_here", "_law_crates", "_law_name", "_law_bound"]
theorem scGr : FnScope nmGr psGr (defScope sGroup) := ⟨rfl, rfl, rfl, by decide +kernel, rfl, by decide +kernel, by decide +kernel⟩
theorem Ex.fit_more {xs ys ws : List Str} (h : ∀ x ∈ xs, x ∈ ys) : ∀ {e : Ex}, e.fit xs ws → e.fit ys ws
  | .num _, z => z
  | .box x, z => h x z
  | .asked, z => z
  | .told, z => z
  | .op _ l r, z => ⟨Ex.fit_more h (e := l) z.1, Ex.fit_more h (e := r) z.2⟩
theorem fits_fm (m : Int) : ∀ ls : List (Str × Int), ∃ ns : List Str, (ls.map fun z => if 0 < z.2 ∧ z.2 ≤ m then some (V.str z.1) else none).filterMap id = ns.map V.str ∧ (∀ x ∈ ns, x ∈ ls.map (·.1)) ∧ ns.length ≤ ls.length
  | [] => ⟨[], rfl, (fun x h => h), Nat.le_refl _⟩
  | z :: r => by
    obtain ⟨ns, h1, h2, h3⟩ := fits_fm m r
    by_cases c : 0 < z.2 ∧ z.2 ≤ m
    · refine ⟨z.1 :: ns, ?_, fun x hx => ?_, Nat.succ_le_succ h3⟩
      · rw [List.map_cons, List.filterMap_cons, if_pos c, h1]
        rfl
      · rcases List.mem_cons.mp hx with e | hx
        · rw [e]
          exact List.mem_cons_self ..
        · exact List.mem_cons_of_mem _ (h2 x hx)
    · refine ⟨ns, ?_, fun x hx => List.mem_cons_of_mem _ (h2 x hx), Nat.le_succ_of_le h3⟩
      rw [List.map_cons, List.filterMap_cons, if_neg c, h1]
      rfl
theorem cut_any (xs : List V) (i : Nat) : cutV xs none (some (i : Int)) = xs.take i := by
  unfold cutV
  rw [HT.sIx_none, HT.sIx_nat, List.drop_zero, Nat.sub_zero]
  by_cases h : i ≤ xs.length
  · rw [Nat.min_eq_left h]
  · rw [Nat.min_eq_right (by omega), List.take_of_length_le (Nat.le_refl _), List.take_of_length_le (by omega)]
theorem int37 (lots : Int) : ∃ z : Int, atI [V.int 3, V.int 7] (if decide (lots > 2) = true then 1 else 0) = some (.int z) ∧ 3 ≤ z ∧ z ≤ 7 := by
  by_cases h : lots > 2
  · rw [decide_eq_true h]
    exact ⟨7, rfl, by decide, by decide⟩
  · rw [decide_eq_false h]
    exact ⟨3, rfl, by decide, by decide⟩
section
variable {P : Program} {w : World} {K : PySem.W.Frag} {mg : Str → Option Value} {base : Heap} {f : Addr} {fd : FuncData}
set_option maxHeartbeats 10000000 in
theorem ok_group (O : Own mg) (F : Fun K "_law_group" "_law_group" sGroup f fd) (DT : Df P w K mg base 1 "_law_take" ["_law_bag_here", "_law_many_here"] spTake) (DO : Df P w K mg base 2 "_law_of" ["_law_bag_here", "_law_some"] spOf)
    (DX : Df P w K mg base 9 "_law_expr" psE (spExpr 7)) : FnOk P w K mg base CX0 10 f fd psGr spGroup := by
  refine F.ok scGr (fun vs H Q E h => ?_) (fun cdv A outer s H vs Q E hr h => ?_)
  · obtain ⟨b, l, lw, m, a, lots, xs, ls, rfl, _⟩ := h
    rfl
  obtain ⟨b, l, lw, m, as, lots, xs, ls, rfl, has, hB, hm, hl, hlb, hx1, hx8, ⟨ws, hw, hp⟩, hwb, hw8, hwo, q⟩ := h
  have hr1 := hr.mono (show 1 ≤ 9 by omega)
  have hr2 := hr.mono (show 2 ≤ 9 by omega)
  have hs : sizeLine = 16777216 := sizeLine_eq
  have c2 : ce 2 = 35 := rfl
  obtain ⟨n0, rest, rfl⟩ : ∃ n0 rest, xs = n0 :: rest := by
    cases xs with
    | nil => simp at hx1
    | cons x r => exact ⟨x, r, rfl⟩
  obtain ⟨tR, htR, leafR⟩ : ∃ tR, PSs (cxOf CX0 P w K mg base nmGr "_law_group" (defScope sGroup) f cdv A outer s H E).nox ((ifBody (stAt (defBody sGroup) 3)).drop 4) tR ∧
      ∀ (D : Ends) (H9 : Hp) (srt most frst : Int) (ve : V) (po : Addr) (z11 z13 z14 z15 z16 : Option V) (lv : V) (sg : Sg) (M : Nat), D.rt = Q → Kept b H H9 → Bag H9 b M → M + 1 ≤ m + 200 → 0 ≤ frst → frst < most → 2 ≤ most → most ≤ 9 → H9 po = some (.tup [.str "box", .str n0]) → SgAt H9 lv sg →
        ((∀ xs : List Str, (∀ x ∈ n0 :: rest, x ∈ xs) → sg.ok xs (wsOf as) (ls.map (·.1))) ∧ sg.dp ≤ 1 ∧ sg.tot ≤ 1) →
        tR D [some (.ref b), some (.ref l), some (.int as), some (.ref lw), some (.int lots), some (.int srt), some (.int most), some ve, some (.int frst), some (.ref po), some (.int (frst + 1)), z11, some lv, z13, z14, z15, z16] H9 := by
    refine ⟨_, (pss_one (ps_ret (pe_tup (pa_cons (pe_lst (pa_cons (pe_tup (pa_cons (pe_ix ix_list (pv 1) pe_int (fun _ _ => rfl)) (pa_cons (pv 6) (pa_cons (pe_D DT hr1 rfl (pa_cons (pv 0) (pa_cons (pv 10) pa_nil))) pa_nil)))) pa_nil))
        (pa_cons (pe_lst (pa_cons (pe_tup (pa_cons pe_str (pa_cons (pv 9) (pa_cons (pe_tup (pa_cons pe_str (pa_cons (pv 10) pa_nil))) pa_nil)))) pa_nil)) (pa_cons (pe_lst (pa_cons (pv 12) pa_nil)) pa_nil)))))), ?_⟩
    intro D H9 srt most frst ve po z11 z13 z14 z15 z16 lv sg M eD k9 B9 hM f0 f1 m2 m8 epo hlv hsg
    refine ⟨_, rfl, l, _, _, _, rfl, rfl, SqL.of (k9 _ _ hlb hl), atI_nat (j := 0) rfl, _, rfl, _, rfl, _, rfl, b, frst + 1, M, rfl, B9, by omega, by omega, by omega, fun d H10 k10 B10 d0 d1 => ?_⟩
    refine ⟨(by show 3 ≤ sizeLine; omega), fun p1 n1 => ⟨(by show 1 ≤ sizeLine; omega), fun p2 n2 => ⟨_, rfl, _, rfl, (by show 2 ≤ sizeLine; omega), fun p3 n3 => ⟨(by show 3 ≤ sizeLine; omega), fun p4 n4 => ⟨(by show 1 ≤ sizeLine; omega), fun p5 n5 => ⟨_, rfl, (by show 1 ≤ sizeLine; omega), fun p6 n6 => ⟨(by show 3 ≤ sizeLine; omega), fun p7 n7 => ?_⟩⟩⟩⟩⟩⟩⟩
    rw [eD]
    have s1 := same_new n1 (.tup [.str n0, .int most, .int d])
    have s2 := same_new n2 (.lst [.ref p1])
    have s3 := same_new n3 (.tup [.str "number", .int (frst + 1)])
    have s4 := same_new n4 (.tup [.str "below", .ref po, .ref p3])
    have s5 := same_new n5 (.lst [.ref p4])
    have s6 := same_new n6 (.lst [lv])
    have s7 := same_new n7 (.tup [.ref p2, .ref p5, .ref p6])
    have s67 := s6.trans s7
    have s57 := s5.trans s67
    have s47 := s4.trans s57
    have s37 := s3.trans s47
    have s27 := s2.trans s37
    have s17 := s1.trans s27
    have e1 := s27 p1 _ upd_same
    have e2 := s37 p2 _ upd_same
    have e3 := s47 p3 _ upd_same
    have e4 := s57 p4 _ upd_same
    have e5 := s67 p5 _ upd_same
    have e6 := s7 p6 _ upd_same
    have t10 := B9.tups k10
    have epo := s17 _ _ (t10 _ _ epo)
    refine q p7 p2 p5 p6 [(n0, most, d)] [.bel (.box n0) (.num (frst + 1))] [sg] _ (k9.trans (k10.trans (.of s17))) ((B10.keep s17).more (by omega)) upd_same ⟨[p1], e2, .cons e1 .nil⟩ ⟨[.ref p4], e5, .cons (.bel e4 (.box epo) (.num e3)) .nil⟩ ⟨[lv], e6, .cons (SgAt.keep (Same.tups s17) _ (SgAt.keep t10 _ hlv)) .nil⟩ ?_
    refine ⟨Nat.le_refl _, rfl, fun c hc => ?_, Nat.le_refl _, fun t ht xs hxs => ?_, fun t ht kvs hk => ?_, (fun t ht => by rw [List.mem_singleton.mp ht]; trivial), Nat.le_refl _, fun g hg => ?_⟩
    · rw [List.mem_singleton.mp hc]
      exact ⟨⟨by show 1 ≤ most; omega, by show most ≤ 40; omega⟩, d0, by show d ≤ most - 1; omega⟩
    · rw [List.mem_singleton.mp ht]
      exact Ts.right_of ⟨hxs n0 (List.mem_cons_self ..), (by show 0 ≤ frst + 1; omega), (by show frst + 1 ≤ 999; omega)⟩ (by show max 1 1 + 1 ≤ 4; decide)
    · rw [List.mem_singleton.mp ht]
      have z := hk (n0, most, d) (List.mem_singleton.mpr rfl)
      show decide ((look kvs n0).getD 0 < frst + 1) = true
      rw [z]
      exact decide_eq_true d1
    · rw [List.mem_singleton.mp hg]
      exact hsg
  obtain ⟨tS, htS, leafS⟩ : ∃ tS, PSs (cxOf CX0 P w K mg base nmGr "_law_group" (defScope sGroup) f cdv A outer s H E).nox (ifBody (stAt (defBody sGroup) 4)) tS ∧
      ∀ (D : Ends) (H9 : Hp) (srt most frst : Int) (v7 v9 : V) (z10 z11 z12 z13 z14 z15 z16 : Option V) (M : Nat), D.rt = Q → Kept b H H9 → Bag H9 b M → M ≤ m + 200 → 0 ≤ frst → frst < most → 2 ≤ most → most ≤ 9 →
        tS D [some (.ref b), some (.ref l), some (.int as), some (.ref lw), some (.int lots), some (.int srt), some (.int most), some v7, some (.int frst), some v9, z10, z11, z12, z13, z14, z15, z16] H9 := by
    refine ⟨_, (pss_one (ps_ret (pe_tup (pa_cons (pe_lst (pa_cons (pe_tup (pa_cons (pe_ix ix_list (pv 1) pe_int (fun _ _ => rfl)) (pa_cons (pv 6) (pa_cons (pv 8) pa_nil)))) pa_nil)) (pa_cons (pe_lst pa_nil) (pa_cons (pe_lst pa_nil) pa_nil)))))), ?_⟩
    intro D H9 srt most frst v7 v9 z10 z11 z12 z13 z14 z15 z16 M eD k9 B9 hM f0 f1 m2 m8
    refine ⟨_, rfl, l, _, _, _, rfl, rfl, SqL.of (k9 _ _ hlb hl), atI_nat (j := 0) rfl, _, rfl, _, rfl, (by show 3 ≤ sizeLine; omega), fun p1 n1 => ⟨(by show 1 ≤ sizeLine; omega), fun p2 n2 => ⟨(by show 0 ≤ sizeLine; omega), fun p5 n5 => ⟨(by show 0 ≤ sizeLine; omega), fun p6 n6 => ⟨(by show 3 ≤ sizeLine; omega), fun p7 n7 => ?_⟩⟩⟩⟩⟩
    rw [eD]
    have s1 := same_new n1 (.tup [.str n0, .int most, .int frst])
    have s2 := same_new n2 (.lst [.ref p1])
    have s5 := same_new n5 (.lst [])
    have s6 := same_new n6 (.lst [])
    have s7 := same_new n7 (.tup [.ref p2, .ref p5, .ref p6])
    have s67 := s6.trans s7
    have s57 := s5.trans s67
    have s27 := s2.trans s57
    have s17 := s1.trans s27
    have e1 := s27 p1 _ upd_same
    have e2 := s57 p2 _ upd_same
    have e5 := s67 p5 _ upd_same
    have e6 := s7 p6 _ upd_same
    refine q p7 p2 p5 p6 [(n0, most, frst)] [] [] _ (k9.trans (.of s17)) ((B9.keep s17).more (by omega)) upd_same ⟨[p1], e2, .cons e1 .nil⟩ ⟨[], e5, .nil⟩ ⟨[], e6, .nil⟩ ?_
    refine ⟨Nat.le_refl _, rfl, fun c hc => ?_, Nat.zero_le _, (fun t ht => by cases ht), (fun t ht => by cases ht), (fun t ht => by cases ht), Nat.zero_le _, (fun g hg => by cases hg)⟩
    rw [List.mem_singleton.mp hc]
    exact ⟨⟨by show 1 ≤ most; omega, by show most ≤ 40; omega⟩, f0, by show frst ≤ most - 1; omega⟩
  refine ⟨_, pss_cons (ps_par (i := 5) (j := 6) (by rfl) scGr.nd rfl rfl (by decide) rfl rfl (pa_cons (pe_D DT hr1 rfl (pa_cons (pv 0) (pa_cons pe_int pa_nil))) (pa_cons (pe_op op_add pe_int (pe_D DT hr1 rfl (pa_cons (pv 0) (pa_cons (pe_ix ix_list (pe_lst (pa_cons pe_int (pa_cons pe_int pa_nil))) (pe_callTy call_int1 rfl O.int (by decide +kernel) (pa_cons (pe_cmpR op_gt (pv 4) pe_int (nomark _)) pa_nil)) (fun _ _ => rfl)) pa_nil)))) pa_nil)) (by rfl))
    (pss_cons (ps_set (i := 7) scGr.nd rfl (Or.inl rfl) (pe_D DX hr rfl (pa_cons (pv 0) (pa_cons (pe_slice sl_list (pv 1) po_none (po_some pe_int)) (pa_cons (pv 2) (pa_cons pe_int pa_nil))))))
    (pss_cons (ps_par (i := 8) (j := 9) (by rfl) scGr.nd rfl rfl (by decide) rfl rfl (pa_cons (pe_D DT hr1 rfl (pa_cons (pv 0) (pa_cons (pv 6) pa_nil))) (pa_cons (pe_tup (pa_cons pe_str (pa_cons (pe_ix ix_list (pv 1) pe_int (fun _ _ => rfl)) pa_nil))) pa_nil)) (by rfl))
    (pss_cons (ps_if (pt_cmpR op_lt (pv 5) pe_int (nomark _))
      (pss_cons (ps_set (i := 10) scGr.nd rfl (Or.inr rfl) (pe_op op_add (pv 8) pe_int))
      (pss_cons (ps_setLc (i := 11) (own := [("_law_name", 15), ("_law_bound", 16)]) (g := gTup K 2 (gCons (gName 15) (gCons (gName 16) gNil))) (by rfl) scGr.nd rfl rfl (sw_true rfl rfl rfl (by decide +kernel)) (pi_list (pv 3)) (blkOk_by (N := nmGr) (sc := defScope sGroup) (by decide +kernel))
          (fun _ _ _ _ _ => pg_tup rfl (pgs_cons (pg_name (i := 15) scGr.nd rfl (Or.inl rfl)) (pgs_cons (pg_name (i := 16) scGr.nd rfl (Or.inl rfl)) pgs_nil))) (fun _ _ _ _ _ => pts_one (pt_chain op_lt op_le pe_int (pv 16) (pv 10))) (fun _ _ _ _ _ => pv 15))
      (pss_cons (ps_set (i := 12) scGr.nd rfl (Or.inl rfl) (pe_tup (pa_cons pe_str (pa_cons (pe_ix ix_list (pv 1) pe_int (fun _ _ => rfl)) (pa_cons (pe_tup (pa_cons pe_str (pa_cons (pv 7) (pa_cons (pe_tup (pa_cons pe_str (pa_cons (pv 10) pa_nil))) pa_nil)))) pa_nil)))))
      (pss_cons (ps_if (PW.pt (pw_and (pt_cmpR (op_neD hr.units) (pv 11) (pe_lst pa_nil) (nomark _)) (pw_and1 (pt_cmpR op_eq (pv 5) pe_int (nomark _)))))
        (pss_one (ps_set (i := 12) scGr.nd rfl (Or.inl rfl) (pe_tup (pa_cons pe_str (pa_cons (pe_ix ix_list (pv 1) pe_int (fun _ _ => rfl)) (pa_cons (pe_D DO hr2 rfl (pa_cons (pv 0) (pa_cons (pv 11) pa_nil))) (pa_cons (pv 7) pa_nil))))))) pss_nil)
      htR)))) pss_nil)
    (pss_cons (ps_if (PW.pt (pw_or (pt_cmpR op_eq (pv 5) pe_int (nomark _)) (pw_or1 (pt_cmpR op_lt (pe_callB call_len_seq rfl O.len PySem.boot_len (pa_cons (pv 1) pa_nil)) pe_int (nomark _)))))
      htS pss_nil)
    (pss_cons (ps_asg (pe_tup (pa_cons (pe_tup (pa_cons pe_str (pa_cons (pe_ix ix_list (pv 1) pe_int (fun _ _ => rfl)) pa_nil))) (pa_cons (pe_op op_sub (pv 6) pe_int) pa_nil))) (pg_tup rfl (pgs_cons (pg_name (i := 13) scGr.nd rfl (Or.inl rfl)) (pgs_cons (pg_name (i := 10) scGr.nd rfl (Or.inr rfl)) pgs_nil))))
    (pss_cons (ps_if (pt_cmpR op_eq (pv 5) pe_int (nomark _))
      (pss_one (ps_ret (pe_tup (pa_cons (pe_lst (pa_cons (pe_tup (pa_cons (pe_ix ix_list (pv 1) pe_int (fun _ _ => rfl)) (pa_cons (pv 6) (pa_cons (pv 8) pa_nil)))) (pa_cons (pe_tup (pa_cons (pe_ix ix_list (pv 1) pe_int (fun _ _ => rfl)) (pa_cons (pv 6) (pa_cons (pv 8) pa_nil)))) pa_nil)))
        (pa_cons (pe_lst (pa_cons (pe_tup (pa_cons pe_str (pa_cons (pv 9) (pa_cons (pv 13) pa_nil)))) pa_nil)) (pa_cons (pe_lst (pa_cons (pe_tup (pa_cons pe_str (pa_cons (pe_ix ix_list (pv 1) pe_int (fun _ _ => rfl)) (pa_cons (pv 9) pa_nil)))) pa_nil)) pa_nil)))))) pss_nil)
    (pss_cons (ps_set (i := 14) scGr.nd rfl (Or.inl rfl) (pe_lst (pa_cons (pe_tup (pa_cons (pe_ix ix_list (pv 1) pe_int (fun _ _ => rfl)) (pa_cons (pv 6) (pa_cons (pv 8) pa_nil)))) (pa_cons (pe_tup (pa_cons (pe_ix ix_list (pv 1) pe_int (fun _ _ => rfl)) (pa_cons (pv 6) (pa_cons (pe_op op_sub (pv 10) (pv 8)) pa_nil)))) pa_nil))))
    (pss_cons (ps_set (i := 12) scGr.nd rfl (Or.inl rfl) (pe_tup (pa_cons pe_str (pa_cons (pe_ix ix_list (pv 1) pe_int (fun _ _ => rfl)) (pa_cons (pe_tup (pa_cons pe_str (pa_cons (pe_tup (pa_cons pe_str (pa_cons (pv 10) pa_nil))) (pa_cons (pv 9) pa_nil)))) pa_nil)))))
    (pss_one (ps_ret (pe_tup (pa_cons (pv 14) (pa_cons (pe_lst (pa_cons (pe_tup (pa_cons pe_str (pa_cons (pe_tup (pa_cons pe_str (pa_cons (pv 9) (pa_cons (pv 13) pa_nil)))) (pa_cons (pe_tup (pa_cons pe_str (pa_cons (pv 10) pa_nil))) pa_nil)))) pa_nil)) (pa_cons (pe_lst (pa_cons (pv 12) pa_nil)) pa_nil)))))))))))))), ?_⟩
  obtain ⟨z, ez, z3, z7⟩ := int37 lots
  refine ⟨_, rfl, b, 5, m, rfl, hB, by omega, by decide, by decide, fun srt H1 k1 B1 s0 s5 => ?_⟩
  refine ⟨_, rfl, (by show 2 ≤ sizeLine; omega), fun p2 n2 => ⟨_, rfl, _, _, rfl, rfl, .inr ⟨_, rfl, p2, _, _, _, rfl, rfl, SqL.of upd_same, ez, b, z, m + 1, rfl, B1.keep (same_new n2 _), by omega, by omega, by omega, fun d2 H2 k2 B2 d20 d21 => ⟨_, _, rfl, rfl, _, _, rfl, ?_⟩⟩⟩⟩
  have k2 : Kept b H H2 := k1.trans ((Kept.new n2 _).trans k2)
  have m2 : 2 ≤ 2 + d2 := by omega
  have m8 : 2 + d2 ≤ 9 := by omega
  refine ⟨_, rfl, _, rfl, 2, rfl, l, _, rfl, SqL.of (k2 _ _ hlb hl), fun p3 n3 => ?_⟩
  have ecut : cutV ((n0 :: rest).map V.str) none (some 2) = ((n0 :: rest).take 2).map V.str := by
    rw [List.map_take]
    exact cut_any _ 2
  have sp3 := same_new n3 (.lst (cutV ((n0 :: rest).map V.str) none (some 2)))
  refine ⟨_, rfl, b, p3, 2, m + 1 + 1, (n0 :: rest).take 2, as, rfl, has, by decide, B2.keep sp3, by omega, by rw [upd_same, ecut], B2.ne n3, by rw [List.length_take]; omega, fun ve ex0 H3 k3 B3 a1 a2 a3 => ?_⟩
  rw [c2] at B3
  have k3 : Kept b H H3 := k2.trans ((Kept.of sp3).trans k3)
  have a2 : ex0.deep ≤ 2 := a2
  have hfit : ∀ ys : List Str, (∀ x ∈ n0 :: rest, x ∈ ys) → ex0.fit ys (wsOf as) := fun ys hys => Ex.fit_more (fun x hx => hys x (List.mem_of_mem_take hx)) a3
  refine ⟨_, rfl, _, rfl, b, (2 + d2), m + 1 + 1 + 35, rfl, B3, by omega, by omega, by omega, fun frst H4 k4 B4 f0 f1 => ?_⟩
  have k4' : Kept b H H4 := k3.trans k4
  refine ⟨_, rfl, l, _, _, _, rfl, rfl, SqL.of (k4' _ _ hlb hl), atI_nat (j := 0) rfl, (by show 2 ≤ sizeLine; omega), fun po no => ⟨_, _, rfl, ?_⟩⟩
  have so := same_new no (.tup [.str "box", .str n0])
  have k5 : Kept b H _ := k4'.trans (.of so)
  have B5 := B4.keep so
  have epo := @upd_same H4 po (.tup [.str "box", .str n0])
  have a1 := (a1.keep (B3.tups k4)).keep (Same.tups so)
  generalize upd H4 po (.tup [.str "box", .str n0]) = H5 at *
  refine ⟨_, rfl, _, _, rfl, rfl, _, rfl, itD (fun c1 => ?_) (fun c1 => ?_)⟩
  · -- a saying of one box
    refine ⟨_, rfl, _, _, rfl, rfl, ?_⟩
    have hw5 := k5 _ _ hwb hw
    have tw5 : Tups H H5 := hB.tups k5
    have hlp := paired_len hp
    refine ⟨_, rfl, lw, rfl, ⟨_, SqL.of hw5⟩, fun D nD => ?_⟩
    refine turns_list (K := K) (a := lw) (xs := ws.map V.ref) (ls.map fun z => if 0 < z.2 ∧ z.2 ≤ frst + 1 then some (V.str z.1) else none) nD (fun Hc sm => SqL.of (sm _ _ hw5)) (by rw [List.length_map, List.length_map]; exact hlp.symm) (by rw [List.length_map]; omega) ?_ ?_
    · intro i v o Hc Y N hv ho sm hY hN
      obtain ⟨e, he, rfl⟩ := refs_at hv
      obtain ⟨zz, hzz, hat⟩ := paired_get hp he
      rw [List.getElem?_map, hzz] at ho
      have ho : o = if 0 < zz.2 ∧ zz.2 ≤ frst + 1 then some (V.str zz.1) else none := (Option.some.inj ho).symm
      refine ⟨e, _, rfl, SqT.of (sm _ _ (tw5 _ _ hat)), rfl, _, _, rfl, _, _, rfl, rfl, rfl, _, rfl, _, _, rfl, rfl, _, rfl, itD (fun c2 => ⟨_, rfl, _, _, rfl, rfl, _, rfl, itD (fun c3 => ?_) (fun c3 => ?_)⟩) (fun c2 => ⟨_, rfl, itF rfl ?_⟩)⟩
      · rw [if_pos ⟨c2, c3⟩] at ho
        exact ⟨_, rfl, hY _ ho Hc same_refl⟩
      · rw [if_neg (fun z => c3 z.2)] at ho
        exact hN ho Hc same_refl
      · rw [if_neg (fun z => c2 z.1)] at ho
        exact hN ho Hc same_refl
    · intro H6 hD6 s6
      obtain ⟨ns, e1, e2, e3⟩ := fits_fm (frst + 1) ls
      rw [e1] at hD6
      have k6 := k5.trans (.of s6)
      refine ⟨_, rfl, l, _, _, _, rfl, rfl, SqL.of (k6 _ _ hlb hl), atI_nat (j := 0) rfl, _, rfl, _, rfl, (by show 2 ≤ sizeLine; omega), fun q1 m1 => ⟨(by show 3 ≤ sizeLine; omega), fun q2 m2' => ⟨(by show 3 ≤ sizeLine; omega), fun q3 m3 => ?_⟩⟩⟩
      have t1 := same_new m1 (.tup [.str "number", .int (frst + 1)])
      have t2 := same_new m2' (.tup [.str "rest", ve, .ref q1])
      have t3 := same_new m3 (.tup [.str "set", .str n0, .ref q2])
      have t23 := t2.trans t3
      have t13 := t1.trans t23
      have g1 := t23 q1 _ upd_same
      have g2 := t3 q2 _ upd_same
      have g3 := @upd_same (upd (upd H6 q1 (.tup [.str "number", .int (frst + 1)])) q2 (.tup [.str "rest", ve, .ref q1])) q3 (.tup [.str "set", .str n0, .ref q2])
      have k7 := k6.trans (.of t13)
      have B7 := (B5.keep s6).keep t13
      have a7 := (a1.keep (Same.tups s6)).keep (Same.tups t13)
      have p7 := t13 _ _ (s6 _ _ epo)
      have d7 := t13 _ _ hD6
      clear t1 t2 t3 t23 t13
      generalize upd (upd (upd H6 q1 (.tup [.str "number", .int (frst + 1)])) q2 (.tup [.str "rest", ve, .ref q1])) q3 (.tup [.str "set", .str n0, .ref q2]) = H7 at *
      have rsg : SgAt H7 (.ref q3) (.set n0 (.op .rest ex0 (.num (frst + 1)))) := by
        unfold SgAt
        exact ⟨q3, .ref q2, rfl, g3, .op (d := .rest) g2 a7 (.num g1)⟩
      have rok : (∀ xs : List Str, (∀ x ∈ n0 :: rest, x ∈ xs) → Sg.ok xs (wsOf as) (ls.map (·.1)) (.set n0 (.op .rest ex0 (.num (frst + 1))))) ∧ Sg.dp (.set n0 (.op .rest ex0 (.num (frst + 1)))) ≤ 1 ∧ Sg.tot (.set n0 (.op .rest ex0 (.num (frst + 1)))) ≤ 1 := by
        refine ⟨fun ys hys => ?_, by unfold Sg.dp; omega, by unfold Sg.tot; omega⟩
        unfold Sg.ok
        exact ⟨hys n0 (List.mem_cons_self ..), Ex.right_of ⟨hfit ys hys, (by show 0 ≤ frst + 1; omega), (by show frst + 1 ≤ 999; omega)⟩ (by show max ex0.deep 1 + 1 ≤ 4; omega)⟩
      refine ⟨_, rfl, (by show 0 ≤ sizeLine; omega), fun pn nn => ?_⟩
      have sn := same_new nn (.lst [])
      refine ⟨.list (ns.map PyData.str), .list [], .lst (SqL.of (sn _ _ d7)) (strs_data ns), .lst (SqL.of upd_same) .nil, shaped_lst (fun x hx => ?_), rfl, _, rfl, ?_⟩
      · obtain ⟨zz, h1, h2⟩ := List.mem_map.mp (e2 x hx)
        rw [← h2]
        exact hwo zz h1
      rw [eqv_nil]
      have B8 := B7.keep sn
      have stay := fun (D_ : Ends) (eD : D_.rt = Q) => leafR D_ (upd H7 pn (.lst [])) srt (2 + d2) frst ve po (some (.ref D)) none none none none (.ref q3) _ _ eD (k7.trans (.of sn)) B8 (by omega) f0 f1 m2 m8 (sn _ _ p7) (SgAt.keep (Same.tups sn) _ rsg) rok
      refine itN (fun c2 => ⟨_, rfl, rfl, _, rfl, itEq (fun c3 => ?_) (fun c3 => stay _ rfl)⟩) (fun c2 => itF rfl (stay _ rfl))
      have hn1 : 1 ≤ ns.length := by
        cases ns with
        | nil => exact absurd rfl c2
        | cons x r => exact Nat.le_add_left 1 _
      have k8 := k7.trans (.of sn)
      have hDb : D ≠ b := B5.ne nD
      refine ⟨_, rfl, l, _, _, _, rfl, rfl, SqL.of (k8 _ _ hlb hl), atI_nat (j := 0) rfl, _, rfl, _, rfl, b, D, ns.map V.str, _, rfl, B8, by omega, sn _ _ d7, hDb, by rw [List.length_map]; exact hn1, by rw [List.length_map]; omega, fun vr H9 k9 B9 hvr => ⟨_, rfl, (by show 4 ≤ sizeLine; omega), fun p9 n9 => ?_⟩⟩
      obtain ⟨xr, hxr, rfl⟩ := strs_mem hvr
      have s9 := same_new n9 (.tup [.str "call", .str n0, .str xr, ve])
      have t9 : Tups H7 _ := B7.tups ((Kept.of sn).trans (k9.trans (.of s9)))
      refine leafR _ _ srt (2 + d2) frst ve po (some (.ref D)) none none none none (.ref p9) (.call n0 xr ex0) _ rfl (k8.trans (k9.trans (.of s9))) (B9.keep s9) (by omega) f0 f1 m2 m8 (t9 _ _ p7) ?_ ?_
      · unfold SgAt
        exact ⟨p9, ve, rfl, upd_same, a7.keep t9⟩
      · refine ⟨fun ys hys => ?_, by unfold Sg.dp; omega, by unfold Sg.tot; omega⟩
        unfold Sg.ok
        exact ⟨hys n0 (List.mem_cons_self ..), e2 xr hxr, Ex.right_of (hfit ys hys) (by omega)⟩
  · -- none, or of two boxes
    have single := fun (D_ : Ends) (eD : D_.rt = Q) => leafS D_ H5 srt (2 + d2) frst ve (.ref po) none none none none none none none _ eD k5 B5 (by omega) f0 f1 m2 m8
    refine ⟨_, rfl, rfl, _, rfl, itEq (fun c2 => itT rfl (single _ rfl)) (fun c2 => ?_)⟩
    refine ⟨_, rfl, l, _, rfl, .inl (SqL.of (k5 _ _ hlb hl)), _, _, rfl, rfl, _, rfl, itD (fun c3 => single _ rfl) (fun c3 => ?_)⟩
    obtain ⟨n1, rest, rfl⟩ : ∃ n1 r, rest = n1 :: r := by
      cases rest with
      | nil => exact absurd (show ((1 : Nat) : Int) < 2 by decide) c3
      | cons x r => exact ⟨x, r, rfl⟩
    refine ⟨_, rfl, l, _, _, _, rfl, rfl, SqL.of (k5 _ _ hlb hl), atI_nat (j := 1) rfl, (by show 2 ≤ sizeLine; omega), fun pq nq => ⟨_, rfl, _, _, rfl, rfl, (by show 2 ≤ sizeLine; omega), fun pt nt => ?_⟩⟩
    have sq := same_new nq (.tup [.str "box", .str n1])
    have st := same_new nt (.tup [.ref pq, .int (2 + d2 - 1)])
    have k6 := k5.trans (.of (sq.trans st))
    have B6 := B5.keep (sq.trans st)
    have eq6 := st pq _ (@upd_same H5 pq (.tup [.str "box", .str n1]))
    have ep6 := (sq.trans st) _ _ epo
    refine ⟨pt, _, rfl, SqT.of upd_same, rfl, _, _, rfl, _, _, rfl, rfl, ?_⟩
    clear st
    generalize upd (upd H5 pq (.tup [.str "box", .str n1])) pt (.tup [.ref pq, .int (2 + d2 - 1)]) = H6 at *
    have hc : ∀ z : Int, 0 ≤ z → z ≤ 2 + d2 - 1 → ∀ c ∈ [(n0, 2 + d2, frst), (n1, 2 + d2, z)], (1 ≤ c.2.1 ∧ c.2.1 ≤ 40) ∧ (0 ≤ c.2.2 ∧ c.2.2 ≤ c.2.1 - 1) := fun z z0 z1 c hc => by
      rcases List.mem_cons.mp hc with e | hc
      · rw [e]
        exact ⟨⟨by show 1 ≤ 2 + d2; omega, by show 2 + d2 ≤ 40; omega⟩, f0, by show frst ≤ 2 + d2 - 1; omega⟩
      · rw [List.mem_singleton.mp hc]
        exact ⟨⟨by show 1 ≤ 2 + d2; omega, by show 2 + d2 ≤ 40; omega⟩, z0, z1⟩
    have in0 : ∀ ys : List Str, (∀ x ∈ n0 :: n1 :: rest, x ∈ ys) → n0 ∈ ys := fun ys hys => hys n0 (List.mem_cons_self ..)
    have in1 : ∀ ys : List Str, (∀ x ∈ n0 :: n1 :: rest, x ∈ ys) → n1 ∈ ys := fun ys hys => hys n1 (List.mem_cons_of_mem _ (List.mem_cons_self ..))
    refine ⟨_, rfl, rfl, _, rfl, itEq (fun c4 => ?_) (fun c4 => ?_)⟩
    · -- alike
      refine ⟨_, rfl, l, _, _, _, rfl, rfl, SqL.of (k6 _ _ hlb hl), atI_nat (j := 0) rfl, _, rfl, _, rfl, (by show 3 ≤ sizeLine; omega), fun p1 m1 => ?_⟩
      have s1 := same_new m1 (.tup [.str n0, .int (2 + d2), .int frst])
      refine ⟨_, rfl, l, _, _, _, rfl, rfl, SqL.of (s1 _ _ (k6 _ _ hlb hl)), atI_nat (j := 1) rfl, _, rfl, _, rfl, (by show 3 ≤ sizeLine; omega), fun p2 m2' => ⟨(by show 2 ≤ sizeLine; omega), fun p3 m3 => ⟨_, rfl, _, rfl, (by show 3 ≤ sizeLine; omega), fun p4 m4 => ⟨(by show 1 ≤ sizeLine; omega), fun p5 m5 => ?_⟩⟩⟩⟩
      have s2 := same_new m2' (.tup [.str n1, .int (2 + d2), .int frst])
      have s3 := same_new m3 (.lst [.ref p1, .ref p2])
      have s4 := same_new m4 (.tup [.str "is", .ref po, .ref pq])
      have s5 := same_new m5 (.lst [.ref p4])
      have s15 := s1.trans (s2.trans (s3.trans (s4.trans s5)))
      refine ⟨_, rfl, l, _, _, _, rfl, rfl, SqL.of (s15 _ _ (k6 _ _ hlb hl)), atI_nat (j := 1) rfl, _, rfl, (by show 3 ≤ sizeLine; omega), fun p6 m6 => ⟨(by show 1 ≤ sizeLine; omega), fun p7 m7 => ⟨(by show 3 ≤ sizeLine; omega), fun p8 m8' => ?_⟩⟩⟩
      have s6 := same_new m6 (.tup [.str "set", .str n1, .ref po])
      have s7 := same_new m7 (.lst [.ref p6])
      have s8 := same_new m8' (.tup [.ref p3, .ref p5, .ref p7])
      have s78 := s7.trans s8
      have s68 := s6.trans s78
      have s58 := s5.trans s68
      have s48 := s4.trans s58
      have s38 := s3.trans s48
      have s28 := s2.trans s38
      have s18 := s1.trans s28
      have e1 := s28 p1 _ upd_same
      have e2 := s38 p2 _ upd_same
      have e3 := s48 p3 _ upd_same
      have e4 := s58 p4 _ upd_same
      have e5 := s68 p5 _ upd_same
      have e6 := s78 p6 _ upd_same
      have e7 := s8 p7 _ upd_same
      have ep := s18 _ _ ep6
      have eq := s18 _ _ eq6
      refine q p8 p3 p5 p7 [(n0, 2 + d2, frst), (n1, 2 + d2, frst)] [.is (.box n0) (.box n1)] [.set n1 (.box n0)] _ (k6.trans (.of s18)) ((B6.keep s18).more (by omega)) upd_same ⟨[p1, p2], e3, .cons e1 (.cons e2 .nil)⟩ ⟨[.ref p4], e5, .cons (.is e4 (.box ep) (.box eq)) .nil⟩ ⟨[.ref p6], e7, .cons ?_ .nil⟩ ?_
      · unfold SgAt
        exact ⟨p6, .ref po, rfl, e6, .box ep⟩
      refine ⟨by show 1 ≤ 2; decide, rfl, hc frst f0 (by omega), Nat.le_refl _, fun t ht ys hys => ?_, fun t ht kvs hk => ?_, (fun t ht => by rw [List.mem_singleton.mp ht]; trivial), Nat.le_refl _, fun g hg => ?_⟩
      · rw [List.mem_singleton.mp ht]
        exact Ts.right_of ⟨in0 ys hys, in1 ys hys⟩ (by show max 1 1 + 1 ≤ 4; decide)
      · rw [List.mem_singleton.mp ht]
        have z0 := hk (n0, 2 + d2, frst) (List.mem_cons_self ..)
        have z1 := hk (n1, 2 + d2, frst) (List.mem_cons_of_mem _ (List.mem_cons_self ..))
        show decide ((look kvs n0).getD 0 = (look kvs n1).getD 0) = true
        rw [z0, z1]
        exact decide_eq_true rfl
      · rw [List.mem_singleton.mp hg]
        refine ⟨fun ys hys => ?_, by unfold Sg.dp; omega, by unfold Sg.tot; omega⟩
        unfold Sg.ok
        exact ⟨in1 ys hys, Ex.right_of (in0 ys hys) (by show 1 ≤ 4; decide)⟩
    · -- together a number
      refine ⟨_, rfl, l, _, _, _, rfl, rfl, SqL.of (k6 _ _ hlb hl), atI_nat (j := 0) rfl, _, rfl, _, rfl, (by show 3 ≤ sizeLine; omega), fun p1 m1 => ?_⟩
      have s1 := same_new m1 (.tup [.str n0, .int (2 + d2), .int frst])
      refine ⟨_, rfl, l, _, _, _, rfl, rfl, SqL.of (s1 _ _ (k6 _ _ hlb hl)), atI_nat (j := 1) rfl, _, rfl, _, rfl, _, rfl, _, _, rfl, rfl, (by show 3 ≤ sizeLine; omega), fun p2 m2' => ⟨(by show 2 ≤ sizeLine; omega), fun p3 m3 => ?_⟩⟩
      have s2 := same_new m2' (.tup [.str n1, .int (2 + d2), .int (2 + d2 - 1 - frst)])
      have s3 := same_new m3 (.lst [.ref p1, .ref p2])
      have s13 := s1.trans (s2.trans s3)
      refine ⟨_, rfl, l, _, _, _, rfl, rfl, SqL.of (s13 _ _ (k6 _ _ hlb hl)), atI_nat (j := 1) rfl, _, rfl, (by show 2 ≤ sizeLine; omega), fun p4 m4 => ⟨_, rfl, (by show 3 ≤ sizeLine; omega), fun p5 m5 => ⟨(by show 3 ≤ sizeLine; omega), fun p6 m6 => ?_⟩⟩⟩
      have s4 := same_new m4 (.tup [.str "number", .int (2 + d2 - 1)])
      have s5 := same_new m5 (.tup [.str "less", .ref p4, .ref po])
      have s6 := same_new m6 (.tup [.str "set", .str n1, .ref p5])
      refine ⟨_, rfl, _, rfl, _, rfl, (by show 3 ≤ sizeLine; omega), fun p7 m7 => ⟨_, rfl, (by show 2 ≤ sizeLine; omega), fun p8 m8' => ⟨(by show 3 ≤ sizeLine; omega), fun p9 m9 => ⟨(by show 1 ≤ sizeLine; omega), fun pa ma => ⟨_, rfl, (by show 1 ≤ sizeLine; omega), fun pb mb => ⟨(by show 3 ≤ sizeLine; omega), fun pc mc => ?_⟩⟩⟩⟩⟩⟩
      have s7 := same_new m7 (.tup [.str "plus", .ref po, .ref pq])
      have s8 := same_new m8' (.tup [.str "number", .int (2 + d2 - 1)])
      have s9 := same_new m9 (.tup [.str "is", .ref p7, .ref p8])
      have sa := same_new ma (.lst [.ref p9])
      have sb := same_new mb (.lst [.ref p6])
      have sc := same_new mc (.tup [.ref p3, .ref pa, .ref pb])
      have sbc := sb.trans sc
      have sac := sa.trans sbc
      have s9c := s9.trans sac
      have s8c := s8.trans s9c
      have s7c := s7.trans s8c
      have s6c := s6.trans s7c
      have s5c := s5.trans s6c
      have s4c := s4.trans s5c
      have s3c := s3.trans s4c
      have s2c := s2.trans s3c
      have s1c := s1.trans s2c
      have e1 := s2c p1 _ upd_same
      have e2 := s3c p2 _ upd_same
      have e3 := s4c p3 _ upd_same
      have e4 := s5c p4 _ upd_same
      have e5 := s6c p5 _ upd_same
      have e6 := s7c p6 _ upd_same
      have e7 := s8c p7 _ upd_same
      have e8 := s9c p8 _ upd_same
      have e9 := sac p9 _ upd_same
      have ea := sbc pa _ upd_same
      have eb := sc pb _ upd_same
      have ep := s1c _ _ ep6
      have eq := s1c _ _ eq6
      refine q pc p3 pa pb [(n0, 2 + d2, frst), (n1, 2 + d2, 2 + d2 - 1 - frst)] [.is (.op .plus (.box n0) (.box n1)) (.num (2 + d2 - 1))] [.set n1 (.op .less (.num (2 + d2 - 1)) (.box n0))] _ (k6.trans (.of s1c)) ((B6.keep s1c).more (by omega)) upd_same ⟨[p1, p2], e3, .cons e1 (.cons e2 .nil)⟩
        ⟨[.ref p9], ea, .cons (.is e9 (.op (d := .plus) e7 (.box ep) (.box eq)) (.num e8)) .nil⟩ ⟨[.ref p6], eb, .cons ?_ .nil⟩ ?_
      · unfold SgAt
        exact ⟨p6, .ref p5, rfl, e6, .op (d := .less) e5 (.num e4) (.box ep)⟩
      have hnum : (0 : Int) ≤ 2 + d2 - 1 ∧ 2 + d2 - 1 ≤ 999 := ⟨by omega, by omega⟩
      refine ⟨by show 1 ≤ 2; decide, rfl, hc _ (by omega) (by omega), Nat.le_refl _, fun t ht ys hys => ?_, fun t ht kvs hk => ?_, (fun t ht => by rw [List.mem_singleton.mp ht]; trivial), Nat.le_refl _, fun g hg => ?_⟩
      · rw [List.mem_singleton.mp ht]
        exact Ts.right_of ⟨⟨in0 ys hys, in1 ys hys⟩, hnum⟩ (by show max (max 1 1 + 1) 1 + 1 ≤ 4; decide)
      · rw [List.mem_singleton.mp ht]
        have z0 := hk (n0, 2 + d2, frst) (List.mem_cons_self ..)
        have z1 := hk (n1, 2 + d2, 2 + d2 - 1 - frst) (List.mem_cons_of_mem _ (List.mem_cons_self ..))
        show decide ((look kvs n0).getD 0 + (look kvs n1).getD 0 = 2 + d2 - 1) = true
        rw [z0, z1]
        exact decide_eq_true (by show frst + (2 + d2 - 1 - frst) = 2 + d2 - 1; omega)
      · rw [List.mem_singleton.mp hg]
        refine ⟨fun ys hys => ?_, by unfold Sg.dp; omega, by unfold Sg.tot; omega⟩
        unfold Sg.ok
        exact ⟨in1 ys hys, Ex.right_of ⟨hnum, in0 ys hys⟩ (by show max 1 1 + 1 ≤ 4; decide)⟩
end
end Any
set_option pp.maxSteps 600
namespace Any
open L2 PySem PySem.Spec PyProof.Rows LamX NdefX
/-! ### _law_answer -/
structure Ans where
  wide : Int
  bd : Int
  vow : Option Ts
  by_ : Ex
  left : Int
def AnsAt (H : Hp) (a : Addr) (z : Ans) : Prop := ∃ v u, H a = some (.tup [.int z.wide, .int z.bd, v, u, .int z.left]) ∧ VowAt H v z.vow ∧ ExAt H u z.by_
theorem AnsAt.keep {H H' : Hp} (k : Tups H H') {a : Addr} {z : Ans} (h : AnsAt H a z) : AnsAt H' a z := by
  obtain ⟨v, u, h1, h2, h3⟩ := h
  exact ⟨v, u, k _ _ h1, h2.keep k, h3.keep k⟩
structure AnsOk (z : Ans) : Prop where
  wide : 1 ≤ z.wide ∧ z.wide ≤ 39
  bd : 1 ≤ z.bd ∧ z.bd ≤ 40
  vow : ∀ t, z.vow = some t → t.right [] ["asked", "told"]
  by_ : z.by_ = .num 0 ∨ z.by_ = .asked ∨ z.by_ = .op .plus .asked (.num 1) ∨ ∃ k : Int, 1 ≤ k ∧ k ≤ 6 ∧ z.by_ = .num k
def spAnswer : Sp := fun vs H Q _ => ∃ (b : Addr) (m : Nat) (lots : Int), vs = [.ref b, .int lots] ∧ Bag H b m ∧ m + 10 < 2 ^ 40 ∧ ∀ (a : Addr) (z : Ans) (H' : Hp), Kept b H H' → Bag H' b (m + 10) → AnsAt H' a z → AnsOk z → Q (.ref a) H'
abbrev sAnswer : Stmt := top 77
abbrev nmAn : List Str := ["_law_bag_here", "_law_lots", "_law_wide", "_law_least", "_law_sort", "_law_wish", "_law_reply"]
theorem scAn : FnScope nmAn ["_law_bag_here", "_law_lots"] (defScope sAnswer) := ⟨rfl, rfl, rfl, by decide +kernel, rfl, by decide +kernel, by decide +kernel⟩
theorem int48 (lots : Int) : ∃ z : Int, atI [V.int 4, V.int 8] (if decide (lots > 2) = true then 1 else 0) = some (.int z) ∧ 4 ≤ z ∧ z ≤ 8 := by
  by_cases h : lots > 2
  · rw [decide_eq_true h]
    exact ⟨8, rfl, by decide, by decide⟩
  · rw [decide_eq_false h]
    exact ⟨4, rfl, by decide, by decide⟩
section
variable {P : Program} {w : World} {K : PySem.W.Frag} {mg : Str → Option Value} {base : Heap} {f : Addr} {fd : FuncData}
set_option maxHeartbeats 4000000 in
theorem ok_answer (O : Own mg) (F : Fun K "_law_answer" "_law_answer" sAnswer f fd) (DT : Df P w K mg base 1 "_law_take" ["_law_bag_here", "_law_many_here"] spTake) : FnOk P w K mg base CX0 2 f fd ["_law_bag_here", "_law_lots"] spAnswer := by
  refine F.ok scAn (fun vs H Q E h => ?_) (fun cdv A outer s H vs Q E hr h => ?_)
  · obtain ⟨b, m, lots, rfl, _⟩ := h
    rfl
  obtain ⟨b, m, lots, rfl, hB, hm, q⟩ := h
  have hs : sizeLine = 16777216 := sizeLine_eq
  refine ⟨_, pss_cons (ps_par (i := 2) (j := 3) (by rfl) scAn.nd rfl rfl (by decide) rfl rfl (pa_cons (pe_op op_add pe_int (pe_D DT hr rfl (pa_cons (pv 0) (pa_cons (pe_ix ix_list (pe_lst (pa_cons pe_int (pa_cons pe_int pa_nil))) (pe_callTy call_int1 rfl O.int (by decide +kernel) (pa_cons (pe_cmpR op_gt (pv 1) pe_int (nomark _)) pa_nil)) (fun _ _ => rfl)) pa_nil))))
      (pa_cons (pe_op op_add pe_int (pe_D DT hr rfl (pa_cons (pv 0) (pa_cons pe_int pa_nil)))) pa_nil)) (by rfl))
    (pss_cons (ps_set (i := 4) scAn.nd rfl (Or.inl rfl) (pe_D DT hr rfl (pa_cons (pv 0) (pa_cons pe_int pa_nil))))
    (pss_cons (ps_asg (pe_tup (pa_cons (pe_tup (pa_cons pe_str pa_nil)) (pa_cons (pe_tup (pa_cons pe_str pa_nil)) pa_nil))) (pg_tup rfl (pgs_cons (pg_name (i := 5) scAn.nd rfl (Or.inl rfl)) (pgs_cons (pg_name (i := 6) scAn.nd rfl (Or.inl rfl)) pgs_nil))))
    (pss_cons (ps_if (pt_cmpR op_eq (pv 4) pe_int (nomark _)) (pss_one (ps_ret (pe_tup (pa_cons (pv 2) (pa_cons (pe_op op_add pe_int (pe_D DT hr rfl (pa_cons (pv 0) (pa_cons pe_int pa_nil)))) (pa_cons pe_non (pa_cons (pe_tup (pa_cons pe_str (pa_cons pe_int pa_nil))) (pa_cons pe_int pa_nil)))))))) pss_nil)
    (pss_cons (ps_if (pt_cmpR op_eq (pv 4) pe_int (nomark _)) (pss_one (ps_ret (pe_tup (pa_cons (pv 2) (pa_cons (pe_op op_add (pv 2) (pe_D DT hr rfl (pa_cons (pv 0) (pa_cons pe_int pa_nil)))) (pa_cons (pe_tup (pa_cons pe_str (pa_cons (pv 5) (pa_cons (pv 6) pa_nil)))) (pa_cons (pv 5) (pa_cons pe_int pa_nil)))))))) pss_nil)
    (pss_cons (ps_if (pt_cmpR op_eq (pv 4) pe_int (nomark _)) (pss_one (ps_ret (pe_tup (pa_cons (pv 2) (pa_cons (pe_op op_add (pv 2) (pe_D DT hr rfl (pa_cons (pv 0) (pa_cons pe_int pa_nil)))) (pa_cons (pe_tup (pa_cons pe_str (pa_cons (pe_tup (pa_cons pe_str (pa_cons (pv 5) (pa_cons (pv 6) pa_nil)))) pa_nil)))
      (pa_cons (pe_tup (pa_cons pe_str (pa_cons (pv 5) (pa_cons (pe_tup (pa_cons pe_str (pa_cons pe_int pa_nil))) pa_nil)))) (pa_cons pe_int pa_nil)))))))) pss_nil)
    (pss_one (ps_ret (pe_tup (pa_cons (pv 2) (pa_cons (pe_op op_add (pv 3) (pe_D DT hr rfl (pa_cons (pv 0) (pa_cons pe_int pa_nil)))) (pa_cons (pe_tup (pa_cons pe_str (pa_cons (pv 6) (pa_cons (pe_tup (pa_cons pe_str (pa_cons (pv 3) pa_nil))) pa_nil))))
      (pa_cons (pe_tup (pa_cons pe_str (pa_cons (pv 3) pa_nil))) (pa_cons (pv 3) pa_nil))))))))))))), ?_⟩
  obtain ⟨z, ez, z4, z8⟩ := int48 lots
  refine ⟨_, rfl, (by show 2 ≤ sizeLine; omega), fun p1 n1 => ⟨_, rfl, _, _, rfl, rfl, .inr ⟨_, rfl, p1, _, _, _, rfl, rfl, SqL.of upd_same, ez, b, z, m, rfl, hB.keep (same_new n1 _), by omega, by omega, by omega, fun d1 H1 k1 B1 d10 d11 => ⟨_, _, rfl, rfl, ?_⟩⟩⟩⟩
  have k1 := (Kept.new n1 _).trans k1
  refine ⟨_, rfl, b, 6, m + 1, rfl, B1, by omega, by decide, by decide, fun d2 H2 k2 B2 d20 d21 => ⟨_, _, rfl, rfl, _, _, rfl, ?_⟩⟩
  refine ⟨_, rfl, b, 4, m + 1 + 1, rfl, B2, by omega, by decide, by decide, fun srt H3 k3 B3 s0 s4 => ?_⟩
  refine ⟨(by show 1 ≤ sizeLine; omega), fun pw nw => ⟨(by show 1 ≤ sizeLine; omega), fun pr nr => ⟨(by show 2 ≤ sizeLine; omega), fun pt nt => ⟨pt, _, rfl, SqT.of upd_same, rfl, _, _, rfl, _, _, rfl, rfl, ?_⟩⟩⟩⟩
  have sw := same_new nw (.tup [.str "asked"])
  have sr := same_new nr (.tup [.str "told"])
  have st := same_new nt (.tup [.ref pw, .ref pr])
  have srt' := sr.trans st
  have swt := sw.trans srt'
  have k4 : Kept b H _ := k1.trans (k2.trans (k3.trans (.of swt)))
  have B4 := B3.keep swt
  have ew := srt' pw _ upd_same
  have er := st pr _ upd_same
  clear sw sr st srt' swt
  generalize upd (upd (upd H3 pw (.tup [.str "asked"])) pr (.tup [.str "told"])) pt (.tup [.ref pw, .ref pr]) = H4 at *
  have yw : ExAt H4 (.ref pw) .asked := .asked ew
  have yr : ExAt H4 (.ref pr) .told := .told er
  refine ⟨_, rfl, rfl, _, rfl, itEq (fun c1 => ?_) (fun c1 => ⟨_, rfl, rfl, _, rfl, itEq (fun c2 => ?_) (fun c2 => ⟨_, rfl, rfl, _, rfl, itEq (fun c3 => ?_) (fun c3 => ?_)⟩)⟩)⟩
  · refine ⟨_, rfl, _, rfl, b, 9, m + 1 + 1 + 1, rfl, B4, by omega, by decide, by decide, fun d5 H5 k5 B5 d50 d51 => ⟨_, _, rfl, rfl, (by show 2 ≤ sizeLine; omega), fun q1 m1 => ⟨(by show 5 ≤ sizeLine; omega), fun q2 m2 => ?_⟩⟩⟩
    have t1 := same_new m1 (.tup [.str "number", .int 0])
    have t2 := same_new m2 (.tup [.int (1 + d1), .int (1 + d5), .non, .ref q1, .int 0])
    refine q q2 ⟨1 + d1, 1 + d5, none, .num 0, 0⟩ _ (k4.trans (k5.trans (.of (t1.trans t2)))) ((B5.keep (t1.trans t2)).more (by omega)) ⟨.non, .ref q1, upd_same, rfl, .num (t2 q1 _ upd_same)⟩ ⟨⟨by show 1 ≤ 1 + d1; omega, by show 1 + d1 ≤ 39; omega⟩, ⟨by show 1 ≤ 1 + d5; omega, by show 1 + d5 ≤ 40; omega⟩, fun t ht => (by cases ht), .inl rfl⟩
  · refine ⟨_, rfl, _, rfl, _, rfl, b, 3, m + 1 + 1 + 1, rfl, B4, by omega, by decide, by decide, fun d5 H5 k5 B5 d50 d51 => ⟨_, _, rfl, rfl, _, rfl, _, rfl, (by show 3 ≤ sizeLine; omega), fun q1 m1 => ⟨_, rfl, (by show 5 ≤ sizeLine; omega), fun q2 m2 => ?_⟩⟩⟩
    have t1 := same_new m1 (.tup [.str "is", .ref pw, .ref pr])
    have t2 := same_new m2 (.tup [.int (1 + d1), .int (1 + d1 + d5), .ref q1, .ref pw, .int 0])
    have tA : Tups H4 _ := B4.tups (k5.trans (.of (t1.trans t2)))
    refine q q2 ⟨1 + d1, 1 + d1 + d5, some (.is .asked .told), .asked, 0⟩ _ (k4.trans (k5.trans (.of (t1.trans t2)))) ((B5.keep (t1.trans t2)).more (by omega)) ⟨.ref q1, .ref pw, upd_same, .is (t2 q1 _ upd_same) (yw.keep tA) (yr.keep tA), yw.keep tA⟩
      ⟨⟨by show 1 ≤ 1 + d1; omega, by show 1 + d1 ≤ 39; omega⟩, ⟨by show 1 ≤ 1 + d1 + d5; omega, by show 1 + d1 + d5 ≤ 40; omega⟩, fun t ht => ?_, .inr (.inl rfl)⟩
    cases ht
    exact Ts.right_of ⟨by simp [Ex.fit], by simp [Ex.fit]⟩ (by show max 1 1 + 1 ≤ 4; decide)
  · refine ⟨_, rfl, _, rfl, _, rfl, b, 3, m + 1 + 1 + 1, rfl, B4, by omega, by decide, by decide, fun d5 H5 k5 B5 d50 d51 => ⟨_, _, rfl, rfl, _, rfl, _, rfl, (by show 3 ≤ sizeLine; omega), fun q1 m1 => ⟨(by show 2 ≤ sizeLine; omega), fun q2 m2 => ⟨_, rfl, (by show 2 ≤ sizeLine; omega), fun q3 m3 => ⟨(by show 3 ≤ sizeLine; omega), fun q4 m4 => ⟨(by show 5 ≤ sizeLine; omega), fun q5 m5 => ?_⟩⟩⟩⟩⟩⟩
    have t1 := same_new m1 (.tup [.str "below", .ref pw, .ref pr])
    have t2 := same_new m2 (.tup [.str "not", .ref q1])
    have t3 := same_new m3 (.tup [.str "number", .int 1])
    have t4 := same_new m4 (.tup [.str "plus", .ref pw, .ref q3])
    have t5 := same_new m5 (.tup [.int (1 + d1), .int (1 + d1 + d5), .ref q2, .ref q4, .int 0])
    have t45 := t4.trans t5
    have t35 := t3.trans t45
    have t25 := t2.trans t35
    have t15 := t1.trans t25
    have tA : Tups H4 _ := B4.tups (k5.trans (.of t15))
    refine q q5 ⟨1 + d1, 1 + d1 + d5, some (.nt (.bel .asked .told)), .op .plus .asked (.num 1), 0⟩ _ (k4.trans (k5.trans (.of t15))) ((B5.keep t15).more (by omega))
      ⟨.ref q2, .ref q4, upd_same, .nt (t35 q2 _ upd_same) (.bel (t25 q1 _ upd_same) (yw.keep tA) (yr.keep tA)), .op (d := .plus) (t5 q4 _ upd_same) (yw.keep tA) (.num (t45 q3 _ upd_same))⟩
      ⟨⟨by show 1 ≤ 1 + d1; omega, by show 1 + d1 ≤ 39; omega⟩, ⟨by show 1 ≤ 1 + d1 + d5; omega, by show 1 + d1 + d5 ≤ 40; omega⟩, fun t ht => ?_, .inr (.inr (.inl rfl))⟩
    cases ht
    exact Ts.right_of ⟨by simp [Ex.fit], by simp [Ex.fit]⟩ (by show max 1 1 + 1 + 1 ≤ 4; decide)
  · refine ⟨_, rfl, _, rfl, _, rfl, b, 4, m + 1 + 1 + 1, rfl, B4, by omega, by decide, by decide, fun d5 H5 k5 B5 d50 d51 => ⟨_, _, rfl, rfl, _, rfl, _, rfl, (by show 2 ≤ sizeLine; omega), fun q1 m1 => ⟨(by show 3 ≤ sizeLine; omega), fun q2 m2 => ⟨_, rfl, (by show 2 ≤ sizeLine; omega), fun q3 m3 => ⟨_, rfl, (by show 5 ≤ sizeLine; omega), fun q5 m5 => ?_⟩⟩⟩⟩⟩
    have t1 := same_new m1 (.tup [.str "number", .int (1 + d2)])
    have t2 := same_new m2 (.tup [.str "below", .ref pr, .ref q1])
    have t3 := same_new m3 (.tup [.str "number", .int (1 + d2)])
    have t5 := same_new m5 (.tup [.int (1 + d1), .int (1 + d2 + d5), .ref q2, .ref q3, .int (1 + d2)])
    have t35 := t3.trans t5
    have t25 := t2.trans t35
    have t15 := t1.trans t25
    have tA : Tups H4 _ := B4.tups (k5.trans (.of t15))
    refine q q5 ⟨1 + d1, 1 + d2 + d5, some (.bel .told (.num (1 + d2))), .num (1 + d2), 1 + d2⟩ _ (k4.trans (k5.trans (.of t15))) ((B5.keep t15).more (by omega))
      ⟨.ref q2, .ref q3, upd_same, .bel (t35 q2 _ upd_same) (yr.keep tA) (.num (t25 q1 _ upd_same)), .num (t5 q3 _ upd_same)⟩
      ⟨⟨by show 1 ≤ 1 + d1; omega, by show 1 + d1 ≤ 39; omega⟩, ⟨by show 1 ≤ 1 + d2 + d5; omega, by show 1 + d2 + d5 ≤ 40; omega⟩, fun t ht => ?_, .inr (.inr (.inr ⟨1 + d2, by omega, by omega, rfl⟩))⟩
    cases ht
    exact Ts.right_of ⟨by simp [Ex.fit], (by show 0 ≤ 1 + d2; omega), (by show 1 + d2 ≤ 999; omega)⟩ (by show max 1 1 + 1 ≤ 4; decide)
end
end Any
set_option pp.maxSteps 600
namespace Any
open L2 PySem PySem.Spec PyProof.Rows LamX NdefX
/-! ### what a drawn room is like -/
theorem paired_perm {α β : Type} {R : α → β → Prop} {xs ys : List α} (p : ys.Perm xs) : ∀ {bs : List β}, Paired R xs bs → ∃ cs, cs.Perm bs ∧ Paired R ys cs := by
  induction p with
  | nil => exact fun h => ⟨_, .refl _, h⟩
  | cons x p ih =>
    intro bs h
    cases h with
    | cons r t =>
      obtain ⟨cs, c1, c2⟩ := ih t
      exact ⟨_ :: cs, c1.cons _, .cons r c2⟩
  | swap x y l =>
    intro bs h
    cases h with
    | cons r t =>
      cases t with
      | cons r2 t2 => exact ⟨_ :: _ :: _, .swap _ _ _, .cons r2 (.cons r t2)⟩
  | trans p q ih1 ih2 =>
    intro bs h
    obtain ⟨cs, c1, c2⟩ := ih2 h
    obtain ⟨ds, d1, d2⟩ := ih1 c2
    exact ⟨ds, d1.trans c1, d2⟩
theorem paired_app {α β : Type} {R : α → β → Prop} : ∀ {xs : List α} {ys : List β}, Paired R xs ys → ∀ {us : List α} {vs : List β}, Paired R us vs → Paired R (xs ++ us) (ys ++ vs)
  | _, _, .nil, _, _, h => h
  | _, _, .cons r t, _, _, h => .cons r (paired_app t h)
def strOf : V → Option Str
  | .str x => some x
  | _ => none
theorem strs_back : ∀ xs : List Str, (xs.map V.str).filterMap strOf = xs
  | [] => rfl
  | x :: r => by
    rw [List.map_cons, List.filterMap_cons]
    show x :: _ = _
    rw [strs_back r]
theorem strs_perm {ys : List V} {xs : List Str} (p : ys.Perm (xs.map V.str)) : ∃ zs : List Str, ys = zs.map V.str ∧ zs.Perm xs := by
  refine ⟨ys.filterMap strOf, ?_, ?_⟩
  · have key : ∀ l : List V, (∀ v ∈ l, ∃ x, v = .str x) → l = (l.filterMap strOf).map V.str := by
      intro l
      induction l with
      | nil => exact fun _ => rfl
      | cons v r ih =>
        intro h
        obtain ⟨x, rfl⟩ := h v (List.mem_cons_self ..)
        rw [List.filterMap_cons]
        show _ = V.str x :: (r.filterMap strOf).map V.str
        rw [← ih fun u hu => h u (List.mem_cons_of_mem _ hu)]
    refine key ys fun v hv => ?_
    obtain ⟨x, _, e⟩ := strs_mem (p.mem_iff.mp hv)
    exact ⟨x, e⟩
  · have := p.filterMap strOf
    rw [strs_back] at this
    exact this
theorem toL_len : ∀ b : Bd, b.toL.length = b.len
  | .nil => rfl
  | .cons s b => by
    show (s :: b.toL).length = b.len + 1
    rw [List.length_cons, toL_len b]
/-- the number of a box among boxes of unlike names -/
theorem look_nd : ∀ {bs : List (Str × Int × Int)}, (bs.map (·.1)).Nodup → ∀ c ∈ bs, look (bs.map fun b => (b.1, b.2.2)) c.1 = some c.2.2
  | [], _, c, h => by cases h
  | b :: r, nd, c, h => by
    rw [List.map_cons, List.nodup_cons] at nd
    unfold look
    rw [List.map_cons, List.find?_cons]
    rcases List.mem_cons.mp h with e | h
    · rw [e, decide_eq_true (show b.1 = b.1 from rfl)]
      rfl
    · have ne : ¬ b.1 = c.1 := fun z => nd.1 (by rw [z]; exact List.mem_map.mpr ⟨c, h, rfl⟩)
      rw [decide_eq_false (show ¬ (b.1, b.2.2).1 = c.1 from ne)]
      exact look_nd nd.2 c h
def Bd.few (b : Bd) : Prop := b.len ≤ 9 ∧ b.tot ≤ 21
structure Rm.few (r : Rm) : Prop where
  body : r.body.few
  ask : ∀ k, r.ask = some k → k ≤ 39
  says : ∀ t ∈ r.sayings, t.lb
/-- what is known of a drawn room -/
structure Drawn (name roof : Str) (rs : List Str) (r : Rm) : Prop where
  name : r.name = name
  above : r.above = roof
  boxes : r.boxesOk
  asc : sortedS r.bn = true
  says : r.saysOk
  first : roof = "" → r.firstOk ∧ r.body.right r.bn [] rs
  other : roof ≠ "" → r.otherOk ∧ r.body.right r.bn ["asked"] rs
  some : 1 ≤ r.boxes.length
  few : r.few
abbrev seven : List Str := ["a", "b", "c", "n", "xx", "left", "is"]
theorem seven_nm : ∀ x ∈ seven, Nm x := by decide +kernel
theorem seven_nd : seven.Nodup := by decide +kernel
theorem nm_ok {x : Str} (h : Nm x) : PyData.strOk x = true := by
  unfold PyData.strOk
  rw [Array.all_eq_true']
  intro c hc
  have := h.low c (by simpa using hc)
  exact decide_eq_true (by omega)
/-- boxes and sayings drawn so -/
structure Kept4 (names : List Str) (cr : List (Str × Int × Int)) (ts : List Ts) : Prop where
  nm : cr.map (·.1) = names
  nd : names.Nodup
  sv : ∀ x ∈ names, x ∈ seven
  asc : sortedS names = true
  len : names.length ≤ 4
  some : 1 ≤ names.length
  crate : ∀ c ∈ cr, (1 ≤ c.2.1 ∧ c.2.1 ≤ 40) ∧ (0 ≤ c.2.2 ∧ c.2.2 ≤ c.2.1 - 1)
  tl : ts.length ≤ cr.length
  tr : ∀ t ∈ ts, t.right names []
  tv : ∀ t ∈ ts, ∀ kvs : List (Str × Int), (∀ c ∈ cr, look kvs c.1 = Option.some c.2.2) → t.val kvs 0 0 = true
  tb : ∀ t ∈ ts, t.lb
theorem Kept4.parts {names : List Str} {cr : List (Str × Int × Int)} {ts : List Ts} (h : Kept4 names cr ts) {n a : Str} {k : Option Int} {o : Option (Int × Ex)} {p : Option Ts} {y : Bd} :
    (Rm.mk n a cr ts k o p y).boxesOk ∧ sortedS (Rm.mk n a cr ts k o p y).bn = true ∧ (Rm.mk n a cr ts k o p y).saysOk ∧ (Rm.mk n a cr ts k o p y).bn = names ∧ 1 ≤ cr.length ∧ cr.length ≤ 4 := by
  have hl : cr.length = names.length := by rw [← h.nm, List.length_map]
  have h1 := h.len
  have h2 := h.some
  have h3 := h.tl
  have e : (Rm.mk n a cr ts k o p y).bn = names := h.nm
  refine ⟨⟨by show cr.length ≤ 4; omega, fun b hb => ⟨seven_nm _ (h.sv _ ?_), h.crate b hb⟩, by rw [e]; exact h.nd⟩, by rw [e]; exact h.asc, ⟨by show ts.length ≤ 4; omega, fun t ht => ⟨by rw [e]; exact h.tr t ht, ?_⟩⟩, e, by omega, by omega⟩
  · rw [← h.nm]
    exact List.mem_map.mpr ⟨b, hb, rfl⟩
  · refine h.tv t ht _ ?_
    refine look_nd (bs := cr) ?_
    rw [h.nm]
    exact h.nd
end Any
set_option pp.maxSteps 600
namespace Any
open L2 PySem PySem.Spec PyProof.Rows LamX NdefX
/-! ### _law_room: its end -/
abbrev sRoom : Stmt := top 78
abbrev psRm : List Str := ["_law_bag_here", "_law_name", "_law_roof", "_law_answer_here", "_law_beneath", "_law_lots"]
abbrev nmRm : List Str := ["_law_bag_here", "_law_name", "_law_roof", "_law_answer_here", "_law_beneath", "_law_lots", "_law_asks", "_law_names", "_law_crates", "_law_kept", "_law_lasts", "_law_left", "_law_more", "_law_tests", "_law_steps_here", "_law_deeds", "_law_goal", "_law_term", "_law_by", "_law_tells", "_law_one"]
theorem scRm : FnScope nmRm psRm (defScope sRoom) := ⟨rfl, rfl, rfl, by decide +kernel, rfl, by decide +kernel, by decide +kernel⟩
section
variable {P : Program} {w : World} {K : PySem.W.Frag} {mg : Str → Option Value} {base : Heap} {f : Addr} {cdv : Value} {A : Around} {outer : List Env} {s : Shared} {H : Hp} {E : XK}
abbrev XRm (P : Program) (w : World) (K : PySem.W.Frag) (mg : Str → Option Value) (base : Heap) (f : Addr) (cdv : Value) (A : Around) (outer : List Env) (s : Shared) (H : Hp) (E : XK) : Cx := (cxOf CX0 P w K mg base nmRm "_law_room" (defScope sRoom) f cdv A outer s H E).nox
set_option maxHeartbeats 4000000 in
theorem room_end (O : Own mg) (DX : Df P w K mg base 9 "_law_expr" psE (spExpr 7)) (hr : Room 20 (XRm P w K mg base f cdv A outer s H E).A) : ∃ t7, PSs (XRm P w K mg base f cdv A outer s H E) ((defBody sRoom).drop 7) t7 ∧
    ∀ (D : Ends) (H9 : Hp) (b an lw N C S pd : Addr) (name roof : Str) (z : Ans) (lots : Int) (as : Nat) (names rs : List Str) (cr : List (Str × Int × Int)) (ts : List Ts) (vs : List V) (ss : List Sg) (z10 z11 z12 z13 z14 z16 z17 z18 z19 z20 : Option V) (M : Nat) (Q : VK),
      D.rt = Q → Bag H9 b M → M + 40 < 2 ^ 40 → AnsAt H9 an z → AnsOk z → H9 N = some (.lst (names.map V.str)) → N ≠ b → CrL H9 C cr → TsL H9 S ts → C ≠ b → S ≠ b → H9 pd = some (.tup vs) → Paired (SgAt H9) vs ss → Kept4 names cr ts → (Bd.of ss).right names (wsOf as) rs ∧ (Bd.of ss).few → as ≤ 1 → (as = 0 ↔ roof = "") →
      (∀ a r H', Kept b H9 H' → Bag H' b (M + 36) → EightAt H' a r → Drawn name roof rs r → Q (.ref a) H') →
      t7 D [some (.ref b), some (.str name), some (.str roof), some (.ref an), some (.ref lw), some (.int lots), some (.int as), some (.ref N), some (.ref C), some (.ref S), z10, z11, z12, z13, z14, some (.ref pd), z16, z17, z18, z19, z20] H9 := by
  have hr9 := hr.mono (show 9 ≤ 20 by omega)
  have hs : sizeLine = 16777216 := sizeLine_eq
  have c2 : ce 2 = 35 := rfl
  -- what is told
  obtain ⟨tE, htE, leafE⟩ : ∃ tE, PSs (XRm P w K mg base f cdv A outer s H E) ((defBody sRoom).drop 10) tE ∧
      ∀ (D : Ends) (H9 : Hp) (b an lw N C S pd : Addr) (name roof : Str) (z : Ans) (lots : Int) (names rs : List Str) (cr : List (Str × Int × Int)) (ts : List Ts) (vs : List V) (ss : List Sg) (z10 z11 z12 z13 z14 z16 z17 z18 z20 : Option V) (v : V) (e : Ex) (Q : VK),
        D.rt = Q → AnsAt H9 an z → AnsOk z → CrL H9 C cr → TsL H9 S ts → H9 pd = some (.tup vs) → Paired (SgAt H9) vs ss → Kept4 names cr ts → (Bd.of ss).right names (wsOf 1) rs ∧ (Bd.of ss).few → roof ≠ "" → ExAt H9 v e → e.right names ["asked"] →
        (∀ a r H', Same H9 H' → EightAt H' a r → Drawn name roof rs r → Q (.ref a) H') →
        tE D [some (.ref b), some (.str name), some (.str roof), some (.ref an), some (.ref lw), some (.int lots), some (.int 1), some (.ref N), some (.ref C), some (.ref S), z10, z11, z12, z13, z14, some (.ref pd), z16, z17, z18, some v, z20] H9 := by
    refine ⟨_, pss_one (ps_ret (pe_tup (pa_cons (pv 1) (pa_cons (pv 2) (pa_cons (pe_callTy call_tuple_of rfl O.tuple (by decide +kernel) (pa_cons (pv 8) pa_nil)) (pa_cons (pe_callTy call_tuple_of rfl O.tuple (by decide +kernel) (pa_cons (pv 9) pa_nil))
      (pa_cons (pe_ix ix_tup (pv 3) pe_int (fun _ _ => rfl)) (pa_cons (pe_tup (pa_cons (pe_ix ix_tup (pv 3) pe_int (fun _ _ => rfl)) (pa_cons (pv 19) pa_nil))) (pa_cons (pe_ix ix_tup (pv 3) pe_int (fun _ _ => rfl)) (pa_cons (pv 15) pa_nil)))))))))), ?_⟩
    intro D H9 b an lw N C S pd name roof z lots names rs cr ts vs ss z10 z11 z12 z13 z14 z16 z17 z18 z20 v e Q eD ⟨v1, u1, ha, hv1, hu1⟩ hz ⟨as1, hC, pC⟩ ⟨us1, hS, pS⟩ hd pd_ hk hb hne hv he q
    refine ⟨_, rfl, _, rfl, _, rfl, C, _, rfl, .inl ⟨SqL.of hC, fun p1 n1 => ?_⟩⟩
    have s1 := same_new n1 (.tup (as1.map V.ref))
    refine ⟨_, rfl, S, _, rfl, .inl ⟨SqL.of (s1 _ _ hS), fun p2 n2 => ?_⟩⟩
    have s2 := same_new n2 (.tup us1)
    have s12 := s1.trans s2
    refine ⟨_, rfl, an, _, _, _, rfl, rfl, SqT.of (s12 _ _ ha), atI_nat (j := 0) rfl, _, rfl, an, _, _, _, rfl, rfl, SqT.of (s12 _ _ ha), atI_nat (j := 1) rfl, _, rfl, (by show 2 ≤ sizeLine; omega), fun p3 n3 => ?_⟩
    have s3 := same_new n3 (.tup [.int z.bd, v])
    have s13 := s12.trans s3
    refine ⟨_, rfl, an, _, _, _, rfl, rfl, SqT.of (s13 _ _ ha), atI_nat (j := 2) rfl, _, rfl, (by show 8 ≤ sizeLine; omega), fun p4 n4 => ?_⟩
    have s4 := same_new n4 (.tup [.str name, .str roof, .ref p1, .ref p2, .int z.wide, .ref p3, v1, .ref pd])
    have s14 := s13.trans s4
    rw [eD]
    obtain ⟨b1, b2, b3, b4, b5, b6⟩ := hk.parts (n := name) (a := roof) (k := some z.wide) (o := some (z.bd, e)) (p := z.vow) (y := Bd.of ss)
    refine q p4 (Rm.mk name roof cr ts (some z.wide) (some (z.bd, e)) z.vow (Bd.of ss)) _ s14 ⟨_, _, _, _, _, _, _, _, upd_same, ?_⟩ ⟨rfl, rfl, b1, b2, b3, fun h => absurd h hne, fun _ => ⟨⟨⟨_, rfl, hz.wide.1, by have := hz.wide.2; omega⟩, ⟨_, _, rfl, hz.bd, by rw [b4]; exact he⟩, hz.vow⟩, by rw [b4]; exact hb.1⟩, b5, ⟨hb.2, (fun k hk => by have e := Option.some.inj hk; have := hz.wide.2; omega), hk.tb⟩⟩
    have t := Same.tups s14
    exact ⟨rfl, rfl, ⟨p1, rfl, as1, (s2.trans (s3.trans s4)) p1 _ upd_same, paired_imp (fun _ _ y => s14 _ _ y) pC⟩, ⟨p2, rfl, us1, (s3.trans s4) p2 _ upd_same, paired_imp (fun _ _ y => y.keep t) pS⟩, rfl, ⟨p3, v, rfl, s4 p3 _ upd_same, hv.keep t⟩, hv1.keep t, ⟨pd, rfl, vs, s14 _ _ hd, of_at (paired_imp (fun _ _ y => SgAt.keep t _ y) pd_)⟩⟩
  refine ⟨_, pss_cons (ps_if (pt_cmpR op_eq (pv 6) pe_int (nomark _)) (pss_one (ps_ret (pe_tup (pa_cons (pv 1) (pa_cons (pv 2) (pa_cons (pe_callTy call_tuple_of rfl O.tuple (by decide +kernel) (pa_cons (pv 8) pa_nil)) (pa_cons (pe_callTy call_tuple_of rfl O.tuple (by decide +kernel) (pa_cons (pv 9) pa_nil))
      (pa_cons pe_non (pa_cons pe_non (pa_cons pe_non (pa_cons (pv 15) pa_nil))))))))))) pss_nil)
    (pss_cons (ps_par (i := 17) (j := 18) (by rfl) scRm.nd rfl rfl (by decide) rfl rfl (pa_cons (pe_D DX hr9 rfl (pa_cons (pv 0) (pa_cons (pv 7) (pa_cons pe_int (pa_cons pe_int pa_nil))))) (pa_cons (pe_ix ix_tup (pv 3) pe_int (fun _ _ => rfl)) pa_nil)) (by rfl))
    (pss_cons (ps_set (i := 19) scRm.nd rfl (Or.inl rfl) (pe_ifExp (pt_cmpR (op_eqD hr.units) (pv 18) (pe_tup (pa_cons pe_str pa_nil)) (nomark _)) (pv 18) (pe_ifExp (pt_cmpR (op_eqD hr.units) (pv 18) (pe_tup (pa_cons pe_str (pa_cons pe_int pa_nil))) (nomark _)) (pv 17) (pe_tup (pa_cons pe_str (pa_cons (pv 17) (pa_cons (pv 18) pa_nil))))))) htE)), ?_⟩
  intro D H9 b an lw N C S pd name roof z lots as names rs cr ts vs ss z10 z11 z12 z13 z14 z16 z17 z18 z19 z20 M Q eD hB hM hA hz hN hNb hC hS hCb hSb hd pd_ hk hb has hroof q
  refine ⟨_, rfl, rfl, _, rfl, itEq (fun c1 => ?_) (fun c1 => ?_)⟩
  · -- the first room
    have a0 : as = 0 := by omega
    subst a0
    have hr0 : roof = "" := hroof.mp rfl
    obtain ⟨as1, hC, pC⟩ := hC
    obtain ⟨us1, hS, pS⟩ := hS
    refine ⟨_, rfl, _, rfl, _, rfl, C, _, rfl, .inl ⟨SqL.of hC, fun p1 n1 => ?_⟩⟩
    have s1 := same_new n1 (.tup (as1.map V.ref))
    refine ⟨_, rfl, S, _, rfl, .inl ⟨SqL.of (s1 _ _ hS), fun p2 n2 => ⟨_, rfl, (by show 8 ≤ sizeLine; omega), fun p4 n4 => ?_⟩⟩⟩
    have s2 := same_new n2 (.tup us1)
    have s4 := same_new n4 (.tup [.str name, .str roof, .ref p1, .ref p2, .non, .non, .non, .ref pd])
    have s14 := s1.trans (s2.trans s4)
    rw [eD]
    obtain ⟨b1, b2, b3, b4, b5, b6⟩ := hk.parts (n := name) (a := roof) (k := none) (o := none) (p := none) (y := Bd.of ss)
    refine q p4 (Rm.mk name roof cr ts none none none (Bd.of ss)) _ (.of s14) ((hB.keep s14).more (by omega)) ⟨_, _, _, _, _, _, _, _, upd_same, ?_⟩ ⟨rfl, rfl, b1, b2, b3, fun _ => ⟨⟨rfl, rfl, rfl⟩, by rw [b4]; exact hb.1⟩, fun h => absurd hr0 h, b5, ⟨hb.2, (fun k hk => by cases hk), hk.tb⟩⟩
    have t := Same.tups s14
    exact ⟨rfl, rfl, ⟨p1, rfl, as1, (s2.trans s4) p1 _ upd_same, paired_imp (fun _ _ y => s14 _ _ y) pC⟩, ⟨p2, rfl, us1, s4 p2 _ upd_same, paired_imp (fun _ _ y => y.keep t) pS⟩, rfl, rfl, rfl, ⟨pd, rfl, vs, s14 _ _ hd, of_at (paired_imp (fun _ _ y => SgAt.keep t _ y) pd_)⟩⟩
  · have a1 : as = 1 := by omega
    subst a1
    have hr1 : roof ≠ "" := fun h => absurd (hroof.mpr h) (by decide)
    have h4 := hk.len
    refine ⟨_, rfl, _, rfl, b, N, 2, M, names, 1, rfl, by decide, by decide, hB, by omega, hN, hNb, by omega, fun ve e H1 k1 B1 g1 g2 g3 => ?_⟩
    rw [c2] at B1
    have g2 : e.deep ≤ 2 := g2
    have t1 := hB.tups k1
    have hA1 := hA.keep t1
    have hz2 := hz
    obtain ⟨v1, u1, ha, hv1, hu1⟩ := id hA1
    refine ⟨_, rfl, an, _, _, _, rfl, rfl, SqT.of ha, atI_nat (j := 3) rfl, _, _, rfl, ?_⟩
    have hC1 : CrL H1 C cr := by
      obtain ⟨as1, h1, h2⟩ := hC
      exact ⟨as1, k1 _ _ hCb h1, paired_imp (fun _ _ y => t1 _ _ y) h2⟩
    have hS1 : TsL H1 S ts := by
      obtain ⟨as1, h1, h2⟩ := hS
      exact ⟨as1, k1 _ _ hSb h1, paired_imp (fun _ _ y => y.keep t1) h2⟩
    have hd1 := t1 _ _ hd
    have pd1 : Paired (SgAt H1) vs ss := paired_imp (fun _ _ y => SgAt.keep t1 _ y) pd_
    have her : e.right names ["asked"] := Ex.right_of g3 (by omega)
    have go : ∀ (D_ : Ends) (H2 : Hp) (z16 z17 z18 z20 : Option V) (v : V) (te : Ex), D_.rt = Q → Same H1 H2 → ExAt H2 v te → te.right names ["asked"] →
        tE D_ [some (.ref b), some (.str name), some (.str roof), some (.ref an), some (.ref lw), some (.int lots), some (.int 1), some (.ref N), some (.ref C), some (.ref S), z10, z11, z12, z13, z14, some (.ref pd), z16, z17, z18, some v, z20] H2 :=
      fun D_ H2 z16 z17 z18 z20 v te e1 s2 h1 h2 => leafE D_ H2 b an lw N C S pd name roof z lots names rs cr ts vs ss z10 z11 z12 z13 z14 z16 z17 z18 z20 v te Q e1 (hA1.keep (Same.tups s2)) hz (hC1.keep s2) (hS1.keep s2) (s2 _ _ hd1) (paired_imp (fun _ _ y => SgAt.keep (Same.tups s2) _ y) pd1) hk hb hr1 h1 h2
        (fun a r H' s3 => q a r H' (k1.trans (.of (s2.trans s3))) ((B1.keep (s2.trans s3)).more (by omega)))
    refine ⟨_, rfl, (by show 1 ≤ sizeLine; omega), fun p1 n1 => ?_⟩
    have s1 := same_new n1 (.tup [.str "asked"])
    have dA : Dp K (upd H1 p1 (.tup [.str "asked"])) (.ref p1) (.tuple [.str "asked"]) := .tup (SqT.of upd_same) (.cons (.str _) .nil)
    have restR : ∀ u te, ExAt H1 u te → te.deep ≤ 2 → te.fit names ["asked"] → ∀ H2, Same H1 H2 → ∀ p, H2 p = some (.tup [.str "rest", ve, u]) → ExAt H2 (.ref p) (.op .rest e te) ∧ (Ex.op .rest e te).right names ["asked"] := fun u te h1 h2 h3 H2 s2 p hp =>
      ⟨.op (d := .rest) hp (g1.keep (Same.tups s2)) (h1.keep (Same.tups s2)), Ex.right_of ⟨g3, h3⟩ (by show max e.deep te.deep + 1 ≤ 4; omega)⟩
    rcases hz2.by_ with eb | eb | eb | ⟨k, k1', k6, eb⟩
    · rw [eb] at hu1
      cases hu1 with
      | num h =>
        rename_i a
        have d1 : Dp K (upd H1 p1 (.tup [.str "asked"])) (.ref a) (.tuple [.str "number", .int 0]) := .tup (SqT.of (s1 _ _ h)) (.cons (.str _) (.cons (.int _) .nil))
        refine ⟨_, _, d1, dA, by decide +kernel, by decide +kernel, _, rfl, itF (by decide +kernel) ?_⟩
        refine ⟨_, rfl, (by show 2 ≤ sizeLine; omega), fun p2 n2 => ?_⟩
        have s2 := same_new n2 (.tup [.str "number", .int 0])
        refine ⟨.tuple [.str "number", .int 0], .tuple [.str "number", .int 0], .tup (SqT.of (s2 _ _ (s1 _ _ h))) (.cons (.str _) (.cons (.int _) .nil)), .tup (SqT.of upd_same) (.cons (.str _) (.cons (.int _) .nil)), by decide +kernel, by decide +kernel, _, rfl, itT (by decide +kernel) ?_⟩
        exact ⟨_, rfl, go _ _ _ _ _ _ _ e eD (s1.trans s2) (g1.keep (Same.tups (s1.trans s2))) her⟩
    · rw [eb] at hu1
      cases hu1 with
      | asked h =>
        rename_i a
        refine ⟨.tuple [.str "asked"], _, .tup (SqT.of (s1 _ _ h)) (.cons (.str _) .nil), dA, by decide +kernel, by decide +kernel, _, rfl, itT (by decide +kernel) ?_⟩
        exact ⟨_, rfl, go _ _ _ _ _ _ _ .asked eD s1 (.asked (s1 _ _ h)) (Ex.right_of (List.mem_singleton.mpr rfl) (by decide))⟩
    · rw [eb] at hu1
      cases hu1 with
      | op h h1 h2 =>
        rename_i a v' u'
        cases h1 with
        | asked h3 =>
          cases h2 with
          | num h4 =>
            rename_i a3 a4
            have dd : ∀ H2, Same H1 H2 → Dp K H2 (.ref a) (.tuple [.str "plus", .tuple [.str "asked"], .tuple [.str "number", .int 1]]) := fun H2 s2 => .tup (SqT.of (s2 _ _ h)) (.cons (.str _) (.cons (.tup (SqT.of (s2 _ _ h3)) (.cons (.str _) .nil)) (.cons (.tup (SqT.of (s2 _ _ h4)) (.cons (.str _) (.cons (.int _) .nil))) .nil)))
            refine ⟨_, _, dd _ s1, dA, by decide +kernel, by decide +kernel, _, rfl, itF (by decide +kernel) ?_⟩
            refine ⟨_, rfl, (by show 2 ≤ sizeLine; omega), fun p2 n2 => ?_⟩
            have s2 := same_new n2 (.tup [.str "number", .int 0])
            refine ⟨_, .tuple [.str "number", .int 0], dd _ (s1.trans s2), .tup (SqT.of upd_same) (.cons (.str _) (.cons (.int _) .nil)), by decide +kernel, by decide +kernel, _, rfl, itF (by decide +kernel) ?_⟩
            refine ⟨_, rfl, _, rfl, (by show 3 ≤ sizeLine; omega), fun p3 n3 => ?_⟩
            have s3 := same_new n3 (.tup [.str "rest", ve, .ref a])
            have sA := s1.trans (s2.trans s3)
            obtain ⟨r1, r2⟩ := restR (.ref a) (.op .plus .asked (.num 1)) (.op (d := .plus) h (.asked h3) (.num h4)) (by decide) ⟨List.mem_singleton.mpr rfl, by decide, by decide⟩ _ sA p3 upd_same
            exact go _ _ _ _ _ _ _ _ eD sA r1 r2
    · rw [eb] at hu1
      cases hu1 with
      | num h =>
        rename_i a
        have dd : ∀ H2, Same H1 H2 → Dp K H2 (.ref a) (.tuple [.str "number", .int k]) := fun H2 s2 => .tup (SqT.of (s2 _ _ h)) (.cons (.str _) (.cons (.int _) .nil))
        have sh : SeqAt.shaped (.tuple [.str "number", .int k]) = true := by kernel_rfl
        have ne0 : PyData.eqv (.tuple [.str "number", .int k]) (.tuple [.str "number", .int 0]) = false := by
          simp only [PyData.eqv, PyData.eqvAll]
          simp
          omega
        refine ⟨_, _, dd _ s1, dA, sh, by decide +kernel, _, rfl, itF rfl ?_⟩
        refine ⟨_, rfl, (by show 2 ≤ sizeLine; omega), fun p2 n2 => ?_⟩
        have s2 := same_new n2 (.tup [.str "number", .int 0])
        refine ⟨_, .tuple [.str "number", .int 0], dd _ (s1.trans s2), .tup (SqT.of upd_same) (.cons (.str _) (.cons (.int _) .nil)), sh, by decide +kernel, _, rfl, itF ne0 ?_⟩
        refine ⟨_, rfl, _, rfl, (by show 3 ≤ sizeLine; omega), fun p3 n3 => ?_⟩
        have s3 := same_new n3 (.tup [.str "rest", ve, .ref a])
        have sA := s1.trans (s2.trans s3)
        obtain ⟨r1, r2⟩ := restR (.ref a) (.num k) (.num h) (by show 1 ≤ 2; decide) ⟨by omega, by omega⟩ _ sA p3 upd_same
        exact go _ _ _ _ _ _ _ _ eD sA r1 r2
end
end Any
set_option pp.maxSteps 600
namespace Any
open L2 PySem PySem.Spec PyProof.Rows LamX NdefX
/-! ### _law_room: its deeds -/
def lowD (ls : List (Str × Int)) : List PyData := ls.map fun z => PyData.tuple [.str z.1, .int z.2]
theorem low_dp {K : PySem.W.Frag} {H : Hp} : ∀ {as : List Addr} {ls : List (Str × Int)}, Paired (fun (a : Addr) (x : Str × Int) => H a = some (.tup [.str x.1, .int x.2])) as ls → DpAll K H (as.map V.ref) (lowD ls)
  | _, _, .nil => .nil
  | _, _, .cons r t => .cons (.tup (SqT.of r) (.cons (.str _) (.cons (.int _) .nil))) (low_dp t)
theorem low_lay : ∀ ls : List (Str × Int), (∀ z ∈ ls, PyData.strOk z.1 = true) → PyData.canLayAll0 (lowD ls) = true ∧ PyData.depthAll (lowD ls) ≤ 1
  | [], _ => ⟨rfl, Nat.zero_le _⟩
  | z :: r, h => by
    obtain ⟨h1, h2⟩ := low_lay r fun y hy => h y (List.mem_cons_of_mem _ hy)
    have h3 := h z (List.mem_cons_self ..)
    refine ⟨?_, ?_⟩
    · show ((PyData.strOk z.1 && (true && true)) && PyData.canLayAll0 (lowD r)) = true
      rw [h1, h3]
      rfl
    · show max (max 0 (max 0 0) + 1) (PyData.depthAll (lowD r)) ≤ 1
      omega
theorem shaped_low {ls : List (Str × Int)} (h : ∀ z ∈ ls, PyData.strOk z.1 = true) : SeqAt.shaped (.list (lowD ls)) = true := by
  obtain ⟨h1, h2⟩ := low_lay ls h
  unfold SeqAt.shaped
  show (PyData.canLayAll0 (lowD ls) && decide (PyData.depthAll (lowD ls) + 1 ≤ 64)) = true
  rw [h1, decide_eq_true (by omega)]
  rfl
theorem eqv_low (ls : List (Str × Int)) : PyData.eqv (.list (lowD ls)) (.list []) = decide (ls = []) := by
  cases ls with
  | nil => rfl
  | cons x r => rfl
theorem tot_le : ∀ l : List Sg, (∀ s ∈ l, s.tot ≤ 1) → (l.map Sg.tot).sum ≤ l.length
  | [], _ => Nat.le_refl _
  | s :: r, h => by
    have h1 := h s (List.mem_cons_self ..)
    have h2 := tot_le r fun t ht => h t (List.mem_cons_of_mem _ ht)
    rw [List.map_cons, List.sum_cons, List.length_cons]
    omega
theorem right_app {names ws rs : List Str} {l m : List Sg} (h1 : ∀ s ∈ l, s.ok names ws rs ∧ s.dp ≤ 3) (h2 : ∀ s ∈ m, s.ok names ws rs ∧ s.dp ≤ 1 ∧ s.tot ≤ 1) (h3 : l.length ≤ 5) (h4 : m.length ≤ 4) (h5 : (l.map Sg.tot).sum ≤ 17)   : (Bd.of (l ++ m)).right names ws rs ∧ (Bd.of (l ++ m)).few := by
  have h6 := tot_le m fun s hs => (h2 s hs).2.2
  refine ⟨⟨of_ok fun s hs => ?_, by rw [of_len, List.length_append]; omega, of_dp fun s hs => ?_, by rw [of_tot, List.map_append, List.sum_append]; omega⟩, by rw [of_len, List.length_append]; omega, by rw [of_tot, List.map_append, List.sum_append]; omega⟩
  · rcases List.mem_append.mp hs with hs | hs
    · exact (h1 s hs).1
    · exact (h2 s hs).1
  · rcases List.mem_append.mp hs with hs | hs
    · have := (h1 s hs).2; omega
    · have := (h2 s hs).2.1; omega
section
variable {P : Program} {w : World} {K : PySem.W.Frag} {mg : Str → Option Value} {base : Heap} {f : Addr} {cdv : Value} {A : Around} {outer : List Env} {s : Shared} {H : Hp} {E : XK}
set_option maxHeartbeats 4000000 in
theorem room_deeds (O : Own mg) (DT : Df P w K mg base 1 "_law_take" ["_law_bag_here", "_law_many_here"] spTake) (DO : Df P w K mg base 2 "_law_of" ["_law_bag_here", "_law_some"] spOf) (DM : Df P w K mg base 2 "_law_mixed" ["_law_bag_here", "_law_some"] spMixed)
    (DX : Df P w K mg base 9 "_law_expr" psE (spExpr 7)) (DG : Df P w K mg base 21 "_law_steps" psSt (spSteps 3)) (hr : Room 21 (XRm P w K mg base f cdv A outer s H E).A) : ∃ t4, PSs (XRm P w K mg base f cdv A outer s H E) ((defBody sRoom).drop 4) t4 ∧
    ∀ (D : Ends) (H9 : Hp) (b an lw N C S L : Addr) (name roof : Str) (z : Ans) (lots : Int) (as : Nat) (names : List Str) (ls : List (Str × Int)) (cr : List (Str × Int × Int)) (ts : List Ts) (ss : List Sg) (z11 z12 z13 z14 z15 z16 z17 z18 z19 z20 : Option V) (M : Nat) (Q : VK),
      D.rt = Q → Bag H9 b M → M + 101000 < 2 ^ 40 → AnsAt H9 an z → AnsOk z → H9 N = some (.lst (names.map V.str)) → N ≠ b → CrL H9 C cr → TsL H9 S ts → SgL H9 L ss → LowsAt H9 lw ls → C ≠ b → S ≠ b → L ≠ b → lw ≠ b → ls.length ≤ 8 → (∀ z ∈ ls, PyData.strOk z.1 = true) → Kept4 names cr ts →
      ss.length ≤ 4 → (∀ sg ∈ ss, sg.ok names (wsOf as) (ls.map (·.1)) ∧ sg.dp ≤ 1 ∧ sg.tot ≤ 1) → as ≤ 1 → (as = 0 ↔ roof = "") →
      (∀ a r H', Kept b H9 H' → Bag H' b (M + 101000) → EightAt H' a r → Drawn name roof (ls.map (·.1)) r → Q (.ref a) H') →
      t4 D [some (.ref b), some (.str name), some (.str roof), some (.ref an), some (.ref lw), some (.int lots), some (.int as), some (.ref N), some (.ref C), some (.ref S), some (.ref L), z11, z12, z13, z14, z15, z16, z17, z18, z19, z20] H9 := by
  have hr1 := hr.mono (show 1 ≤ 21 by omega)
  have hr2 := hr.mono (show 2 ≤ 21 by omega)
  have hr9 := hr.mono (show 9 ≤ 21 by omega)
  have hs : sizeLine = 16777216 := sizeLine_eq
  have hce : ce 2 = 35 := rfl
  have cs2 : cs 2 = 100000 := rfl
  obtain ⟨t7, ht7, leaf7⟩ := room_end (f := f) (cdv := cdv) (A := A) (outer := outer) (s := s) (H := H) (E := E) O DX (hr.mono (by omega))
  obtain ⟨t6, ht6, leaf6⟩ : ∃ t6, PSs (XRm P w K mg base f cdv A outer s H E) ((defBody sRoom).drop 6) t6 ∧
    ∀ (D : Ends) (H9 : Hp) (b an lw N C S L pd : Addr) (name roof : Str) (z : Ans) (lots : Int) (as : Nat) (names : List Str) (ls : List (Str × Int)) (cr : List (Str × Int × Int)) (ts : List Ts) (ss gs : List Sg) (vs : List V) (z11 z12 z13 z14 z16 z17 z18 z19 z20 : Option V) (M : Nat) (Q : VK),
      D.rt = Q → Bag H9 b M → M + 100 < 2 ^ 40 → AnsAt H9 an z → AnsOk z → H9 N = some (.lst (names.map V.str)) → N ≠ b → CrL H9 C cr → TsL H9 S ts → SgL H9 L ss → C ≠ b → S ≠ b → L ≠ b → Kept4 names cr ts →
      ss.length ≤ 4 → (∀ sg ∈ ss, sg.ok names (wsOf as) (ls.map (·.1)) ∧ sg.dp ≤ 1 ∧ sg.tot ≤ 1) → H9 pd = some (.tup vs) → Paired (SgAt H9) vs gs → (∀ sg ∈ gs, sg.ok names (wsOf as) (ls.map (·.1)) ∧ sg.dp ≤ 3) → gs.length ≤ 5 → (gs.map Sg.tot).sum ≤ 17 → as ≤ 1 → (as = 0 ↔ roof = "") →
      (∀ a r H', Kept b H9 H' → Bag H' b (M + 100) → EightAt H' a r → Drawn name roof (ls.map (·.1)) r → Q (.ref a) H') →
      t6 D [some (.ref b), some (.str name), some (.str roof), some (.ref an), some (.ref lw), some (.int lots), some (.int as), some (.ref N), some (.ref C), some (.ref S), some (.ref L), z11, z12, z13, z14, some (.ref pd), z16, z17, z18, z19, z20] H9 := by
    refine ⟨_, pss_cons (ps_set (i := 15) scRm.nd rfl (Or.inl rfl) (pe_op op_catA (pv 15) (pe_callTy call_tuple_of rfl O.tuple (by decide +kernel) (pa_cons (pe_D DM hr2 rfl (pa_cons (pv 0) (pa_cons (pv 10) pa_nil))) pa_nil)))) ht7, ?_⟩
    intro D H9 b an lw N C S L pd name roof z lots as names ls cr ts ss gs vs z11 z12 z13 z14 z16 z17 z18 z19 z20 M Q eD hB hM hA hz hN hNb hC hS ⟨us, hL, pL⟩ hCb hSb hLb hk h4 hss hd pd_ hgs g5 g17 has hroof q
    have lu := paired_len pL
    have lv := paired_len pd_
    refine ⟨_, rfl, _, rfl, _, rfl, b, L, us, M, rfl, hB, by omega, hL, hLb, by omega, fun p ys H1 np k1 B1 hp perm => ⟨p, _, rfl, .inl ⟨SqL.of hp, fun pt nt => ?_⟩⟩⟩
    have s1 := same_new nt (.tup ys)
    have t1 := hB.tups k1
    have ly := perm.length_eq
    obtain ⟨ss', pm, pp⟩ := paired_perm perm (paired_imp (fun _ g y => SgAt.keep t1 g y) pL)
    have go : ∀ (pd' : Addr) (H2 : Hp), Same (upd H1 pt (.tup ys)) H2 → H2 pd' = some (.tup (vs ++ ys)) → t7 D [some (.ref b), some (.str name), some (.str roof), some (.ref an), some (.ref lw), some (.int lots), some (.int as), some (.ref N), some (.ref C), some (.ref S), some (.ref L), z11, z12, z13, z14, some (.ref pd'), z16, z17, z18, z19, z20] H2 := by
      intro pd' H2 s2 h2
      have sA := s1.trans s2
      have k2 : Kept b H9 H2 := k1.trans (.of sA)
      have t2 : Tups H9 H2 := hB.tups k2
      refine leaf7 D H2 b an lw N C S pd' name roof z lots as names (ls.map (·.1)) cr ts (vs ++ ys) (gs ++ ss') _ _ _ _ _ _ _ _ _ _ (M + us.length) Q eD (B1.keep sA) (by omega) (hA.keep t2) hz (k2 _ _ hNb hN) hNb ?_ ?_ hCb hSb h2 (paired_app (paired_imp (fun _ _ y => SgAt.keep t2 _ y) pd_) (paired_imp (fun _ _ y => SgAt.keep (Same.tups sA) _ y) pp)) hk (right_app hgs (fun sg hg => hss sg (pm.mem_iff.mp hg)) g5 (by rw [pm.length_eq]; exact h4) g17) has hroof
        (fun a r H' k3 B3 => q a r H' (k2.trans k3) (B3.more (by omega)))
      · obtain ⟨as1, h1, h2⟩ := hC
        exact ⟨as1, k2 _ _ hCb h1, paired_imp (fun _ _ y => t2 _ _ y) h2⟩
      · obtain ⟨as1, h1, h2⟩ := hS
        exact ⟨as1, k2 _ _ hSb h1, paired_imp (fun _ _ y => y.keep t2) h2⟩
    have hd1 := s1 _ _ (t1 _ _ hd)
    refine ⟨pd, pt, vs, ys, rfl, rfl, SqT.of hd1, SqT.of upd_same, by omega, fun e => ?_, fun _ e => ?_, fun _ _ p2 n2 => ?_⟩
    · subst e
      exact go pt _ same_refl upd_same
    · subst e
      rw [List.append_nil] at go
      exact go pd _ same_refl hd1
    · exact go p2 _ (same_new n2 _) upd_same
  refine ⟨_, pss_cons (ps_set (i := 15) scRm.nd rfl (Or.inl rfl) (pe_D DG hr rfl (pa_cons (pv 0) (pa_cons (pv 7) (pa_cons (pv 6) (pa_cons (pe_lc (own := [("_law_one", 20)]) (g := gName 20) (tt := tYes) rfl scRm.nd (pi_list (pv 4)) (blkOk_by (N := nmRm) (sc := defScope sRoom) (by decide +kernel))
        (fun _ _ _ _ _ => pg_name (i := 20) scRm.nd rfl (Or.inl rfl)) (fun _ _ _ _ _ => pts_nil) (fun _ _ _ _ _ => pe_ix (show IxR _ (rIxT K) from ix_tup) (pv 20) pe_int (fun _ _ => rfl))) (pa_cons pe_int pa_nil)))))))
    (pss_cons (ps_if (PW.pt (pw_and (pt_cmpR (op_neD hr.units) (pv 4) (pe_lst pa_nil) (nomark _)) (pw_and1 (pt_cmpR op_gt (pe_D DT hr1 rfl (pa_cons (pv 0) (pa_cons pe_int pa_nil))) pe_int (nomark _)))))
      (pss_cons (ps_par (i := 16) (j := 17) (by rfl) scRm.nd rfl rfl (by decide) rfl rfl (pa_cons (pe_ix ix_tup (pe_D DO hr2 rfl (pa_cons (pv 0) (pa_cons (pv 4) pa_nil))) pe_int (fun _ _ => rfl)) (pa_cons (pe_D DX hr9 rfl (pa_cons (pv 0) (pa_cons (pv 7) (pa_cons (pv 6) (pa_cons pe_int pa_nil))))) pa_nil)) (by rfl))
      (pss_one (ps_set (i := 15) scRm.nd rfl (Or.inl rfl) (pe_op op_catA (pe_tup (pa_cons (pe_tup (pa_cons pe_str (pa_cons (pe_ix ix_list (pv 7) pe_int (fun _ _ => rfl)) (pa_cons (pv 16) (pa_cons (pv 17) pa_nil))))) pa_nil)) (pv 15))))) pss_nil) ht6), ?_⟩
  intro D H9 b an lw N C S L name roof z lots as names ls cr ts ss z11 z12 z13 z14 z15 z16 z17 z18 z19 z20 M Q eD hB hM hA hz hN hNb hC hS hL ⟨ws, hw, pw⟩ hCb hSb hLb hwb hls hstr hk h4 hss has hroof q
  have lw8 := paired_len pw
  have nm4 := hk.len
  have nm1 := hk.some
  refine ⟨_, rfl, _, rfl, _, rfl, _, rfl, lw, rfl, ⟨_, SqL.of hw⟩, fun F nF => ?_⟩
  refine turns_list (K := K) (a := lw) (xs := ws.map V.ref) (ls.map fun z => some (V.str z.1)) nF (fun Hc sm => SqL.of (sm _ _ hw)) (by rw [List.length_map, List.length_map]; exact lw8.symm) (by rw [List.length_map]; omega) ?_ ?_
  · intro i v o Hc Y N_ hv ho sm hY hN_
    obtain ⟨e, he, rfl⟩ := refs_at hv
    obtain ⟨zz, hzz, hat⟩ := paired_get pw he
    rw [List.getElem?_map, hzz] at ho
    exact ⟨rfl, _, rfl, e, _, _, _, rfl, rfl, SqT.of (sm _ _ hat), atI_nat (j := 0) rfl, hY _ (Option.some.inj ho).symm Hc same_refl⟩
  intro H1 hF s1
  rw [fm_some (fun z : Str × Int => V.str z.1)] at hF
  have hF : H1 F = some (.lst ((ls.map (·.1)).map V.str)) := by rw [hF, List.map_map]; rfl
  have bF : F ≠ b := hB.ne nF
  refine ⟨b, N, F, 2, M, as, names, ls.map (·.1), rfl, has, by decide, by decide, hB.keep s1, by omega, s1 _ _ hN, hNb, nm1, by omega, hF, bF, by rw [List.length_map]; exact hls, fun x hx => ?_, fun pd bd H2 k2 B2 hbd ok => ?_⟩
  · obtain ⟨zz, h1, h2⟩ := List.mem_map.mp hx
    rw [← h2]
    exact hstr zz h1
  rw [cs2] at B2
  have k2' : Kept b H9 H2 := (Kept.of s1).trans k2
  have t2 : Tups H9 H2 := hB.tups k2'
  obtain ⟨vs, hd, pd0⟩ := hbd
  have pd_ := pd0.paired
  have tl := toL_len bd
  have o2 := ok.len
  have o4 := ok.tot
  rw [Bd.tot_eq] at o4
  have o4 : (bd.toL.map Sg.tot).sum ≤ 16 := o4
  have o2 : bd.len ≤ 4 := o2
  have hgs : ∀ sg ∈ bd.toL, sg.ok names (wsOf as) (ls.map (·.1)) ∧ sg.dp ≤ 3 := fun sg hg => ⟨Bd.ok_mem ok.ok hg, Nat.le_trans (Bd.dp_mem hg) ok.dp⟩
  have hw2 := k2' _ _ hwb hw
  have hC2 : CrL H2 C cr := by
    obtain ⟨as1, h1, h2⟩ := hC
    exact ⟨as1, k2' _ _ hCb h1, paired_imp (fun _ _ y => t2 _ _ y) h2⟩
  have hS2 : TsL H2 S ts := by
    obtain ⟨as1, h1, h2⟩ := hS
    exact ⟨as1, k2' _ _ hSb h1, paired_imp (fun _ _ y => y.keep t2) h2⟩
  have hL2 : SgL H2 L ss := by
    obtain ⟨as1, h1, h2⟩ := hL
    exact ⟨as1, k2' _ _ hLb h1, paired_imp (fun _ _ y => SgAt.keep t2 _ y) h2⟩
  have go : ∀ (D_ : Ends) (H3 : Hp) (pd' : Addr) (vs' : List V) (gs : List Sg) (M' : Nat) (z16 z17 : Option V), D_.rt = Q → Kept b H2 H3 → Bag H3 b M' → M' ≤ M + 100000 + 40 → H3 pd' = some (.tup vs') → Paired (SgAt H3) vs' gs → (∀ sg ∈ gs, sg.ok names (wsOf as) (ls.map (·.1)) ∧ sg.dp ≤ 3) → gs.length ≤ 5 → (gs.map Sg.tot).sum ≤ 17 →
      t6 D_ [some (.ref b), some (.str name), some (.str roof), some (.ref an), some (.ref lw), some (.int lots), some (.int as), some (.ref N), some (.ref C), some (.ref S), some (.ref L), z11, z12, z13, z14, some (.ref pd'), z16, z17, z18, z19, z20] H3 := by
    intro D_ H3 pd' vs' gs M' z16 z17 e1 k3 B3 hM' h1 h2 h3 h5 h6
    have t3 : Tups H2 H3 := B2.tups k3
    refine leaf6 D_ H3 b an lw N C S L pd' name roof z lots as names ls cr ts ss gs vs' _ _ _ _ _ _ _ _ _ M' Q e1 B3 (by omega) ((hA.keep t2).keep t3) hz (k3 _ _ hNb (k2' _ _ hNb hN)) hNb ?_ ?_ ?_ hCb hSb hLb hk h4 hss h1 h2 h3 h5 h6 has hroof (fun a r H' k4 B4 => q a r H' (k2'.trans (k3.trans k4)) (B4.more (by omega)))
    · obtain ⟨as1, h1, h2⟩ := hC2
      exact ⟨as1, k3 _ _ hCb h1, paired_imp (fun _ _ y => t3 _ _ y) h2⟩
    · obtain ⟨as1, h1, h2⟩ := hS2
      exact ⟨as1, k3 _ _ hSb h1, paired_imp (fun _ _ y => y.keep t3) h2⟩
    · obtain ⟨as1, h1, h2⟩ := hL2
      exact ⟨as1, k3 _ _ hLb h1, paired_imp (fun _ _ y => SgAt.keep t3 _ y) h2⟩
  refine ⟨_, rfl, (by show 0 ≤ sizeLine; omega), fun pn nn => ?_⟩
  have sn := same_new nn (.lst [])
  refine ⟨.list (lowD ls), .list [], .lst (SqL.of (sn _ _ hw2)) (low_dp (paired_imp (fun _ _ y => sn _ _ (t2 _ _ y)) pw)), .lst (SqL.of upd_same) .nil, shaped_low hstr, rfl, _, rfl, ?_⟩
  rw [eqv_low]
  have B3 := B2.keep sn
  have stay : ∀ (D_ : Ends) (H3 : Hp) (M' : Nat) (z16 z17 : Option V), D_.rt = Q → Kept b H2 H3 → Bag H3 b M' → M' ≤ M + 100000 + 40 → t6 D_ [some (.ref b), some (.str name), some (.str roof), some (.ref an), some (.ref lw), some (.int lots), some (.int as), some (.ref N), some (.ref C), some (.ref S), some (.ref L), z11, z12, z13, z14, some (.ref pd), z16, z17, z18, z19, z20] H3 :=
    fun D_ H3 M' z16 z17 e1 k3 B4 hM' => go D_ H3 pd vs bd.toL M' z16 z17 e1 k3 B4 hM' (B2.tups k3 _ _ hd) (paired_imp (fun _ _ y => SgAt.keep (B2.tups k3) _ y) pd_) hgs (by omega) (by omega)
  refine itN (fun c1 => ?_) (fun c1 => itF rfl (stay _ _ _ _ _ eD (.of sn) B3 (by omega)))
  refine ⟨_, rfl, b, 3, M + 100000, rfl, B3, by omega, by decide, by decide, fun d3 H4 k4 B4 d30 d31 => ⟨_, _, rfl, rfl, _, rfl, itD (fun c2 => ?_) (fun c2 => stay _ _ _ _ _ eD ((Kept.of sn).trans k4) B4 (by omega))⟩⟩
  have ls1 : 1 ≤ ls.length := by
    cases ls with
    | nil => exact absurd rfl c1
    | cons x r => exact Nat.le_add_left 1 _
  have k4' : Kept b H2 H4 := (Kept.of sn).trans k4
  have k4'' := k2'.trans k4'
  have t4 : Tups H2 H4 := B2.tups k4'
  refine ⟨_, rfl, _, rfl, b, lw, ws.map V.ref, M + 100000 + 1, rfl, B4, by omega, k4'' _ _ hwb hw, hwb, by rw [List.length_map]; omega, by rw [List.length_map]; omega, fun vr H5 k5 B5 hvr => ?_⟩
  obtain ⟨e, he, rfl⟩ := List.mem_map.mp hvr
  obtain ⟨i, hi⟩ := List.getElem?_of_mem he
  obtain ⟨zz, hzz, hat⟩ := paired_get pw hi
  have k5' := k4''.trans k5
  have t5 : Tups H9 H5 := hB.tups k5'
  refine ⟨e, _, _, _, rfl, rfl, SqT.of (t5 _ _ hat), atI_nat (j := 0) rfl, ?_⟩
  refine ⟨_, rfl, _, rfl, _, rfl, b, N, 2, M + 100000 + 1 + 1, names, as, rfl, has, by decide, B5, by omega, k5' _ _ hNb hN, hNb, by omega, fun ve ex0 H6 k6 B6 a1 a2 a3 => ⟨_, _, rfl, ?_⟩⟩
  rw [hce] at B6
  have a2 : ex0.deep ≤ 2 := a2
  have k6' := k5'.trans k6
  have hn0 : ∃ n0, (names.map V.str)[0]? = some (.str n0) ∧ n0 ∈ names := by
    cases names with
    | nil => simp at nm1
    | cons x r => exact ⟨x, rfl, List.mem_cons_self ..⟩
  obtain ⟨n0, en0, in0⟩ := hn0
  refine ⟨_, rfl, N, _, _, _, rfl, rfl, SqL.of (k6' _ _ hNb hN), atI_nat (j := 0) en0, _, rfl, _, rfl, (by show 4 ≤ sizeLine; omega), fun p1 m1 => ⟨(by show 1 ≤ sizeLine; omega), fun p2 m2 => ?_⟩⟩
  have u1 := same_new m1 (.tup [.str "call", .str n0, .str zz.1, ve])
  have u2 := same_new m2 (.tup [.ref p1])
  have u12 := u1.trans u2
  have kd : Kept b H2 _ := k4'.trans (k5.trans (k6.trans (.of u12)))
  have td : Tups H2 _ := B2.tups kd
  have hcall : SgAt (upd (upd H6 p1 (.tup [.str "call", .str n0, .str zz.1, ve])) p2 (.tup [.ref p1])) (.ref p1) (.call n0 zz.1 ex0) := by
    unfold SgAt
    exact ⟨p1, ve, rfl, u2 p1 _ upd_same, a1.keep (Same.tups u12)⟩
  have okc : ∀ sg ∈ Sg.call n0 zz.1 ex0 :: bd.toL, sg.ok names (wsOf as) (ls.map (·.1)) ∧ sg.dp ≤ 3 := fun sg hg => by
    rcases List.mem_cons.mp hg with eg | hg
    · rw [eg]
      unfold Sg.ok Sg.dp
      exact ⟨⟨in0, List.mem_map.mpr ⟨zz, List.mem_of_getElem? hzz, rfl⟩, Ex.right_of a3 (by omega)⟩, by decide⟩
    · exact hgs sg hg
  have totc : ((Sg.call n0 zz.1 ex0 :: bd.toL).map Sg.tot).sum ≤ 17 := by
    rw [List.map_cons, List.sum_cons]
    unfold Sg.tot
    omega
  have fin : ∀ (D_ : Ends) (pd' : Addr) (H7 : Hp) (z16 z17 : Option V), D_.rt = Q → Same (upd (upd H6 p1 (.tup [.str "call", .str n0, .str zz.1, ve])) p2 (.tup [.ref p1])) H7 → H7 pd' = some (.tup ([.ref p1] ++ vs)) →
      t6 D_ [some (.ref b), some (.str name), some (.str roof), some (.ref an), some (.ref lw), some (.int lots), some (.int as), some (.ref N), some (.ref C), some (.ref S), some (.ref L), z11, z12, z13, z14, some (.ref pd'), z16, z17, z18, z19, z20] H7 := by
    intro D_ pd' H7 z16 z17 e1 s7 h7
    refine go D_ H7 pd' ([.ref p1] ++ vs) (.call n0 zz.1 ex0 :: bd.toL) _ z16 z17 e1 (kd.trans (.of s7)) ((B6.keep u12).keep s7) (by omega) h7 (.cons (SgAt.keep (Same.tups s7) _ hcall) (paired_imp (fun _ _ y => SgAt.keep (Same.tups s7) _ (SgAt.keep td _ y)) pd_)) okc (by rw [List.length_cons]; omega) totc
  have hd7 := td _ _ hd
  have lv := paired_len pd_
  refine ⟨_, rfl, p2, pd, [.ref p1], vs, rfl, rfl, SqT.of upd_same, SqT.of hd7, by show 1 + vs.length ≤ sizeLine; omega, (fun e => (nomatch e)), fun _ e => ?_, fun _ _ p3 n3 => ?_⟩
  · subst e
    exact fin _ p2 _ _ _ eD same_refl upd_same
  · exact fin _ p3 _ _ _ eD (same_new n3 _) upd_same
end
end Any
set_option pp.maxSteps 600
namespace Any
open L2 PySem PySem.Spec PyProof.Rows LamX NdefX
theorem cut_from (xs : List V) (i : Nat) : cutV xs (some (i : Int)) none = xs.drop i := by
  unfold cutV
  rw [HT.sIx_none, HT.sIx_nat]
  by_cases h : i ≤ xs.length
  · rw [Nat.min_eq_left h, List.take_of_length_le (by rw [List.length_drop]; exact Nat.le_refl _)]
  · rw [Nat.min_eq_right (by omega), List.drop_length, List.drop_of_length_le (by omega), List.take_nil]
/-! ### _law_room -/
def spRoom : Sp := fun vs H Q _ => ∃ (b an lw : Addr) (name roof : Str) (z : Ans) (ls : List (Str × Int)) (lots m : Nat), vs = [.ref b, .str name, .str roof, .ref an, .ref lw, .int lots] ∧ Bag H b m ∧ m + 102000 < 2 ^ 40 ∧ AnsAt H an z ∧ AnsOk z ∧ LowsAt H lw ls ∧ lw ≠ b ∧ ls.length ≤ 8 ∧ (∀ z ∈ ls, PyData.strOk z.1 = true) ∧ 1 ≤ lots ∧ lots ≤ 4 ∧
  ∀ (a : Addr) (r : Rm) (H' : Hp), Kept b H H' → Bag H' b (m + 102000) → EightAt H' a r → Drawn name roof (ls.map (·.1)) r → Q (.ref a) H'
theorem asks_of (roof : Str) : ∃ as : Nat, (if (!decide (V.str roof = V.str "")) = true then (1 : Int) else 0) = ((as : Nat) : Int) ∧ as ≤ 1 ∧ (as = 0 ↔ roof = "") := by
  by_cases h : roof = ""
  · refine ⟨0, ?_, by decide, by simp [h]⟩
    rw [h, eq_str]
    rfl
  · refine ⟨1, ?_, by decide, by simp [h]⟩
    rw [ne_str h]
    rfl
theorem LowsAt.keep {H H' : Hp} {b l : Addr} {ls : List (Str × Int)} (k : Kept b H H') (t : Tups H H') (n : l ≠ b) (h : LowsAt H l ls) : LowsAt H' l ls := by
  obtain ⟨as, h1, h2⟩ := h
  exact ⟨as, k _ _ n h1, paired_imp (fun _ _ y => t _ _ y) h2⟩
theorem CrL.kept {H H' : Hp} {b l : Addr} {cr : List (Str × Int × Int)} (k : Kept b H H') (t : Tups H H') (n : l ≠ b) (h : CrL H l cr) : CrL H' l cr := by
  obtain ⟨as, h1, h2⟩ := h
  exact ⟨as, k _ _ n h1, paired_imp (fun _ _ y => t _ _ y) h2⟩
theorem TsL.kept {H H' : Hp} {b l : Addr} {ts : List Ts} (k : Kept b H H') (t : Tups H H') (n : l ≠ b) (h : TsL H l ts) : TsL H' l ts := by
  obtain ⟨as, h1, h2⟩ := h
  exact ⟨as, k _ _ n h1, paired_imp (fun _ _ y => y.keep t) h2⟩
theorem SgL.kept {H H' : Hp} {b l : Addr} {ss : List Sg} (k : Kept b H H') (t : Tups H H') (n : l ≠ b) (h : SgL H l ss) : SgL H' l ss := by
  obtain ⟨as, h1, h2⟩ := h
  exact ⟨as, k _ _ n h1, paired_imp (fun _ _ y => SgAt.keep t _ y) h2⟩
/-- what the loop over the boxes keeps -/
structure Half (names done left : List Str) (as : Nat) (rs : List Str) (cr : List (Str × Int × Int)) (ts : List Ts) (ss : List Sg) : Prop where
  all : done ++ left = names
  nm : cr.map (·.1) = done
  crate : ∀ c ∈ cr, (1 ≤ c.2.1 ∧ c.2.1 ≤ 40) ∧ (0 ≤ c.2.2 ∧ c.2.2 ≤ c.2.1 - 1)
  tl : ts.length ≤ cr.length
  tr : ∀ t ∈ ts, t.right names []
  tv : ∀ t ∈ ts, ∀ kvs : List (Str × Int), (∀ c ∈ cr, look kvs c.1 = some c.2.2) → t.val kvs 0 0 = true
  tb : ∀ t ∈ ts, t.lb
  sl : ss.length ≤ cr.length
  so : ∀ s ∈ ss, s.ok names (wsOf as) rs ∧ s.dp ≤ 1 ∧ s.tot ≤ 1
theorem Half.more {names done left : List Str} {as : Nat} {rs : List Str} {cr cr' : List (Str × Int × Int)} {ts ts' : List Ts} {ss ss' : List Sg} (h : Half names done left as rs cr ts ss) (g : GrpOk left as rs cr' ts' ss') :
    Half names (done ++ left.take cr'.length) (left.drop cr'.length) as rs (cr ++ cr') (ts ++ ts') (ss ++ ss') := by
  have sub : ∀ x ∈ left, x ∈ names := fun x hx => by
    rw [← h.all]
    exact List.mem_append.mpr (.inr hx)
  have g1 := g.one
  have g2 := g.tl
  have g3 := g.sl
  have h1 := h.tl
  have h2 := h.sl
  refine ⟨by rw [List.append_assoc, List.take_append_drop]; exact h.all, by rw [List.map_append, h.nm, g.nm], fun c hc => ?_, by rw [List.length_append, List.length_append]; omega, fun t ht => ?_, fun t ht kvs hk => ?_, (fun t ht => (List.mem_append.mp ht).elim (h.tb t) (g.tb t)), by rw [List.length_append, List.length_append]; omega, fun s hs => ?_⟩
  · rcases List.mem_append.mp hc with hc | hc
    · exact h.crate c hc
    · exact g.crate c hc
  · rcases List.mem_append.mp ht with ht | ht
    · exact h.tr t ht
    · exact g.tr t ht names sub
  · rcases List.mem_append.mp ht with ht | ht
    · exact h.tv t ht kvs fun c hc => hk c (List.mem_append.mpr (.inl hc))
    · exact g.tv t ht kvs fun c hc => hk c (List.mem_append.mpr (.inr hc))
  · rcases List.mem_append.mp hs with hs | hs
    · exact h.so s hs
    · exact ⟨(g.so s hs).1 names sub, (g.so s hs).2⟩
section
variable {P : Program} {w : World} {K : PySem.W.Frag} {mg : Str → Option Value} {base : Heap} {f : Addr} {fd : FuncData}
set_option maxHeartbeats 8000000 in
theorem ok_room (O : Own mg) (msrt : mg "sorted" = none) (F : Fun K "_law_room" "_law_room" sRoom f fd) (DT : Df P w K mg base 1 "_law_take" ["_law_bag_here", "_law_many_here"] spTake) (DO : Df P w K mg base 2 "_law_of" ["_law_bag_here", "_law_some"] spOf) (DM : Df P w K mg base 2 "_law_mixed" ["_law_bag_here", "_law_some"] spMixed)
    (DX : Df P w K mg base 9 "_law_expr" psE (spExpr 7)) (DG : Df P w K mg base 21 "_law_steps" psSt (spSteps 3)) (DGr : Df P w K mg base 10 "_law_group" psGr spGroup) : FnOk P w K mg base CX0 22 f fd psRm spRoom := by
  refine F.ok scRm (fun vs H Q E h => ?_) (fun cdv A outer s H vs Q E hr h => ?_)
  · obtain ⟨b, an, lw, name, roof, z, ls, lots, m, rfl, _⟩ := h
    rfl
  obtain ⟨b, an, lw, name, roof, z, ls, lots, m, rfl, hB, hm, hA, hz, hW, hwb, hls, hstr, hl1, hl4, q⟩ := h
  have hr1 := hr.mono (show 1 ≤ 21 by omega)
  have hr2 := hr.mono (show 2 ≤ 21 by omega)
  have hr10 := hr.mono (show 10 ≤ 21 by omega)
  have hs : sizeLine = 16777216 := sizeLine_eq
  obtain ⟨t4, ht4, leaf4⟩ := room_deeds (f := f) (cdv := cdv) (A := A) (outer := outer) (s := s) (H := H) (E := E) O DT DO DM DX DG hr
  refine ⟨_, pss_cons (ps_set (i := 6) scRm.nd rfl (Or.inl rfl) (pe_callTy call_int1 rfl O.int (by decide +kernel) (pa_cons (pe_cmpR op_ne (pv 2) pe_str (nomark _)) pa_nil)))
    (pss_cons (ps_set (i := 7) scRm.nd rfl (Or.inl rfl) (pe_callB cr_sortedS rfl msrt (by decide +kernel) (pa_cons (pe_slice sl_list (pe_D DM hr2 rfl (pa_cons (pv 0) (pa_cons (pe_lst (pa_cons pe_str (pa_cons pe_str (pa_cons pe_str (pa_cons pe_str (pa_cons pe_str (pa_cons pe_str (pa_cons pe_str pa_nil)))))))) pa_nil))) po_none
        (po_some (pe_op op_add pe_int (pe_D DT hr1 rfl (pa_cons (pv 0) (pa_cons (pv 5) pa_nil)))))) pa_nil)))
    (pss_cons (ps_asg (pe_tup (pa_cons (pe_lst pa_nil) (pa_cons (pe_lst pa_nil) (pa_cons (pe_lst pa_nil) (pa_cons (pv 7) pa_nil))))) (pg_tup rfl (pgs_cons (pg_name (i := 8) scRm.nd rfl (Or.inl rfl)) (pgs_cons (pg_name (i := 9) scRm.nd rfl (Or.inl rfl)) (pgs_cons (pg_name (i := 10) scRm.nd rfl (Or.inl rfl)) (pgs_cons (pg_name (i := 11) scRm.nd rfl (Or.inl rfl)) pgs_nil))))))
    (pss_cons (ps_while PassesOwn.never (pt_cmpR (op_neD hr.units) (pv 11) (pe_lst pa_nil) (nomark _))
      (pss_cons (ps_asg (pe_D DGr hr10 rfl (pa_cons (pv 0) (pa_cons (pv 11) (pa_cons (pv 6) (pa_cons (pv 4) (pa_cons (pv 5) pa_nil)))))) (pg_tup rfl (pgs_cons (pg_name (i := 12) scRm.nd rfl (Or.inl rfl)) (pgs_cons (pg_name (i := 13) scRm.nd rfl (Or.inl rfl)) (pgs_cons (pg_name (i := 14) scRm.nd rfl (Or.inl rfl)) pgs_nil)))))
      (pss_cons (ps_par (i := 8) (j := 9) (by rfl) scRm.nd rfl rfl (by decide) rfl rfl (pa_cons (pe_op op_cat (pv 8) (pv 12)) (pa_cons (pe_op op_cat (pv 9) (pv 13)) pa_nil)) (by rfl))
      (pss_one (ps_par (i := 10) (j := 11) (by rfl) scRm.nd rfl rfl (by decide) rfl rfl (pa_cons (pe_op op_cat (pv 10) (pv 14)) (pa_cons (pe_slice sl_list (pv 11) (po_some (pe_callB call_len_seq rfl O.len PySem.boot_len (pa_cons (pv 12) pa_nil))) po_none) pa_nil)) (by rfl)))))) ht4))), ?_⟩
  obtain ⟨as, eas, has, hroof⟩ := asks_of roof
  refine ⟨_, rfl, rfl, .inr ⟨_, rfl, ?_⟩⟩
  rw [eas]
  refine ⟨_, rfl, (by show 7 ≤ sizeLine; omega), fun p1 n1 => ?_⟩
  have s1 := same_new n1 (.lst (seven.map V.str))
  refine ⟨b, p1, seven.map V.str, m, rfl, hB.keep s1, (by show m + 7 < _; omega), upd_same, hB.ne n1, by decide, fun p ys H2 np k2 B2 hp perm => ?_⟩
  have k2 : Kept b H H2 := (Kept.of s1).trans k2
  have B2 : Bag H2 b (m + 7) := B2
  refine ⟨_, rfl, _, rfl, b, lots, m + 7, rfl, B2, by omega, by omega, by omega, fun d H3 k3 B3 d0 d1 => ⟨_, _, rfl, rfl, _, rfl, ?_⟩⟩
  have bp : p ≠ b := (hB.keep s1).ne np
  obtain ⟨zs, ezs, pzs⟩ := strs_perm perm
  obtain ⟨dn, rfl⟩ : ∃ dn : Nat, d = dn := ⟨d.toNat, by omega⟩
  have ecut : cutV ys none (some (1 + (dn : Int))) = (zs.take (1 + dn)).map V.str := by
    rw [show (1 + (dn : Int)) = ((1 + dn : Nat) : Int) by omega, cut_any, ezs, List.map_take]
  refine ⟨p, ys, rfl, SqL.of (k3 _ _ bp hp), fun p4 n4 => ?_⟩
  have z7 : zs.length = 7 := by rw [pzs.length_eq]; rfl
  refine ⟨p4, zs.take (1 + dn), rfl, SqL.of (by rw [upd_same]; exact congrArg (fun x => some (HO.lst x)) ecut), by rw [List.length_take]; omega, fun names N perm2 srt nN => ?_⟩
  have nd0 : zs.Nodup := pzs.nodup_iff.mpr seven_nd
  have nd1 : (zs.take (1 + dn)).Nodup := nd0.sublist (List.take_sublist ..)
  have nd : names.Nodup := perm2.nodup_iff.mpr nd1
  have sv : ∀ x ∈ names, x ∈ seven := fun x hx => pzs.mem_iff.mp (List.mem_of_mem_take (perm2.mem_iff.mp hx))
  have nl : names.length = min (1 + dn) 7 := by rw [perm2.length_eq, List.length_take, z7]
  have s4 := same_new n4 (.lst (cutV ys none (some (1 + (dn : Int)))))
  have sN := same_new nN (.lst (names.map V.str))
  have k4 : Kept b H _ := k2.trans (k3.trans (.of (s4.trans sN)))
  have B4 := B3.keep (s4.trans sN)
  have eN := @upd_same (upd H3 p4 (.lst (cutV ys none (some (1 + (dn : Int)))))) N (.lst (names.map V.str))
  have bN : N ≠ b := (B3.keep s4).ne nN
  clear s4 sN
  generalize upd (upd H3 p4 (.lst (cutV ys none (some (1 + (dn : Int)))))) N (.lst (names.map V.str)) = H4 at *
  refine ⟨(by show 0 ≤ sizeLine; omega), fun C nC => ⟨(by show 0 ≤ sizeLine; omega), fun S nS => ⟨(by show 0 ≤ sizeLine; omega), fun L nL => ⟨_, rfl, (by show 4 ≤ sizeLine; omega), fun pt nt => ⟨pt, _, rfl, SqT.of upd_same, rfl, _, _, rfl, _, _, rfl, _, _, rfl, _, _, rfl, rfl, ?_⟩⟩⟩⟩⟩
  have sC := same_new nC (.lst [])
  have sS := same_new nS (.lst [])
  have sL := same_new nL (.lst [])
  have st := same_new nt (.tup [.ref C, .ref S, .ref L, .ref N])
  have sLt := sL.trans st
  have sSt := sS.trans sLt
  have sCt := sC.trans sSt
  have eC := sSt C _ upd_same
  have eS := sLt S _ upd_same
  have eL := st L _ upd_same
  have bC : C ≠ b := B4.ne nC
  have bS : S ≠ b := (B4.keep sC).ne nS
  have bL : L ≠ b := (B4.keep (sC.trans sS)).ne nL
  have k5 : Kept b H _ := k4.trans (.of sCt)
  have B5 := B4.keep sCt
  have eN5 := sCt _ _ eN
  clear sC sS sL st sLt sSt sCt
  generalize upd (upd (upd (upd H4 C (.lst [])) S (.lst [])) L (.lst [])) pt (.tup [.ref C, .ref S, .ref L, .ref N]) = H5 at *
  let W : Nat → L2.St → Hp → Prop := fun n σ Hc => ∃ (C S L F' : Addr) (cr : List (Str × Int × Int)) (ts : List Ts) (ss : List Sg) (done left : List Str) (z12 z13 z14 z15 z16 z17 z18 z19 z20 : Option V),
    σ = [some (.ref b), some (.str name), some (.str roof), some (.ref an), some (.ref lw), some (.int lots), some (.int as), some (.ref N), some (.ref C), some (.ref S), some (.ref L), some (.ref F'), z12, z13, z14, z15, z16, z17, z18, z19, z20] ∧ left.length = n ∧
    CrL Hc C cr ∧ TsL Hc S ts ∧ SgL Hc L ss ∧ Hc F' = some (.lst (left.map V.str)) ∧ C ≠ b ∧ S ≠ b ∧ L ≠ b ∧ F' ≠ b ∧ Half names done left as (ls.map (·.1)) cr ts ss ∧ Bag Hc b (m + 8 + 200 * done.length) ∧ Kept b H5 Hc
  refine ⟨W, ⟨_, C, S, L, N, [], [], [], [], names, none, none, none, none, none, none, none, none, none, rfl, rfl, ⟨[], eC, .nil⟩, ⟨[], eS, .nil⟩, ⟨[], eL, .nil⟩, eN5, bC, bS, bL, bN, ⟨rfl, rfl, (fun c hc => by cases hc), Nat.le_refl _, (fun t ht => by cases ht), (fun t ht => by cases ht), (fun t ht => by cases ht), Nat.le_refl _, (fun t ht => by cases ht)⟩, B5.more (by omega), .refl⟩, ?_⟩
  rintro n σ Hc ⟨C, S, L, F', cr, ts, ss, done, left, z12, z13, z14, z15, z16, z17, z18, z19, z20, rfl, hn, hC, hS, hL, hF, bC, bS, bL, bF, half, Bc, kc⟩
  have len := congrArg List.length half.all
  rw [List.length_append] at len
  have sub : ∀ x ∈ left, x ∈ names := fun x hx => by
    rw [← half.all]
    exact List.mem_append.mpr (.inr hx)
  have kc' := k5.trans kc
  have tH : Tups H Hc := hB.tups kc'
  refine ⟨_, rfl, (by show 0 ≤ sizeLine; omega), fun pn nn => ?_⟩
  have sn := same_new nn (.lst [])
  refine ⟨.list (left.map PyData.str), .list [], .lst (SqL.of (sn _ _ hF)) (strs_data left), .lst (SqL.of upd_same) .nil, shaped_lst (fun x hx => nm_ok (seven_nm x (sv x (sub x hx)))), rfl, _, rfl, ?_⟩
  rw [eqv_nil]
  have B6 := Bc.keep sn
  have k6 := kc'.trans (.of sn)
  have t6 : Tups Hc _ := Same.tups sn
  have hC6 := hC.keep sn
  have hS6 := hS.keep sn
  have hL6 := hL.keep sn
  have hF6 := sn _ _ hF
  have kk6 := kc.trans (.of sn)
  clear sn
  generalize upd Hc pn (.lst []) = H6 at *
  refine itN (fun c1 => ?_) (fun c1 => ?_)
  · refine ⟨fun σ' H' => ∃ n', n' < n ∧ W n' σ' H', fun σ' H' h => h, ?_⟩
    have l1 : 1 ≤ left.length := by
      cases left with
      | nil => exact absurd rfl c1
      | cons x r => exact Nat.le_add_left 1 _
    have hA6 : Tups H H6 := hB.tups k6
    refine ⟨_, rfl, _, rfl, _, rfl, _, rfl, _, rfl, b, F', lw, m + 8 + 200 * done.length, as, lots, left, ls, rfl, has, B6, by omega, hF6, bF, l1, by omega, hW.keep k6 hA6 hwb, hwb, hls, hstr, fun p C' S' L' cr' ts' ss' H7 k7 B7 hp hC' hS' hL' ok => ⟨p, _, rfl, SqT.of hp, rfl, _, _, rfl, _, _, rfl, _, _, rfl, rfl, ?_⟩⟩
    have t7 : Tups H6 H7 := B6.tups k7
    obtain ⟨xs1, c1', c2'⟩ := hC6.kept k7 t7 bC
    obtain ⟨xs2, d1', d2'⟩ := hS6.kept k7 t7 bS
    obtain ⟨xs3, e1', e2'⟩ := hL6.kept k7 t7 bL
    obtain ⟨us1, f1', f2'⟩ := hC'
    obtain ⟨us2, g1', g2'⟩ := hS'
    obtain ⟨us3, h1', h2'⟩ := hL'
    have a1 := paired_len c2'
    have a2 := paired_len d2'
    have a3 := paired_len e2'
    have a4 := paired_len f2'
    have a5 := paired_len g2'
    have a6 := paired_len h2'
    have hm := half.more ok
    have x1 := half.tl
    have x2 := half.sl
    have x3 : cr.length = done.length := by rw [← half.nm, List.length_map]
    have x4 : cr'.length ≤ left.length := by
      have := congrArg List.length ok.nm
      rw [List.length_map, List.length_take] at this
      omega
    have x5 := ok.one
    have x6 := ok.tl
    have x7 := ok.sl
    refine ⟨_, rfl, _, rfl, C, C', _, _, rfl, rfl, c1', f1', by rw [List.length_map, List.length_map]; omega, fun p3 n3 => ?_⟩
    have s3 := same_new n3 (.lst (xs1.map V.ref ++ us1.map V.ref))
    refine ⟨_, rfl, _, rfl, S, S', _, _, rfl, rfl, s3 _ _ d1', s3 _ _ g1', by omega, fun p4 n4 => ⟨_, _, rfl, ?_⟩⟩
    have s4 := same_new n4 (.lst (xs2 ++ us2))
    have s34 := s3.trans s4
    refine ⟨_, rfl, _, rfl, L, L', _, _, rfl, rfl, s34 _ _ e1', s34 _ _ h1', by omega, fun p5 n5 => ?_⟩
    have s5 := same_new n5 (.lst (xs3 ++ us3))
    have s35 := s34.trans s5
    refine ⟨_, rfl, _, rfl, C', _, rfl, .inl (SqL.of (s35 _ _ f1')), _, rfl, F', _, rfl, SqL.of (s35 _ _ (k7 _ _ bF hF6)), fun p6 n6 => ⟨_, _, rfl, ?_⟩⟩
    rw [List.length_map, a4, cut_from, ← List.map_drop]
    have s6 := same_new n6 (.lst ((left.drop cr'.length).map V.str))
    have s36 := s35.trans s6
    have s46 := s4.trans (s5.trans s6)
    have t36 := Same.tups s36
    refine ⟨(left.drop cr'.length).length, by rw [List.length_drop]; omega, p3, p4, p5, p6, cr ++ cr', ts ++ ts', ss ++ ss', done ++ left.take cr'.length, left.drop cr'.length, _, _, _, _, _, _, _, _, _, rfl, rfl, ⟨xs1 ++ us1, ?_, paired_app (paired_imp (fun _ _ y => t36 _ _ y) c2') (paired_imp (fun _ _ y => t36 _ _ y) f2')⟩,
      ⟨xs2 ++ us2, (s5.trans s6) p4 _ upd_same, paired_app (paired_imp (fun _ _ y => y.keep t36) d2') (paired_imp (fun _ _ y => y.keep t36) g2')⟩, ⟨xs3 ++ us3, s6 p5 _ upd_same, paired_app (paired_imp (fun _ _ y => SgAt.keep t36 _ y) e2') (paired_imp (fun _ _ y => SgAt.keep t36 _ y) h2')⟩, upd_same, B7.ne n3, (B7.keep s3).ne n4, (B7.keep s34).ne n5, (B7.keep s35).ne n6, hm, (B7.keep s36).more (by rw [List.length_append, List.length_take]; omega), kk6.trans (k7.trans (.of s36))⟩
    rw [List.map_append]
    exact s46 p3 _ upd_same
  · subst c1
    have len : done.length = names.length := by simpa using len
    have hall := half.all
    rw [List.append_nil] at hall
    have t6' : Tups H H6 := hB.tups k6
    have x1 := half.tl
    have x2 := half.sl
    have x3 : cr.length = done.length := by rw [← half.nm, List.length_map]
    have k4p : Kept4 names cr ts := ⟨half.nm.trans hall, nd, sv, srt, by omega, by omega, half.crate, half.tl, half.tr, half.tv, half.tb⟩
    exact leaf4 _ H6 b an lw N C S L name roof z lots as names ls cr ts ss _ _ _ _ _ _ _ _ _ _ (m + 8 + 200 * done.length) Q rfl B6 (by omega) (hA.keep t6') hz (kk6 _ _ bN eN5) bN hC6 hS6 hL6 (hW.keep k6 t6' hwb) bC bS bL hwb hls hstr k4p (by omega) half.so has hroof (fun a r H' k8 B8 => q a r H' (k6.trans k8) (B8.more (by omega)))
end
end Any
set_option pp.maxSteps 600
namespace Any
open L2 PySem PySem.Spec PyProof.Rows LamX NdefX
/-! ### what drawn rooms are like -/
theorem climb_none : ∀ (l : List Rm) (st : Nat × Str), (∀ r ∈ l, r.name ≠ st.2) → l.foldl climb st = st
  | [], _, _ => rfl
  | r :: l, st, h => by
    rw [List.foldl_cons, climb_no (h r (List.mem_cons_self ..))]
    exact climb_none l st fun x hx => h x (List.mem_cons_of_mem _ hx)
theorem climb_le : ∀ (l : List Rm) (st : Nat × Str), (l.foldl climb st).1 ≤ st.1 + l.length
  | [], _ => Nat.le_refl _
  | r :: l, st => by
    rw [List.foldl_cons]
    refine Nat.le_trans (climb_le l _) ?_
    rw [List.length_cons]
    by_cases h : r.name = st.2
    · rw [climb_yes h]
      show st.1 + 1 + l.length ≤ _
      omega
    · rw [climb_no h]
      omega
theorem get_map {α β : Type} {f : α → β} {l : List α} {i : Nat} {y : β} (h : (l.map f)[i]? = some y) : ∃ x, l[i]? = some x ∧ f x = y := by
  rw [List.getElem?_map] at h
  cases z : l[i]? with
  | none => rw [z] at h; cases h
  | some x => rw [z] at h; exact ⟨x, rfl, Option.some.inj h⟩
/-- names and aboves, drawn so -/
structure Tree (names up : List Str) : Prop where
  len : up.length = names.length
  nd : names.Nodup
  nm : ∀ x ∈ names, Nm x
  lo : 1 ≤ names.length
  hi : names.length ≤ 8
  first : up[0]? = some ("" : Str)
  below : ∀ i, i ≠ 0 → i < names.length → ∃ j, j < i ∧ j < 3 ∧ names[j]? = up[i]?
theorem nm_ne {x : Str} (h : Nm x) : x ≠ "" := fun z => by
  have := h.lo
  rw [z] at this
  exact absurd this (by decide)
theorem floor_ok {names up : List Str} (t : Tree names up) {rs : List Rm} (hn : rs.map (·.name) = names) {i j : Nat} {a : Str} (hj : j < i) (h3 : j < 3) (hi : i < names.length) (ha : names[j]? = some a) : floorOf rs i a ≤ 4 := by
  unfold floorOf
  have hl : rs.length = names.length := by rw [← hn, List.length_map]
  have e : (rs.take i).reverse = ((rs.take i).drop 3).reverse ++ ((rs.take i).take 3).reverse := by rw [← List.reverse_append, List.take_append_drop]
  rw [e, List.foldl_append, climb_none ((rs.take i).drop 3).reverse]
  · refine Nat.le_trans (climb_le _ _) ?_
    rw [List.length_reverse, List.length_take]
    show 1 + _ ≤ 4
    omega
  · intro r hr hra
    rw [List.mem_reverse] at hr
    obtain ⟨k, hk⟩ := List.getElem?_of_mem hr
    rw [List.getElem?_drop, List.getElem?_take] at hk
    have hra : r.name = a := hra
    by_cases c : 3 + k < i
    · rw [if_pos c] at hk
      have h1 : names[3 + k]? = some a := by rw [← hn, List.getElem?_map, hk]; exact congrArg some hra
      have := (List.getElem?_inj (by omega) t.nd).mp (h1.trans ha.symm)
      omega
    · rw [if_neg c] at hk
      cases hk
/-- those right beneath n, up to the j-th -/
def lowsTo (names up : List Str) (zs : List Ans) (n : Str) : Nat → List (Str × Int)
  | 0 => []
  | j + 1 => lowsTo names up zs n j ++ (if up[j + 1]? = some n then [(names.getD (j + 1) "", (zs.getD (j + 1) ⟨0, 0, none, .num 0, 0⟩).left)] else [])
theorem lows_len (names up : List Str) (zs : List Ans) (n : Str) : ∀ j, (lowsTo names up zs n j).length ≤ j
  | 0 => Nat.le_refl _
  | j + 1 => by
    have := lows_len names up zs n j
    unfold lowsTo
    rw [List.length_append]
    split
    · show _ + 1 ≤ _; omega
    · show _ + 0 ≤ _; omega
theorem lows_in {names up : List Str} {zs : List Ans} {n : Str} : ∀ {j : Nat}, j < names.length → ∀ z ∈ lowsTo names up zs n j, z.1 ∈ names
  | 0, _, z, h => by cases h
  | j + 1, hj, z, h => by
    unfold lowsTo at h
    rcases List.mem_append.mp h with h | h
    · exact lows_in (j := j) (by omega) z h
    · split at h
      · rw [List.mem_singleton.mp h]
        show names.getD (j + 1) "" ∈ names
        rw [List.getD_eq_getElem?_getD, List.getElem?_eq_getElem hj]
        exact List.getElem_mem hj
      · cases h
theorem lows_ben {names up : List Str} (t : Tree names up) {zs : List Ans} {rs : List Rm} (hn : rs.map (·.name) = names) (hu : rs.map (·.above) = up) {n : Str} (ne : n ≠ "") : ∀ {j : Nat}, j < names.length → ((rs.take (j + 1)).filter fun o => decide (o.above = n)).map (·.name) = (lowsTo names up zs n j).map (·.1)
  | 0, hj => by
    have hl : rs.length = names.length := by rw [← hn, List.length_map]
    cases rs with
    | nil => simp at hl; omega
    | cons r l =>
      have h0 : r.above = "" := by
        have := t.first
        rw [← hu] at this
        exact Option.some.inj this
      show (([r] : List Rm).filter fun o => decide (o.above = n)).map (·.name) = []
      rw [List.filter_cons, if_neg (by rw [h0]; simpa using Ne.symm ne)]
      rfl
  | j + 1, hj => by
    have hl : rs.length = names.length := by rw [← hn, List.length_map]
    have ih := lows_ben t (zs := zs) hn hu ne (j := j) (by omega)
    obtain ⟨r, hg⟩ : ∃ r, rs[j + 1]? = some r := ⟨_, List.getElem?_eq_getElem (by omega)⟩
    rw [List.take_add_one, hg, List.filter_append, List.map_append, ih]
    rw [show lowsTo names up zs n (j + 1) = lowsTo names up zs n j ++ (if up[j + 1]? = some n then [(names.getD (j + 1) "", (zs.getD (j + 1) ⟨0, 0, none, .num 0, 0⟩).left)] else []) from rfl, List.map_append]
    refine congrArg _ ?_
    have hu1 : up[j + 1]? = some r.above := by rw [← hu, List.getElem?_map, hg]; rfl
    have hn0 : names[j + 1]? = some r.name := by rw [← hn, List.getElem?_map, hg]; rfl
    have hn1 : names.getD (j + 1) "" = r.name := by rw [List.getD_eq_getElem?_getD, hn0]; rfl
    rw [hu1, hn1]
    show (([r] : List Rm).filter fun o => decide (o.above = n)).map (·.name) = _
    rw [List.filter_cons]
    by_cases c : r.above = n
    · rw [if_pos (by simpa using c), if_pos (by rw [c])]
      rfl
    · rw [if_neg (by simpa using c), if_neg (fun z => c (Option.some.inj z))]
      rfl
/-- rooms drawn by these names and aboves make a program -/
theorem right_of_drawn {names up : List Str} (t : Tree names up) {zs : List Ans} {rs : List Rm} (hl : rs.length = names.length)
    (h : ∀ (i : Nat) (r : Rm), rs[i]? = some r → ∃ n a : Str, names[i]? = some n ∧ up[i]? = some a ∧ Drawn n a ((lowsTo names up zs n (names.length - 1)).map (·.1)) r) : Right rs ∧ rs.map (·.name) = names ∧ rs.map (·.above) = up := by
  have hn : rs.map (·.name) = names := by
    refine List.ext_getElem? fun i => ?_
    rw [List.getElem?_map]
    cases e : rs[i]? with
    | none =>
      rw [List.getElem?_eq_none_iff] at e
      exact (List.getElem?_eq_none_iff.mpr (by omega)).symm
    | some r =>
      obtain ⟨n, a, h1, h2, d⟩ := h i r e
      rw [h1]
      exact congrArg some d.name
  have hu : rs.map (·.above) = up := by
    refine List.ext_getElem? fun i => ?_
    rw [List.getElem?_map]
    cases e : rs[i]? with
    | none =>
      rw [List.getElem?_eq_none_iff] at e
      exact (List.getElem?_eq_none_iff.mpr (by rw [t.len]; omega)).symm
    | some r =>
      obtain ⟨n, a, h1, h2, d⟩ := h i r e
      rw [h2]
      exact congrArg some d.above
  refine ⟨⟨by rw [hl]; exact t.lo, by rw [hl]; exact t.hi, fun i r hi => ?_⟩, hn, hu⟩
  obtain ⟨n, a, h1, h2, d⟩ := h i r hi
  have il : i < names.length := (List.getElem?_eq_some_iff.mp h1).1
  have nmn : Nm n := t.nm n (List.mem_of_getElem? h1)
  have hben : ben rs r.name = (lowsTo names up zs n (names.length - 1)).map (·.1) := by
    unfold ben
    rw [d.name, ← lows_ben t (zs := zs) hn hu (nm_ne nmn) (j := names.length - 1) (by omega), show names.length - 1 + 1 = rs.length by omega, List.take_length]
  refine ⟨by rw [d.name]; exact nmn, ?_, ⟨fun i0 => ?_, fun i0 => ?_⟩, d.boxes, d.asc, d.says, fun i0 => ?_, fun i0 => ?_⟩
  · rw [List.map_take, hn, d.name]
    exact nd_take t.nd h1
  · rw [d.above]
    subst i0
    exact Option.some.inj (h2.symm.trans t.first)
  · obtain ⟨j, j1, j2, j3⟩ := t.below i i0 il
    rw [h2] at j3
    rw [d.above]
    refine ⟨?_, floor_ok t hn j1 j2 il j3⟩
    rw [List.map_take, hn]
    refine List.mem_of_getElem? (i := j) ?_
    rw [List.getElem?_take, if_pos j1]
    exact j3
  · have a0 : a = "" := by
      subst i0
      exact Option.some.inj (h2.symm.trans t.first)
    rw [hben]
    exact d.first a0
  · obtain ⟨j, j1, j2, j3⟩ := t.below i i0 il
    rw [h2] at j3
    rw [hben]
    exact d.other (nm_ne (t.nm a (List.mem_of_getElem? j3)))
end Any
set_option pp.maxSteps 600
namespace Any
open L2 PySem PySem.Spec PyProof.Rows LamX NdefX
/-! ### _law_rooms -/
abbrev eight8 : List Str := ["tick", "a", "hall", "cellar", "q", "longname", "is", "zz"]
theorem eight_nm : ∀ x ∈ eight8, Nm x := by decide +kernel
theorem eight_nd : eight8.Nodup := by decide +kernel
def spLRooms : Sp := fun vs H Q _ => ∃ (b : Addr) (most lots m : Nat), vs = [.ref b, .int most, .int lots] ∧ Bag H b m ∧ m + 1000000 < 2 ^ 40 ∧ 1 ≤ most ∧ most ≤ 8 ∧ 1 ≤ lots ∧ lots ≤ 4 ∧
  ∀ (l : Addr) (as : List Addr) (rs : List Rm) (H' : Hp), Kept b H H' → Bag H' b (m + 1000000) → H l = none → l ≠ b → H' l = some (.lst (as.map V.ref)) → Paired (EightAt H') as rs → Right rs → (∀ r ∈ rs, 1 ≤ r.boxes.length) → (∀ r ∈ rs, r.few) → (∀ r ∈ rs, r.name ∈ eight8) → rs.length ≤ most → Q (.ref l) H'
abbrev sRms : Stmt := top 79
abbrev psRs : List Str := ["_law_bag_here", "_law_most", "_law_lots"]
abbrev nmRs : List Str := ["_law_bag_here", "_law_most", "_law_lots", "_law_some", "_law_many_here", "_law_names", "_law_k", "_law_aboves", "_law_name", "_law_answers", "_law_rooms_here", "_law_beneath", "_law_j"]
theorem scRs : FnScope nmRs psRs (defScope sRms) := ⟨rfl, rfl, rfl, by decide +kernel, rfl, by decide +kernel, by decide +kernel⟩
theorem atI_of {xs : List V} {k : Int} {j : Nat} {v : V} (h : xs[j]? = some v) (e : k = (j : Int)) : atI xs k = some v := by
  subst e
  exact atI_nat h
section
variable {P : Program} {w : World} {K : PySem.W.Frag} {mg : Str → Option Value} {base : Heap} {f : Addr} {fd : FuncData}
set_option maxHeartbeats 8000000 in
theorem ok_lrooms (O : Own mg) (mr : mg "range" = none) (mmin : mg "min" = none) (F : Fun K "_law_rooms" "_law_rooms" sRms f fd) (DT : Df P w K mg base 1 "_law_take" ["_law_bag_here", "_law_many_here"] spTake) (DM : Df P w K mg base 2 "_law_mixed" ["_law_bag_here", "_law_some"] spMixed)
    (DA : Df P w K mg base 2 "_law_answer" ["_law_bag_here", "_law_lots"] spAnswer) (DR : Df P w K mg base 22 "_law_room" psRm spRoom) : FnOk P w K mg base CX0 23 f fd psRs spLRooms := by
  refine F.ok scRs (fun vs H Q E h => ?_) (fun cdv A outer s H vs Q E hr h => ?_)
  · obtain ⟨b, most, lots, m, rfl, _⟩ := h
    rfl
  obtain ⟨b, most, lots, m, rfl, hB, hm, hm1, hm8, hl1, hl4, q⟩ := h
  have hr1 := hr.mono (show 1 ≤ 22 by omega)
  have hr2 := hr.mono (show 2 ≤ 22 by omega)
  have hs : sizeLine = 16777216 := sizeLine_eq
  refine ⟨_, pss_cons (ps_set (i := 3) scRs.nd rfl (Or.inl rfl) (pe_lst (pa_cons pe_str (pa_cons pe_str (pa_cons pe_str (pa_cons pe_str (pa_cons pe_str (pa_cons pe_str (pa_cons pe_str (pa_cons pe_str pa_nil))))))))))
    (pss_cons (ps_set (i := 4) scRs.nd rfl (Or.inl rfl) (pe_ix ix_list (pe_lst (pa_cons (pe_op op_add pe_int (pe_D DT hr1 rfl (pa_cons (pv 0) (pa_cons (pv 1) pa_nil)))) (pa_cons (pv 1) pa_nil))) (pe_D DT hr1 rfl (pa_cons (pv 0) (pa_cons pe_int pa_nil))) (fun _ _ => rfl)))
    (pss_cons (ps_set (i := 5) scRs.nd rfl (Or.inr rfl) (pe_slice sl_list (pe_D DM hr2 rfl (pa_cons (pv 0) (pa_cons (pv 3) pa_nil))) po_none (po_some (pv 4))))
    (pss_cons (ps_set (i := 7) scRs.nd rfl (Or.inl rfl) (pe_op op_cat (pe_lst (pa_cons pe_str pa_nil)) (pe_lc (own := [("_law_k", 6)]) (g := gName 6) (tt := tYes) rfl scRs.nd (pi_range2 rfl mr (pa_cons pe_int (pa_cons (pe_callB call_len_seq rfl O.len PySem.boot_len (pa_cons (pv 5) pa_nil)) pa_nil))) (blkOk_by (N := nmRs) (sc := defScope sRms) (by decide +kernel))
        (fun _ _ _ _ _ => pg_name (i := 6) scRs.nd rfl (Or.inl rfl)) (fun _ _ _ _ _ => pts_nil) (fun _ _ _ _ _ => pe_ix (show IxR _ (rIxL K) from ix_list) (pv 5) (pe_D DT hr1 rfl (pa_cons (pv 0) (pa_cons (pe_callB (call_min2 rfl) rfl mmin (by decide +kernel) (pa_cons (pv 6) (pa_cons pe_int pa_nil))) pa_nil))) (fun _ _ => rfl)))))
    (pss_cons (ps_setLc (i := 9) (own := [("_law_name", 8)]) (g := gName 8) (tt := tYes) (by rfl) scRs.nd rfl rfl (sw_true rfl rfl rfl (by decide +kernel)) (pi_list (pv 5)) (blkOk_by (N := nmRs) (sc := defScope sRms) (by decide +kernel))
        (fun _ _ _ _ _ => pg_name (i := 8) scRs.nd rfl (Or.inl rfl)) (fun _ _ _ _ _ => pts_nil) (fun _ _ _ _ _ => pe_D DA hr2 rfl (pa_cons (pv 0) (pa_cons (pv 2) pa_nil))))
    (pss_cons (ps_set (i := 10) scRs.nd rfl (Or.inl rfl) (pe_lst pa_nil))
    (pss_cons (ps_for PassesOwn.never rfl (pi_range1 rfl mr (pa_cons (pe_callB call_len_seq rfl O.len PySem.boot_len (pa_cons (pv 5) pa_nil)) pa_nil)) (pg_name (i := 6) scRs.nd rfl (Or.inl rfl))
      (pss_cons (ps_par (i := 8) (j := 11) (by rfl) scRs.nd rfl rfl (by decide) rfl rfl (pa_cons (pe_ix ix_list (pv 5) (pv 6) (fun _ _ => rfl)) (pa_cons (pe_lst pa_nil) pa_nil)) (by rfl))
      (pss_cons (ps_for PassesOwn.never rfl (pi_range2 rfl mr (pa_cons pe_int (pa_cons (pe_callB call_len_seq rfl O.len PySem.boot_len (pa_cons (pv 5) pa_nil)) pa_nil))) (pg_name (i := 12) scRs.nd rfl (Or.inl rfl))
        (pss_one (ps_if (pt_cmpR op_eq (pe_ix ix_list (pv 7) (pv 12) (fun _ _ => rfl)) (pv 8) (nomark _)) (pss_one (ps_expr (pe_bm PySem.F.plainAttrs_list PySem.F.slot_list_append PySem.F.type_list_append mt_append (pv 11) (pa_cons (pe_tup (pa_cons (pe_ix ix_list (pv 5) (pv 12) (fun _ _ => rfl)) (pa_cons (pe_ix ix_tup (pe_ix ix_list (pv 9) (pv 12) (fun _ _ => rfl)) pe_int (fun _ _ => rfl)) pa_nil))) pa_nil)))) pss_nil)))
      (pss_one (ps_expr (pe_bm PySem.F.plainAttrs_list PySem.F.slot_list_append PySem.F.type_list_append mt_append (pv 10) (pa_cons (pe_D DR hr rfl (pa_cons (pv 0) (pa_cons (pv 8) (pa_cons (pe_ix ix_list (pv 7) (pv 6) (fun _ _ => rfl)) (pa_cons (pe_ix ix_list (pv 9) (pv 6) (fun _ _ => rfl)) (pa_cons (pv 11) (pa_cons (pv 2) pa_nil))))))) pa_nil)))))))
    (pss_one (ps_ret (pv 10))))))))), ?_⟩
  refine ⟨(by show 8 ≤ sizeLine; omega), fun ps nps => ?_⟩
  have s0 := same_new nps (.lst (eight8.map V.str))
  have bps : ps ≠ b := hB.ne nps
  refine ⟨_, rfl, _, rfl, b, most, m, rfl, hB.keep s0, by omega, by omega, by omega, fun d0 H1 k1 B1 d00 d01 => ⟨_, _, rfl, rfl, _, rfl, (by show 2 ≤ sizeLine; omega), fun p1 n1 => ?_⟩⟩
  have s1 := same_new n1 (.lst [.int (1 + d0), .int most])
  refine ⟨_, rfl, b, 2, m + 1, rfl, B1.keep s1, by omega, by decide, by decide, fun d1 H2 k2 B2 d10 d11 => ?_⟩
  obtain ⟨many, em, em1, em2⟩ : ∃ many : Nat, atI [V.int (1 + d0), V.int most] d1 = some (.int many) ∧ 1 ≤ many ∧ many ≤ most := by
    rcases two_ix (x := V.int (1 + d0)) (y := V.int most) d10 d11 with e | e
    · refine ⟨(1 + d0).toNat, ?_, by omega, by omega⟩
      rw [e, show (((1 + d0).toNat : Nat) : Int) = 1 + d0 by omega]
    · exact ⟨most, e, hm1, Nat.le_refl _⟩
  refine ⟨p1, _, _, _, rfl, rfl, SqL.of (k2 _ _ (B1.ne n1) upd_same), em, ?_⟩
  have kA : Kept b H H2 := (Kept.of s0).trans (k1.trans ((Kept.of s1).trans k2))
  have eps : H2 ps = some (.lst (eight8.map V.str)) := ((Kept.of s1).trans k2) _ _ bps (k1 _ _ bps upd_same)
  refine ⟨_, rfl, _, rfl, b, ps, eight8.map V.str, m + 1 + 1, rfl, B2, (by show m + 1 + 1 + 8 < _; omega), eps, bps, by decide, fun p ys H3 np k3 B3 hp perm => ⟨_, rfl, _, rfl, p, ys, rfl, SqL.of hp, fun N nN => ?_⟩⟩
  have B3 : Bag H3 b (m + 1 + 1 + 8) := B3
  obtain ⟨ws, ews, pws⟩ := strs_perm perm
  have w8 : ws.length = 8 := by rw [pws.length_eq]; rfl
  obtain ⟨names, enm⟩ : ∃ names : List Str, names = ws.take many := ⟨_, rfl⟩
  have ecut : cutV ys none (some (many : Int)) = names.map V.str := by rw [cut_any, ews, enm, List.map_take]
  have nl : names.length = many := by rw [enm, List.length_take, w8]; omega
  have nd : names.Nodup := by
    rw [enm]
    exact (pws.nodup_iff.mpr eight_nd).sublist (List.take_sublist ..)
  have nnm : ∀ x ∈ names, Nm x := fun x hx => by
    rw [enm] at hx
    exact eight_nm x (pws.mem_iff.mp (List.mem_of_mem_take hx))
  have nin : ∀ x ∈ names, x ∈ eight8 := fun x hx => by
    rw [enm] at hx
    exact pws.mem_iff.mp (List.mem_of_mem_take hx)
  rw [ecut]
  have bN : N ≠ b := B3.ne nN
  have sN := same_new nN (.lst (names.map V.str))
  have kB : Kept b H _ := kA.trans (k3.trans (.of sN))
  have B4 := B3.keep sN
  have eN := @upd_same H3 N (.lst (names.map V.str))
  clear sN
  generalize upd H3 N (.lst (names.map V.str)) = H4 at *
  refine ⟨(by show 1 ≤ sizeLine; omega), fun p5 n5 => ?_⟩
  have s5 := same_new n5 (.lst [.str ""])
  refine ⟨_, rfl, N, _, rfl, .inl (SqL.of (s5 _ _ eN)), _, _, rfl, ⟨by omega, by omega, by omega, by rw [List.length_map]; omega⟩, fun D nD => ?_⟩
  have bD : D ≠ b := (B4.keep s5).ne nD
  have b5 : p5 ≠ b := B4.ne n5
  refine lc_range (lo := 1) (fun i Hc => ∃ us : List Str, Hc D = some (.lst (us.map V.str)) ∧ us.length = i ∧ (∀ t, t < i → ∃ j, j < t + 1 ∧ j < 3 ∧ names[j]? = us[t]?) ∧ Bag Hc b (m + 1 + 1 + 8 + i) ∧ Kept b (upd H4 p5 (.lst [.str ""])) Hc) ⟨[], upd_same, rfl, (fun t ht => by omega), (B4.keep s5).keep (same_new nD _), .new nD _⟩ ?_ ?_
  · rintro i Hc hi ⟨us, u1, u2, u3, u4, u5⟩
    rw [List.length_map] at hi
    refine ⟨rfl, _, rfl, _, rfl, _, rfl, _, _, rfl, b, _, m + 1 + 1 + 8 + i, rfl, u4, by omega, by split <;> omega, by split <;> omega, fun d H5 k5 B5 dd0 dd1 => ?_⟩
    obtain ⟨dn, rfl⟩ : ∃ dn : Nat, d = dn := ⟨d.toNat, by omega⟩
    have dn1 : dn < i + 1 ∧ dn < 3 := by split at dd1 <;> omega
    obtain ⟨x, hx⟩ : ∃ x, names[dn]? = some x := ⟨_, List.getElem?_eq_getElem (by omega)⟩
    refine ⟨N, _, _, _, rfl, rfl, SqL.of (k5 _ _ bN (u5 _ _ bN (s5 _ _ eN))), atI_nat (j := dn) (by rw [List.getElem?_map, hx]; rfl), ?_⟩
    refine ⟨_, k5 _ _ bD u1, by rw [List.length_map]; omega, us ++ [x], by rw [upd_same, List.map_append]; rfl, by rw [List.length_append, u2]; rfl, fun t ht => ?_, (B5.off bD _).more (by omega), ?_⟩
    · by_cases c : t < i
      · obtain ⟨j, j1, j2, j3⟩ := u3 t c
        exact ⟨j, j1, j2, by rw [List.getElem?_append_left (by omega)]; exact j3⟩
      · have : t = us.length := by omega
        subst this
        exact ⟨dn, by omega, dn1.2, by rw [hx]; simp⟩
    · intro a o na ha
      rw [upd_ne (fun z => by rw [z, nD] at ha; cases ha)]
      exact k5 _ _ na (u5 _ _ na ha)
  rintro H5 ⟨us, u1, u2, u3, u4, u5⟩
  rw [List.length_map] at u2 u4
  simp only [List.length_map] at u3
  refine ⟨p5, D, _, _, rfl, rfl, u5 _ _ b5 upd_same, u1, by rw [List.length_map]; show 1 + us.length ≤ sizeLine; omega, fun AB nAB => ?_⟩
  have sAB := same_new nAB (.lst ([.str ""] ++ us.map V.str))
  have kC : Kept b H _ := kB.trans ((Kept.of s5).trans (u5.trans (.of sAB)))
  have B6 := u4.keep sAB
  have bAB : AB ≠ b := u4.ne nAB
  have eAB : _ = some (HO.lst ((("" : Str) :: us).map V.str)) := @upd_same H5 AB (.lst ([.str ""] ++ us.map V.str))
  have eN6 := sAB _ _ (u5 _ _ bN (s5 _ _ eN))
  obtain ⟨up, eup⟩ : ∃ up : List Str, up = ("" : Str) :: us := ⟨_, rfl⟩
  rw [← eup] at eAB
  have ul : up.length = names.length := by rw [eup, List.length_cons]; omega
  have tree : Tree names up := by
    refine ⟨ul, nd, nnm, by omega, by omega, by rw [eup]; rfl, fun i i0 i1 => ?_⟩
    obtain ⟨t, rfl⟩ : ∃ t, i = t + 1 := ⟨i - 1, by omega⟩
    obtain ⟨j, j1, j2, j3⟩ := u3 t (by omega)
    refine ⟨j, j1, j2, ?_⟩
    rw [j3, eup]
    rfl
  clear sAB
  generalize upd H5 AB (.lst ([.str ""] ++ us.map V.str)) = H6 at *
  -- what is asked and told
  refine ⟨_, rfl, N, rfl, ⟨_, SqL.of eN6⟩, fun AN nAN => ?_⟩
  have bAN : AN ≠ b := B6.ne nAN
  refine lc_list (K := K) (a := N) (xs := names.map V.str) (fun i Hc => ∃ (bs : List Addr) (zs : List Ans), Hc AN = some (.lst (bs.map V.ref)) ∧ Paired (AnsAt Hc) bs zs ∧ zs.length = i ∧ (∀ z ∈ zs, AnsOk z) ∧ Bag Hc b (m + 20 + 10 * i) ∧ Kept b H6 Hc) ⟨[], [], upd_same, .nil, rfl, (fun z hz => by cases hz), (B6.keep (same_new nAN _)).more (by omega), .new nAN _⟩ ?_ ?_ ?_
  · rintro i Hc _ ⟨bs, zs, _, _, _, _, _, kc⟩
    exact SqL.of (kc _ _ bN eN6)
  · rintro i x Hc hx ⟨bs, zs, z1, z2, z3, z4, z5, z6⟩
    have hi : i < names.length := by
      have := (List.getElem?_eq_some_iff.mp hx).1
      rw [List.length_map] at this
      exact this
    have lz := paired_len z2
    refine ⟨rfl, _, rfl, _, rfl, b, _, _, rfl, z5, by omega, fun a z H7 k7 B7 ha hz => ?_⟩
    have e7 := k7 _ _ bAN z1
    have t7 := z5.tups k7
    have tL : Tups H7 (upd H7 AN (.lst (bs.map V.ref ++ [.ref a]))) := fun a' ts ha' => by
      rw [upd_ne (ne_of ha' e7 (by intro z; cases z))]
      exact ha'
    refine ⟨_, e7, by rw [List.length_map]; omega, bs ++ [a], zs ++ [z], by rw [upd_same, List.map_append]; rfl, paired_snoc (paired_imp (fun _ _ y => (y.keep t7).keep tL) z2) (ha.keep tL), by rw [List.length_append, z3]; rfl, fun y hy => ?_, (B7.off bAN _).more (by omega), ?_⟩
    · rcases List.mem_append.mp hy with hy | hy
      · exact z4 y hy
      · rw [List.mem_singleton.mp hy]
        exact hz
    · intro a' o' na ha'
      rw [upd_ne (fun z => by rw [z, nAN] at ha'; cases ha')]
      exact k7 _ _ na (z6 _ _ na ha')
  rintro H7 ⟨bs, zs, z1, z2, z3, z4, z5, z6⟩
  rw [List.length_map] at z3 z5
  have lz := paired_len z2
  have kD : Kept b H H7 := kC.trans z6
  refine ⟨(by show 0 ≤ sizeLine; omega), fun R nR => ?_⟩
  have sR := same_new nR (.lst [])
  have bR : R ≠ b := z5.ne nR
  have B8 := z5.keep sR
  have eN8 := sR _ _ (z6 _ _ bN eN6)
  have eAB8 := sR _ _ (z6 _ _ bAB eAB)
  have eAN8 := sR _ _ z1
  have pAN8 : Paired (AnsAt (upd H7 R (.lst []))) bs zs := paired_imp (fun _ _ y => y.keep (Same.tups sR)) z2
  have eR8 := @upd_same H7 R (.lst [])
  have kE : Kept b H _ := kD.trans (.of sR)
  have nR0 : H R = none := by
    cases e : H R with
    | none => rfl
    | some o => rw [kD _ _ bR e] at nR; cases nR
  have RN : R ≠ N := fun e => by rw [e, z6 _ _ bN eN6] at nR; cases nR
  have RAB : R ≠ AB := fun e => by rw [e, z6 _ _ bAB eAB] at nR; cases nR
  have RAN : R ≠ AN := fun e => by rw [e, z1] at nR; cases nR
  clear sR
  generalize upd H7 R (.lst []) = H8 at *
  refine ⟨_, rfl, N, _, rfl, .inl (SqL.of eN8), _, rfl, by omega, by rw [List.length_map]; omega, ?_⟩
  refine for_range (lo := 0) (fun k σ Hc => ∃ (as : List Addr) (rs : List Rm) (y6 y8 y11 y12 : Option V), σ = [some (.ref b), some (.int most), some (.int lots), some (.ref ps), some (.int many), some (.ref N), y6, some (.ref AB), y8, some (.ref AN), some (.ref R), y11, y12] ∧ Hc R = some (.lst (as.map V.ref)) ∧ Paired (EightAt Hc) as rs ∧ rs.length = k ∧
    (∀ (i : Nat) (r : Rm), rs[i]? = some r → ∃ n a : Str, names[i]? = some n ∧ up[i]? = some a ∧ Drawn n a ((lowsTo names up zs n (names.length - 1)).map (·.1)) r) ∧ Bag Hc b (m + 200 + 102000 * k) ∧ (∀ a o, a ≠ b → a ≠ R → H8 a = some o → Hc a = some o)) ⟨[], [], none, none, none, none, rfl, eR8, .nil, rfl, (fun i r h => by simp at h), B8.more (by omega), fun a o _ _ h => h⟩ ?_ ?_
  · rintro k σ Hc hk ⟨as, rs, y6, y8, y11, y12, rfl, r1, r2, r3, r4, r5, r6⟩
    rw [List.length_map] at hk
    have hk' : k < names.length := by omega
    obtain ⟨n, hn⟩ : ∃ n, names[k]? = some n := ⟨_, List.getElem?_eq_getElem hk'⟩
    obtain ⟨up_k, hup⟩ : ∃ a, up[k]? = some a := ⟨_, List.getElem?_eq_getElem (by omega)⟩
    obtain ⟨z, hz⟩ : ∃ z, zs[k]? = some z := ⟨_, List.getElem?_eq_getElem (by omega)⟩
    have eNc := r6 _ _ bN (Ne.symm RN) eN8
    have eABc := r6 _ _ bAB (Ne.symm RAB) eAB8
    have eANc := r6 _ _ bAN (Ne.symm RAN) eAN8
    have tc : Tups H8 Hc := fun a xs h => r6 a _ (by obtain ⟨_, y⟩ := B8.lst; exact ne_of h y (by intro z; cases z)) (ne_of h eR8 (by intro z; cases z)) h
    have pANc : Paired (AnsAt Hc) bs zs := paired_imp (fun _ _ y => y.keep tc) pAN8
    have at_n : ∀ {j : Nat} {x : Str}, names[j]? = some x → (names.map V.str)[j]? = some (.str x) := fun h => by rw [List.getElem?_map, h]; rfl
    have at_u : ∀ {j : Nat} {x : Str}, up[j]? = some x → (up.map V.str)[j]? = some (.str x) := fun h => by rw [List.getElem?_map, h]; rfl
    refine ⟨_, rfl, _, rfl, N, _, _, _, rfl, rfl, SqL.of eNc, atI_of (j := k) (at_n hn) (by omega), (by show 0 ≤ sizeLine; omega), fun BN nBN => ⟨_, _, rfl, ?_⟩⟩
    have sB := same_new nBN (.lst [])
    refine ⟨_, rfl, N, _, rfl, .inl (SqL.of (sB _ _ eNc)), _, _, rfl, ⟨by omega, by omega, by omega, by rw [List.length_map]; omega⟩, ?_⟩
    refine for_range (lo := 1) (fun j σ He => ∃ y12 : Option V, σ = [some (.ref b), some (.int most), some (.int lots), some (.ref ps), some (.int many), some (.ref N), some (.int (0 + (k : Int))), some (.ref AB), some (.str n), some (.ref AN), some (.ref R), some (.ref BN), y12] ∧ LowsAt He BN (lowsTo names up zs n j) ∧ Same Hc He) ⟨_, rfl, ⟨[], upd_same, .nil⟩, sB⟩ ?_ ?_
    · rintro j σ He hj ⟨y12, rfl, ⟨ls, l1, l2⟩, sE⟩
      rw [List.length_map] at hj
      have hj' : j + 1 < names.length := by omega
      obtain ⟨nj, hnj⟩ : ∃ n, names[j + 1]? = some n := ⟨_, List.getElem?_eq_getElem hj'⟩
      obtain ⟨uj, huj⟩ : ∃ a, up[j + 1]? = some a := ⟨_, List.getElem?_eq_getElem (by omega)⟩
      obtain ⟨zj, hzj⟩ : ∃ z, zs[j + 1]? = some z := ⟨_, List.getElem?_eq_getElem (by omega)⟩
      obtain ⟨aj, haj, hat⟩ := paired_put pANc hzj
      have ll := paired_len l2
      have lle := lows_len names up zs n j
      refine ⟨_, rfl, _, rfl, AB, _, _, _, rfl, rfl, SqL.of (sE _ _ eABc), atI_of (j := j + 1) (at_u huj) (by omega), _, rfl, rfl, _, rfl, itD (fun c => ?_) (fun c => ?_)⟩
      · have c := V.str.inj c
        have estep : lowsTo names up zs n (j + 1) = lowsTo names up zs n j ++ [(nj, zj.left)] := by
          show lowsTo names up zs n j ++ _ = _
          rw [if_pos (by rw [huj, c]), List.getD_eq_getElem?_getD, hnj, List.getD_eq_getElem?_getD, hzj]
          rfl
        obtain ⟨v1, w1, hans, _, _⟩ := hat.keep (Same.tups sE)
        refine ⟨_, rfl, .inl ⟨rfl, _, SqL.of l1⟩, _, rfl, _, rfl, N, _, _, _, rfl, rfl, SqL.of (sE _ _ eNc), atI_of (j := j + 1) (at_n hnj) (by omega), ?_⟩
        refine ⟨_, rfl, _, rfl, AN, _, _, _, rfl, rfl, SqL.of (sE _ _ eANc), atI_of (j := j + 1) (v := .ref aj) (by rw [List.getElem?_map, haj]; rfl) (by omega), aj, _, _, _, rfl, rfl, SqT.of hans, atI_nat (j := 4) rfl, (by show 2 ≤ sizeLine; omega), fun p np => ?_⟩
        have sp := same_new np (.tup [.str nj, .int zj.left])
        have tL : Tups (upd He p (.tup [.str nj, .int zj.left])) (upd (upd He p (.tup [.str nj, .int zj.left])) BN (.lst (ls.map V.ref ++ [.ref p]))) := fun a' ts ha' => by
          rw [upd_ne (ne_of ha' (sp _ _ l1) (by intro z; cases z))]
          exact ha'
        refine ⟨BN, _, _, rfl, rfl, sp _ _ l1, by rw [List.length_map]; omega, _, rfl, ?_, ?_⟩
        · rw [estep]
          exact ⟨ls ++ [p], by rw [upd_same, List.map_append]; rfl, paired_snoc (paired_imp (fun _ _ y => tL _ _ (sp _ _ y)) l2) (tL _ _ upd_same)⟩
        · intro a o ha
          rw [upd_ne (ne_of_none ha nBN)]
          exact sp _ _ (sE _ _ ha)
      · have c : ¬ uj = n := fun e => c (by rw [e])
        refine ⟨_, rfl, ?_, sE⟩
        have estep : lowsTo names up zs n (j + 1) = lowsTo names up zs n j := by
          show lowsTo names up zs n j ++ _ = _
          rw [if_neg (by rw [huj]; exact fun e => c (Option.some.inj e)), List.append_nil]
        rw [estep]
        exact ⟨ls, l1, l2⟩
    · rintro σ He ⟨y12', rfl, hlow, sE⟩
      rw [List.length_map] at hlow
      have e1 : (((names.length : Nat) : Int) - 1).toNat = names.length - 1 := by omega
      rw [e1] at hlow
      obtain ⟨ak, hak, hatk⟩ := paired_put pANc hz
      have bBN : BN ≠ b := r5.ne nBN
      have lle := lows_len names up zs n (names.length - 1)
      refine ⟨_, rfl, .inl ⟨rfl, _, SqL.of (sE _ _ r1)⟩, ?_⟩
      refine ⟨_, rfl, _, rfl, _, rfl, _, rfl, AB, _, _, _, rfl, rfl, SqL.of (sE _ _ eABc), atI_of (j := k) (at_u hup) (by omega), ?_⟩
      refine ⟨_, rfl, _, rfl, AN, _, _, _, rfl, rfl, SqL.of (sE _ _ eANc), atI_of (j := k) (v := .ref ak) (by rw [List.getElem?_map, hak]; rfl) (by omega), _, rfl, _, rfl, ?_⟩
      refine ⟨b, ak, BN, n, up_k, z, lowsTo names up zs n (names.length - 1), lots, m + 200 + 102000 * k, rfl, r5.keep sE, by omega, hatk.keep (Same.tups sE), z4 z (List.mem_of_getElem? hz), hlow, bBN, by omega, fun y hy => nm_ok (nnm _ (lows_in (by omega) y hy)), hl1, hl4, fun a r H9 k9 B9 h8 drawn => ?_⟩
      have eR9 := k9 _ _ bR (sE _ _ r1)
      have tE : Tups Hc H9 := fun a' xs h => (r5.keep sE).tups k9 _ _ (sE _ _ h)
      have tL : Tups H9 (upd H9 R (.lst (as.map V.ref ++ [.ref a]))) := fun a' ts ha' => by
        rw [upd_ne (ne_of ha' eR9 (by intro z; cases z))]
        exact ha'
      have las := paired_len r2
      refine ⟨R, _, _, rfl, rfl, eR9, by rw [List.length_map]; omega, as ++ [a], rs ++ [r], _, _, _, _, rfl, by rw [upd_same, List.map_append]; rfl, paired_snoc (paired_imp (fun _ _ y => (y.keep tE).keep tL) r2) (h8.keep tL), by rw [List.length_append, r3]; rfl, fun i r' hi => ?_, (B9.off bR _).more (by omega), fun a' o na nR' h => ?_⟩
      · by_cases c : i < rs.length
        · rw [List.getElem?_append_left c] at hi
          exact r4 i r' hi
        · rw [List.getElem?_append_right (by omega)] at hi
          have i0 : i - rs.length = 0 := by
            by_cases c2 : i - rs.length = 0
            · exact c2
            · rw [List.getElem?_eq_none_iff.mpr (by show 1 ≤ _; omega)] at hi
              cases hi
          rw [i0] at hi
          cases hi
          have ik : i = k := by omega
          subst ik
          exact ⟨n, up_k, hn, hup, drawn⟩
      · rw [upd_ne nR']
        exact k9 _ _ na (sE _ _ (r6 _ _ na nR' h))
  · rintro σ Hc ⟨as, rs, y6, y8, y11, y12, rfl, r1, r2, r3, r4, r5, r6⟩
    rw [List.length_map] at r3 r5
    have r3' : rs.length = names.length := by omega
    obtain ⟨rt, rn, ru⟩ := right_of_drawn tree (zs := zs) r3' r4
    refine ⟨_, rfl, q R as rs Hc (fun a o na h => ?_) (r5.more (by omega)) nR0 bR r1 r2 rt (fun r hr => ?_) (fun r hr => ?_) (fun r hr => nin _ (by rw [← rn]; exact List.mem_map_of_mem hr)) (by omega)⟩
    · refine r6 a o na (fun e => ?_) (kE _ _ na h)
      rw [e, nR0] at h
      cases h
    · obtain ⟨i, hi⟩ := List.getElem?_of_mem hr
      obtain ⟨n, a, h1, h2, d⟩ := r4 i r hi
      exact d.some
    · obtain ⟨i, hi⟩ := List.getElem?_of_mem hr
      obtain ⟨n, a, h1, h2, d⟩ := r4 i r hi
      exact d.few
end
end Any
namespace Any
open L2 PySem PySem.Spec PyProof.Rows LamX NdefX
/-! ### rooms as data -/
def exD : Ex → PyData
  | .num n => .tuple [.str "number", .int n]
  | .box x => .tuple [.str "box", .str x]
  | .asked => .tuple [.str "asked"]
  | .told => .tuple [.str "told"]
  | .op d l r => .tuple [.str d.word, exD l, exD r]
def tsD : Ts → PyData
  | .is l r => .tuple [.str "is", exD l, exD r]
  | .bel l r => .tuple [.str "below", exD l, exD r]
  | .nt t => .tuple [.str "not", tsD t]
  | .both t u => .tuple [.str "both", tsD t, tsD u]
  | .either t u => .tuple [.str "either", tsD t, tsD u]
mutual
def sgD : Sg → PyData
  | .set x e => .tuple [.str "set", .str x, exD e]
  | .say x e => .tuple [.str "say", .str x, exD e]
  | .hear x => .tuple [.str "hear", .str x]
  | .call x r e => .tuple [.str "call", .str x, .str r, exD e]
  | .ifs t a b => .tuple [.str "if", tsD t, .tuple (bdL a), .tuple (bdL b)]
  | .fors e m a => .tuple [.str "for", exD e, .int m, .tuple (bdL a)]
def bdL : Bd → List PyData
  | .nil => []
  | .cons s b => sgD s :: bdL b
end
theorem exD_dp {K : PySem.W.Frag} {H : Hp} {v : V} {e : Ex} (h : ExAt H v e) : Dp K H v (exD e) := by
  induction h with
  | num h => exact .tup (SqT.of h) (.cons (.str _) (.cons (.int _) .nil))
  | box h => exact .tup (SqT.of h) (.cons (.str _) (.cons (.str _) .nil))
  | asked h => exact .tup (SqT.of h) (.cons (.str _) .nil)
  | told h => exact .tup (SqT.of h) (.cons (.str _) .nil)
  | op h _ _ i1 i2 => exact .tup (SqT.of h) (.cons (.str _) (.cons i1 (.cons i2 .nil)))
theorem tsD_dp {K : PySem.W.Frag} {H : Hp} {v : V} {e : Ts} (h : TsAt H v e) : Dp K H v (tsD e) := by
  induction h with
  | is h h1 h2 => exact .tup (SqT.of h) (.cons (.str _) (.cons (exD_dp h1) (.cons (exD_dp h2) .nil)))
  | bel h h1 h2 => exact .tup (SqT.of h) (.cons (.str _) (.cons (exD_dp h1) (.cons (exD_dp h2) .nil)))
  | nt h _ i1 => exact .tup (SqT.of h) (.cons (.str _) (.cons i1 .nil))
  | both h _ _ i1 i2 => exact .tup (SqT.of h) (.cons (.str _) (.cons i1 (.cons i2 .nil)))
  | either h _ _ i1 i2 => exact .tup (SqT.of h) (.cons (.str _) (.cons i1 (.cons i2 .nil)))
mutual
theorem sgD_dp {K : PySem.W.Frag} {H : Hp} : ∀ (s : Sg) {v : V}, SgAt H v s → Dp K H v (sgD s)
  | .set x e, v, h => by
    unfold SgAt at h
    obtain ⟨a, u, rfl, h1, h2⟩ := h
    unfold sgD
    exact .tup (SqT.of h1) (.cons (.str _) (.cons (.str _) (.cons (exD_dp h2) .nil)))
  | .say x e, v, h => by
    unfold SgAt at h
    obtain ⟨a, u, rfl, h1, h2⟩ := h
    unfold sgD
    exact .tup (SqT.of h1) (.cons (.str _) (.cons (.str _) (.cons (exD_dp h2) .nil)))
  | .hear x, v, h => by
    unfold SgAt at h
    obtain ⟨a, rfl, h1⟩ := h
    unfold sgD
    exact .tup (SqT.of h1) (.cons (.str _) (.cons (.str _) .nil))
  | .call x r e, v, h => by
    unfold SgAt at h
    obtain ⟨a, u, rfl, h1, h2⟩ := h
    unfold sgD
    exact .tup (SqT.of h1) (.cons (.str _) (.cons (.str _) (.cons (.str _) (.cons (exD_dp h2) .nil))))
  | .ifs t p q, v, h => by
    unfold SgAt at h
    obtain ⟨a, u, b, c, vs, us, rfl, h1, h2, h3, h4, h5, h6⟩ := h
    unfold sgD
    exact .tup (SqT.of h1) (.cons (.str _) (.cons (tsD_dp h2) (.cons (.tup (SqT.of h3) (bdL_dp p h4)) (.cons (.tup (SqT.of h5) (bdL_dp q h6)) .nil))))
  | .fors e m p, v, h => by
    unfold SgAt at h
    obtain ⟨a, u, b, vs, rfl, h1, h2, h3, h4⟩ := h
    unfold sgD
    exact .tup (SqT.of h1) (.cons (.str _) (.cons (exD_dp h2) (.cons (.int _) (.cons (.tup (SqT.of h3) (bdL_dp p h4)) .nil))))
theorem bdL_dp {K : PySem.W.Frag} {H : Hp} : ∀ (b : Bd) {vs : List V}, BdL H vs b → DpAll K H vs (bdL b)
  | .nil, vs, h => by
    unfold BdL at h
    subst h
    unfold bdL
    exact .nil
  | .cons s b, vs, h => by
    unfold BdL at h
    obtain ⟨v, us, rfl, h1, h2⟩ := h
    unfold bdL
    exact .cons (sgD_dp s h1) (bdL_dp b h2)
end
/-- data that can be laid and shown, so deep, so much -/
structure Fd (d : PyData) (k n : Nat) : Prop where
  lay : d.canLay0 = true
  dp : d.depth ≤ k
  pl : d.plain = true
  sh : d.showable = true
  ls : d.leavesShort 64 = true
  bk : d.bulk ≤ n
  nd : d.hasDict = false
structure FdAll (ds : List PyData) (k n : Nat) : Prop where
  lay : PyData.canLayAll0 ds = true
  dp : PyData.depthAll ds ≤ k
  pl : PyData.plainAll ds = true
  sh : PyData.showableAll ds = true
  ls : PyData.leavesShortAll 64 ds = true
  bk : PyData.bulkAll ds ≤ n
  nd : PyData.hasDictAll ds = false
theorem FdAll.nil {k : Nat} : FdAll [] k 0 := ⟨rfl, Nat.zero_le _, rfl, rfl, rfl, Nat.le_refl _, rfl⟩
theorem FdAll.cons {d : PyData} {ds : List PyData} {k n m : Nat} (h : Fd d k n) (t : FdAll ds k m) : FdAll (d :: ds) k (n + 1 + m) := by
  refine ⟨?_, ?_, ?_, ?_, ?_, ?_, ?_⟩
  · show (d.canLay0 && PyData.canLayAll0 ds) = true
    rw [h.lay, t.lay]
    rfl
  · show max d.depth (PyData.depthAll ds) ≤ k
    have := h.dp
    have := t.dp
    omega
  · show (d.plain && PyData.plainAll ds) = true
    rw [h.pl, t.pl]
    rfl
  · show (d.showable && PyData.showableAll ds) = true
    rw [h.sh, t.sh]
    rfl
  · show (d.leavesShort 64 && PyData.leavesShortAll 64 ds) = true
    rw [h.ls, t.ls]
    rfl
  · show d.bulk + 1 + PyData.bulkAll ds ≤ _
    have := h.bk
    have := t.bk
    omega
  · show (d.hasDict || PyData.hasDictAll ds) = false
    rw [h.nd, t.nd]
    rfl
theorem Fd.more {d : PyData} {j k n m : Nat} (h : Fd d j n) (l : j ≤ k) (l2 : n ≤ m) : Fd d k m := ⟨h.lay, Nat.le_trans h.dp l, h.pl, h.sh, h.ls, Nat.le_trans h.bk l2, h.nd⟩
theorem FdAll.more {d : List PyData} {j k n m : Nat} (h : FdAll d j n) (l : j ≤ k) (l2 : n ≤ m) : FdAll d k m := ⟨h.lay, Nat.le_trans h.dp l, h.pl, h.sh, h.ls, Nat.le_trans h.bk l2, h.nd⟩
theorem Fd.tup {ds : List PyData} {k n : Nat} (h : FdAll ds k n) : Fd (.tuple ds) (k + 1) n := ⟨h.lay, Nat.succ_le_succ h.dp, h.pl, h.sh, h.ls, h.bk, h.nd⟩
theorem Fd.lst {ds : List PyData} {k n : Nat} (h : FdAll ds k n) : Fd (.list ds) (k + 1) n := ⟨h.lay, Nat.succ_le_succ h.dp, h.pl, h.sh, h.ls, h.bk, h.nd⟩
theorem Fd.non {k n : Nat} : Fd .none k n := ⟨rfl, Nat.zero_le _, rfl, rfl, rfl, Nat.zero_le _, rfl⟩
theorem num_len_all : ∀ n : Fin 1000, (PyData.shown (.int ((n.val : Nat) : Int))).length ≤ 64 := by decide +kernel
theorem Fd.int {i : Int} {k n : Nat} (h0 : 0 ≤ i) (h1 : i < 1000) : Fd (.int i) k n := by
  refine ⟨rfl, Nat.zero_le _, rfl, ?_, ?_, Nat.zero_le _, rfl⟩
  · show decide (i.natAbs.log2 < 1920) = true
    refine decide_eq_true ?_
    by_cases z : i.natAbs = 0
    · rw [z]; decide
    · have := (Nat.log2_lt z).mpr (show i.natAbs < 2 ^ 10 by omega)
      omega
  · have z := num_len_all ⟨i.toNat, by omega⟩
    have e : (((⟨i.toNat, by omega⟩ : Fin 1000).val : Nat) : Int) = i := by show ((i.toNat : Nat) : Int) = i; omega
    rw [e] at z
    exact decide_eq_true z
theorem Fd.str {x : Str} {k n : Nat} (h : PyData.strOk x = true) (h2 : x.cps.toList.all (fun c => decide (c < 16 ^ 8)) = true) (h3 : x.cps.size ≤ n) : Fd (.str x) k n := ⟨h, Nat.zero_le _, rfl, rfl, h2, h3, rfl⟩
theorem Fd.nm {x : Str} {k : Nat} (h : Nm x) : Fd (.str x) k 8 := .str (nm_ok h) (List.all_eq_true.mpr fun c hc => decide_eq_true (by have := h.low c hc; omega)) h.hi
theorem Fd.wd {x : Str} {k n : Nat} (h : (PyData.strOk x && x.cps.toList.all (fun c => decide (c < 16 ^ 8)) && decide (x.cps.size ≤ n)) = true) : Fd (.str x) k n := by
  rw [Bool.and_eq_true, Bool.and_eq_true] at h
  exact .str h.1.1 h.1.2 (of_decide_eq_true h.2)
theorem Fd.shaped {d : PyData} {k n : Nat} (h : Fd d k n) (l : k ≤ 64) : SeqAt.shaped d = true := by
  unfold SeqAt.shaped
  rw [h.lay, decide_eq_true (Nat.le_trans h.dp l)]
  rfl
theorem Fd.refl {d : PyData} {k n : Nat} (h : Fd d k n) : PyData.eqv d d = true := PySem.SeqAt.eqv_refl_plain _ h.pl
theorem word_fd (d : Dd) {k : Nat} : Fd (.str d.word) k 5 := by cases d <;> exact .wd (by decide +kernel)
section
variable {xs ws rs : List Str}
theorem exD_fd (hx : ∀ x ∈ xs, Nm x) : ∀ e : Ex, e.fit xs ws → Fd (exD e) e.deep (16 * e.cnt)
  | .num n, h => by
    unfold Ex.fit at h
    exact (Fd.tup (.cons (Fd.wd (n := 6) (by decide +kernel)) (.cons (Fd.int (n := 0) h.1 (by omega)) (.nil (k := 0))))).more (by unfold Ex.deep; omega) (by unfold Ex.cnt; omega)
  | .box x, h => by
    unfold Ex.fit at h
    exact (Fd.tup (.cons (Fd.wd (n := 3) (by decide +kernel)) (.cons (Fd.nm (hx x h)) (.nil (k := 0))))).more (by unfold Ex.deep; omega) (by unfold Ex.cnt; omega)
  | .asked, _ => (Fd.tup (.cons (Fd.wd (n := 5) (by decide +kernel)) (.nil (k := 0)))).more (by unfold Ex.deep; omega) (by unfold Ex.cnt; omega)
  | .told, _ => (Fd.tup (.cons (Fd.wd (n := 5) (by decide +kernel)) (.nil (k := 0)))).more (by unfold Ex.deep; omega) (by unfold Ex.cnt; omega)
  | .op d l r, h => by
    unfold Ex.fit at h
    have h1 := (exD_fd hx l h.1).more (Nat.le_max_left l.deep r.deep) (Nat.le_refl _)
    have h2 := (exD_fd hx r h.2).more (Nat.le_max_right l.deep r.deep) (Nat.le_refl _)
    exact (Fd.tup (.cons (word_fd d) (.cons h1 (.cons h2 .nil)))).more (by show _ ≤ max l.deep r.deep + 1; omega) (by show _ ≤ 16 * (1 + (l.cnt + r.cnt)); omega)
theorem tsD_fd (hx : ∀ x ∈ xs, Nm x) : ∀ e : Ts, e.fit xs ws → Fd (tsD e) e.dp (16 * e.cnt)
  | .is l r, h => by
    unfold Ts.fit at h
    have h1 := (exD_fd hx l h.1).more (Nat.le_max_left l.deep r.deep) (Nat.le_refl _)
    have h2 := (exD_fd hx r h.2).more (Nat.le_max_right l.deep r.deep) (Nat.le_refl _)
    exact (Fd.tup (.cons (Fd.wd (n := 2) (by decide +kernel)) (.cons h1 (.cons h2 .nil)))).more (by unfold Ts.dp; omega) (by unfold Ts.cnt; omega)
  | .bel l r, h => by
    unfold Ts.fit at h
    have h1 := (exD_fd hx l h.1).more (Nat.le_max_left l.deep r.deep) (Nat.le_refl _)
    have h2 := (exD_fd hx r h.2).more (Nat.le_max_right l.deep r.deep) (Nat.le_refl _)
    exact (Fd.tup (.cons (Fd.wd (n := 5) (by decide +kernel)) (.cons h1 (.cons h2 .nil)))).more (by unfold Ts.dp; omega) (by unfold Ts.cnt; omega)
  | .nt t, h => by
    unfold Ts.fit at h
    exact (Fd.tup (.cons (Fd.wd (n := 3) (by decide +kernel)) (.cons (tsD_fd hx t h) .nil))).more (by show _ ≤ t.dp + 1; omega) (by show _ ≤ 16 * (1 + t.cnt); omega)
  | .both l r, h => by
    unfold Ts.fit at h
    have h1 := (tsD_fd hx l h.1).more (Nat.le_max_left l.dp r.dp) (Nat.le_refl _)
    have h2 := (tsD_fd hx r h.2).more (Nat.le_max_right l.dp r.dp) (Nat.le_refl _)
    exact (Fd.tup (.cons (Fd.wd (n := 4) (by decide +kernel)) (.cons h1 (.cons h2 .nil)))).more (by show _ ≤ max l.dp r.dp + 1; omega) (by show _ ≤ 16 * (1 + (l.cnt + r.cnt)); omega)
  | .either l r, h => by
    unfold Ts.fit at h
    have h1 := (tsD_fd hx l h.1).more (Nat.le_max_left l.dp r.dp) (Nat.le_refl _)
    have h2 := (tsD_fd hx r h.2).more (Nat.le_max_right l.dp r.dp) (Nat.le_refl _)
    exact (Fd.tup (.cons (Fd.wd (n := 6) (by decide +kernel)) (.cons h1 (.cons h2 .nil)))).more (by show _ ≤ max l.dp r.dp + 1; omega) (by show _ ≤ 16 * (1 + (l.cnt + r.cnt)); omega)
theorem exD_r (hx : ∀ x ∈ xs, Nm x) {e : Ex} (h : e.right xs ws) : Fd (exD e) 5 256 := (exD_fd hx e h.1).more h.2.1 (by have := h.2.2; omega)
theorem tsD_r (hx : ∀ x ∈ xs, Nm x) {e : Ts} (h : e.right xs ws) : Fd (tsD e) 5 256 := (tsD_fd hx e h.1).more h.2.1 (by have := h.2.2; omega)
mutual
theorem sgD_fd (hx : ∀ x ∈ xs, Nm x) (hr : ∀ x ∈ rs, Nm x) : ∀ s : Sg, s.ok xs ws rs → Fd (sgD s) (2 * s.dp + 5) (300 * s.tot - 1)
  | .set x e, h => by
    unfold Sg.ok at h
    unfold sgD
    exact (Fd.tup (.cons (Fd.wd (n := 3) (by decide +kernel)) (.cons (Fd.nm (hx x h.1)) (.cons (exD_r hx h.2) .nil)))).more (by unfold Sg.dp; omega) (by unfold Sg.tot; omega)
  | .say x e, h => by
    unfold Sg.ok at h
    unfold sgD
    exact (Fd.tup (.cons (Fd.wd (n := 3) (by decide +kernel)) (.cons (Fd.nm (hx x h.1)) (.cons (exD_r hx h.2) .nil)))).more (by unfold Sg.dp; omega) (by unfold Sg.tot; omega)
  | .hear x, h => by
    unfold Sg.ok at h
    unfold sgD
    exact (Fd.tup (.cons (Fd.wd (n := 4) (by decide +kernel)) (.cons (Fd.nm (hx x h)) (.nil (k := 0))))).more (by unfold Sg.dp; omega) (by unfold Sg.tot; omega)
  | .call x r e, h => by
    unfold Sg.ok at h
    unfold sgD
    exact (Fd.tup (.cons (Fd.wd (n := 4) (by decide +kernel)) (.cons (Fd.nm (hx x h.1)) (.cons (Fd.nm (hr r h.2.1)) (.cons (exD_r hx h.2.2) .nil))))).more (by unfold Sg.dp; omega) (by unfold Sg.tot; omega)
  | .ifs t a b, h => by
    unfold Sg.ok at h
    have h1 := (tsD_r hx h.1).more (show 5 ≤ 2 * max a.dp b.dp + 6 by omega) (Nat.le_refl _)
    have h2 := (bdL_fd hx hr a h.2.1.1).more (show _ ≤ 2 * max a.dp b.dp + 5 by omega) (Nat.le_refl _)
    have h3 := (bdL_fd hx hr b h.2.2.1).more (show _ ≤ 2 * max a.dp b.dp + 5 by omega) (Nat.le_refl _)
    unfold sgD
    exact (Fd.tup (.cons (Fd.wd (n := 2) (by decide +kernel)) (.cons h1 (.cons (.tup h2) (.cons (.tup h3) .nil))))).more (by show _ ≤ 2 * (max a.dp b.dp + 1) + 5; omega) (by show _ ≤ 300 * (1 + (a.tot + b.tot)) - 1; omega)
  | .fors e m a, h => by
    unfold Sg.ok at h
    have h1 := (exD_r hx h.1).more (show 5 ≤ 2 * a.dp + 6 by omega) (Nat.le_refl _)
    have h2 := (bdL_fd hx hr a h.2.2.1)
    unfold sgD
    exact (Fd.tup (.cons (Fd.wd (n := 3) (by decide +kernel)) (.cons h1 (.cons (Fd.int (n := 0) (by omega) (by omega)) (.cons (.tup h2) .nil))))).more (by show _ ≤ 2 * (a.dp + 1) + 5; omega) (by show _ ≤ 300 * (1 + a.tot) - 1; omega)
theorem bdL_fd (hx : ∀ x ∈ xs, Nm x) (hr : ∀ x ∈ rs, Nm x) : ∀ b : Bd, b.ok xs ws rs → FdAll (bdL b) (2 * b.dp + 5) (300 * b.tot)
  | .nil, _ => by
    unfold bdL
    exact FdAll.nil.more (Nat.le_refl _) (Nat.zero_le _)
  | .cons s b, h => by
    unfold Bd.ok at h
    have h1 := (sgD_fd hx hr s h.1).more (show _ ≤ 2 * max s.dp b.dp + 5 by omega) (Nat.le_refl _)
    have h2 := (bdL_fd hx hr b h.2).more (show _ ≤ 2 * max s.dp b.dp + 5 by omega) (Nat.le_refl _)
    have t1 : 1 ≤ s.tot := by cases s <;> (unfold Sg.tot; omega)
    unfold bdL
    exact (FdAll.cons h1 h2).more (by show _ ≤ 2 * max s.dp b.dp + 5; omega) (by show _ ≤ 300 * (s.tot + b.tot); omega)
end
end
/-! ### the eight parts -/
def crD (c : Str × Int × Int) : PyData := .tuple [.str c.1, .int c.2.1, .int c.2.2]
def askD : Option Int → PyData
  | none => .none
  | some i => .int i
def toldD : Option (Int × Ex) → PyData
  | none => .none
  | some (i, e) => .tuple [.int i, exD e]
def vowD : Option Ts → PyData
  | none => .none
  | some t => tsD t
def Rm.bxD (r : Rm) : PyData := .tuple (r.boxes.map crD)
def Rm.syD (r : Rm) : PyData := .tuple (r.sayings.map tsD)
def Rm.bdD (r : Rm) : PyData := .tuple (bdL r.body)
def Rm.parts (r : Rm) : List PyData := [.str r.name, .str r.above, r.bxD, r.syD, askD r.ask, toldD r.told, vowD r.promise, r.bdD]
section
variable {K : PySem.W.Frag} {H : Hp}
theorem crs_dp : ∀ {as : List Addr} {cs : List (Str × Int × Int)}, Paired (fun (a : Addr) (x : Str × Int × Int) => H a = some (.tup [.str x.1, .int x.2.1, .int x.2.2])) as cs → DpAll K H (as.map V.ref) (cs.map crD)
  | _, _, .nil => .nil
  | _, _, .cons r t => .cons (.tup (SqT.of r) (.cons (.str _) (.cons (.int _) (.cons (.int _) .nil)))) (crs_dp t)
theorem says_dp : ∀ {vs : List V} {ts : List Ts}, Paired (TsAt H) vs ts → DpAll K H vs (ts.map tsD)
  | _, _, .nil => .nil
  | _, _, .cons r t => .cons (tsD_dp r) (says_dp t)
theorem crates_dp {c : Addr} {cs : List (Str × Int × Int)} (h : CratesAt H c cs) : Dp K H (.ref c) (.tuple (cs.map crD)) := by
  obtain ⟨as, h1, h2⟩ := h
  exact .tup (SqT.of h1) (crs_dp h2)
theorem sayings_dp {c : Addr} {ts : List Ts} (h : SaysAt H c ts) : Dp K H (.ref c) (.tuple (ts.map tsD)) := by
  obtain ⟨as, h1, h2⟩ := h
  exact .tup (SqT.of h1) (says_dp h2)
theorem ask_dp {v : V} : ∀ {o : Option Int}, AskAt v o → Dp K H v (askD o)
  | none, h => by
    have e : v = .non := h
    subst e
    exact .non
  | some i, h => by
    have e : v = .int i := h
    subst e
    exact .int _
theorem told_dp {v : V} : ∀ {o : Option (Int × Ex)}, ToldAt H v o → Dp K H v (toldD o)
  | none, h => by
    have e : v = .non := h
    subst e
    exact .non
  | some (i, e), h => by
    obtain ⟨a, u, rfl, h1, h2⟩ := h
    exact .tup (SqT.of h1) (.cons (.int _) (.cons (exD_dp h2) .nil))
theorem vow_dp {v : V} : ∀ {o : Option Ts}, VowAt H v o → Dp K H v (vowD o)
  | none, h => by
    have e : v = .non := h
    subst e
    exact .non
  | some t, h => tsD_dp h
theorem body_dp {c : Addr} {b : Bd} (h : BdAt H c b) : Dp K H (.ref c) (.tuple (bdL b)) := by
  obtain ⟨vs, h1, h2⟩ := h
  exact .tup (SqT.of h1) (bdL_dp b h2)
theorem parts_dp {r : Rm} {n a b s k t p y : V} (h : PartsAt H r n a b s k t p y) : DpAll K H [n, a, b, s, k, t, p, y] r.parts := by
  obtain ⟨rfl, rfl, ⟨c1, rfl, h1⟩, ⟨c2, rfl, h2⟩, h3, h4, h5, ⟨c3, rfl, h6⟩⟩ := h
  exact .cons (.str _) (.cons (.str _) (.cons (crates_dp h1) (.cons (sayings_dp h2) (.cons (ask_dp h3) (.cons (told_dp h4) (.cons (vow_dp h5) (.cons (body_dp h6) .nil)))))))
end
/-- a room whose parts can be laid and shown -/
structure Rm.fd (r : Rm) : Prop where
  name : Nm r.name
  above : Fd (.str r.above) 0 8
  boxes : Fd r.bxD 2 60
  sayings : Fd r.syD 6 1100
  ask : Fd (askD r.ask) 0 0
  told : Fd (toldD r.told) 6 300
  promise : Fd (vowD r.promise) 5 256
  body : Fd r.bdD 14 9000
theorem Rm.fd.all {r : Rm} (h : r.fd) : FdAll r.parts 14 11000 :=
  (FdAll.cons ((Fd.nm h.name).more (k := 14) (Nat.zero_le _) (Nat.le_refl _)) (.cons (h.above.more (Nat.zero_le _) (Nat.le_refl _)) (.cons (h.boxes.more (by decide) (Nat.le_refl _)) (.cons (h.sayings.more (by decide) (Nat.le_refl _)) (.cons (h.ask.more (by decide) (Nat.le_refl _))
    (.cons (h.told.more (by decide) (Nat.le_refl _)) (.cons (h.promise.more (by decide) (Nat.le_refl _)) (.cons h.body .nil)))))))).more (Nat.le_refl _) (by decide)
theorem FdAll.map {α : Type} {f : α → PyData} {k n : Nat} : ∀ {xs : List α} (m : Nat), (∀ x ∈ xs, Fd (f x) k n) → xs.length ≤ m → FdAll (xs.map f) k ((n + 1) * m)
  | [], m, _, _ => FdAll.nil.more (Nat.le_refl _) (Nat.zero_le _)
  | x :: xs, m, h, l => by
    obtain ⟨m', rfl⟩ : ∃ m', m = m' + 1 := ⟨m - 1, by rw [List.length_cons] at l; omega⟩
    refine (FdAll.cons (h x (List.mem_cons_self ..)) (FdAll.map m' (fun y hy => h y (List.mem_cons_of_mem _ hy)) (by rw [List.length_cons] at l; omega))).more (Nat.le_refl _) ?_
    rw [Nat.mul_add]
    omega
theorem right_nm {rs : List Rm} (ok : Right rs) {x : Str} (h : x ∈ rs.map (·.name)) : Nm x := by
  obtain ⟨r, h1, rfl⟩ := List.mem_map.mp h
  obtain ⟨i, hi⟩ := List.getElem?_of_mem h1
  exact (ok.all i r hi).name
theorem ben_nm {rs : List Rm} (ok : Right rs) {n x : Str} (h : x ∈ ben rs n) : Nm x := by
  unfold ben at h
  obtain ⟨r, h1, rfl⟩ := List.mem_map.mp h
  exact right_nm ok (List.mem_map_of_mem (List.mem_filter.mp h1).1)
theorem room_fd {rs : List Rm} (ok : Right rs) {i : Nat} {r : Rm} (hi : rs[i]? = some r) : r.fd := by
  have z := ok.all i r hi
  have hx : ∀ x ∈ r.bn, Nm x := fun x h => by
    unfold Rm.bn at h
    obtain ⟨b, h1, rfl⟩ := List.mem_map.mp h
    exact (z.boxes.2.1 b h1).1
  have bx : Fd r.bxD 2 60 := by
    refine (Fd.tup (FdAll.map (k := 1) (n := 11) 4 (fun b hb => ?_) z.boxes.1)).more (Nat.le_refl _) (by decide)
    obtain ⟨h1, h2, h3⟩ := z.boxes.2.1 b hb
    exact Fd.tup (.cons (Fd.nm h1) (.cons (Fd.int (n := 0) (by omega) (by omega)) (.cons (Fd.int (n := 0) (by omega) (by omega)) (.nil (k := 0)))))
  have sy : Fd r.syD 6 1100 := (Fd.tup (FdAll.map (k := 5) (n := 256) 4 (fun t ht => tsD_r hx (z.says.2 t ht).1) z.says.1)).more (Nat.le_refl _) (by decide)
  have bd : ∀ ws, r.body.right r.bn ws (ben rs r.name) → Fd r.bdD 14 9000 := fun ws h => (Fd.tup (bdL_fd hx (fun x hx => ben_nm ok hx) r.body h.1)).more (by have := h.2.2.1; omega) (by have := h.2.2.2; omega)
  by_cases c : i = 0
  · obtain ⟨⟨e1, e2, e3⟩, h2⟩ := z.first c
    have ea := z.above.1 c
    exact ⟨z.name, by rw [ea]; exact .wd (by decide +kernel), bx, sy, by rw [e1]; exact .non, by rw [e2]; exact .non, by rw [e3]; exact .non, bd _ h2⟩
  · obtain ⟨⟨⟨k, ek, k1, k2⟩, ⟨j, e, ee, j1, he⟩, hv⟩, h2⟩ := z.other c
    have ea := (z.above.2 c).1
    refine ⟨z.name, .nm (right_nm ok (List.mem_of_mem_take (by rw [← List.map_take]; exact ea))), bx, sy, by rw [ek]; exact .int (by omega) (by omega), ?_, ?_, bd _ h2⟩
    · rw [ee]
      exact (Fd.tup (.cons ((Fd.int (n := 0) (by omega) (by omega)).more (Nat.zero_le _) (Nat.le_refl _)) (.cons (exD_r hx he) .nil))).more (Nat.le_refl _) (by decide)
    · cases ep : r.promise with
      | none => exact .non
      | some t => exact tsD_r (xs := []) (fun x h => by cases h) (hv t ep)
end Any
set_option pp.maxSteps 600
namespace Any
open L2 PySem PySem.Spec PyProof.Rows LamX NdefX
/-! ### what rooms and programs tell of themselves -/
abbrev sReq : Stmt := inClass (top 51) 1
abbrev sRln : Stmt := inClass (top 51) 2
abbrev sRrp : Stmt := inClass (top 51) 3
abbrev sPeq : Stmt := inClass (top 52) 6
abbrev sPln : Stmt := inClass (top 52) 7
abbrev sPrp : Stmt := inClass (top 52) 9
abbrev sPrs : Stmt := inClass (top 52) 1
theorem scReq : FnScope ["self", "other"] ["self", "other"] (defScope sReq) := ⟨rfl, rfl, rfl, by decide +kernel, rfl, by decide +kernel, by decide +kernel⟩
theorem scRln : FnScope ["self"] ["self"] (defScope sRln) := ⟨rfl, rfl, rfl, by decide +kernel, rfl, by decide +kernel, by decide +kernel⟩
theorem scRrp : FnScope ["self"] ["self"] (defScope sRrp) := ⟨rfl, rfl, rfl, by decide +kernel, rfl, by decide +kernel, by decide +kernel⟩
theorem scPeq : FnScope ["self", "other"] ["self", "other"] (defScope sPeq) := ⟨rfl, rfl, rfl, by decide +kernel, rfl, by decide +kernel, by decide +kernel⟩
theorem scPln : FnScope ["self"] ["self"] (defScope sPln) := ⟨rfl, rfl, rfl, by decide +kernel, rfl, by decide +kernel, by decide +kernel⟩
theorem scPrp : FnScope ["self"] ["self"] (defScope sPrp) := ⟨rfl, rfl, rfl, by decide +kernel, rfl, by decide +kernel, by decide +kernel⟩
theorem scPrs : FnScope ["self"] ["self"] (defScope sPrs) := ⟨rfl, rfl, rfl, by decide +kernel, rfl, by decide +kernel, by decide +kernel⟩
/-- an own class is a class -/
structure KindC (K : PySem.W.Frag) (C : Addr) : Prop where
  ty : PySem.W.typeIn K (.ref C) = some (.type "type")
  ha : PySem.W.findIn K (.ref C) "__class__" = some (some (.builtin "object.__class__"))
  hn : PySem.W.specialIn K (.builtin "object.__class__") "__get__" = some (some (.builtin "getset_descriptor.__get__"))
  htk : PySem.W.takesIn K (.builtin "object.__class__") = some true
  hm : PySem.W.mroIn K C (.type "object") = some true
theorem KindC.one {K : PySem.W.Frag} {C : Addr} (I : KindC K C) : PySem.W.kitOne K (.ref C) (.ref C) = some true := by
  unfold PySem.W.kitOne
  rw [if_pos (by simp)]
theorem KindC.not {K : PySem.W.Frag} {C : Addr} (I : KindC K C) {T : String} {l : List Value} (h : fastBuiltinMro T = some l) (hl : l.contains (.ref C) = false) : PySem.W.kitOne K (.type T) (.ref C) = some false := by
  obtain ⟨cd, hc, _⟩ := Option.bind_eq_some_iff.mp I.hm
  unfold PySem.W.kitOne PySem.W.kitCls
  rw [if_neg (by simp)]
  dsimp only
  rw [hc, I.ty, if_pos (by simp)]
  unfold PySem.W.subIn
  dsimp only
  rw [h, Option.map_some, hl]
/-- a program that holds these rooms -/
def HeldAt (D : Addr) (H : Hp) (x R : Addr) : Prop := ∃ dx v, H x = some (.ins D dx [("held", .ref R), ("drawn", v)])
theorem HeldAt.keep {D : Addr} {H H' : Hp} {x R : Addr} (h : HeldAt D H x R) (s : Same H H') : HeldAt D H' x R := by
  obtain ⟨dx, v, h1⟩ := h
  exact ⟨dx, v, s _ _ h1⟩
theorem pf_held {a b : V} : ([("held", a), ("drawn", b)] : List (Str × V)).lookup ("held" : Str) = some a := lk_hit
theorem pf_none {a b : V} {x : Str} (h1 : (x == ("held" : Str)) = false) (h2 : (x == ("drawn" : Str)) = false) : ([("held", a), ("drawn", b)] : List (Str × V)).lookup x = none := (lk_skip h1).trans ((lk_skip h2).trans rfl)
/-- what is known of Program's held -/
structure HeldC (K : PySem.W.Frag) (D : Addr) : Prop where
  cl : Cls K D
  held : NoAttr K D "held"
def rmB (r r' : Rm) : Bool := PyData.eqv (.str r.name) (.str r'.name) && (PyData.eqv (.str r.above) (.str r'.above) && (PyData.eqv r.bxD r'.bxD && (PyData.eqv r.syD r'.syD && (PyData.eqv (askD r.ask) (askD r'.ask) && (PyData.eqv (toldD r.told) (toldD r'.told) && (PyData.eqv (vowD r.promise) (vowD r'.promise) && (PyData.eqv r.bdD r'.bdD)))))))
theorem rmB_refl {r : Rm} (h : r.fd) : rmB r r = true := by
  unfold rmB
  rw [(Fd.nm (k := 0) h.name).refl, h.above.refl, h.boxes.refl, h.sayings.refl, h.ask.refl, h.told.refl, h.promise.refl, h.body.refl]
  rfl
/-- a thing that is of none of the program's classes -/
inductive NoIns (H : Hp) : V → Prop
  | non : NoIns H .non
  | str (x : Str) : NoIns H (.str x)
  | tup {a : Addr} {xs : List V} (h : H a = some (.tup xs)) : NoIns H (.ref a)
def spReq (C : Addr) : Sp := fun vs H Q _ => ∃ (x : Addr) (y : V) (r : Rm), vs = [.ref x, y] ∧ RmAt C H x r ∧ r.fd ∧
  ((∃ (y' : Addr) (r' : Rm), y = .ref y' ∧ RmAt C H y' r' ∧ r'.fd ∧ Q (.bl (rmB r r')) H) ∨ (NoIns H y ∧ Q (.bl false) H))
def spRrp (C : Addr) : Sp := fun vs H Q _ => ∃ (x : Addr) (r : Rm), vs = [.ref x] ∧ RmAt C H x r ∧ r.fd ∧ Q (.str (Str.empty ++ "Room(" ++ r.name ++ ")")) H
def spRln (C : Addr) : Sp := fun vs H Q _ => ∃ (x : Addr) (r : Rm), vs = [.ref x] ∧ RmAt C H x r ∧ r.body.dp < 5 ∧ r.body.tot ≤ 1000 ∧ ∀ H', Same H H' → Q (.int r.body.tot) H'
/-- two rooms in the heap -/
def DRm (C : Addr) : Eqq := fun x y H b => ∃ (a c : Addr) (r r' : Rm), x = .ref a ∧ y = .ref c ∧ RmAt C H a r ∧ RmAt C H c r' ∧ r.fd ∧ r'.fd ∧ b = rmB r r' ∧ (a = c → b = true)
theorem eqQ_rm {X : Cx} {C : Addr} {k : Nat} (D : EqD X.prog X.w X.K X.mg X.base C k (spReq C)) : EqQ X k (DRm C) := by
  have h : RcQ X k (DRm C) := fun A pins s σ H x y u v b sb I rx ry d => by
    obtain ⟨a, c, r, r', rfl, rfl, ha, hc, hf, hf', rfl, _⟩ := d
    obtain ⟨dx, n', a', b', s', k', t', p', y', h1, h2⟩ := id ha
    obtain ⟨dx2, n2, a2, b2, s2, k2, t2, p2, y2, h3, h4⟩ := id hc
    exact rcQ_own D A pins s σ H _ _ u v _ sb I rx ry ⟨a, dx, _, rfl, h1, .ins h3, fun Q q => ⟨a, _, r, rfl, ha, hf, .inl ⟨c, r', rfl, hc, hf', q⟩⟩⟩
  refine h.eqQ (fun x y H b u d rx ry => ?_) (fun x y H b d => ?_)
  · obtain ⟨a, c, r, r', rfl, rfl, ha, hc, hf, hf', rfl, e⟩ := d
    cases rx
    cases ry
    exact e rfl
  · obtain ⟨a, c, r, r', rfl, _⟩ := d
    exact .inl ⟨a, rfl⟩
def spPeq (C D : Addr) : Sp := fun vs H Q _ => ∃ (x : Addr) (y : V) (R : Addr), vs = [.ref x, y] ∧ HeldAt D H x R ∧
  ((∃ (y' R' : Addr) (as as' : List Addr) (e : Nat → Bool), y = .ref y' ∧ HeldAt D H y' R' ∧ H R = some (.tup (as.map V.ref)) ∧ H R' = some (.tup (as'.map V.ref)) ∧ Prq (DRm C) (as.map V.ref) (as'.map V.ref) H e ∧ Q (.bl (tupB e as.length as'.length)) H) ∨ (NoIns H y ∧ Q (.bl false) H))
def spPln (D : Addr) : Sp := fun vs H Q _ => ∃ (x R : Addr) (xs : List V), vs = [.ref x] ∧ HeldAt D H x R ∧ H R = some (.tup xs) ∧ Q (.int xs.length) H
def spPrp (D : Addr) : Sp := fun vs H Q _ => ∃ (x R : Addr) (xs : List V), vs = [.ref x] ∧ HeldAt D H x R ∧ H R = some (.tup xs) ∧ xs.length ≤ 8 ∧ Q (.str (Str.empty ++ "Program(" ++ ((toString (xs.length : Int) : String) : Str) ++ ")")) H
def spRms (D : Addr) : Sp := fun vs H Q _ => ∃ x R : Addr, vs = [.ref x] ∧ HeldAt D H x R ∧ Q (.ref R) H
section
variable {P : Program} {w : World} {K : PySem.W.Frag} {mg : Str → Option Value} {base : Heap} {f C D : Addr} {fd : FuncData}
theorem ok_req (O : Own mg) (T : RoomC K C) (TI : KindC K C) (mC : mg "Room" = some (.ref C)) (F : Fun K "__eq__" "Room.__eq__" sReq f fd) : FnOk P w K mg base CX0 1 f fd ["self", "other"] (spReq C) := by
  refine F.ok scReq (fun vs H Q E h => ?_) (fun cdv A outer s H vs Q E hr h => ?_)
  · obtain ⟨x, y, r, rfl, _⟩ := h
    rfl
  obtain ⟨x, y, r, rfl, ⟨dx, n, a, b, sy, k, t, p, bd, hx, pa⟩, hF, q⟩ := h
  refine ⟨_, pss_one (ps_ret (pe_and (pe_callB call_isi rfl O.isi (by decide +kernel) (pa_cons (pv 1) (pa_cons (pe_glob (v := .ref C) rfl mC rfl) pa_nil))) (pe_and (pe_cmpR (op_eqD hr.units) (pe_fld (pv 0) rfl) (pe_fld (pv 1) rfl) (nomark _)) (pe_and (pe_cmpR (op_eqD hr.units) (pe_fld (pv 0) rfl) (pe_fld (pv 1) rfl) (nomark _)) (pe_and (pe_cmpR (op_eqD hr.units) (pe_fld (pv 0) rfl) (pe_fld (pv 1) rfl) (nomark _)) (pe_and (pe_cmpR (op_eqD hr.units) (pe_fld (pv 0) rfl) (pe_fld (pv 1) rfl) (nomark _)) (pe_and (pe_cmpR (op_eqD hr.units) (pe_fld (pv 0) rfl) (pe_fld (pv 1) rfl) (nomark _)) (pe_and (pe_cmpR (op_eqD hr.units) (pe_fld (pv 0) rfl) (pe_fld (pv 1) rfl) (nomark _)) (pe_and (pe_cmpR (op_eqD hr.units) (pe_fld (pv 0) rfl) (pe_fld (pv 1) rfl) (nomark _)) (pe_one (pe_cmpR (op_eqD hr.units) (pe_fld (pv 0) rfl) (pe_fld (pv 1) rfl) (nomark _)))))))))))), ?_⟩
  rcases q with ⟨y', r', rfl, ⟨dx', n', a', b', sy', k', t', p', bd', hx', pa'⟩, gF, q⟩ | ⟨hy, q⟩
  · obtain ⟨rfl, rfl, ⟨c1, rfl, hb⟩, ⟨c2, rfl, hs⟩, hk, ht, hp, ⟨c3, rfl, hy⟩⟩ := pa
    obtain ⟨rfl, rfl, ⟨d1, rfl, gb⟩, ⟨d2, rfl, gs⟩, gk, gt, gp, ⟨d3, rfl, gy⟩⟩ := pa'
    refine ⟨_, rfl, _, _, _, _, true, rfl, .own C, .base (.ins hx' T.cl TI.ha TI.hn TI.htk TI.hm), TI.one, _, rfl, itT rfl ?_⟩
    refine ⟨_, rfl, x, C, dx, _, _, rfl, hx, T.cl, T.n1, rf_name, _, rfl, y', C, dx', _, _, rfl, hx', T.cl, T.n1, rf_name, _, _, .str _, .str _, ((Fd.nm hF.name).more (k := 60) (Nat.zero_le _) (Nat.le_refl _)).shaped (by decide), ((Fd.nm gF.name).more (k := 60) (Nat.zero_le _) (Nat.le_refl _)).shaped (by decide), _, rfl, ?_⟩
    cases h0 : PyData.eqv (.str r.name) (.str r'.name) with
    | false =>
      refine itF (by first | rfl | exact h0) ?_
      unfold rmB at q
      rw [h0] at q
      exact q
    | true =>
      refine itT (by first | rfl | exact h0) ?_
      refine ⟨_, rfl, x, C, dx, _, _, rfl, hx, T.cl, T.n2, rf_above, _, rfl, y', C, dx', _, _, rfl, hx', T.cl, T.n2, rf_above, _, _, .str _, .str _, hF.above.shaped (by decide), gF.above.shaped (by decide), _, rfl, ?_⟩
      cases h1 : PyData.eqv (.str r.above) (.str r'.above) with
      | false =>
        refine itF (by first | rfl | exact h1) ?_
        unfold rmB at q
        rw [h0, h1] at q
        exact q
      | true =>
        refine itT (by first | rfl | exact h1) ?_
        refine ⟨_, rfl, x, C, dx, _, _, rfl, hx, T.cl, T.n3, rf_boxes, _, rfl, y', C, dx', _, _, rfl, hx', T.cl, T.n3, rf_boxes, _, _, crates_dp hb, crates_dp gb, hF.boxes.shaped (by decide), gF.boxes.shaped (by decide), _, rfl, ?_⟩
        cases h2 : PyData.eqv r.bxD r'.bxD with
        | false =>
          refine itF (by first | rfl | exact h2) ?_
          unfold rmB at q
          rw [h0, h1, h2] at q
          exact q
        | true =>
          refine itT (by first | rfl | exact h2) ?_
          refine ⟨_, rfl, x, C, dx, _, _, rfl, hx, T.cl, T.n4, rf_sayings, _, rfl, y', C, dx', _, _, rfl, hx', T.cl, T.n4, rf_sayings, _, _, sayings_dp hs, sayings_dp gs, hF.sayings.shaped (by decide), gF.sayings.shaped (by decide), _, rfl, ?_⟩
          cases h3 : PyData.eqv r.syD r'.syD with
          | false =>
            refine itF (by first | rfl | exact h3) ?_
            unfold rmB at q
            rw [h0, h1, h2, h3] at q
            exact q
          | true =>
            refine itT (by first | rfl | exact h3) ?_
            refine ⟨_, rfl, x, C, dx, _, _, rfl, hx, T.cl, T.n5, rf_ask, _, rfl, y', C, dx', _, _, rfl, hx', T.cl, T.n5, rf_ask, _, _, ask_dp hk, ask_dp gk, hF.ask.shaped (by decide), gF.ask.shaped (by decide), _, rfl, ?_⟩
            cases h4 : PyData.eqv (askD r.ask) (askD r'.ask) with
            | false =>
              refine itF (by first | rfl | exact h4) ?_
              unfold rmB at q
              rw [h0, h1, h2, h3, h4] at q
              exact q
            | true =>
              refine itT (by first | rfl | exact h4) ?_
              refine ⟨_, rfl, x, C, dx, _, _, rfl, hx, T.cl, T.n6, rf_told, _, rfl, y', C, dx', _, _, rfl, hx', T.cl, T.n6, rf_told, _, _, told_dp ht, told_dp gt, hF.told.shaped (by decide), gF.told.shaped (by decide), _, rfl, ?_⟩
              cases h5 : PyData.eqv (toldD r.told) (toldD r'.told) with
              | false =>
                refine itF (by first | rfl | exact h5) ?_
                unfold rmB at q
                rw [h0, h1, h2, h3, h4, h5] at q
                exact q
              | true =>
                refine itT (by first | rfl | exact h5) ?_
                refine ⟨_, rfl, x, C, dx, _, _, rfl, hx, T.cl, T.n7, rf_promise, _, rfl, y', C, dx', _, _, rfl, hx', T.cl, T.n7, rf_promise, _, _, vow_dp hp, vow_dp gp, hF.promise.shaped (by decide), gF.promise.shaped (by decide), _, rfl, ?_⟩
                cases h6 : PyData.eqv (vowD r.promise) (vowD r'.promise) with
                | false =>
                  refine itF (by first | rfl | exact h6) ?_
                  unfold rmB at q
                  rw [h0, h1, h2, h3, h4, h5, h6] at q
                  exact q
                | true =>
                  refine itT (by first | rfl | exact h6) ?_
                  refine ⟨_, rfl, x, C, dx, _, _, rfl, hx, T.cl, T.n8, rf_body, _, rfl, y', C, dx', _, _, rfl, hx', T.cl, T.n8, rf_body, _, _, body_dp hy, body_dp gy, hF.body.shaped (by decide), gF.body.shaped (by decide), ?_⟩
                  unfold rmB at q
                  rw [h0, h1, h2, h3, h4, h5, h6] at q
                  exact q
  · cases hy with
    | non => exact ⟨_, rfl, _, _, _, _, false, rfl, .own C, .base .non, TI.not mro_none (by simp), _, rfl, itF rfl q⟩
    | str z => exact ⟨_, rfl, _, _, _, _, false, rfl, .own C, .base (.str z), TI.not mro_str (by simp), _, rfl, itF rfl q⟩
    | tup ha => exact ⟨_, rfl, _, _, _, _, false, rfl, .own C, .base (.tup ha), TI.not mro_tuple (by simp), _, rfl, itF rfl q⟩
theorem ok_rrp (T : RoomC K C) (F : Fun K "__repr__" "Room.__repr__" sRrp f fd) : FnOk P w K mg base CX0 1 f fd ["self"] (spRrp C) := by
  refine F.ok scRrp (fun vs H Q E h => ?_) (fun cdv A outer s H vs Q E hr h => ?_)
  · obtain ⟨x, r, rfl, _⟩ := h
    rfl
  obtain ⟨x, r, rfl, ⟨dx, n, a, b, sy, k, t, p, bd, hx, pa⟩, hF, q⟩ := h
  have hn := pa.name
  subst hn
  have h8 := hF.name.hi
  have c0 : (Str.empty : Str).length = 0 := rfl
  have c1 : ("Room(" : Str).length = 5 := by decide +kernel
  have c2 : (")" : Str).length = 1 := by decide +kernel
  have few : ∀ {m : Nat}, m ≤ 100 → m ≤ sizeLine := fun h => small (by omega)
  refine ⟨_, pss_one (ps_ret (pe_joined (.cons pe_str (.cons (pe_fmt (pe_fld (pv 0) rfl)) (.cons pe_str .nil))))), ?_⟩
  refine ⟨_, rfl, few (by rw [Str.length_append, c0, c1]; decide), _, rfl, x, C, dx, _, _, rfl, hx, T.cl, T.n1, rf_name, .inl ⟨_, rfl, few (by omega), ?_⟩⟩
  refine ⟨_, rfl, few (by rw [Str.length_append, Str.length_append, c0, c1]; omega), ?_⟩
  exact ⟨_, rfl, few (by rw [Str.length_append, Str.length_append, Str.length_append, c0, c1, c2]; omega), q⟩
theorem ok_rln (O : Own mg) (T : RoomC K C) (DA : Df P w K mg base 6 "all_steps" ["body"] (spAll 5)) (F : Fun K "__len__" "Room.__len__" sRln f fd) : FnOk P w K mg base CX0 7 f fd ["self"] (spRln C) := by
  refine F.ok scRln (fun vs H Q E h => ?_) (fun cdv A outer s H vs Q E hr h => ?_)
  · obtain ⟨x, r, rfl, _⟩ := h
    rfl
  obtain ⟨x, r, rfl, ⟨dx, n, a, b, sy, k, t, p, bd, hx, pa⟩, h5, h30, q⟩ := h
  obtain ⟨c, rfl, hb⟩ := pa.body
  refine ⟨_, pss_one (ps_ret (pe_callB call_len_seq rfl O.len PySem.boot_len (pa_cons (pe_D DA hr rfl (pa_cons (pe_fld (pv 0) rfl) pa_nil)) pa_nil))), ?_⟩
  refine ⟨_, rfl, x, C, dx, _, _, rfl, hx, T.cl, T.n8, rf_body, c, r.body, rfl, hb, h5, by omega, fun p us H' np s1 hp hl => ?_⟩
  refine ⟨p, us, rfl, .inl (SqL.of hp), ?_⟩
  rw [hl]
  exact q H' s1
theorem ok_peq (O : Own mg) (TP : HeldC K D) (TI : KindC K D) (mD : mg "Program" = some (.ref D)) (ED : EqD P w K mg base C 2 (spReq C)) (F : Fun K "__eq__" "Program.__eq__" sPeq f fd) : FnOk P w K mg base CX0 4 f fd ["self", "other"] (spPeq C D) := by
  refine F.ok scPeq (fun vs H Q E h => ?_) (fun cdv A outer s H vs Q E hr h => ?_)
  · obtain ⟨x, y, R, rfl, _⟩ := h
    rfl
  obtain ⟨x, y, R, rfl, ⟨dx, v, hx⟩, q⟩ := h
  have hr3 := hr
  refine ⟨_, pss_one (ps_ret (pe_and (pe_callB call_isi rfl O.isi (by decide +kernel) (pa_cons (pv 1) (pa_cons (pe_glob (v := .ref D) rfl mD rfl) pa_nil))) (pe_one (pe_cmpR (op_eqQ (rcQ_tup (eqQ_rm ED)) hr) (pe_fld (pv 0) rfl) (pe_fld (pv 1) rfl) (nomark _))))), ?_⟩
  rcases q with ⟨y', R', as, as', e, rfl, ⟨dx', v', hx'⟩, hR, hR', p, q⟩ | ⟨hy, q⟩
  · refine ⟨_, rfl, _, _, _, _, true, rfl, .own D, .base (.ins hx' TP.cl TI.ha TI.hn TI.htk TI.hm), TI.one, _, rfl, itT rfl ?_⟩
    refine ⟨_, rfl, x, D, dx, _, _, rfl, hx, TP.cl, TP.held, pf_held, _, rfl, y', D, dx', _, _, rfl, hx', TP.cl, TP.held, pf_held, _, ⟨R, R', _, _, e, rfl, rfl, SqT.of hR, SqT.of hR', p, rfl⟩, ?_⟩
    rw [List.length_map, List.length_map]
    exact q
  · cases hy with
    | non => exact ⟨_, rfl, _, _, _, _, false, rfl, .own D, .base .non, TI.not mro_none (by simp), _, rfl, itF rfl q⟩
    | str z => exact ⟨_, rfl, _, _, _, _, false, rfl, .own D, .base (.str z), TI.not mro_str (by simp), _, rfl, itF rfl q⟩
    | tup ha => exact ⟨_, rfl, _, _, _, _, false, rfl, .own D, .base (.tup ha), TI.not mro_tuple (by simp), _, rfl, itF rfl q⟩
theorem ok_pln (O : Own mg) (TP : HeldC K D) (F : Fun K "__len__" "Program.__len__" sPln f fd) : FnOk P w K mg base CX0 1 f fd ["self"] (spPln D) := by
  refine F.ok scPln (fun vs H Q E h => ?_) (fun cdv A outer s H vs Q E hr h => ?_)
  · obtain ⟨x, R, xs, rfl, _⟩ := h
    rfl
  obtain ⟨x, R, xs, rfl, ⟨dx, v, hx⟩, hR, q⟩ := h
  exact ⟨_, pss_one (ps_ret (pe_callB call_len_seq rfl O.len PySem.boot_len (pa_cons (pe_fld (pv 0) rfl) pa_nil))), _, rfl, x, D, dx, _, _, rfl, hx, TP.cl, TP.held, pf_held, R, xs, rfl, .inr (SqT.of hR), q⟩
theorem n8_len : ∀ n : Fin 9, ((toString ((n.val : Nat) : Int) : String) : Str).length ≤ 2 := by decide +kernel
theorem ok_prp (O : Own mg) (TP : HeldC K D) (F : Fun K "__repr__" "Program.__repr__" sPrp f fd) : FnOk P w K mg base CX0 1 f fd ["self"] (spPrp D) := by
  refine F.ok scPrp (fun vs H Q E h => ?_) (fun cdv A outer s H vs Q E hr h => ?_)
  · obtain ⟨x, R, xs, rfl, _⟩ := h
    rfl
  obtain ⟨x, R, xs, rfl, ⟨dx, v, hx⟩, hR, h8, q⟩ := h
  have c0 : (Str.empty : Str).length = 0 := rfl
  have c1 : ("Program(" : Str).length = 8 := by decide +kernel
  have c2 : (")" : Str).length = 1 := by decide +kernel
  have c3 : ((toString (xs.length : Int) : String) : Str).length ≤ 2 := n8_len ⟨xs.length, by omega⟩
  have few : ∀ {m : Nat}, m ≤ 100 → m ≤ sizeLine := fun h => small (by omega)
  refine ⟨_, pss_one (ps_ret (pe_joined (.cons pe_str (.cons (pe_fmt (pe_callB call_len_seq rfl O.len PySem.boot_len (pa_cons (pe_fld (pv 0) rfl) pa_nil))) (.cons pe_str .nil))))), ?_⟩
  refine ⟨_, rfl, few (by rw [Str.length_append, c0, c1]; decide), _, rfl, x, D, dx, _, _, rfl, hx, TP.cl, TP.held, pf_held, R, xs, rfl, .inr (SqT.of hR), .inr ⟨_, rfl, ?_, ?_⟩⟩
  · by_cases z : ((xs.length : Nat) : Int).natAbs = 0
    · rw [z]; decide
    · have := (Nat.log2_lt z).mpr (show ((xs.length : Nat) : Int).natAbs < 2 ^ 10 by omega)
      omega
  refine ⟨_, rfl, few (by rw [Str.length_append, Str.length_append, c0, c1]; omega), ?_⟩
  exact ⟨_, rfl, few (by rw [Str.length_append, Str.length_append, Str.length_append, c0, c1, c2]; omega), q⟩
theorem ok_rms (TP : HeldC K D) (F : Fun K "rooms" "Program.rooms" sPrs f fd) : FnOk P w K mg base CX0 1 f fd ["self"] (spRms D) := by
  refine F.ok scPrs (fun vs H Q E h => ?_) (fun cdv A outer s H vs Q E hr h => ?_)
  · obtain ⟨x, R, rfl, _⟩ := h
    rfl
  obtain ⟨x, R, rfl, ⟨dx, v, hx⟩, q⟩ := h
  exact ⟨_, pss_one (ps_ret (pe_fld (pv 0) rfl)), _, rfl, x, D, dx, _, _, rfl, hx, TP.cl, TP.held, pf_held, q⟩
end
end Any
set_option pp.maxSteps 600
namespace PySem.SeqAt
open PySem
theorem dict_eq_declines_str (l : Addr) (es : Array DictEntry) (n : Nat) (dd : Option Addr) (sl : Array (Option Value)) (b : Str) (u : Tok) :
    Meets (Builtin.«dict.__eq__» ⟨[.ref l, .str b u], []⟩) (fun _ R s => s.heap.get? l = some { cls := .type "dict", dict := dd, data := .dict es n, slots := sl } ∧ R (.ok (.ret .notImplemented)) s) :=
  .of_wp fun prog w A R s h => by obtain ⟨hp, g, d, tk, os⟩ := s; obtain ⟨hl, h⟩ := h; have f1 := F.sub_str_dict; wp_walk using wpAny_loadPart' hl; exact ⟨_, rfl, h⟩
theorem str_eq_declines_dict (b : Str) (u : Tok) (l : Addr) (es : Array DictEntry) (n : Nat) (dd : Option Addr) (sl : Array (Option Value)) :
    Meets (Builtin.«str.__eq__» ⟨[.str b u, .ref l], []⟩) (fun _ R s => s.heap.get? l = some { cls := .type "dict", dict := dd, data := .dict es n, slots := sl } ∧ R (.ok (.ret .notImplemented)) s) :=
  .of_wp fun prog w A R s h => by obtain ⟨hp, g, d, tk, os⟩ := s; obtain ⟨hl, h⟩ := h; wp_walk using wpAny_loadPart' hl, wpAny_load hl; exact ⟨_, rfl, h⟩
theorem RcAt.str_dict {A : Around} {s : Shared} {l : Addr} {o : Obj} {es : Array DictEntry} {n : Nat} (b : Str) (u : Tok) (ho : s.heap.get? l = some o) (hc : o.cls = .type "dict") (hd : o.data = .dict es n) (hu : A.units < cLine) : RcAt A s (.str b u) (.ref l) false := fun prog w E Q h => by
  obtain ⟨cls, dd, data, sl⟩ := o
  simp only at hc hd
  subst hc hd
  exact rc_eq_decline_or (k := false) (typeIs_str s b u) ⟨_, ho, rfl⟩ (by decide) F.sub_dict_str F.slot_str_eq F.slot_dict_eq_refl
    (fun _ hq => call_meets F.slot_str_eq (typeIs_str s b u) F.entry_str_eq (F.args_str_eq_2 _ _) (str_eq_declines_dict b u l es n dd sl) ⟨ho, hq⟩)
    (fun _ hq => call_meets F.slot_dict_eq_refl ⟨_, ho, rfl⟩ F.entry_dict_eq (F.args_dict_eq_2 _ _) (dict_eq_declines_str l es n dd sl b u) ⟨ho, hq⟩)
    (fun _ hq => wpAny_of_eq (rfl : isSame (.str b u) (.ref l) = pure false) hq) (.inr hu) h
end PySem.SeqAt
namespace Any
open L2 PySem PySem.Spec PyProof.Rows LamX NdefX
/-- a text that is not this thing -/
def NeV (K : PySem.W.Frag) (H : Hp) (x : Str) (v : V) : Prop := (∃ d, Dp K H v d ∧ SeqAt.shaped (.str x) = true ∧ SeqAt.shaped d = true ∧ PyData.eqv (.str x) d = false) ∨ ∃ p kvs, v = .ref p ∧ H p = some (.dK kvs)
def rNeX (K : PySem.W.Frag) : R2 := fun x y H Q => ∃ z, x = .str z ∧ NeV K H z y ∧ Q (.bl false) H
theorem op_eqX {X : Cx} (hu : X.A.units + 64 < cLine) : OpR X (compareOp .Eq) (rNeX X.K) := by
  intro pins s σ H x y v u Q I rx ry h
  obtain ⟨z, rfl, h, q⟩ := h
  rcases h with ⟨d, h1, h2, h3, h4⟩ | ⟨p, kvs, rfl, hp⟩
  · refine op_eqD hu pins s σ H (.str z) y v u Q I rx ry ⟨.str z, d, .str z, h1, h2, h3, ?_⟩
    rw [h4]
    exact q
  · obtain ⟨t, rfl⟩ := rx
    cases (show u = Value.ref p from ry)
    obtain ⟨_, _, vs, rel, o, es, ep, e1, e2, e3, _⟩ := I.hok p _ hp
    exact SeqAt.RcAt.str_dict z t e1 e2.1 e3 (by omega) _ _ _ _ ⟨.bl false, H, I, rfl, q⟩
end Any
set_option pp.maxSteps 600
namespace Any
open L2 PySem PySem.Spec PyProof.Rows LamX NdefX
/-! ### {x!r} of a thing of an own class; NoRoom, room_of, beneath -/
section
variable {prog : Program} {w : World} {A : Around} {E : Value → Shared → Prop} {s : Shared} {K : PySem.W.Frag} {x C f L : Addr} {ox : Obj} {od : Option Obj} {h₀ : Heap} {m : Str → Option Value}
theorem reprObj_K {Q : Value → Shared → Prop} (hu : A.units < cLine) (X : K.In s.heap) (I : PySem.W.InstAt s.heap x ox C od) (hs : PySem.W.findIn K (.ref C) "__repr__" = some (some (.ref f))) (hf : PySem.W.isFn K (.ref f) = true)
    (h : wpAny (model prog w) A (call (.ref f) [.ref x]) (fun v s' => ∃ z t, v = .str z t ∧ Q (.str z t) s') E s) : wpAny (model prog w) A (pyReprObj (.ref x)) Q E s := by
  unfold pyReprObj
  refine wpAny_bind (wpAny_cRoomFor hu ?_)
  refine wpAny_bind (wpAny_bind (I.type.here ((PySem.W.looks_findIn X hs).here ?_)))
  show wpAny _ _ (if (some (Value.ref f)).isNone = true then _ else _) _ _ _
  rw [if_neg (by simp)]
  refine wpAny_bind (m := callSpecialIfBound? (.ref x) (Str.ofString "__repr__") _) (PySem.W.ifBound_K X I hs hf (wpAny_mono h (fun r s' hr => ?_) fun _ _ y => y))
  obtain ⟨z, t, rfl, hq⟩ := hr
  refine wpAny_bind (wpAny_isInstance (typeIs_str _ _ _) isSubtype_str_str ?_)
  first
    | exact wpAny_pure hq
    | (rw [if_pos rfl]; exact wpAny_pure hq)
    | (simp only [if_true]; exact wpAny_pure hq)
end
section
variable {X : Cx} {e : Expr} {te : TE} {pos : Pos} {C : Addr} {k : Nat} {sp : Sp}
/-- a thing whose text is known: as data, or by its own __repr__ -/
def ShO (K : PySem.W.Frag) (C : Addr) (sp : Sp) (n : Nat) (H : Hp) (x : V) : Prop := (∃ z : Str, Shown K H x z ∧ z.length ≤ n) ∨ ∃ a dx fs z, x = .ref a ∧ H a = some (.ins C dx fs) ∧ z.length ≤ n ∧ ∀ Q : VK, Q (.str z) H → sp [.ref a] H Q E0
def tFmtO (K : PySem.W.Frag) (C : Addr) (sp : Sp) (n : Nat) (te : TE) : TE := fun σ H Q => te σ H fun x H1 => ShO K C sp n H1 x ∧ ∀ z : Str, z.length ≤ n → Q (.str z) H1
theorem pe_fmtO {n : Nat} (hn : n ≤ sizeLine) (hG : X.A.guards = some []) (hu : X.A.units + 70 < cLine) (D : ReD X.prog X.w X.K X.mg X.base C k sp) (hr : Room k X.A) (he : PE X e te) : PE X (.FormattedValue e 114 none pos) (tFmtO X.K C sp n te) := by
  refine ⟨fun pins s σ H Q I h => ?_⟩
  refine wpAny_FormattedValue_repr (thn (he.run pins s σ H _ I h) fun v s1 hv => ?_)
  obtain ⟨x, H1, I1, r1, hs, q⟩ := hv
  rcases hs with ⟨z, hs, hz⟩ | ⟨a, dx, fs, z, rfl, ha, hz, hsp⟩
  · have hz' : z.length ≤ sizeLine := Nat.le_trans hz hn
    cases hs with
    | str y =>
      obtain ⟨t, rfl⟩ := r1
      exact pyReprObj_str (wpAny_formatField_str ⟨.str _, H1, I1.tok _, ⟨_, rfl⟩, q _ hz⟩ ⟨.str _, H1, I1.tok _, ⟨_, rfl⟩, q _ hz⟩ hz') hz'
    | int i hi =>
      obtain ⟨t, rfl⟩ := r1
      exact pyReprObj_int hi (wpAny_formatField_str ⟨.str _, H1, I1.tok _, ⟨_, rfl⟩, q _ hz⟩ ⟨.str _, H1, I1.tok _, ⟨_, rfl⟩, q _ hz⟩ hz')
    | bl b =>
      cases r1
      refine pyReprObj_bool (wpAny_formatField_str ⟨.str _, H1, I1.tok _, ⟨_, rfl⟩, q _ hz⟩ ⟨.str _, H1, I1.tok _, ⟨_, rfl⟩, q _ hz⟩ hz')
    | non =>
      cases r1
      exact pyReprObj_none (wpAny_formatField_str ⟨.str _, H1, I1.tok _, ⟨_, rfl⟩, q _ hz⟩ ⟨.str _, H1, I1.tok _, ⟨_, rfl⟩, q _ hz⟩ hz')
    | dat hd h1 h2 =>
      cases r1
      obtain ⟨as, rd, sm⟩ := shows_reads I1 hd
      refine pyReprObj_of_reads rd h1 sm hG (by omega) (fun _ _ e => e) (fun h' u tk hk => ?_) hz'
      have J := I1.kept (t' := tk) hk
      exact wpAny_formatField_str ⟨.str _, H1, J, ⟨_, rfl⟩, q _ hz⟩ ⟨.str _, H1, J.tok _, ⟨_, rfl⟩, q _ hz⟩ hz'
  · obtain ⟨f, hs, hf, F⟩ := D.ex
    cases r1
    obtain ⟨mA, J, _⟩ := ins_get I1.hok ha
    obtain ⟨od, J, _⟩ := J.look
    refine reprObj_K hr.units0 I1.kIn J hs hf (wpAny_mono (run_R (us := [.ref a]) (vs := [.ref a]) (.inl rfl) F hr I1 (.cons rfl .nil) (hsp (fun v H' => v = .str z ∧ H' = H1) ⟨rfl, rfl⟩)) (fun v s' z' => ?_) fun _ _ e => e)
    obtain ⟨z2, H', I', rz, rfl, rfl⟩ := z'
    obtain ⟨t, rfl⟩ := rz
    exact ⟨z, t, rfl, wpAny_formatField_str ⟨.str _, _, I'.tok _, ⟨_, rfl⟩, q _ hz⟩ ⟨.str _, _, I'.tok _, ⟨_, rfl⟩, q _ hz⟩ (Nat.le_trans hz hn)⟩
end
abbrev sNR : Stmt := inClass (top 3) 0
theorem scNR : FnScope ["self", "name"] ["self", "name"] (defScope sNR) := ⟨rfl, rfl, rfl, by decide +kernel, rfl, by decide +kernel, by decide +kernel⟩
structure NoRoomC (K : PySem.W.Frag) (mg : Str → Option Value) (CN : Addr) : Prop where
  ox : OxC K CN "LookupError" "LookupError.__new__" "LookupError.__init__" tLookup
  no : PySem.W.findIn K (.ref CN) "name" = some none
  xf : XfC K CN
  ex : ExcC K CN
  le : PySem.W.kitOne K (.ref CN) (.type "LookupError") = some true
  me : PySem.W.exmOne K (.ref CN) (.ref CN) = some true
  mL : mg "LookupError" = none
  vL : PySem.W.findCls K (.type "LookupError") (.type "type") "__init__" = some (.val (.builtin "LookupError.__init__"))
  mN : mg "NoRoom" = some (.ref CN)
section
variable {P : Program} {w : World} {K : PySem.W.Frag} {mg : Str → Option Value} {base : Heap} {f C D CN : Addr} {fd : FuncData}
theorem ok_noroom (Z : NoRoomC K mg CN) (RD : ReD P w K mg base C 1 (spRrp C)) (F : Fun K "__init__" "NoRoom.__init__" sNR f fd) : FnG P w K mg base CX0 2 f fd ["self", "name"] (spX1 CN "name" (ShO K C (spRrp C) 2000)) := by
  refine fun_g F scNR (fun vs H Q E h => ?_) (fun cdv A outer s H vs Q E hG hr h => ?_)
  · obtain ⟨a, y, rfl, _⟩ := h
    rfl
  obtain ⟨a, y, rfl, hsh, ha, q⟩ := h
  have hG' : (A.deeper (envOfC "NoRoom.__init__" (defScope sNR) s.heap.objs.size f cdv)).guards = some [] := hG
  have hu : (A.deeper (envOfC "NoRoom.__init__" (defScope sNR) s.heap.objs.size f cdv)).units + 70 < cLine := by have := hr.un; omega
  have hs : sizeLine = 16777216 := sizeLine_eq
  have h2000 : 2000 ≤ sizeLine := by omega
  refine ⟨_, PSs.nox (pss_cons (ps_expr (pe_xinit (Bs := "LookupError") (nw := "LookupError.__new__") (T := tLookup) rfl Z.mL Z.vL (pa_cons (pv 0) (pa_cons (pe_joined (.cons pe_str (.cons (pe_fmtO h2000 hG' hu RD hr (pv 1)) .nil))) pa_nil)))) (pss_one (ps_xset (B := "LookupError") (nw := "LookupError.__new__") (ini := "LookupError.__init__") (T := tLookup) (pv 0) (pv 1)))), ?_⟩
  have c0 : (Str.empty : Str).length = 0 := rfl
  have c1 : ("no room of the program is called " : Str).length = 33 := by decide +kernel
  refine ⟨_, rfl, ?_⟩
  refine ⟨_, rfl, by rw [Str.length_append, c0, c1]; omega, _, rfl, hsh, fun z hl => ?_⟩
  refine ⟨_, rfl, by rw [Str.length_append, Str.length_append, c0, c1]; omega, ?_⟩
  refine ⟨a, CN, _, rfl, by show 1 ≤ 1000; decide, Z.ox, ha, ?_⟩
  exact ⟨_, rfl, _, rfl, a, CN, rfl, Z.ox, Z.no, .inl ⟨ha, fun dx h1 h2 => q dx h1 h2⟩⟩
end
abbrev sRO : Stmt := inClass (top 52) 2
theorem scRO : FnScope ["self", "name", "room"] ["self", "name"] (defScope sRO) := ⟨rfl, rfl, rfl, by decide +kernel, rfl, by decide +kernel, by decide +kernel⟩
def spRO (C D : Addr) : Sp := fun vs H Q _ => ∃ (x R : Addr) (n : Str) (rs : List Rm) (i : Nat) (r : Rm), vs = [.ref x, .str n] ∧ HeldAt D H x R ∧ RsAt C H R rs ∧ rs[i]? = some r ∧ r.name = n ∧ (∀ j r', j < i → rs[j]? = some r' → r'.name ≠ n) ∧
  ∀ a, RmAt C H a r → Q (.ref a) H
/-- a text that is not this thing, one of an own class too -/
def NeVO (K : PySem.W.Frag) (C : Addr) (H : Hp) (x : Str) (v : V) : Prop := NeV K H x v ∨ ∃ (a : Addr) (r : Rm), v = .ref a ∧ RmAt C H a r ∧ r.fd
def rNeXO (K : PySem.W.Frag) (C : Addr) : R2 := fun x y H Q => ∃ z, x = .str z ∧ NeVO K C H z y ∧ Q (.bl false) H
theorem op_eqXO {X : Cx} {C : Addr} {k : Nat} (hu : X.A.units + 64 < cLine) (ED : EqD X.prog X.w X.K X.mg X.base C k (spReq C)) (NT : NoTy X.K C) (hr : Room k X.A) : OpR X (compareOp .Eq) (rNeXO X.K C) := by
  intro pins s σ H x y v u Q I rx ry h
  obtain ⟨z, rfl, h | ⟨a, r, rfl, ha, hf⟩, q⟩ := h
  · exact op_eqX hu pins s σ H (.str z) y v u Q I rx ry ⟨z, rfl, h, q⟩
  · obtain ⟨dx, n', a', b', s', k', t', p', y', h1, h2⟩ := id ha
    exact op_eqQ (rcQ_ref ED NT) hr pins s σ H _ _ v u Q I rx ry ⟨false, ⟨a, dx, _, rfl, h1, .str z, fun Q q => ⟨a, _, r, rfl, ha, hf, .inr ⟨.str z, q⟩⟩⟩, q⟩
/-- .. of a thing that is no room's name -/
def spROX (K : PySem.W.Frag) (C D CN : Addr) : Sp := fun vs H _ E => ∃ (x R : Addr) (v : V) (rs : List Rm), vs = [.ref x, v] ∧ HeldAt D H x R ∧ RsAt C H R rs ∧ (∀ r ∈ rs, NeVO K C H r.name v) ∧
  (∀ H', Same H H' → ShO K C (spRrp C) 2000 H' v) ∧ ∀ b H', Same H H' → H' b = some (.xd [("name", v)]) → E (.ref CN) (some b) H'
section
variable {P : Program} {w : World} {K : PySem.W.Frag} {mg : Str → Option Value} {base : Heap} {f C D CN nf : Addr} {fd nd : FuncData}
theorem ok_ro (T : RoomC K C) (TP : HeldC K D) (F : Fun K "room_of" "Program.room_of" sRO f fd) : FnOk P w K mg base CX0 1 f fd ["self", "name"] (spRO C D) := by
  refine F.ok scRO (fun vs H Q E h => ?_) (fun cdv A outer s H vs Q E hr h => ?_)
  · obtain ⟨x, R, n, rs, i, r, rfl, _⟩ := h
    rfl
  obtain ⟨x, R, n, rs, i, r, rfl, ⟨dx, v, hx⟩, ⟨as, hR, hp⟩, hi, hn, hno, q⟩ := h
  have hl := paired_len hp
  have hlt : i < rs.length := (List.getElem?_eq_some_iff.mp hi).1
  refine ⟨_, pss_cons (ps_for PassesOwn.never rfl (pi_tup (pe_fld (pv 0) rfl)) (pg_name (i := 2) scRO.nd rfl (Or.inl rfl)) (pss_one (ps_if (pt_cmpR op_eq (pe_fld (pv 2) rfl) (pv 1) (nomark _)) (pss_one (ps_ret (pv 2))) pss_nil))) (pss_one ps_never), ?_⟩
  refine ⟨_, rfl, x, D, dx, _, _, rfl, hx, TP.cl, TP.held, pf_held, R, rfl, ⟨_, SqT.of hR⟩, ?_⟩
  refine for_tup (K := K) (a := R) (xs := as.map V.ref) (fun j σ Hc => ∃ y, σ = [some (.ref x), some (.str n), y] ∧ Hc = H ∧ j ≤ i) ⟨_, rfl, rfl, Nat.zero_le _⟩ ?_ ?_ ?_
  · rintro j σ Hc _ ⟨y, rfl, rfl, _⟩
    exact SqT.of hR
  · rintro j z σ Hc hz ⟨y, rfl, rfl, hj⟩
    obtain ⟨e, he, rfl⟩ := refs_at hz
    obtain ⟨r', hr', hat⟩ := paired_get hp he
    obtain ⟨dx', n', a', b', s'', k', t', p', y', h1', h2'⟩ := id hat
    have hn' := h2'.name
    subst hn'
    refine ⟨_, rfl, e, C, dx', _, _, rfl, h1', T.cl, T.n1, rf_name, _, rfl, rfl, _, rfl, itD (fun c => ?_) (fun c => ?_)⟩
    · have c := V.str.inj c
      by_cases hji : j = i
      · subst hji
        rw [hi] at hr'
        cases hr'
        exact ⟨_, rfl, q e hat⟩
      · exact absurd c (hno j r' (by omega) hr')
    · refine ⟨_, rfl, rfl, ?_⟩
      by_cases hji : j = i
      · subst hji
        rw [hi] at hr'
        cases hr'
        exact absurd (by rw [hn]) c
      · omega
  · rintro σ Hc ⟨y, rfl, rfl, hj⟩
    rw [List.length_map] at hj
    omega
theorem ok_rox (T : RoomC K C) (TP : HeldC K D) (ED : EqD P w K mg base C 2 (spReq C)) (NT : NoTy K C) (Z : NoRoomC K mg CN) (iN : PySem.W.findIn K (.ref CN) "__init__" = some (some (.ref nf))) (tN : PySem.W.typeIn K (.ref nf) = some (.type "function")) (GN : FnG P w K mg base CX0 2 nf nd ["self", "name"] (spX1 CN "name" (ShO K C (spRrp C) 2000))) (bN : Binds K nd ["self", "name"] [])
    (F : Fun K "room_of" "Program.room_of" sRO f fd) : FnG P w K mg base (L2.CX P w) 4 f fd ["self", "name"] (spROX K C D CN) := by
  refine fun_gX F scRO (fun vs H Q E h => ?_) (fun cdv A outer s H vs Q E hG hr h => ?_)
  · obtain ⟨x, R, v, rs, rfl, _⟩ := h
    rfl
  obtain ⟨x, R, v, rs, rfl, ⟨dx, v2, hx⟩, ⟨as, hR, hp⟩, hne, hsm, q⟩ := h
  have hG' : (A.deeper (envOfC "Program.room_of" (defScope sRO) s.heap.objs.size f cdv)).guards = some [] := hG
  let X := cxOf (L2.CX P w) P w K mg base ["self", "name", "room"] "Program.room_of" (defScope sRO) f cdv A outer s H E
  have tk : Takes X (fun cls d _ H => E cls d H) := takes_of rfl rfl rfl rfl
  have hr2 : Room 3 X.A := hr
  refine ⟨_, pss_cons (ps_for (passes_of rfl) rfl (pi_tup (pe_fld (pv 0) rfl)) (pg_name (i := 2) scRO.nd rfl (Or.inl rfl)) (pss_one (ps_if (pt_cmpR (op_eqXO hr.units ED NT (hr2.mono (by decide))) (pe_fld (pv 2) rfl) (pv 1) (nomark _)) (pss_one (ps_ret (pv 2))) pss_nil)))
    (pss_one (ps_raise rfl tk (pmk_xex Z.ox iN tN hG' GN (hr2.mono (by decide)) bN pass0 rfl Z.mN (pa_cons (pv 1) pa_nil)))), ?_⟩
  refine ⟨_, rfl, x, D, dx, _, _, rfl, hx, TP.cl, TP.held, pf_held, R, rfl, ⟨_, SqT.of hR⟩, ?_⟩
  refine for_tup (K := K) (a := R) (xs := as.map V.ref) (fun j σ Hc => ∃ y, σ = [some (.ref x), some v, y] ∧ Hc = H) ⟨_, rfl, rfl⟩ ?_ ?_ ?_
  · rintro j σ Hc _ ⟨y, rfl, rfl⟩
    exact SqT.of hR
  · rintro j z σ Hc hz ⟨y, rfl, rfl⟩
    obtain ⟨e, he, rfl⟩ := refs_at hz
    obtain ⟨r', hr', hat⟩ := paired_get hp he
    obtain ⟨dx', n', a', b', s'', k', t', p', y', h1', h2'⟩ := id hat
    have hn' := h2'.name
    subst hn'
    refine ⟨_, rfl, e, C, dx', _, _, rfl, h1', T.cl, T.n1, rf_name, _, rfl, _, rfl, hne r' (List.mem_of_getElem? hr'), _, rfl, itF rfl ⟨_, rfl, rfl⟩⟩
  · rintro σ Hc ⟨y, rfl, rfl⟩
    exact ⟨_, rfl, x1_made hsm q⟩
end
abbrev sBen : Stmt := inClass (top 52) 3
theorem scBen : FnScope ["self", "name", "above", "room"] ["self", "name"] (defScope sBen) := ⟨rfl, rfl, rfl, by decide +kernel, rfl, by decide +kernel, by decide +kernel⟩
def PgOk (C D : Addr) (H : Hp) (x : Addr) (rs : List Rm) : Prop := ∃ R, HeldAt D H x R ∧ RsAt C H R rs
theorem RsAt.keepS {C : Addr} {H H' : Hp} (s : Same H H') {R : Addr} {rs : List Rm} (h : RsAt C H R rs) : RsAt C H' R rs := by
  obtain ⟨as, h1, h2⟩ := h
  exact ⟨as, s _ _ h1, paired_imp (fun _ _ q => q.keep s) h2⟩
theorem PgOk.keep {C D : Addr} {H H' : Hp} {x : Addr} {rs : List Rm} (h : PgOk C D H x rs) (s : Same H H') : PgOk C D H' x rs := by
  obtain ⟨R, h1, h2⟩ := h
  exact ⟨R, h1.keep s, h2.keepS s⟩
def spBen (C D : Addr) : Sp := fun vs H Q _ => ∃ (x : Addr) (rs : List Rm) (i : Nat) (r : Rm), vs = [.ref x, .str r.name] ∧ PgOk C D H x rs ∧ Right rs ∧ rs[i]? = some r ∧
  ∀ p H', H p = none → Same H H' → H' p = some (.lst ((ben rs r.name).map V.str)) → Q (.ref p) H'
theorem right_uno {rs : List Rm} (h : Right rs) {i : Nat} {r : Rm} (hi : rs[i]? = some r) : ∀ (j : Nat) (r' : Rm), j < i → rs[j]? = some r' → r'.name ≠ r.name := fun j r' hj h' e => by
  refine (h.all i r hi).one ?_
  rw [← e]
  exact List.mem_map_of_mem (List.mem_of_getElem? (by rw [List.getElem?_take, if_pos hj]; exact h'))
section
variable {P : Program} {w : World} {K : PySem.W.Frag} {mg : Str → Option Value} {base : Heap} {f C D CN : Addr} {fd : FuncData}
theorem ok_ben (T : RoomC K C) (TP : HeldC K D) (MO : Mf P w K mg base D 1 "room_of" ["self", "name"] (spRO C D)) (F : Fun K "beneath" "Program.beneath" sBen f fd) : FnOk P w K mg base CX0 2 f fd ["self", "name"] (spBen C D) := by
  refine F.ok scBen (fun vs H Q E h => ?_) (fun cdv A outer s H vs Q E hr h => ?_)
  · obtain ⟨x, rs, i, r, rfl, _⟩ := h
    rfl
  obtain ⟨x, rs, i, r, rfl, ⟨R, ⟨dx, v, hx⟩, as, hR, hp⟩, ok, hi, q⟩ := h
  have hs : sizeLine = 16777216 := sizeLine_eq
  have hl := paired_len hp
  have z8 := ok.hi
  refine ⟨_, pss_cons (ps_set (i := 2) scBen.nd rfl (Or.inr rfl) (pe_M MO TP.cl (pv 0) hr (pa_cons (pv 1) pa_nil)))
    (pss_one (ps_ret (pe_lc (own := [("room", 3)]) (g := gName 3) (tt := tTest (tOp rEq (tFld K (tVar 3) "above") (tFld K (tVar 2) "name"))) (te := tFld K (tVar 3) "name") rfl scBen.nd (pi_tup (pe_fld (pv 0) rfl)) (blkOk_by (N := ["self", "name", "above", "room"]) (sc := defScope sBen) (by decide +kernel))
          (fun _ _ _ _ _ => pg_name (i := 3) scBen.nd rfl (Or.inl rfl)) (fun _ _ _ _ _ => pts_one (pt_cmpR op_eq (pe_fld (pv 3) rfl) (pe_fld (pv 2) rfl) (nomark _))) (fun _ _ _ _ _ => pe_fld (pv 3) rfl)))), ?_⟩
  refine ⟨_, rfl, x, dx, _, rfl, hx, pf_none (by decide +kernel) (by decide +kernel), _, rfl, x, R, r.name, rs, i, r, rfl, ⟨dx, v, hx⟩, ⟨as, hR, hp⟩, hi, rfl, right_uno ok hi, fun e hat => ?_⟩
  obtain ⟨dy, n, a, b, s', k, t, p, y, h1, h2⟩ := hat
  have hn := h2.name
  subst hn
  refine ⟨_, rfl, x, D, dx, _, _, rfl, hx, TP.cl, TP.held, pf_held, R, rfl, ⟨_, SqT.of hR⟩, fun L hL => ?_⟩
  refine turns_tup (K := K) (a := R) (xs := as.map V.ref) (rs.map fun o => if o.above = r.name then some (V.str o.name) else none) hL (fun Hc sm => SqT.of (sm _ _ hR)) (by rw [List.length_map, List.length_map]; exact hl.symm) (by rw [List.length_map]; omega) ?_ ?_
  · intro j z o Hc Y N hz2 ho sm hY hN
    obtain ⟨e', he', rfl⟩ := refs_at hz2
    obtain ⟨r', hr', dx', n', a', b', s'', k', t', p', y', h1', h2'⟩ := paired_get hp he'
    rw [List.getElem?_map, hr'] at ho
    have ho : o = if r'.above = r.name then some (V.str r'.name) else none := (Option.some.inj ho).symm
    have hn' := h2'.name
    have ha' := h2'.above
    subst hn' ha'
    refine ⟨rfl, _, rfl, e', C, dx', _, _, rfl, sm _ _ h1', T.cl, T.n2, rf_above, _, rfl, e, C, dy, _, _, rfl, sm _ _ h1, T.cl, T.n1, rf_name, rfl, _, rfl, ite2 (fun c1 => ?_) (fun c1 => ?_)⟩
    · have e9 : r'.above = r.name := V.str.inj (of_decide_eq_true c1)
      rw [if_pos e9] at ho
      exact ⟨_, rfl, e', C, dx', _, _, rfl, sm _ _ h1', T.cl, T.n1, rf_name, hY _ ho Hc same_refl⟩
    · have e9 : ¬ r'.above = r.name := fun z => c1 (decide_eq_true (by rw [z]))
      rw [if_neg e9] at ho
      exact hN ho Hc same_refl
  · intro Hc hc2 sm
    rw [fm_ben] at hc2
    exact q L Hc hL sm hc2
theorem ok_benx {df : Addr} {dd : FuncData} (TP : HeldC K D) (hm : Meth K D "room_of" df) (G : FnG P w K mg base (L2.CX P w) 4 df dd ["self", "name"] (spROX K C D CN)) (bG : Binds K dd ["self", "name"] [])
    (F : Fun K "beneath" "Program.beneath" sBen f fd) : FnG P w K mg base (L2.CX P w) 5 f fd ["self", "name"] (spROX K C D CN) := by
  refine fun_gX F scBen (fun vs H Q E h => ?_) (fun cdv A outer s H vs Q E hG hr h => ?_)
  · obtain ⟨x, R, v, rs, rfl, _⟩ := h
    rfl
  obtain ⟨x, R, v, rs, rfl, hx, r⟩ := h
  obtain ⟨dx, v2, hx'⟩ := id hx
  let X := cxOf (L2.CX P w) P w K mg base ["self", "name", "above", "room"] "Program.beneath" (defScope sBen) f cdv A outer s H E
  have tk : Takes X (fun cls d _ H => E cls d H) := takes_of rfl rfl rfl rfl
  have hG' : X.A.guards = some [] := hG
  have hr' : Room 4 X.A := hr
  refine ⟨_, pss_cons (ps_set (i := 2) scBen.nd rfl (Or.inr rfl) (pe_methG (X := X) (E := E) (pv 0) TP.cl hm G hG' hr' bG (passes_call tk fun cls d σ H h => h) (pa_cons (pv 1) pa_nil)))
    (pss_one (ps_ret (pe_lc (own := [("room", 3)]) (g := gName 3) (tt := tTest (tOp rEq (tFld K (tVar 3) "above") (tFld K (tVar 2) "name"))) (te := tFld K (tVar 3) "name") rfl scBen.nd (pi_tup (pe_fld (pv 0) rfl)) (blkOk_by (N := ["self", "name", "above", "room"]) (sc := defScope sBen) (by decide +kernel))
          (fun _ _ _ _ _ => pg_name (i := 3) scBen.nd rfl (Or.inl rfl)) (fun _ _ _ _ _ => pts_one (pt_cmpR op_eq (pe_fld (pv 3) rfl) (pe_fld (pv 2) rfl) (nomark _))) (fun _ _ _ _ _ => pe_fld (pv 3) rfl)))), ?_⟩
  exact ⟨_, rfl, x, dx, _, rfl, hx', pf_none (by decide +kernel) (by decide +kernel), _, rfl, x, R, v, rs, rfl, hx, r⟩
end
end Any
set_option pp.maxSteps 600
set_option maxHeartbeats 1000000
namespace Any
open L2 PySem PySem.Spec PyProof.Rows LamX
/-! ### several clauses, each with a name of its own -/
/-- the ends of a suite behind which the name in slot i goes -/
abbrev endsAn (i : Nat) (D : Ends) : Ends := { nx := fun σ H => D.nx (σ.set i none) H, rt := D.rt, bk := fun σ H => D.bk (σ.set i none) H, ct := fun σ H => D.ct (σ.set i none) H }
abbrev ClausesN := List (Nat × Value × (Addr → Value → Option Addr → TS))
def wManyAn (K : PySem.W.Frag) (Wout : WX) (D : Ends) : ClausesN → WX
  | [] => Wout
  | (i, c, ts) :: r => fun cls d σ H => ∃ b, PySem.W.exmOne K cls c = some b ∧ (b = true → ∀ a, H a = none → ts a cls d (endsAn i D) (σ.set i (some (.ref a))) H) ∧ (b = false → wManyAn K Wout D r cls d σ H)
inductive HdsAn (X : Cx) : List ExceptHandler → ClausesN → Prop
  | nil : HdsAn X [] []
  | cons {n : Str} {i : Nat} {x : Str} {c : Value} {ts : Addr → Value → Option Addr → TS} {b₀ : Stmt} {suite : List Stmt} {np pos' : Pos} {hds : List ExceptHandler} {l : ClausesN} (hi : X.N[i]? = some n) (hln : X.env.kindOf n = some .local) (hc : Names X x c)
      (su : ∀ (a : Addr) (oe : Obj) (cls : Value) (d : Option Addr) (pn : List (Addr × Obj)), Zc cls d oe → (∃ vs, oe.data = .fields vs) → PSs (X.suite a ((a, oe) :: pn)) (b₀ :: suite) (ts a cls d)) (r : HdsAn X hds l) :
      HdsAn X (.ExceptHandler (some (.Name x np)) (some n) (b₀ :: suite) pos' :: hds) ((i, c, ts) :: l)
section
variable {X : Cx} {body : List Stmt} {h₀ : ExceptHandler} {hds : List ExceptHandler} {l : ClausesN} {pos : Pos} {tb : WX → TS} {Wout : WX}
/-- the exception on the ground: the clauses, one behind another -/
theorem clauses_an (hs : X.stack = X.env :: X.outer) (hf : X.env.frame = some X.env.locals) (hN : X.N.Nodup) (tk : Takes X Wout)
    {pins pins' : List (Addr × Obj)} {D : Ends} {a : Addr} {B h3 : Heap} {sI s' : Shared} {σ : L2.St} {H : Hp} {cls : Value} {d : Option Addr} (J0 : Inv X pins' σ H sI) (J : Inv X pins σ H sI)
    (nb : ∀ b o, sI.heap.get? b = some o → b ∉ frs X.stack → B.get? b = some o) (up : sI.heap.UpToSlots h3) (fl3 : HandSPX.FlyingZ B (X.env :: X.outer) a (Zc cls d) h3) (na : H a = none) (os : s'.os = sI.os) (ag : AllBare s'.gens) (nL : a ≠ X.env.locals) (nF : a ∉ X.fs) :
    ∀ {hds : List ExceptHandler} {l : ClausesN}, HdsAn X hds l → wManyAn X.K Wout D l cls d σ H → wpAny (model X.prog X.w) X.A (handleBy (.ref a) X.env hds) (SP X pins D) X.xe { s' with heap := h3 } := by
  have ok := J.ok
  have J3 : Inv X pins σ H { s' with heap := h3 } := J.landed nb fl3.1 up os ag
  obtain ⟨oe3, vs3, he3, hz3, hd3⟩ := fl3.there
  have S3 := J3.suite he3 hd3 na nL nF
  intro hds l hk
  induction hk with
  | nil =>
    intro w
    refine wpAny_handleBy_nil ?_
    obtain ⟨_, _, _, oe, vs, T, oT, ts', he, hz, hd, h1, hr⟩ := id fl3
    unfold PySem.passOn
    refine wpAny_bind (wpAny_field he hd h1 ?_)
    rw [if_neg (show ¬ ((Value.ref T == Value.none) = true) from by simp)]
    have fin : wpAny (model X.prog X.w) X.A (setFlight (.ref a) X.env.frame) (fun _ s4 => wpAny (model X.prog X.w) X.A (throw (.ref a) : Sem Flow) (SP X pins D) X.xe s4) X.xe { s' with heap := h3 } := by
      rw [hf]
      refine HandSPX.setFlight_upZ fl3 fun h4 hh4 up4 => wpAny_throw (tk _ _ ?_)
      exact ⟨a, B, sI, pins', σ, H, cls, d, rfl, J0, nb, up.trans up4, .inr (.inr (by rw [hs]; exact hh4)), na, os, ag, w⟩
    first
      | exact wpAny_bind (wpAny_pure (wpAny_bind fin))
      | exact wpAny_bind fin
  | @cons n i x c ts b₀ suite np pos' hds2 l2 hi hln hc su r ih =>
    intro w
    obtain ⟨b, hb1, yes, no⟩ := w
    refine wpAny_handleBy_cons (codeAny_handlers_test ?_) (by intro q; cases q)
    have LT : PySem.W.Looks (model X.prog X.w) h3 (typeOf (.ref a)) cls := fun A Q E s k q => wpAny_typeOf_ref (k _ _ he3) (by rw [hz3.1]; exact q)
    have LM := PySem.W.exm_one (M := model X.prog X.w) (J3.kIn) LT hb1
    have test : ∀ {Q : Value → Shared → Prop} {E : Value → Shared → Prop}, Q c { s' with heap := h3 } → wpAny (model X.prog X.w) (X.A.mark (some (.ref a))) (eval (.Name x np) X.env) Q E { s' with heap := h3 } := fun {Q E} q => by
      obtain ⟨hg, hdbg, hm | ⟨hm, hv, hnn⟩⟩ := hc
      · exact ld_glob (X := X.suite a ((a, oe3) :: (X.pn ++ pins))) S3 hg hm q hdbg
      · exact ld_blt (X := X.suite a ((a, oe3) :: (X.pn ++ pins))) S3 hg hm hv q hnn hdbg
    refine test (LM.here ?_)
    cases b with
    | false =>
      show wpAny _ X.A (handleBy (.ref a) X.env hds2) _ _ _
      exact ih (no rfl)
    | true =>
      refine codeAny_handlers_suite_as ?_
      refine HandSPX.lands_againZ fl3 fun h4 fl4 up4 => ?_
      have J4 : Inv X pins σ H { s' with heap := h4 } := J.landed nb fl4.1 (up.trans up4) os ag
      obtain ⟨oe4, vs4, he4, hz4, hd4⟩ := fl4.there
      have S4 := J4.suite he4 hd4 na nL nF
      refine store_ok (X := X.suite a ((a, oe4) :: (X.pn ++ pins))) (v := .ref a) S4 hN hi (.inl hln) rfl (fun s5 S5 => ?_) (.inr hln)
      refine wpAny_mono ((su a oe4 cls d (X.pn ++ pins) hz4 ⟨_, hd4⟩).run [] s5 _ H _ S5 (yes rfl a na)) (fun f s6 hsp => ?_) (fun _ _ z => False.elim z)
      have last : ∀ {σ6 : L2.St} {H6 : Hp} {Q : Shared → Prop}, Inv (X.suite a ((a, oe4) :: (X.pn ++ pins))) [] σ6 H6 s6 → (∀ s7, Inv X pins (σ6.set i none) H6 s7 → Q s7) →
          wpAny (model X.prog X.w) X.A (do bindName X.env n .none; unbindBehindTheSuite X.env n pos') (fun _ s7 => Q s7) X.xe s6 := fun S6 hq => gone_ok (S6.unsuite ok) hN hi hln hq
      cases f with
      | ret u =>
        obtain ⟨v6, σ6, H6, S6, r6, q6⟩ := hsp
        exact last S6 fun s7 J7 => ⟨_, _, _, J7, r6, q6⟩
      | next =>
        obtain ⟨σ6, H6, S6, q6⟩ := hsp
        exact last S6 fun s7 J7 => ⟨_, _, J7, q6⟩
      | brk =>
        obtain ⟨σ6, H6, S6, q6⟩ := hsp
        exact last S6 fun s7 J7 => ⟨_, _, J7, q6⟩
      | cont =>
        obtain ⟨σ6, H6, S6, q6⟩ := hsp
        exact last S6 fun s7 J7 => ⟨_, _, J7, q6⟩
theorem ps_try_manyAn (hs : X.stack = X.env :: X.outer) (hf : X.env.frame = some X.env.locals) (hN : X.N.Nodup) (tk : Takes X Wout)
    (hb : ∀ (W : WX) (pn : List (Addr × Obj)) (xe : Value → Shared → Prop), Takes (X.tr pn xe) W → PassesOwn (model X.prog X.w) X.A X.env xe → PSs (X.tr pn xe) body (tb W))
    (hh : HdsAn X (h₀ :: hds) l) : PS X (.Try body (h₀ :: hds) [] [] pos) (fun D σ H => tb (wManyAn X.K Wout D l) D σ H) := by
  refine ⟨fun pins s σ H D I h => ?_⟩
  have ok := I.ok
  have hfr : X.A.frames = some (X.env :: X.outer) := by rw [ok.frames, hs]
  refine wpAny_Try_except ?_
  refine wpAny_mono ((hb (wManyAn X.K Wout D l) (X.pn ++ pins) (fun e s₁ => wpAny (model X.prog X.w) X.A (noteFrame e X.env) (fun _ s₂ => wpAny (model X.prog X.w) X.A (setFlight e none) (fun _ s₃ =>
    wpAny (model X.prog X.w) X.A (handleBy e X.env (h₀ :: hds)) (SP X pins D) X.xe s₃) X.xe s₂) X.xe s₁) (fun u s' xx => ?_) PassesOwn.looking).run [] s σ H D (I.toTry _) h) (fun f s1 hsp => ?_) (fun e s1 he => he)
  · obtain ⟨a, B, sI, pins', σ', H', cls, d, rfl, J', nb, up, sky, na, os, ag, w⟩ := xx
    have J : Inv X pins σ' H' sI := J'.ofTry ok
    show wpAny (model X.prog X.w) X.A (noteFrame (.ref a) X.env) _ _ _
    refine Sky.land Zc.steady hfr hf (by rw [← hs]; exact sky) fun h3 fl3 up3 => ?_
    obtain ⟨oe3, vs3, he3, hz3, hd3⟩ := fl3.there
    have nfr : a ∉ frs (X.env :: X.outer) := fun hm => by
      obtain ⟨_, o', e', hnf⟩ := fl3.2.2.1.mem hm
      rw [he3] at e'; cases e'
      exact hnf _ hd3
    have nL : a ≠ X.env.locals := fun z => nfr (List.mem_filterMap.mpr ⟨X.env, List.mem_cons_self, by rw [hf, z]⟩)
    have nF : a ∉ X.fs := fun hm => by
      obtain ⟨e, he, q⟩ := List.mem_filterMap.mp hm
      exact nfr (List.mem_filterMap.mpr ⟨e, List.mem_cons_of_mem _ he, q⟩)
    exact clauses_an hs hf hN tk J J nb (up.trans up3) fl3 na os ag nL nF hh w
  · cases f with
    | ret u =>
      obtain ⟨v, σ', H', J', r, q⟩ := hsp
      exact ⟨v, σ', H', J'.ofTry ok, r, q⟩
    | next =>
      obtain ⟨σ', H', J', q⟩ := hsp
      exact wpAny_execs_nil ⟨σ', H', J'.ofTry ok, q⟩
    | brk =>
      obtain ⟨σ', H', J', q⟩ := hsp
      exact ⟨σ', H', J'.ofTry ok, q⟩
    | cont =>
      obtain ⟨σ', H', J', q⟩ := hsp
      exact ⟨σ', H', J'.ofTry ok, q⟩
end
end Any
set_option pp.maxSteps 600
set_option maxHeartbeats 1000000
namespace Any
open L2 PySem PySem.Spec PyProof.Rows LamX
/-! ### several clauses, each with the name n -/
/-- the ends of a suite behind which the name in slot i goes -/
abbrev endsAs (i : Nat) (D : Ends) : Ends := { nx := fun σ H => D.nx (σ.set i none) H, rt := D.rt, bk := fun σ H => D.bk (σ.set i none) H, ct := fun σ H => D.ct (σ.set i none) H }
abbrev Clauses := List (Value × (Addr → Value → Option Addr → TS))
def wManyAs (K : PySem.W.Frag) (i : Nat) (Wout : WX) (D : Ends) : Clauses → WX
  | [] => Wout
  | (c, ts) :: r => fun cls d σ H => ∃ b, PySem.W.exmOne K cls c = some b ∧ (b = true → ∀ a, H a = none → ts a cls d (endsAs i D) (σ.set i (some (.ref a))) H) ∧ (b = false → wManyAs K i Wout D r cls d σ H)
inductive HdsAs (X : Cx) (n : Str) : List ExceptHandler → Clauses → Prop
  | nil : HdsAs X n [] []
  | cons {x : Str} {c : Value} {ts : Addr → Value → Option Addr → TS} {b₀ : Stmt} {suite : List Stmt} {np pos' : Pos} {hds : List ExceptHandler} {l : Clauses} (hc : Names X x c)
      (su : ∀ (a : Addr) (oe : Obj) (cls : Value) (d : Option Addr) (pn : List (Addr × Obj)), Zc cls d oe → (∃ vs, oe.data = .fields vs) → PSs (X.suite a ((a, oe) :: pn)) (b₀ :: suite) (ts a cls d)) (r : HdsAs X n hds l) :
      HdsAs X n (.ExceptHandler (some (.Name x np)) (some n) (b₀ :: suite) pos' :: hds) ((c, ts) :: l)
section
variable {X : Cx} {n : Str} {i : Nat} {body : List Stmt} {h₀ : ExceptHandler} {hds : List ExceptHandler} {l : Clauses} {pos : Pos} {tb : WX → TS} {Wout : WX}
/-- the exception on the ground: the clauses, one behind another -/
theorem clauses_as (hs : X.stack = X.env :: X.outer) (hf : X.env.frame = some X.env.locals) (hN : X.N.Nodup) (hi : X.N[i]? = some n) (hln : X.env.kindOf n = some .local) (tk : Takes X Wout)
    {pins pins' : List (Addr × Obj)} {D : Ends} {a : Addr} {B h3 : Heap} {sI s' : Shared} {σ : L2.St} {H : Hp} {cls : Value} {d : Option Addr} (J0 : Inv X pins' σ H sI) (J : Inv X pins σ H sI)
    (nb : ∀ b o, sI.heap.get? b = some o → b ∉ frs X.stack → B.get? b = some o) (up : sI.heap.UpToSlots h3) (fl3 : HandSPX.FlyingZ B (X.env :: X.outer) a (Zc cls d) h3) (na : H a = none) (os : s'.os = sI.os) (ag : AllBare s'.gens) (nL : a ≠ X.env.locals) (nF : a ∉ X.fs) :
    ∀ {hds : List ExceptHandler} {l : Clauses}, HdsAs X n hds l → wManyAs X.K i Wout D l cls d σ H → wpAny (model X.prog X.w) X.A (handleBy (.ref a) X.env hds) (SP X pins D) X.xe { s' with heap := h3 } := by
  have ok := J.ok
  have J3 : Inv X pins σ H { s' with heap := h3 } := J.landed nb fl3.1 up os ag
  obtain ⟨oe3, vs3, he3, hz3, hd3⟩ := fl3.there
  have S3 := J3.suite he3 hd3 na nL nF
  intro hds l hk
  induction hk with
  | nil =>
    intro w
    refine wpAny_handleBy_nil ?_
    obtain ⟨_, _, _, oe, vs, T, oT, ts', he, hz, hd, h1, hr⟩ := id fl3
    unfold PySem.passOn
    refine wpAny_bind (wpAny_field he hd h1 ?_)
    rw [if_neg (show ¬ ((Value.ref T == Value.none) = true) from by simp)]
    have fin : wpAny (model X.prog X.w) X.A (setFlight (.ref a) X.env.frame) (fun _ s4 => wpAny (model X.prog X.w) X.A (throw (.ref a) : Sem Flow) (SP X pins D) X.xe s4) X.xe { s' with heap := h3 } := by
      rw [hf]
      refine HandSPX.setFlight_upZ fl3 fun h4 hh4 up4 => wpAny_throw (tk _ _ ?_)
      exact ⟨a, B, sI, pins', σ, H, cls, d, rfl, J0, nb, up.trans up4, .inr (.inr (by rw [hs]; exact hh4)), na, os, ag, w⟩
    first
      | exact wpAny_bind (wpAny_pure (wpAny_bind fin))
      | exact wpAny_bind fin
  | @cons x c ts b₀ suite np pos' hds2 l2 hc su r ih =>
    intro w
    obtain ⟨b, hb1, yes, no⟩ := w
    refine wpAny_handleBy_cons (codeAny_handlers_test ?_) (by intro q; cases q)
    have LT : PySem.W.Looks (model X.prog X.w) h3 (typeOf (.ref a)) cls := fun A Q E s k q => wpAny_typeOf_ref (k _ _ he3) (by rw [hz3.1]; exact q)
    have LM := PySem.W.exm_one (M := model X.prog X.w) (J3.kIn) LT hb1
    have test : ∀ {Q : Value → Shared → Prop} {E : Value → Shared → Prop}, Q c { s' with heap := h3 } → wpAny (model X.prog X.w) (X.A.mark (some (.ref a))) (eval (.Name x np) X.env) Q E { s' with heap := h3 } := fun {Q E} q => by
      obtain ⟨hg, hdbg, hm | ⟨hm, hv, hnn⟩⟩ := hc
      · exact ld_glob (X := X.suite a ((a, oe3) :: (X.pn ++ pins))) S3 hg hm q hdbg
      · exact ld_blt (X := X.suite a ((a, oe3) :: (X.pn ++ pins))) S3 hg hm hv q hnn hdbg
    refine test (LM.here ?_)
    cases b with
    | false =>
      show wpAny _ X.A (handleBy (.ref a) X.env hds2) _ _ _
      exact ih (no rfl)
    | true =>
      refine codeAny_handlers_suite_as ?_
      refine HandSPX.lands_againZ fl3 fun h4 fl4 up4 => ?_
      have J4 : Inv X pins σ H { s' with heap := h4 } := J.landed nb fl4.1 (up.trans up4) os ag
      obtain ⟨oe4, vs4, he4, hz4, hd4⟩ := fl4.there
      have S4 := J4.suite he4 hd4 na nL nF
      refine store_ok (X := X.suite a ((a, oe4) :: (X.pn ++ pins))) (v := .ref a) S4 hN hi (.inl hln) rfl (fun s5 S5 => ?_) (.inr hln)
      refine wpAny_mono ((su a oe4 cls d (X.pn ++ pins) hz4 ⟨_, hd4⟩).run [] s5 _ H _ S5 (yes rfl a na)) (fun f s6 hsp => ?_) (fun _ _ z => False.elim z)
      have last : ∀ {σ6 : L2.St} {H6 : Hp} {Q : Shared → Prop}, Inv (X.suite a ((a, oe4) :: (X.pn ++ pins))) [] σ6 H6 s6 → (∀ s7, Inv X pins (σ6.set i none) H6 s7 → Q s7) →
          wpAny (model X.prog X.w) X.A (do bindName X.env n .none; unbindBehindTheSuite X.env n pos') (fun _ s7 => Q s7) X.xe s6 := fun S6 hq => gone_ok (S6.unsuite ok) hN hi hln hq
      cases f with
      | ret u =>
        obtain ⟨v6, σ6, H6, S6, r6, q6⟩ := hsp
        exact last S6 fun s7 J7 => ⟨_, _, _, J7, r6, q6⟩
      | next =>
        obtain ⟨σ6, H6, S6, q6⟩ := hsp
        exact last S6 fun s7 J7 => ⟨_, _, J7, q6⟩
      | brk =>
        obtain ⟨σ6, H6, S6, q6⟩ := hsp
        exact last S6 fun s7 J7 => ⟨_, _, J7, q6⟩
      | cont =>
        obtain ⟨σ6, H6, S6, q6⟩ := hsp
        exact last S6 fun s7 J7 => ⟨_, _, J7, q6⟩
theorem ps_try_manyAs (hs : X.stack = X.env :: X.outer) (hf : X.env.frame = some X.env.locals) (hN : X.N.Nodup) (hi : X.N[i]? = some n) (hln : X.env.kindOf n = some .local) (tk : Takes X Wout)
    (hb : ∀ (W : WX) (pn : List (Addr × Obj)) (xe : Value → Shared → Prop), Takes (X.tr pn xe) W → PassesOwn (model X.prog X.w) X.A X.env xe → PSs (X.tr pn xe) body (tb W))
    (hh : HdsAs X n (h₀ :: hds) l) : PS X (.Try body (h₀ :: hds) [] [] pos) (fun D σ H => tb (wManyAs X.K i Wout D l) D σ H) := by
  refine ⟨fun pins s σ H D I h => ?_⟩
  have ok := I.ok
  have hfr : X.A.frames = some (X.env :: X.outer) := by rw [ok.frames, hs]
  refine wpAny_Try_except ?_
  refine wpAny_mono ((hb (wManyAs X.K i Wout D l) (X.pn ++ pins) (fun e s₁ => wpAny (model X.prog X.w) X.A (noteFrame e X.env) (fun _ s₂ => wpAny (model X.prog X.w) X.A (setFlight e none) (fun _ s₃ =>
    wpAny (model X.prog X.w) X.A (handleBy e X.env (h₀ :: hds)) (SP X pins D) X.xe s₃) X.xe s₂) X.xe s₁) (fun u s' xx => ?_) PassesOwn.looking).run [] s σ H D (I.toTry _) h) (fun f s1 hsp => ?_) (fun e s1 he => he)
  · obtain ⟨a, B, sI, pins', σ', H', cls, d, rfl, J', nb, up, sky, na, os, ag, w⟩ := xx
    have J : Inv X pins σ' H' sI := J'.ofTry ok
    show wpAny (model X.prog X.w) X.A (noteFrame (.ref a) X.env) _ _ _
    refine Sky.land Zc.steady hfr hf (by rw [← hs]; exact sky) fun h3 fl3 up3 => ?_
    obtain ⟨oe3, vs3, he3, hz3, hd3⟩ := fl3.there
    have nfr : a ∉ frs (X.env :: X.outer) := fun hm => by
      obtain ⟨_, o', e', hnf⟩ := fl3.2.2.1.mem hm
      rw [he3] at e'; cases e'
      exact hnf _ hd3
    have nL : a ≠ X.env.locals := fun z => nfr (List.mem_filterMap.mpr ⟨X.env, List.mem_cons_self, by rw [hf, z]⟩)
    have nF : a ∉ X.fs := fun hm => by
      obtain ⟨e, he, q⟩ := List.mem_filterMap.mp hm
      exact nfr (List.mem_filterMap.mpr ⟨e, List.mem_cons_of_mem _ he, q⟩)
    exact clauses_as hs hf hN hi hln tk J J nb (up.trans up3) fl3 na os ag nL nF hh w
  · cases f with
    | ret u =>
      obtain ⟨v, σ', H', J', r, q⟩ := hsp
      exact ⟨v, σ', H', J'.ofTry ok, r, q⟩
    | next =>
      obtain ⟨σ', H', J', q⟩ := hsp
      exact wpAny_execs_nil ⟨σ', H', J'.ofTry ok, q⟩
    | brk =>
      obtain ⟨σ', H', J', q⟩ := hsp
      exact ⟨σ', H', J'.ofTry ok, q⟩
    | cont =>
      obtain ⟨σ', H', J', q⟩ := hsp
      exact ⟨σ', H', J'.ofTry ok, q⟩
end
end Any
set_option pp.maxSteps 600
set_option maxHeartbeats 1000000
namespace Any
open L2 PySem PySem.Spec PyProof.Rows LamX NdefX
/-! ### a lambda that is handed down -/
/-- who got the lambda at f may ask it: fs, s, H are those of the call that got it; tl: what it tells -/
structure Asked (P : Program) (w : World) (K : PySem.W.Frag) (mg : Str → Option Value) (base : Heap) (fs : List Addr) (s : Shared) (H : Hp) (f c' : Addr) (q : Str) (j : Nat) (tl : XK → Hp → VK → Prop) : Prop where
  at_ : ∀ (s1 : Shared) (HZ : Hp), Un fs [] H HZ s.heap s1.heap → PySem.W.FnAt f s1.heap
  run : ∀ (A : Around) (outer : List Env) (s1 : Shared) (HZ : Hp) (Q : VK) (E : XK), A.guards = some [] → Room j A → Env0 P w K mg base A outer s1 HZ → Un fs [] H HZ s.heap s1.heap → HZ c' = some (CodeO c' q) → tl E HZ Q →
    codeAny (model P w) A (.call (.ref f) ⟨[], []⟩) (CR (L2.CX P w) outer P w HZ s1 Q E) s1
/-- a def that gets a lambda, and asks it -/
def DfL (P : Program) (w : World) (K : PySem.W.Frag) (mg : Str → Option Value) (base : Heap) (j : Nat) (x : Str) (TT : (XK → Hp → VK → Prop) → List V → Hp → VK → Prop) : Prop :=
  ∃ g, mg x = some (.ref g) ∧ PySem.W.keepIn K (.ref g) = true ∧ ∀ (A : Around) (outer : List Env) (s : Shared) (H : Hp) (f c' : Addr) (q : Str) (us : List Value) (vs : List V) (Q : VK) (tl : XK → Hp → VK → Prop), A.guards = some [] → Room (j + 1) A →
    Env0 P w K mg base A outer s H → Asked P w K mg base (frs outer) s H f c' q j tl → H c' = some (CodeO c' q) → Vals vs us → TT tl vs H Q → codeAny (model P w) A (.call (.ref g) ⟨.ref f :: us, []⟩) (CR CX0 outer P w H s Q E0) s
section
variable {Z : Cx} {fs : List Addr} {s : Shared} {H : Hp} {f c' : Addr} {q x : Str} {j i : Nat} {tl : XK → Hp → VK → Prop} {E : XK} {p1 p2 : Pos}
/-- x(), x being what was got -/
theorem pe_ask (a : Asked Z.prog Z.w Z.K Z.mg Z.base fs s H f c' q j tl) (u : ∀ {pins : List (Addr × Obj)} {σ : L2.St} {H' : Hp} {s' : Shared}, Inv Z pins σ H' s' → Un fs [] H H' s.heap s'.heap) (hG : Z.A.guards = some []) (hr : Room j Z.A) (hx : Passes (L2.CX Z.prog Z.w) Z E)
    (hN : Z.N[i]? = some x) (hv : Vis Z.env.scope x) (hd : (x == ("__debug__" : Str)) = false := by decide) (hcd : (x == ("__classdict__" : Str)) = false := by decide) :
    PE Z (.Call (.Name x p1) [] [] p2) (fun σZ HZ Q => σZ[i]? = some (some (.ref f)) ∧ HZ c' = some (CodeO c' q) ∧ tl E HZ Q) := by
  refine ⟨fun pinsZ sZ σZ HZ Q IZ h => ?_⟩
  obtain ⟨hs, hc, ht⟩ := h
  refine wpAny_Call_Name_kw (thn ((pe_var (pos := p1) (i := i) hN hv hd hcd).run pinsZ sZ σZ HZ (fun v H1 => v = .ref f ∧ H1 = HZ) IZ ⟨.ref f, hs, rfl, rfl⟩) fun v0 s1 ⟨v, H1, I1, r1, q1⟩ => ?_)
  obtain ⟨ev, eH⟩ := q1
  subst ev
  rw [eH] at I1
  obtain rfl : v0 = Value.ref f := r1
  refine PySem.W.callWith_F0 (a.at_ _ _ (u I1)) ?_
  refine wpAny_call (codeAny_mono (a.run Z.A Z.stack s1 HZ Q E hG hr I1.env0 (u I1) hc ht) fun r s' hq => ?_)
  cases r with
  | error e => exact hx pinsZ σZ HZ s1 e s' I1 hq
  | ok fl =>
    cases fl with
    | ret v => exact I1.after hq
    | next => exact False.elim hq
    | brk => exact False.elim hq
    | cont => exact False.elim hq
end
section
variable {X : Cx} {pins : List (Addr × Obj)} {σ : L2.St} {H : Hp} {s : Shared} {f c' : Addr} {params : Arguments} {body : Expr} {scope : Scope} {m : Nat} {t : XK → TE} {pm ctv : Value}
theorem asked_of (I : Inv X pins σ H s) (L : LamS X.env.scope scope) (hf : s.heap.get? f = some (PySem.W.kla_obj "<lambda>" (X.env.qual ++ "<lambda>") params body scope (cloFrom X.env.cells scope.names []) pm c' ctv)) (hfn : H f = none) (hfr : f ∉ frs X.stack)
    (hbind : bindArgs (PySem.W.kla_fn "<lambda>" (X.env.qual ++ "<lambda>") params body scope (cloFrom X.env.cells scope.names []) pm (.ref c') ctv) ⟨[], []⟩ = pure [])
    (hbody : ∀ (A : Around) (outer : List Env) (s : Shared) (H : Hp) (E : XK), A.guards = some [] → Room m (A.deeper (lamEnv X scope s.heap.objs.size f c')) → PE (lamCx X A outer s H E scope f c') body (t E)) :
    Asked X.prog X.w X.K X.mg X.base (frs X.stack) s H f c' (X.env.qual ++ "<lambda>") (m + 1) (fun E H' Q' => t E σ H' Q') := by
  have of1 : ∀ (s1 : Shared) (HZ : Hp), Un (frs X.stack) [] H HZ s.heap s1.heap → s1.heap.get? f = some (PySem.W.kla_obj "<lambda>" (X.env.qual ++ "<lambda>") params body scope (cloFrom X.env.cells scope.names []) pm c' ctv) := fun s1 HZ un =>
    un.keep f _ hf hfn hfr (by simp)
  refine ⟨fun s1 HZ un => ⟨_, _, _, _, of1 s1 HZ un⟩, fun A outer s1 HZ Q E hG hr e0 un hc ht => ?_⟩
  have lim : s1.heap.NoLimit := e0.mod.nolimit.keeps fun b o e => (e0.bs b o e).1
  refine PySem.W.kla_callFunE hr.depth (of1 s1 HZ un) rfl L.co L.gen rfl (codeO_at e0.hok hc) ?_
  rw [hbind]
  refine wpAny_pure (wpAny_newFunctionEnv (fun y hy => (L.own y hy).2) (fun y hy => absurd hy (by simp)) (fun h₁ hns hsb => ⟨lim.fresh _ hsb, ?_⟩) L.kind)
  show codeAny _ _ (.expr body (lamEnv X scope s1.heap.objs.size f c')) _ _
  have kp : ∀ b o, s1.heap.get? b = some o → h₁.get? b = some o := fun b o e => hsb.extBut b o (Nat.ne_of_lt (Heap.lt_size e)) (Heap.get?_push_of_some _ e)
  have J : Inv (lamCx X A outer s1 HZ E scope f c') [] σ HZ { s1 with heap := h₁, toks := s1.toks + ([] : List (Str × Value)).length } := lam_start2 I L e0 hr.hd un hns kp
  refine PySem.W.kla_codeExpr (wpAny_mono ((hbody A outer s1 HZ E hG (hr.deeper _)).run [] _ _ HZ Q J ht) (fun v s' hq => ?_) fun e s' hq => hq)
  obtain ⟨w', H', J', rv, q⟩ := hq
  exact ⟨w', H', J'.os, J'.bare, J'.base, J'.hok, rv, q⟩
end
/-- the reading of x(lambda: .., es) -/
def tLamG (T : List (Addr × Str)) (q : Str) (TT : (XK → Hp → VK → Prop) → List V → Hp → VK → Prop) (t : XK → TE) (ta : TA) : TE := fun σ H Q => Tabs T H ∧ ∀ (c' : Addr) (H1 : Hp), ExtN H H1 → Tabs T H1 → H1 c' = some (CodeO c' q) →
  ta σ H1 fun vs H2 => H2 c' = some (CodeO c' q) ∧ TT (fun E H' Q' => t E σ H' Q') vs H2 Q
theorem pe_lamG {X : Cx} {T : List (Addr × Str)} {TT : (XK → Hp → VK → Prop) → List V → Hp → VK → Prop} {x : Str} {c P : Addr} {m : Nat} {params : Arguments} {body : Expr} {scope : Scope} {t : XK → TE} {ta : TA} {es : List Expr} {p lpos pos : Pos}
    (D : DfL X.prog X.w X.K X.mg X.base (m + 1) x TT) (hG : X.A.guards = some []) (hr : Room (m + 2) X.A) (hg : Gl X x) (TB : TabB X.base X.mg c P) (hcode : X.env.code = .ref c) (hmT : (P, X.env.qual ++ "<lambda>") ∈ T) (hu : ∀ p ∈ T, p.1 = P → p.2 = X.env.qual ++ "<lambda>")
    (L : LamS X.env.scope scope) (hdef : defaultsOf params X.env = ([], [])) (hbind : ∀ (q : Str) (cl : List (Str × Addr)) (pm cv ctv : Value), bindArgs (PySem.W.kla_fn "<lambda>" q params body scope cl pm cv ctv) ⟨[], []⟩ = pure [])
    (hbody : ∀ (A : Around) (outer : List Env) (s : Shared) (H : Hp) (E : XK) (f c' : Addr), A.guards = some [] → Room m (A.deeper (lamEnv X scope s.heap.objs.size f c')) → PE (lamCx X A outer s H E scope f c') body (t E)) (ha : PA X es ta)
    (hdb : (x == ("__debug__" : Str)) = false := by decide) (hst : starEach (.Lambda params body scope lpos :: es) X.env = (false, eval (.Lambda params body scope lpos) X.env) :: starEach es X.env := by rfl) (hpl : (backTo pos (starEach es X.env)).any (·.1) = false := by rfl) :
    PE X (.Call (.Name x p) (.Lambda params body scope lpos :: es) [] pos) (tLamG T (X.env.qual ++ "<lambda>") TT t ta) := by
  refine ⟨fun pins s σ H Q I h => ?_⟩
  obtain ⟨hT, h⟩ := h
  obtain ⟨g, hm, hk, F⟩ := D
  refine wpAny_Call_Name_kw (ld_glob I hg hm ?_ hdb)
  refine PySem.W.callWith_K (h₀ := X.base) I.ok.mod.kin hk ?_ hst hpl
  rw [hst]
  show wpAny _ _ (spliced ((false, eval (.Lambda params body scope lpos) X.env) :: backTo pos (starEach es X.env))) _ _ s
  refine Calls.spliced_cons (lam_make2 I TB hcode hmT hu hT hdef (L.has I.ok) fun f c' pm' ctv H1 s' I1 eN T1 hf hfn hfr hco => ?_)
  have nL : f ≠ X.env.locals := fun z => by
    obtain ⟨_, ⟨o, es, ep, ho, hd, _⟩, _⟩ := I1.loc
    rw [← z, hf] at ho
    cases ho
    cases hd
  have nF : f ∉ X.fs := fun z => by
    obtain ⟨_, o, ho, hd⟩ := I1.funs.mem z
    rw [hf] at ho
    exact hfr (by
      rcases I1.ok.stk with e | ⟨e, _⟩
      · rw [e]; exact z
      · rw [e]
        obtain ⟨v, hv, hv2⟩ := List.mem_filterMap.mp z
        exact List.mem_filterMap.mpr ⟨v, List.mem_cons_of_mem _ hv, hv2⟩)
  have J1 : Inv X ((f, PySem.W.kla_obj "<lambda>" (X.env.qual ++ "<lambda>") params body scope (cloFrom X.env.cells scope.names []) pm' c' ctv) :: pins) σ H1 s' := by
    refine I1.pins_of fun p hp => ?_
    rcases List.mem_cons.mp hp with rfl | hp
    · exact ⟨hf, hfn, nL, nF, fun v z => by cases z⟩
    · exact I1.pin p (List.mem_append_right _ hp)
  refine thn (ha.run pos _ s' σ H1 _ J1 (h c' H1 eN T1 hco)) fun us s2 ⟨vs, H2, J2, rv, hc2, ht⟩ => ?_
  have I2 : Inv X pins σ H2 s2 := J2.pins_of fun p hp => J2.pin p (List.mem_append_right _ (List.mem_cons_of_mem _ hp))
  obtain ⟨hf2, hn2, _⟩ := J2.pin (f, _) (List.mem_append_right _ List.mem_cons_self)
  refine ⟨I2.kIn, ?_⟩
  show wpAny _ _ (call (.ref g) (.ref f :: us)) _ _ _
  have ask := asked_of (t := t) I2 L hf2 hn2 hfr (hbind _ _ _ _ _) fun A outer s H E hG hr => hbody A outer s H E f c' hG hr
  refine wpAny_call (codeAny_mono (F X.A X.stack s2 H2 f c' _ us vs Q _ hG hr I2.env0 ask hc2 rv ht) fun r s3 hq => ?_)
  cases r with
  | error e => exact False.elim hq
  | ok fl =>
    cases fl with
    | ret u => exact I2.after hq
    | next => exact False.elim hq
    | brk => exact False.elim hq
    | cont => exact False.elim hq
end Any
set_option pp.maxSteps 600
namespace Any
open L2 PySem PySem.Spec PyProof.Rows LamX NdefX
/-! ### things that are no tuple of rooms -/
abbrev sNP : Stmt := inClass (top 2) 0
theorem scNP : FnScope ["self", "room", "why"] ["self", "room", "why"] (defScope sNP) := ⟨rfl, rfl, rfl, by decide +kernel, rfl, by decide +kernel, by decide +kernel⟩
structure NoProgC (K : PySem.W.Frag) (mg : Str → Option Value) (CP : Addr) : Prop where
  ox : OexC K CP
  n1 : PySem.W.findIn K (.ref CP) "room" = some none
  n2 : PySem.W.findIn K (.ref CP) "why" = some none
  xf : XfC K CP
  ex : ExcC K CP
  me : PySem.W.exmOne K (.ref CP) (.ref CP) = some true
  mV : mg "ValueError" = none
  vV : PySem.W.findCls K (.type "ValueError") (.type "type") "__init__" = some (.val (.builtin "ValueError.__init__"))
  mP : mg "NoProgram" = some (.ref CP)
/-- C's __init__ puts what it is given into its fields room and why -/
def spNP (CP : Addr) : Sp := fun vs H Q _ => ∃ (a : Addr), vs = [.ref a, .int (-1), .str "rooms"] ∧ H a = some (exo a CP none) ∧
  ∀ dx, H dx = none → dx ≠ a → Q .non (upd (upd (upd H dx (exd dx [("room", .int (-1))])) a (exo a CP (some dx))) dx (exd dx [("why", .str "rooms"), ("room", .int (-1))]))
def npF : List (Str × V) := [("why", .str "rooms"), ("room", .int (-1))]
theorem np_made {CP : Addr} {H : Hp} {E : XK} (h : ∀ d H', Same H H' → H' d = some (.xd npF) → E (.ref CP) (some d) H') :
    ([V.int (-1), .str "rooms"] : List V).length ≤ 1000 ∧ ∀ a, H a = none → spNP CP (.ref a :: ([V.int (-1), .str "rooms"] ++ [])) (upd H a (exo a CP none))
      (fun v H2 => v = .non ∧ ∃ (d : Addr) (fs : List (Str × V)), H2 a = some (exo a CP (some d)) ∧ H2 d = some (exd d fs) ∧ H d = none ∧ E (.ref CP) (some d) (upd (del H2 a) d (.xd fs))) (fun _ _ _ => False) := by
  refine ⟨by show 2 ≤ 1000; decide, fun a ha => ⟨a, rfl, upd_same, fun dx h1 h2 => ⟨rfl, dx, npF, ?_, upd_same, ?_, ?_⟩⟩⟩
  · rw [upd_ne (Ne.symm h2)]
    exact upd_same
  · rw [upd_ne h2] at h1
    exact h1
  · refine h dx _ (fun b o hb => ?_) upd_same
    have hbd : b ≠ dx := by
      rw [upd_ne h2] at h1
      exact ne_of_none hb h1
    have hba : b ≠ a := ne_of_none hb ha
    rw [upd_ne hbd, del_ne hba, upd_ne hbd, upd_ne hba, upd_ne hbd, upd_ne hba]
    exact hb
/-- a thing that is no tuple -/
inductive NoTup (C : Addr) (H : Hp) : V → Prop
  | non : NoTup C H .non
  | int (i : Int) : NoTup C H (.int i)
  | str (x : Str) : NoTup C H (.str x)
  | lst {a : Addr} {xs : List V} (h : H a = some (.lst xs)) : NoTup C H (.ref a)
  | dK {a : Addr} {kvs : List (Key × V)} (h : H a = some (.dK kvs)) : NoTup C H (.ref a)
  | ins {a dx : Addr} {fs : List (Str × V)} (h : H a = some (.ins C dx fs)) : NoTup C H (.ref a)
/-- a thing that are_rooms refuses -/
inductive NoRms (C : Addr) (H : Hp) : V → Prop
  | oth {v : V} (h : NoTup C H v) : NoRms C H v
  | len {a : Addr} {xs : List V} (h : H a = some (.tup xs)) (l : xs.length = 0 ∨ 8 < xs.length) : NoRms C H (.ref a)
  | one {a : Addr} {as : List Addr} {x : V} (h : H a = some (.tup (as.map V.ref ++ [x]))) (l : as.length ≤ 7) (k : ∀ e ∈ as, ∃ dx fs, H e = some (.ins C dx fs)) (n : NoIns H x) : NoRms C H (.ref a)
def spRoomsX (C : Addr) : Sp := fun vs H Q _ => ∃ v, vs = [v] ∧ NoRms C H v ∧ ∀ H', Same H H' → Q (.bl false) H'
theorem fm_bl : ∀ bs : List Bool, (bs.map fun b => some (V.bl b)).filterMap id = bs.map V.bl
  | [] => rfl
  | b :: r => by
    rw [List.map_cons, List.map_cons, ← fm_bl r]
    rfl
theorem NoIns.kit {K : PySem.W.Frag} {C : Addr} {H : Hp} {x : V} (TI : KindC K C) (n : NoIns H x) : ∃ t, TyX K H x t ∧ PySem.W.kitOne K t (.ref C) = some false := by
  cases n with
  | non => exact ⟨_, .base .non, TI.not mro_none (by simp)⟩
  | str z => exact ⟨_, .base (.str z), TI.not mro_str (by simp)⟩
  | tup ha => exact ⟨_, .base (.tup ha), TI.not mro_tuple (by simp)⟩
theorem NoIns.keep {H H' : Hp} {x : V} (n : NoIns H x) (s : Same H H') : NoIns H' x := by
  cases n with
  | non => exact .non
  | str z => exact .str z
  | tup ha => exact .tup (s _ _ ha)
section
variable {P : Program} {w : World} {K : PySem.W.Frag} {mg : Str → Option Value} {base : Heap} {f C D CP nf : Addr} {fd nd : FuncData}
theorem fun_okX {CX : CXT} {x qual : Str} {st : Stmt} {f : Addr} {fd : FuncData} {N ps : List Str} {k : Nat} {sp : Sp} (F : Fun K x qual st f fd) (S : FnScope N ps (defScope st)) (len : ∀ vs H Q E, sp vs H Q E → vs.length = ps.length)
    (hbody : ∀ (cdv : Value) (A : Around) (outer : List Env) (s : Shared) (H : Hp) (vs : List V) (Q : VK) (E : XK), Room k (A.deeper (envOfC qual (defScope st) s.heap.objs.size f cdv)) → sp vs H Q E →
      ∃ t, PSs (cxOf CX P w K mg base N qual (defScope st) f cdv A outer s H E) (defBody st) t ∧ t { nx := fun _ H' => Q .non H', rt := Q } (L2.start N vs) H) : FnOk P w K mg base CX (k + 1) f fd ps sp := by
  obtain ⟨oc, od, kV, doc, pm, an, cdv, ct, osl, rfl, lk, hcd⟩ := F.ex
  exact fn_of lk hcd S len fun A outer s H vs Q E hr hsp => hbody cdv A outer s H vs Q E hr hsp
theorem ok_noprog (Z : NoProgC K mg CP) (F : Fun K "__init__" "NoProgram.__init__" sNP f fd) : FnOk P w K mg base CX0 1 f fd ["self", "room", "why"] (spNP CP) := by
  refine F.ok scNP (fun vs H Q E h => ?_) (fun cdv A outer s H vs Q E hr h => ?_)
  · obtain ⟨a, rfl, _⟩ := h
    rfl
  obtain ⟨a, rfl, ha, q⟩ := h
  have few : ∀ {m : Nat}, m ≤ 1000 → m ≤ sizeLine := fun h => small h
  refine ⟨_, PSs.nox (pss_cons (ps_expr (pe_veinit rfl Z.mV Z.vV (pa_cons (pv 0) (pa_cons (pe_joined (.cons pe_str (.cons (pe_fmt (pv 1)) (.cons pe_str (.cons (pe_fmt (pv 2)) .nil))))) pa_nil)))) (pss_cons (ps_ost (pv 0) (pv 1)) (pss_one (ps_ost (pv 0) (pv 2))))), ?_⟩
  refine ⟨_, rfl, ?_⟩
  refine ⟨_, rfl, few (by decide +kernel), _, rfl, .inr ⟨-1, rfl, by decide, ?_⟩⟩
  refine ⟨_, rfl, few (by decide +kernel), ?_⟩
  refine ⟨_, rfl, few (by decide +kernel), _, rfl, .inl ⟨_, rfl, few (by decide +kernel), ?_⟩⟩
  refine ⟨_, rfl, few (by decide +kernel), ?_⟩
  refine ⟨a, CP, _, rfl, by show 1 ≤ 1000; decide, Z.ox, ha, ?_⟩
  refine ⟨_, rfl, _, rfl, a, CP, rfl, Z.ox, Z.n1, .inl ⟨ha, fun dx h1 h2 => ?_⟩⟩
  refine ⟨_, rfl, _, rfl, a, CP, rfl, Z.ox, Z.n2, .inr ⟨dx, _, upd_same, by rw [upd_ne h2]; exact upd_same, by show 1 ≤ 900; decide, q dx h1 h2⟩⟩
theorem ok_roomsx (O : Own mg) (T : RoomC K C) (TI : KindC K C) (kT : PySem.W.kitOne K (.ref C) (.type "tuple") = some false) (mR : mg "Room" = some (.ref C)) (F : Fun K "are_rooms" "are_rooms" sRooms f fd) {t8 : Tok} (m8 : mg "MOST_ROOMS" = some (.int 8 t8)) : FnOk P w K mg base CX0 1 f fd ["things"] (spRoomsX C) := by
  refine F.ok scRooms (fun vs H Q E h => ?_) (fun cdv A outer s H vs Q E hr h => ?_)
  · obtain ⟨v, rfl, _⟩ := h
    rfl
  obtain ⟨v, rfl, no, q⟩ := h
  have hs : sizeLine = 16777216 := sizeLine_eq
  refine ⟨_, pss_cons (ps_if (PW.pt (pw_or (pt_not (pt_val (pe_callB call_isi rfl O.isi (by decide +kernel) (pa_cons (pv 0) (pa_cons (pe_bltn (v := .ty "tuple") rfl O.tuple (by decide +kernel) rfl) pa_nil)))))
      (pw_or1 (pt_not (pt_chain op_le op_le pe_int (pe_callB call_len_seq rfl O.len PySem.boot_len (pa_cons (pv 0) pa_nil)) (pe_glob (v := .int 8) rfl m8 ⟨_, rfl⟩)))))) (pss_one (ps_ret pe_bl)) pss_nil)
    (pss_one (ps_ret (pe_callB (cr_all rfl) rfl O.all (by decide +kernel) (pa_cons (pe_lc (own := [("thing", 1)]) (g := gName 1) (tt := tYes) rfl scRooms.nd
            (pi_tup (pv 0)) (blkOk_by (N := ["things", "thing"]) (sc := defScope sRooms) (by decide +kernel))
            (fun _ _ _ _ _ => pg_name (i := 1) scRooms.nd rfl (Or.inl rfl)) (fun _ _ _ _ _ => pts_nil)
            (fun _ _ _ _ _ => pe_callB (show CallR _ (.builtin "isinstance") (rIsi K) from call_isi) rfl O.isi (by decide +kernel) (pa_cons (pv 1) (pa_cons (pe_glob (v := .ref C) rfl mR rfl) pa_nil)))) pa_nil)))), ?_⟩
  cases no with
  | oth h =>
    obtain ⟨t, h, k⟩ : ∃ t, TyX K H v t ∧ PySem.W.kitOne K t (.type "tuple") = some false := by
      cases h with
      | non => exact ⟨_, .base .non, kb "NoneType" "tuple" false⟩
      | int i => exact ⟨_, .base (.int i), kb "int" "tuple" false⟩
      | str x => exact ⟨_, .base (.str x), kb "str" "tuple" false⟩
      | lst h => exact ⟨_, .base (.lst h), kb "list" "tuple" false⟩
      | dK h => exact ⟨_, .base (.dK h), kb "dict" "tuple" false⟩
      | ins h => exact ⟨_, .base (.ins h T.cl TI.ha TI.hn TI.htk TI.hm), kT⟩
    exact ⟨_, rfl, _, _, _, _, false, rfl, .ty "tuple", h, k, _, rfl, itT rfl (q H same_refl)⟩
  | @len R xs hR l =>
    refine ⟨_, rfl, _, _, _, _, true, rfl, .ty "tuple", .base (.tup hR), kb "tuple" "tuple" true, _, rfl, itF rfl ?_⟩
    refine ⟨_, rfl, R, _, rfl, .inr (SqT.of hR), _, _, rfl, rfl, _, rfl, ?_⟩
    by_cases c : 1 ≤ (xs.length : Int)
    · refine itT (decide_eq_true c) ⟨_, _, rfl, rfl, _, rfl, itT ?_ (q H same_refl)⟩
      show (!decide ((xs.length : Int) ≤ 8)) = true
      rw [decide_eq_false (by omega)]
      rfl
    · refine itF (decide_eq_false c) ⟨_, rfl, itT rfl (q H same_refl)⟩
  | @one R as x hR l k n =>
    refine ⟨_, rfl, _, _, _, _, true, rfl, .ty "tuple", .base (.tup hR), kb "tuple" "tuple" true, _, rfl, itF rfl ?_⟩
    have hlen : (as.map V.ref ++ [x]).length = as.length + 1 := by rw [List.length_append, List.length_map]; rfl
    refine ⟨_, rfl, R, _, rfl, .inr (SqT.of hR), _, _, rfl, rfl, _, rfl, itT ?_ ⟨_, _, rfl, rfl, _, rfl, itF ?_ ?_⟩⟩
    · exact decide_eq_true (by rw [hlen]; omega)
    · show (!decide (((as.map V.ref ++ [x]).length : Int) ≤ 8)) = false
      rw [decide_eq_true (by rw [hlen]; omega)]
      rfl
    refine ⟨_, rfl, R, rfl, ⟨_, SqT.of hR⟩, fun D hD => ?_⟩
    refine turns_tup (K := K) (a := R) (xs := as.map V.ref ++ [x]) ((as.map (fun _ => true) ++ [false]).map fun b => some (V.bl b)) hD (fun Hc sm => SqT.of (sm _ _ hR)) (by rw [List.length_map, List.length_append, List.length_map, hlen]; rfl) (by rw [hlen]; omega) ?_ ?_
    · intro i z o Hc Y N hz ho sm hY hN
      by_cases c : i < as.length
      · rw [List.getElem?_append_left (by rw [List.length_map]; exact c)] at hz
        rw [List.getElem?_map, List.getElem?_append_left (by rw [List.length_map]; exact c), List.getElem?_map, List.getElem?_eq_getElem c] at ho
        have eo : o = some (.bl true) := (Option.some.inj ho).symm
        obtain ⟨e, he, rfl⟩ := refs_at hz
        obtain ⟨dx, fs, h1⟩ := k e (List.mem_of_getElem? he)
        exact ⟨rfl, _, rfl, _, _, _, _, true, rfl, .own C, .base (.ins (sm _ _ h1) T.cl TI.ha TI.hn TI.htk TI.hm), TI.one, hY _ eo Hc same_refl⟩
      · have i1 : i = as.length := by
          have := (List.getElem?_eq_some_iff.mp hz).1
          rw [hlen] at this
          omega
        subst i1
        rw [List.getElem?_append_right (by rw [List.length_map]; exact Nat.le_refl _), List.length_map, Nat.sub_self] at hz
        rw [List.getElem?_map, List.getElem?_append_right (by rw [List.length_map]; exact Nat.le_refl _), List.length_map, Nat.sub_self] at ho
        have ez : z = x := (Option.some.inj hz).symm
        have eo : o = some (.bl false) := (Option.some.inj ho).symm
        subst ez
        obtain ⟨t, h1, h2⟩ := (n.keep sm).kit TI
        exact ⟨rfl, _, rfl, _, _, _, _, false, rfl, .own C, h1, h2, hY _ eo Hc same_refl⟩
    · intro Hc hc sm
      rw [fm_bl] at hc
      refine ⟨D, _, rfl, SqL.of hc, ?_⟩
      rw [List.all_append]
      have e : ([false] : List Bool).all id = false := rfl
      rw [e, Bool.and_false]
      exact q Hc sm
/-- Program(..) of such a thing -/
def spPInitX (C D CP : Addr) : Sp := fun vs H _ E => ∃ (x dx : Addr) (v : V), vs = [.ref x, v] ∧ H x = some (.ins D dx []) ∧ NoRms C H v ∧ ∀ b H', Same H H' → H' b = some (.xd npF) → E (.ref CP) (some b) H'
theorem ok_pinitx {T_ : List NTab} (O : Own mg) (mr : mg "range" = none) (Z : NoProgC K mg CP) (iN : PySem.W.findIn K (.ref CP) "__init__" = some (some (.ref nf))) (tN : PySem.W.typeIn K (.ref nf) = some (.type "function")) (GN : FnOk P w K mg base CX0 1 nf nd ["self", "room", "why"] (spNP CP)) (bN : Binds K nd ["self", "room", "why"] [])
    (F : Fun K "__init__" "Program.__init__" sPInit f fd) (G1 : Df P w K mg base 1 "are_rooms" ["things"] (spRoomsX C)) (G2 : Df P w K mg base 29 "fault_of" psRA (spFault T_ C)) :
    FnOk P w K mg base (L2.CX P w) 30 f fd ["self", "rooms"] (spPInitX C D CP) := by
  refine fun_okX F scPInit (fun vs H Q E h => ?_) (fun cdv A outer s H vs Q E hr h => ?_)
  · obtain ⟨x, dx, v, rfl, _⟩ := h
    rfl
  obtain ⟨x, dx, v, rfl, hx, no, q⟩ := h
  let X := cxOf (L2.CX P w) P w K mg base ["self", "rooms", "at", "why"] "Program.__init__" (defScope sPInit) f cdv A outer s H E
  have tk : Takes X (fun cls d _ H => E cls d H) := takes_of rfl rfl rfl rfl
  have hr29 : Room 29 X.A := hr
  refine ⟨_, pss_cons (ps_if (pt_not (pt_val (pe_D G1 (hr29.mono (by decide)) rfl (pa_cons (pv 1) pa_nil)))) (pss_one (ps_raise rfl tk (pmk_oex Z.ox iN tN GN (hr29.mono (by decide)) bN .nil pass0 rfl Z.mP (pa_cons (pe_un un_neg pe_int) (pa_cons pe_str pa_nil))))) pss_nil)
    (pss_cons (ps_for (passes_of rfl) rfl (pi_range1 rfl mr (pa_cons (pe_callB call_len_seq rfl O.len PySem.boot_len (pa_cons (pv 1) pa_nil)) pa_nil)) (pg_name (i := 2) scPInit.nd rfl (Or.inl rfl))
      (pss_cons (ps_set (i := 3) scPInit.nd rfl (Or.inl rfl) (pe_D G2 hr29 rfl (pa_cons (pv 1) (pa_cons (pv 2) pa_nil))))
      (pss_one (ps_if (pt_cmpR op_ne (pv 3) pe_str (nomark _)) (pss_one ps_never) pss_nil))))
    (pss_cons (ps_fld (pv 0) (pv 1) rfl) (pss_one (ps_fld (pv 0) (pe_tup pa_nil) rfl)))), ?_⟩
  exact ⟨_, rfl, v, rfl, no, fun H1 s1 => ⟨_, rfl, itT rfl ⟨_, rfl, np_made fun d H' s2 hd => q d H' (s1.trans s2) hd⟩⟩⟩
end
end Any
set_option pp.maxSteps 600
set_option maxHeartbeats 1000000
namespace Any
open L2 PySem PySem.Spec PyProof.Rows LamX NdefX
/-! ### isinstance of a caught exception -/
section
variable {X : Cx} {a D : Addr} {oe : Obj} {cls : Value} {d : Option Addr} {pn : List (Addr × Obj)}
/-- the class, and the dict if it has one, of what was caught -/
def Held (cls : Value) (d : Option Addr) (D : Addr) (H : Hp) : Prop := cls = .ref D ∧ (d = none ∨ ∃ (b : Addr) (fs : List (Str × V)), d = some b ∧ H b = some (.xd fs))
theorem held_kit (C : ExcC X.K D) (hz : Zc cls d oe) (hf : ∃ vs, oe.data = .fields vs) {pins : List (Addr × Obj)} {σ : L2.St} {H : Hp} {s : Shared} (I : Inv (X.suite a ((a, oe) :: pn)) pins σ H s) (h : Held cls d D H) :
    ∃ Pr : Heap → Prop, PySem.W.KitX X.K (.ref a) (.ref D) Pr ∧ Pr s.heap := by
  obtain ⟨rfl, h⟩ := h
  have at_ := (I.pin (a, oe) (List.mem_append_left _ List.mem_cons_self)).1
  obtain ⟨vs, ev⟩ := hf
  have hcl : (PySem.W.clsIn X.K D).isSome = true := by
    obtain ⟨cd, hc, _⟩ := PySem.W.any_some C.hd
    rw [hc]
    rfl
  rcases h with rfl | ⟨b, fs, rfl, hb⟩
  · refine ⟨_, PySem.W.kitx_exc (ox := oe) (od := none) hcl C.hg C.hk C.hs C.ha C.hn C.ht C.hm, at_, hz.1, ?_, ?_⟩
    · unfold PySem.W.notCls
      rw [ev]
    · rw [hz.2]
      trivial
  · obtain ⟨mA, ns, _⟩ := (show ObjOk X.prog X.w H s.heap b (.xd fs) from I.hok b _ hb)
    obtain ⟨od, ho, _⟩ := lookIn_ns ns
    refine ⟨_, PySem.W.kitx_exc (ox := oe) (od := some od) hcl C.hg C.hk C.hs C.ha C.hn C.ht C.hm, at_, hz.1, ?_, ?_⟩
    · unfold PySem.W.notCls
      rw [ev]
    · rw [hz.2]
      exact ho
theorem call_isX1 (C : ExcC X.K D) (hz : Zc cls d oe) (hf : ∃ vs, oe.data = .fields vs) : CallR (X.suite a ((a, oe) :: pn)) (.builtin "isinstance")
    (fun xs H Q => ∃ (c : V) (u : Value) (b : Bool), xs = [.ref a, c] ∧ Held cls d D H ∧ ClsV c u ∧ PySem.W.kitOne X.K (.ref D) u = some b ∧ Q (.bl b) H) := by
  intro pins s σ H xs us Q I r h
  obtain ⟨c, u, b, rfl, hh, cv, e, q⟩ := h
  obtain ⟨u1, u2, rfl, r1, r2⟩ := vals2 r
  obtain rfl := cv.eq r2
  cases r1
  obtain ⟨Pr, Z, z⟩ := held_kit C hz hf I hh
  exact PySem.W.kia_one Z I.kIn z e (fun z => nomatch z) fun tk => ⟨.bl b, H, I.tok tk, rfl, q⟩
theorem call_isXT (C : ExcC X.K D) (hz : Zc cls d oe) (hf : ∃ vs, oe.data = .fields vs) : CallR (X.suite a ((a, oe) :: pn)) (.builtin "isinstance")
    (fun xs H Q => ∃ (tp : Addr) (cs : List V) (us : List Value) (b : Bool), xs = [.ref a, .ref tp] ∧ Held cls d D H ∧ H tp = some (.tup cs) ∧ Paired ClsV cs us ∧ PySem.W.kitAny X.K (.ref D) us = some b ∧ Q (.bl b) H) := by
  intro pins s σ H xs us Q I r h
  obtain ⟨tp, cs, ws, b, rfl, hh, ht, pc, e, q⟩ := h
  obtain ⟨u1, u2, rfl, r1, r2⟩ := vals2 r
  cases r1
  cases r2
  obtain ⟨Pr, Z, z⟩ := held_kit C hz hf I hh
  obtain ⟨_, its, rv, ot, g1, g2, n, g3⟩ := (show ObjOk X.prog X.w H s.heap tp (.tup cs) from I.hok tp _ ht)
  obtain rfl := ClsV.all pc rv
  obtain ⟨tc, td, tdat, tsl⟩ := ot
  simp only at g2 g3
  subst g2 g3
  exact PySem.W.kia_tup Z I.kIn z g1 e (fun z => nomatch z) fun tk => ⟨.bl b, H, I.tok tk, rfl, q⟩
end
/-- a reading, for a weaker wish -/
theorem pe_weak {X : Cx} {e : Expr} {t : TE} (h : PE X e t) : PE X e (fun σ H Q => ∃ Q1 : VK, t σ H Q1 ∧ ∀ v H', Q1 v H' → Q v H') := by
  refine ⟨fun pins s σ H Q I hq => ?_⟩
  obtain ⟨Q1, h1, h2⟩ := hq
  exact thn (h.run pins s σ H Q1 I h1) fun u s1 ⟨v, H1, I1, r1, q1⟩ => ⟨v, H1, I1, r1, h2 v H1 q1⟩
/-- x(), x being what was got, where what passes may look at the slots -/
theorem pe_askW {Z : Cx} {fs : List Addr} {s : Shared} {H : Hp} {f c' : Addr} {q x : Str} {j i : Nat} {tl : XK → Hp → VK → Prop} {p1 p2 : Pos} (a : Asked Z.prog Z.w Z.K Z.mg Z.base fs s H f c' q j tl) (u : ∀ {pins : List (Addr × Obj)} {σ : L2.St} {H' : Hp} {s' : Shared}, Inv Z pins σ H' s' → Un fs [] H H' s.heap s'.heap) (hG : Z.A.guards = some []) (hr : Room j Z.A)
    (hN : Z.N[i]? = some x) (hv : Vis Z.env.scope x) (hd : (x == ("__debug__" : Str)) = false := by decide) (hcd : (x == ("__classdict__" : Str)) = false := by decide) :
    PE Z (.Call (.Name x p1) [] [] p2) (fun σZ HZ Q => σZ[i]? = some (some (.ref f)) ∧ HZ c' = some (CodeO c' q) ∧ ∃ E : XK, PassesAt (L2.CX Z.prog Z.w) Z σZ E ∧ tl E HZ Q) := by
  refine ⟨fun pinsZ sZ σZ HZ Q IZ h => ?_⟩
  obtain ⟨hs, hc, E, hx, ht⟩ := h
  refine wpAny_Call_Name_kw (thn ((pe_var (pos := p1) (i := i) hN hv hd hcd).run pinsZ sZ σZ HZ (fun v H1 => v = .ref f ∧ H1 = HZ) IZ ⟨.ref f, hs, rfl, rfl⟩) fun v0 s1 ⟨v, H1, I1, r1, q1⟩ => ?_)
  obtain ⟨ev, eH⟩ := q1
  subst ev
  rw [eH] at I1
  obtain rfl : v0 = Value.ref f := r1
  refine PySem.W.callWith_F0 (a.at_ _ _ (u I1)) ?_
  refine wpAny_call (codeAny_mono (a.run Z.A Z.stack s1 HZ Q E hG hr I1.env0 (u I1) hc ht) fun r s' hq => ?_)
  cases r with
  | error e => exact hx pinsZ HZ s1 e s' I1 hq
  | ok fl =>
    cases fl with
    | ret v => exact I1.after hq
    | next => exact False.elim hq
    | brk => exact False.elim hq
    | cont => exact False.elim hq
/-! ### _law_refused -/
abbrev sRf : Stmt := top 84
abbrev nmRf : List Str := ["_law_deed", "e", "far"]
abbrev psRf : List Str := ["_law_deed"]
theorem scRf : FnScope nmRf psRf (defScope sRf) := ⟨rfl, rfl, rfl, by decide +kernel, rfl, by decide +kernel, by decide +kernel⟩
/-- what is known of the classes that it names -/
structure RfC (K : PySem.W.Frag) (mg : Str → Option Value) (CN CP : Addr) : Prop where
  nr : NoRoomC K mg CN
  np : NoProgC K mg CP
  off : PySem.W.exmOne K (.ref CN) (.ref CP) = some false
/-- what a right refusal is -/
def RfN (CN : Addr) (H : Hp) (v : V) : XK := fun cls d H' => cls = .ref CN ∧ ∃ b, d = some b ∧ H' b = some (.xd [("name", v)]) ∧ Same H H'
def RfP (CP : Addr) (H : Hp) : XK := fun cls d H' => cls = .ref CP ∧ ∃ b, d = some b ∧ H' b = some (.xd npF) ∧ Same H H'
def TTrf (CN CP : Addr) : (XK → Hp → VK → Prop) → List V → Hp → VK → Prop := fun tl vs H Q => vs = [] ∧
  ((∃ v, tl (RfN CN H v) H (fun _ _ => False) ∧ ∀ p H', Same H H' → H' p = some (.tup [.str "NoRoom", v, .bl true]) → Q (.ref p) H') ∨
   (tl (RfP CP H) H (fun _ _ => False) ∧ ∀ p H', Same H H' → H' p = some (.tup [.str "NoProgram", .int (-1), .str "rooms"]) → Q (.ref p) H'))
section
variable {P : Program} {w : World} {K : PySem.W.Frag} {mg : Str → Option Value} {base : Heap} {f CN CP : Addr} {fd : FuncData}
theorem ok_rf (O : Own mg) (R : RfC K mg CN CP) (m : mg "_law_refused" = some (.ref f)) (F : Fun K "_law_refused" "_law_refused" sRf f fd) (hB : Binds K fd psRf []) (j : Nat) : DfL P w K mg base j "_law_refused" (TTrf CN CP) := by
  refine ⟨f, m, F.kp, ?_⟩
  intro A outer s H fl c' q us vs Q tl hG hr e0 ask hc rv h
  obtain ⟨rfl, h⟩ := h
  cases rv
  obtain ⟨_, _, _, _, _, _, cv, _, _, rfl, lk, hcd⟩ := F.ex
  refine run_ofS (N := nmRf) (ps := psRf) (us := [.ref fl]) (vs := [.ref fl]) (CX := CX0) (E := E0) lk hcd scRf hr e0 (hB s [.ref fl] (e0.mod.kin.keeps fun b o z => (e0.bs b o z).1) rfl) (.cons rfl .nil) rfl fun hr' => ?_
  let X := (cxOf CX0 P w K mg base nmRf "_law_refused" (defScope sRf) f cv A outer s H E0).nox
  have hu : X.A.units + 70 < cLine := by have := hr'.un; show (A.deeper _).units + 70 < cLine; omega
  have hs : sizeLine = 16777216 := sizeLine_eq
  have hGX : X.A.guards = some [] := hG
  refine ⟨_, PSs.nox (pss_cons (ps_try_manyAn (X := X) (tb := fun W D σ H => ∃ Ech : XK, (∀ cls d H', Ech cls d H' → W cls d σ H') ∧ ∃ Q1 : VK, (σ[0]? = some (some (V.ref fl)) ∧ H c' = some (CodeO c' q) ∧ tl Ech H Q1) ∧ ∀ v H', Q1 v H' → D.nx σ H')
      rfl rfl scRf.nd LamX.takes0
      (fun W pn xe tk _ => ⟨fun pins s' σ H' D I ⟨Ech, hW, Q1, ⟨e1, e2, e3⟩, h'⟩ => (pss_one (ps_expr (pe_weak (pe_askW (Z := X.tr pn xe) (i := 0) ask (fun I => I.base) hG hr' rfl (.inl rfl))))).run pins s' σ H' D I
          (show tDrop _ D σ H' from ⟨Q1, ⟨e1, e2, Ech, fun pins H s e s' I c => tk e s' (XE.of_call I (fun cls d H' h => hW cls d H' h) c), e3⟩, h'⟩)⟩)
      (.cons (n := "e") (i := 1) rfl rfl (c := .ref CP) ⟨rfl, by decide, .inl R.np.mP⟩ (fun a oe cls d pn hz hf =>
        pss_one (ps_ret (pe_tup (pa_cons pe_str (pa_cons (pe_xf R.np.xf R.np.n1 hz hf (pv 1)) (pa_cons (pe_xf R.np.xf R.np.n2 hz hf (pv 1)) pa_nil))))))
      (.cons (n := "far") (i := 2) rfl rfl (c := .ref CN) ⟨rfl, by decide, .inl R.nr.mN⟩ (fun a oe cls d pn hz hf =>
        pss_one (ps_ret (pe_tup (pa_cons pe_str (pa_cons (pe_xf R.nr.xf R.nr.no hz hf (pv 2)) (pa_cons (pe_callB (call_isX1 R.nr.ex hz hf) rfl O.isi (by decide +kernel) (pa_cons (pv 2) (pa_cons (pe_bltn (v := .ty "LookupError") rfl R.nr.mL (by decide +kernel) rfl) pa_nil))) pa_nil)))))) .nil)))
    (pss_one (ps_ret pe_non))), ?_⟩
  rcases h with ⟨v, h, q1⟩ | ⟨h, q1⟩
  · refine ⟨RfN CN H v, fun cls d H' hE => ?_, _, ⟨rfl, hc, h⟩, fun v H' h' => h'.elim⟩
    obtain ⟨rfl, b, rfl, hb, sm⟩ := hE
    refine ⟨false, R.off, (fun z => nomatch z), fun _ => ⟨true, R.nr.me, fun _ a ha => ?_, fun z => nomatch z⟩⟩
    refine ⟨_, rfl, rfl, rfl, b, _, _, rfl, hb, lk_hit, _, rfl, _, _, true, rfl, ⟨rfl, .inr ⟨b, _, rfl, hb⟩⟩, .ty "LookupError", R.nr.le, (by show 3 ≤ sizeLine; omega), fun p hp => ?_⟩
    exact q1 p _ (sm.trans (same_new hp _)) upd_same
  · refine ⟨RfP CP H, fun cls d H' hE => ?_, _, ⟨rfl, hc, h⟩, fun v H' h' => h'.elim⟩
    obtain ⟨rfl, b, rfl, hb, sm⟩ := hE
    refine ⟨true, R.np.me, fun _ a ha => ?_, fun z => nomatch z⟩
    refine ⟨_, rfl, rfl, rfl, b, _, _, rfl, hb, (lk_skip (by decide +kernel)).trans lk_hit, _, rfl, rfl, rfl, b, _, _, rfl, hb, lk_hit, (by show 3 ≤ sizeLine; omega), fun p hp => ?_⟩
    exact q1 p _ (sm.trans (same_new hp _)) upd_same
end
/-! ### _law_many -/
abbrev sLm : Stmt := top 82
theorem scLm : FnScope ["_law_deeds", "_law_found", "_law_step"] ["_law_deeds"] (defScope sLm) := ⟨rfl, rfl, rfl, by decide +kernel, rfl, by decide +kernel, by decide +kernel⟩
def spLm (n : Nat) : Sp := fun vs H Q _ => ∃ a bd, vs = [.ref a] ∧ BdAt H a bd ∧ bd.dp < n ∧ bd.tot ≤ 1000 ∧ Q (.int bd.tot) H
end Any
set_option pp.maxSteps 600
set_option maxHeartbeats 1000000
namespace Any
open L2 PySem PySem.Spec PyProof.Rows LamX NdefX
section
variable {P : Program} {w : World} {K : PySem.W.Frag} {mg : Str → Option Value} {base : Heap} {f : Addr} {fd : FuncData}
theorem no_lm : FnOk P w K mg base CX0 1 f fd ["_law_deeds"] (spLm 0) := by
  have no : ∀ vs H Q E, ¬ spLm 0 vs H Q E := fun vs H Q E h => by
    obtain ⟨a, bd, _, _, h, _⟩ := h
    exact absurd h (Nat.not_lt_zero _)
  exact ⟨fun vs H Q E h => absurd h (no vs H Q E), fun A outer s H args us vs Q E _ _ _ _ h => absurd h (no vs H Q E)⟩
theorem ok_lm {n : Nat} (F : Fun K "_law_many" "_law_many" sLm f fd) (G : Df P w K mg base (n + 1) "_law_many" ["_law_deeds"] (spLm n)) : FnOk P w K mg base CX0 (n + 2) f fd ["_law_deeds"] (spLm (n + 1)) := by
  refine F.ok scLm (fun vs H Q E h => ?_) (fun cdv A outer s H vs Q E hr h => ?_)
  · obtain ⟨a, bd, rfl, _⟩ := h
    rfl
  obtain ⟨a, bd, rfl, ⟨us, ha, hB⟩, hdp, htot, q⟩ := h
  refine ⟨_, pss_cons (ps_set (i := 1) scLm.nd rfl (Or.inl rfl) pe_int)
    (pss_cons (ps_for PassesOwn.never rfl (pi_tup (pv 0)) (pg_name (i := 2) scLm.nd rfl (Or.inl rfl))
      (pss_cons (ps_set (i := 1) scLm.nd rfl (Or.inl rfl) (pe_op op_add (pv 1) pe_int))
      (pss_one (ps_if (pt_cmpR op_eq (pe_ix ix_tup (pv 2) pe_int (fun _ _ => rfl)) pe_str (nomark _))
        (pss_one (ps_set (i := 1) scLm.nd rfl (Or.inl rfl) (pe_op op_add (pe_op op_add (pv 1) (pe_D G hr rfl (pa_cons (pe_ix ix_tup (pv 2) pe_int (fun _ _ => rfl)) pa_nil))) (pe_D G hr rfl (pa_cons (pe_ix ix_tup (pv 2) pe_int (fun _ _ => rfl)) pa_nil)))))
        (pss_one (ps_if (pt_cmpR op_eq (pe_ix ix_tup (pv 2) pe_int (fun _ _ => rfl)) pe_str (nomark _))
          (pss_one (ps_set (i := 1) scLm.nd rfl (Or.inl rfl) (pe_op op_add (pv 1) (pe_D G hr rfl (pa_cons (pe_ix ix_tup (pv 2) pe_int (fun _ _ => rfl)) pa_nil))))) pss_nil))))))
    (pss_one (ps_ret (pv 1)))), ?_⟩
  have pr := hB.paired
  have tl := bd.tot_eq
  refine ⟨_, rfl, a, rfl, ⟨_, SqT.of ha⟩, ?_⟩
  refine for_tup (K := K) (a := a) (xs := us) (fun i σ Hc => ∃ y, σ = [some (.ref a), some (.int (((bd.toL.take i).map Sg.tot).sum : Nat)), y] ∧ Hc = H) ⟨_, rfl, rfl⟩ ?_ ?_ ?_
  · rintro i σ Hc _ ⟨y, rfl, rfl⟩
    exact SqT.of ha
  · rintro i v σ Hc hx ⟨y, rfl, rfl⟩
    obtain ⟨sg, hg, hv⟩ := paired_get pr hx
    have e1 := sum_take Sg.tot hg
    have e2 := sum_take_le Sg.tot bd.toL (i + 1)
    have mem : sg ∈ bd.toL := List.mem_of_getElem? hg
    have dpl := Bd.dp_mem mem
    refine ⟨_, rfl, _, _, rfl, rfl, ?_⟩
    cases sg with
    | set x e =>
      unfold SgAt at hv
      obtain ⟨b, u, rfl, h1, h2⟩ := hv
      refine ⟨_, rfl, b, _, _, _, rfl, rfl, SqT.of h1, atI_nat (j := 0) rfl, rfl, _, rfl, itF (by decide +kernel) ⟨_, rfl, b, _, _, _, rfl, rfl, SqT.of h1, atI_nat (j := 0) rfl, rfl, _, rfl, itF (by decide +kernel) ⟨some (.ref b), ?_, rfl⟩⟩⟩
      rw [e1]; rfl
    | say x e =>
      unfold SgAt at hv
      obtain ⟨b, u, rfl, h1, h2⟩ := hv
      refine ⟨_, rfl, b, _, _, _, rfl, rfl, SqT.of h1, atI_nat (j := 0) rfl, rfl, _, rfl, itF (by decide +kernel) ⟨_, rfl, b, _, _, _, rfl, rfl, SqT.of h1, atI_nat (j := 0) rfl, rfl, _, rfl, itF (by decide +kernel) ⟨some (.ref b), ?_, rfl⟩⟩⟩
      rw [e1]; rfl
    | hear x =>
      unfold SgAt at hv
      obtain ⟨b, rfl, h1⟩ := hv
      refine ⟨_, rfl, b, _, _, _, rfl, rfl, SqT.of h1, atI_nat (j := 0) rfl, rfl, _, rfl, itF (by decide +kernel) ⟨_, rfl, b, _, _, _, rfl, rfl, SqT.of h1, atI_nat (j := 0) rfl, rfl, _, rfl, itF (by decide +kernel) ⟨some (.ref b), ?_, rfl⟩⟩⟩
      rw [e1]; rfl
    | call x r e =>
      unfold SgAt at hv
      obtain ⟨b, u, rfl, h1, h2⟩ := hv
      refine ⟨_, rfl, b, _, _, _, rfl, rfl, SqT.of h1, atI_nat (j := 0) rfl, rfl, _, rfl, itF (by decide +kernel) ⟨_, rfl, b, _, _, _, rfl, rfl, SqT.of h1, atI_nat (j := 0) rfl, rfl, _, rfl, itF (by decide +kernel) ⟨some (.ref b), ?_, rfl⟩⟩⟩
      rw [e1]; rfl
    | ifs t p r =>
      have e3 : (Sg.ifs t p r).tot = 1 + (p.tot + r.tot) := rfl
      have e4 : (Sg.ifs t p r).dp = max p.dp r.dp + 1 := rfl
      unfold SgAt at hv
      obtain ⟨b, u, b1, b2, vs, us', rfl, h1, h2, h3, h4, h5, h6⟩ := hv
      refine ⟨_, rfl, b, _, _, _, rfl, rfl, SqT.of h1, atI_nat (j := 0) rfl, rfl, _, rfl, itT (by decide +kernel) ?_⟩
      refine ⟨_, rfl, _, rfl, b, _, _, _, rfl, rfl, SqT.of h1, atI_nat (j := 2) rfl, b1, p, rfl, ⟨vs, h3, h4⟩, by omega, by omega, _, _, rfl, rfl, ?_⟩
      refine ⟨_, rfl, b, _, _, _, rfl, rfl, SqT.of h1, atI_nat (j := 3) rfl, b2, r, rfl, ⟨us', h5, h6⟩, by omega, by omega, _, _, rfl, rfl, ⟨some (.ref b), ?_, rfl⟩⟩
      have e5 : ((((bd.toL.take (i + 1)).map Sg.tot).sum : Nat) : Int) = (((bd.toL.take i).map Sg.tot).sum : Nat) + 1 + (p.tot : Int) + (r.tot : Int) := by omega
      rw [e5]
      rfl
    | fors e m p =>
      have e3 : (Sg.fors e m p).tot = 1 + p.tot := rfl
      have e4 : (Sg.fors e m p).dp = p.dp + 1 := rfl
      unfold SgAt at hv
      obtain ⟨b, u, b1, vs, rfl, h1, h2, h3, h4⟩ := hv
      refine ⟨_, rfl, b, _, _, _, rfl, rfl, SqT.of h1, atI_nat (j := 0) rfl, rfl, _, rfl, itF (by decide +kernel) ⟨_, rfl, b, _, _, _, rfl, rfl, SqT.of h1, atI_nat (j := 0) rfl, rfl, _, rfl, itT (by decide +kernel) ?_⟩⟩
      refine ⟨_, rfl, _, rfl, b, _, _, _, rfl, rfl, SqT.of h1, atI_nat (j := 3) rfl, b1, p, rfl, ⟨vs, h3, h4⟩, by omega, by omega, _, _, rfl, rfl, ⟨some (.ref b), ?_, rfl⟩⟩
      have e5 : ((((bd.toL.take (i + 1)).map Sg.tot).sum : Nat) : Int) = (((bd.toL.take i).map Sg.tot).sum : Nat) + 1 + (p.tot : Int) := by omega
      rw [e5]
      rfl
  · rintro σ Hc ⟨y, rfl, rfl⟩
    refine ⟨_, rfl, ?_⟩
    have l : us.length = bd.toL.length := paired_len pr
    rw [l, List.take_length, ← tl]
    exact q
theorem all_lm (N : Nd K mg "_law_many" sLm ["_law_deeds"]) : ∀ n, Df P w K mg base (n + 1) "_law_many" ["_law_deeds"] (spLm n) := by
  obtain ⟨f, fd, hm, F, hb⟩ := N
  intro n
  induction n with
  | zero => exact ⟨f, fd, hm, F.kp, no_lm, hb⟩
  | succ n ih => exact ⟨f, fd, hm, F.kp, ok_lm F ih, hb⟩
end
end Any
set_option pp.maxSteps 600
set_option maxHeartbeats 4000000
namespace Any
open L2 PySem PySem.Spec PyProof.Rows
/-! ### t * 0, t * 1 -/
theorem tuple_mulS (l : Addr) (items : Array Value) (n : Nat) (dd : Option Addr) (sl : Array (Option Value)) (x : Int) (u : Tok) (c0 : (decide (x < -(2 ^ 63)) || decide (x ≥ 2 ^ 63)) = false) (c1 : (items.isEmpty || x == 1) = true) :
    Meets (Builtin.«tuple.__mul__» ⟨[.ref l, .int x u], []⟩) (fun _ R s => s.heap.get? l = some { cls := .type "tuple", dict := dd, data := .seq items n, slots := sl } ∧ R (.ok (.ret (Value.ref l))) s) :=
  .of_wp fun prog w A R s h => by
    obtain ⟨hp, g, d, tk, os⟩ := s
    obtain ⟨hl, h⟩ := h
    have f1 := AutoSeq1.idx_int
    wp_walk using wpAny_loadPart' hl
    repeat (first
      | (refine wpAny_ite_false (decide_eq_false (by rw [c0]; exact Bool.false_ne_true)) ?_; wp_walk using wpAny_loadPart' hl)
      | (refine wpAny_ite_true (decide_eq_true c1) ?_; wp_walk using wpAny_loadPart' hl))
    exact ⟨_, rfl, h⟩
theorem tuple_mul0 (l : Addr) (items : Array Value) (n : Nat) (dd : Option Addr) (sl : Array (Option Value)) (u : Tok) (c1 : (items.isEmpty || (0 : Int) == 1) = false) :
    Meets (Builtin.«tuple.__mul__» ⟨[.ref l, .int 0 u], []⟩) (fun _ R s => s.heap.get? l = some { cls := .type "tuple", dict := dd, data := .seq items n, slots := sl } ∧
      R (.ok (.ret (Value.ref s.heap.objs.size))) { s with heap := s.heap.push { cls := Value.type "tuple", data := Data.seq #[] }, toks := s.toks }) :=
  .of_wp fun prog w A R s h => by
    obtain ⟨hp, g, d, tk, os⟩ := s
    obtain ⟨hl, h⟩ := h
    have f1 := AutoSeq1.idx_int
    have c0 : (decide ((0 : Int) < -(2 ^ 63)) || decide ((0 : Int) ≥ 2 ^ 63)) = false := by decide
    have c2 : (decide ((0 : Int) ≤ 0) || items.isEmpty) = true := rfl
    wp_walk using wpAny_loadPart' hl
    repeat (first
      | (refine wpAny_ite_false (decide_eq_false (by rw [c0]; exact Bool.false_ne_true)) ?_; wp_walk using wpAny_loadPart' hl)
      | (refine wpAny_ite_false (decide_eq_false (by rw [c1]; exact Bool.false_ne_true)) ?_; wp_walk using wpAny_loadPart' hl)
      | (refine wpAny_ite_true (decide_eq_true c2) ?_; wp_walk using wpAny_loadPart' hl))
    exact ⟨_, rfl, h⟩
section
variable {X : Cx}
def rRep01 (K : PySem.W.Frag) : R2 := fun x y H Q => ∃ l k xs, x = .ref l ∧ y = .int k ∧ SqT K H l xs ∧ (k = 0 ∨ k = 1) ∧ (xs = [] ∨ k = 1 → Q (.ref l) H) ∧ (xs ≠ [] → k = 0 → ∀ p, H p = none → Q (.ref p) (upd H p (.tup [])))
theorem op_rep01 : OpR X (binaryOp .Mult) (rRep01 X.K) := by
  intro pins s σ H x y v u Q I rx ry h
  obtain ⟨l, k, xs, rfl, rfl, hT, hk, q1, q2⟩ := h
  cases rx
  obtain ⟨t, rfl⟩ := ry
  obtain ⟨its, r, ⟨⟨cls, dd, data, sl⟩, ho, hc, n, hd⟩, hs⟩ := I.tuple hT
  simp only at hc hd
  subst hc hd
  have hle : its.length = xs.length := r.length.symm
  have c0 : (decide (k < -(2 ^ 63)) || decide (k ≥ 2 ^ 63)) = false := by
    rcases hk with rfl | rfl <;> decide
  by_cases c : xs = [] ∨ k = 1
  · have c1 : (its.toArray.isEmpty || k == 1) = true := by
      rcases c with c | c
      · have : its = [] := List.eq_nil_of_length_eq_zero (by rw [hle, c]; rfl)
        rw [this]
        rfl
      · rw [c]
        simp
    refine wpAny_binaryOp_repeat_ref (T := "tuple") (U := "int") (by decide) ⟨_, ho, rfl⟩ (fun s' => typeIs_int s' k t) noFill_tuple_mul F.fills_int_mul F.slot_int_rmul repeat_tuple F.slot_int_index.lookup
      (call_meets F.slot_int_rmul (typeIs_int s k t) F.entry_int_rmul (F.args_int_rmul_2 _ _) (int_rmul_tuple k t l its.toArray n dd sl)
        ⟨ho, rfl, ⟨_, ho, rfl⟩, call_meets F.slot_tuple_mul ⟨_, ho, rfl⟩ F.entry_tuple_mul (F.args_tuple_mul_2 _ _) (tuple_mulS l its.toArray n dd sl k t c0 c1) ⟨ho, ?_⟩⟩)
    exact ⟨.ref l, H, I, rfl, q1 c⟩
  · have k0 : k = 0 := hk.elim id fun z => absurd (.inr z) c
    subst k0
    have c1 : (its.toArray.isEmpty || (0 : Int) == 1) = false := by
      cases its with
      | nil => exact absurd (.inl (List.eq_nil_of_length_eq_zero hle.symm)) c
      | cons a b => rfl
    refine wpAny_binaryOp_repeat_ref (T := "tuple") (U := "int") (by decide) ⟨_, ho, rfl⟩ (fun s' => typeIs_int s' 0 t) noFill_tuple_mul F.fills_int_mul F.slot_int_rmul repeat_tuple F.slot_int_index.lookup
      (call_meets F.slot_int_rmul (typeIs_int s 0 t) F.entry_int_rmul (F.args_int_rmul_2 _ _) (int_rmul_tuple 0 t l its.toArray n dd sl)
        ⟨ho, rfl, ⟨_, ho, rfl⟩, call_meets F.slot_tuple_mul ⟨_, ho, rfl⟩ F.entry_tuple_mul (F.args_tuple_mul_2 _ _) (tuple_mul0 l its.toArray n dd sl t c1) ⟨ho, ?_⟩⟩)
    refine ⟨.ref s.heap.objs.size, _, I.laid (t' := s.toks) (o := .tup []) (fun b ob q => Heap.get?_push_of_some _ q) (Nat.le_refl _) ?_, rfl, q2 (fun z => c (.inl z)) rfl _ (I.hok.fresh (Nat.le_refl _))⟩
    exact ⟨by decide, [], .nil, IsTup.new _ _⟩
end
end Any
set_option pp.maxSteps 600
set_option maxHeartbeats 1000000
namespace Any
open L2 PySem PySem.Spec PyProof.Rows LamX NdefX
theorem mk_catA {K : PySem.W.Frag} {H : Hp} {Q : VK} {a b : Addr} {xs ys : List V} (ha : H a = some (.tup xs)) (hb : H b = some (.tup ys)) (hl : xs.length + ys.length ≤ 1000) (q : ∀ (p : Addr) (H' : Hp), Same H H' → H' p = some (.tup (xs ++ ys)) → Q (.ref p) H') : rCatA K (.ref a) (.ref b) H Q := by
  have hs : sizeLine = 16777216 := sizeLine_eq
  refine ⟨a, b, xs, ys, rfl, rfl, SqT.of ha, SqT.of hb, by omega, fun z => ?_, fun _ z => ?_, fun _ _ p np => ?_⟩
  · subst z
    exact q b H (fun _ _ h => h) hb
  · subst z
    exact q a H (fun _ _ h => h) (by rw [List.append_nil]; exact ha)
  · exact q p _ (same_new np _) upd_same
/-- things drawn stay what they are, where the bag goes on -/
theorem NoTup.kept {C b : Addr} {H H' : Hp} {v : V} (h : NoTup C H v) (k : Kept b H H') (nb : v ≠ .ref b) : NoTup C H' v := by
  cases h with
  | non => exact .non
  | int i => exact .int i
  | str x => exact .str x
  | lst h => exact .lst (k _ _ (fun e => nb (by rw [e])) h)
  | dK h => exact .dK (k _ _ (fun e => nb (by rw [e])) h)
  | ins h => exact .ins (k _ _ (fun e => nb (by rw [e])) h)
theorem NoIns.kept {b : Addr} {H H' : Hp} {v : V} (h : NoIns H v) (k : Kept b H H') (nb : v ≠ .ref b) : NoIns H' v := by
  cases h with
  | non => exact .non
  | str x => exact .str x
  | tup h => exact .tup (k _ _ (fun e => nb (by rw [e])) h)
theorem NoRms.kept {C b : Addr} {H H' : Hp} {v : V} {bs : List V} (hb : H b = some (.lst bs)) (h : NoRms C H v) (k : Kept b H H') (nb : v ≠ .ref b) : NoRms C H' v := by
  cases h with
  | oth h => exact .oth (h.kept k nb)
  | len h l => exact .len (k _ _ (fun e => nb (by rw [e])) h) l
  | one h l hk n =>
    refine .one (k _ _ (fun e => nb (by rw [e])) h) l (fun e he => ?_) (n.kept k ?_)
    · obtain ⟨dx, fs, h1⟩ := hk e he
      exact ⟨dx, fs, k _ _ (ne_of h1 hb (by intro z; cases z)) h1⟩
    · intro e
      cases n with
      | non => cases e
      | str x => cases e
      | tup h9 =>
        have e := V.ref.inj e
        rw [e, hb] at h9
        cases h9
theorem NoRms.same {C : Addr} {H H' : Hp} {v : V} (h : NoRms C H v) (s : Same H H') : NoRms C H' v := by
  cases h with
  | oth h =>
    refine .oth ?_
    cases h with
    | non => exact .non
    | int i => exact .int i
    | str x => exact .str x
    | lst h => exact .lst (s _ _ h)
    | dK h => exact .dK (s _ _ h)
    | ins h => exact .ins (s _ _ h)
  | len h l => exact .len (s _ _ h) l
  | one h l hk n =>
    refine .one (s _ _ h) l (fun e he => ?_) (n.keep s)
    obtain ⟨dx, fs, h1⟩ := hk e he
    exact ⟨dx, fs, s _ _ h1⟩
/-! ### _law_things -/
abbrev sTh : Stmt := top 85
abbrev nmTh : List Str := ["_law_bag_here", "_law_built", "_law_some", "_law_turn"]
theorem scTh : FnScope nmTh ["_law_bag_here", "_law_built"] (defScope sTh) := ⟨rfl, rfl, rfl, by decide +kernel, rfl, by decide +kernel, by decide +kernel⟩
def spTh (C : Addr) : Sp := fun vs H Q _ => ∃ (b R : Addr) (as : List Addr) (m : Nat), vs = [.ref b, .ref R] ∧ Bag H b m ∧ m + 4 < 2 ^ 40 ∧ H R = some (.tup (as.map V.ref)) ∧ 1 ≤ as.length ∧ as.length ≤ 7 ∧ (∀ e ∈ as, ∃ dx fs, H e = some (.ins C dx fs)) ∧
  ∀ (p : Addr) (xs : List V) (H' : Hp), Kept b H H' → Bag H' b (m + 4) → p ≠ b → H' p = some (.lst xs) → xs.length ≤ 5 → (∀ x ∈ xs, NoRms C H' x ∧ x ≠ .ref b) → Q (.ref p) H'
section
variable {P : Program} {w : World} {K : PySem.W.Frag} {mg : Str → Option Value} {base : Heap} {f C : Addr} {fd : FuncData}
theorem flat_len (xs : List V) : ∀ k : Nat, (List.replicate k xs).flatten.length = k * xs.length
  | 0 => by simp
  | k + 1 => by
    rw [List.replicate_succ, List.flatten_cons, List.length_append, flat_len xs k, Nat.succ_mul]
    omega
theorem ok_th (O : Own mg) (mr : mg "range" = none) (DO : Df P w K mg base 2 "_law_of" ["_law_bag_here", "_law_some"] spOf) (F : Fun K "_law_things" "_law_things" sTh f fd) : FnOk P w K mg base CX0 3 f fd ["_law_bag_here", "_law_built"] (spTh C) := by
  refine F.ok scTh (fun vs H Q E h => ?_) (fun cdv A outer s H vs Q E hr h => ?_)
  · obtain ⟨b, R, as, m, rfl, _⟩ := h
    rfl
  obtain ⟨b, R, as, m, rfl, hB, hm, hR, l1, l7, hin, q⟩ := h
  have hs : sizeLine = 16777216 := sizeLine_eq
  refine ⟨_, pss_cons (ps_set (i := 2) scTh.nd rfl (Or.inr rfl) (pe_lst (pa_cons pe_non (pa_cons (pe_tup pa_nil) (pa_cons (pe_callTy call_list_of rfl O.list (by decide +kernel) (pa_cons (pv 1) pa_nil)) (pa_cons (pe_op op_catA (pv 1) (pe_tup (pa_cons pe_non pa_nil)))
      (pa_cons (pe_op op_catA (pv 1) (pe_tup (pa_cons pe_str pa_nil))) (pa_cons pe_int (pa_cons pe_str (pa_cons pe_dnewK (pa_cons (pe_ix ix_tup (pv 1) pe_int (fun _ _ => rfl)) pa_nil)))))))))))
    (pss_one (ps_ret (pe_op op_cat (pe_lst (pa_cons (pe_op op_repT (pv 1) pe_int) pa_nil)) (pe_lc (own := [("_law_turn", 3)]) (g := gName 3) (tt := tYes) rfl scTh.nd (pi_range1 rfl mr (pa_cons pe_int pa_nil)) (blkOk_by (N := nmTh) (sc := defScope sTh) (by decide +kernel))
        (fun _ _ _ _ _ => pg_name (i := 3) scTh.nd rfl (Or.inl rfl)) (fun _ _ _ _ _ => pts_nil) (fun _ _ _ _ _ => pe_D DO hr rfl (pa_cons (pv 0) (pa_cons (pv 2) pa_nil))))))), ?_⟩
  have lm : (as.map V.ref).length = as.length := List.length_map ..
  refine ⟨(by show 0 ≤ sizeLine; omega), fun p1 n1 => ?_⟩
  have s1 := same_new n1 (.tup [])
  have e1 : upd H p1 (.tup []) p1 = some (.tup []) := upd_same
  generalize upd H p1 (.tup []) = H1 at *
  refine ⟨_, rfl, R, _, rfl, .inr (SqT.of (s1 _ _ hR)), fun p2 n2 => ?_⟩
  have s2 := same_new n2 (.lst (as.map V.ref))
  have e2 : upd H1 p2 (.lst (as.map V.ref)) p2 = some (.lst (as.map V.ref)) := upd_same
  generalize upd H1 p2 (.lst (as.map V.ref)) = H2 at *
  refine ⟨_, rfl, (by show 1 ≤ sizeLine; omega), fun q3 m3 => ?_⟩
  have t3 := same_new m3 (.tup [.non])
  refine mk_catA (t3 _ _ (s2 _ _ (s1 _ _ hR))) upd_same (by rw [lm]; show as.length + 1 ≤ 1000; omega) fun p3 H3 s3 e3 => ?_
  refine ⟨_, rfl, (by show 1 ≤ sizeLine; omega), fun q4 m4 => ?_⟩
  have t4 := same_new m4 (.tup [.str "room"])
  refine mk_catA (t4 _ _ (s3 _ _ (t3 _ _ (s2 _ _ (s1 _ _ hR))))) upd_same (by rw [lm]; show as.length + 1 ≤ 1000; omega) fun p4 H4 s4 e4 => fun p5 n5 => ?_
  have s5 := same_new n5 (.dK [])
  have e5 : upd H4 p5 (.dK []) p5 = some (.dK []) := upd_same
  generalize upd H4 p5 (.dK []) = H5 at *
  obtain ⟨a0, ar, eas⟩ : ∃ a0 ar, as = a0 :: ar := by
    cases as with
    | nil => exact absurd l1 (by decide)
    | cons a0 ar => exact ⟨a0, ar, rfl⟩
  have s35 := t3.trans (s3.trans (t4.trans (s4.trans s5)))
  have s15 := s1.trans (s2.trans s35)
  refine ⟨_, rfl, R, _, _, _, rfl, rfl, SqT.of (s15 _ _ hR), atI_nat (j := 0) (v := .ref a0) (by rw [eas]; rfl), (by show 9 ≤ sizeLine; omega), fun p6 n6 => ?_⟩
  have s6 := same_new n6 (.lst [.non, .ref p1, .ref p2, .ref p3, .ref p4, .int 7, .str "room tick", .ref p5, .ref a0])
  have e6 : upd H5 p6 (.lst [.non, .ref p1, .ref p2, .ref p3, .ref p4, .int 7, .str "room tick", .ref p5, .ref a0]) p6 = some (.lst [.non, .ref p1, .ref p2, .ref p3, .ref p4, .int 7, .str "room tick", .ref p5, .ref a0]) := upd_same
  generalize upd H5 p6 (.lst [.non, .ref p1, .ref p2, .ref p3, .ref p4, .int 7, .str "room tick", .ref p5, .ref a0]) = H6 at *
  have s16 := s15.trans s6
  refine ⟨_, rfl, R, 9, _, rfl, rfl, SqT.of (s16 _ _ hR), (by rw [eas]; simp), by decide, by decide, by rw [lm]; omega, fun p7 n7 => ?_⟩
  have s7 := same_new n7 (.tup (List.replicate 9 (as.map V.ref)).flatten)
  have e7 : upd H6 p7 (.tup (List.replicate (9 : Int).toNat (as.map V.ref)).flatten) p7 = some (.tup (List.replicate 9 (as.map V.ref)).flatten) := upd_same
  have s7 : Same H6 (upd H6 p7 (.tup (List.replicate (9 : Int).toNat (as.map V.ref)).flatten)) := s7
  generalize upd H6 p7 (.tup (List.replicate (9 : Int).toNat (as.map V.ref)).flatten) = H7 at *
  refine ⟨(by show 1 ≤ sizeLine; omega), fun p8 n8 => ?_⟩
  have s8 := same_new n8 (.lst [.ref p7])
  have e8 : upd H7 p8 (.lst [.ref p7]) p8 = some (.lst [.ref p7]) := upd_same
  generalize upd H7 p8 (.lst [.ref p7]) = H8 at *
  have s18 := s16.trans (s7.trans s8)
  have B8 := hB.keep s18
  obtain ⟨bs, hb⟩ := hB.lst
  have old : ∀ {a : Addr}, H a = none → a ≠ b := fun h => hB.ne h
  have nR : ∀ {a : Addr} {Hx : Hp}, Same H Hx → Hx a = none → a ≠ b := fun s h => (hB.keep s).ne h
  have z1 : p1 ≠ b := hB.ne n1
  have z2 : p2 ≠ b := (hB.keep s1).ne n2
  have z5 : p5 ≠ b := (hB.keep (s1.trans (s2.trans (t3.trans (s3.trans (t4.trans s4)))))).ne n5
  have z6 : p6 ≠ b := (hB.keep s15).ne n6
  have z7 : p7 ≠ b := (hB.keep s16).ne n7
  have z8 : p8 ≠ b := (hB.keep (s16.trans s7)).ne n8
  have ntup : ∀ {a : Addr} {xs : List V} {Hx : Hp}, Same H Hx → Hx a = some (.tup xs) → a ≠ b := fun s h e => by
    rw [e, s _ _ hb] at h
    cases h
  have hin8 : ∀ e ∈ as, ∃ dx fs, H8 e = some (.ins C dx fs) := fun e he => by
    obtain ⟨dx, fs, h⟩ := hin e he
    exact ⟨dx, fs, s18 _ _ h⟩
  have good : ∀ x ∈ ([.non, .ref p1, .ref p2, .ref p3, .ref p4, .int 7, .str "room tick", .ref p5, .ref a0] : List V), NoRms C H8 x ∧ x ≠ .ref b := by
    have g1 := s8 _ _ (s7 _ _ (s6 _ _ (s35 _ _ (s2 _ _ e1))))
    have g2 := s8 _ _ (s7 _ _ (s6 _ _ (s35 _ _ e2)))
    have g3 := s8 _ _ (s7 _ _ (s6 _ _ ((t4.trans (s4.trans s5)) _ _ e3)))
    have g4 := s8 _ _ (s7 _ _ (s6 _ _ (s5 _ _ e4)))
    have g5 := s8 _ _ (s7 _ _ (s6 _ _ e5))
    obtain ⟨dx, fs, g9⟩ := hin8 a0 (by rw [eas]; exact List.mem_cons_self ..)
    intro x hx
    simp only [List.mem_cons, List.not_mem_nil, or_false] at hx
    rcases hx with rfl | rfl | rfl | rfl | rfl | rfl | rfl | rfl | rfl
    · exact ⟨.oth .non, fun e => by cases e⟩
    · exact ⟨.len g1 (.inl rfl), fun e => z1 (V.ref.inj e)⟩
    · exact ⟨.oth (.lst g2), fun e => z2 (V.ref.inj e)⟩
    · exact ⟨.one g3 l7 hin8 .non, fun e => ntup s18 g3 (V.ref.inj e)⟩
    · exact ⟨.one g4 l7 hin8 (.str _), fun e => ntup s18 g4 (V.ref.inj e)⟩
    · exact ⟨.oth (.int 7), fun e => by cases e⟩
    · exact ⟨.oth (.str _), fun e => by cases e⟩
    · exact ⟨.oth (.dK g5), fun e => z5 (V.ref.inj e)⟩
    · refine ⟨.oth (.ins g9), fun e => ?_⟩
      rw [V.ref.inj e, s18 _ _ hb] at g9
      cases g9
  have good7 : NoRms C H8 (.ref p7) ∧ V.ref p7 ≠ .ref b := ⟨.len (s8 _ _ e7) (.inr (by rw [flat_len, lm]; omega)), fun e => z7 (V.ref.inj e)⟩
  have b8 := s18 _ _ hb
  refine ⟨_, rfl, (by decide), (by decide), fun D nD => ?_⟩
  have bD : D ≠ b := B8.ne nD
  have sD := same_new nD (.lst [])
  refine lc_range (lo := 0) (n := 4) (fun i Hc => ∃ xs, Hc D = some (.lst xs) ∧ xs.length = i ∧ (∀ x ∈ xs, NoRms C H8 x ∧ x ≠ .ref b) ∧ Bag Hc b (m + i) ∧ Kept b H8 Hc) ⟨[], upd_same, rfl, (fun x hx => by cases hx), B8.keep sD, .of sD⟩ ?_ ?_
  · rintro i Hc hi ⟨xs, x1, x2, x3, x4, x5⟩
    refine ⟨rfl, _, rfl, _, rfl, b, p6, _, m + i, rfl, x4, by omega, x5 _ _ z6 (s8 _ _ (s7 _ _ e6)), z6, by show 1 ≤ 9; decide, by show 9 ≤ 1000; decide, fun v H9 k9 B9 hv => ?_⟩
    have d9 := k9 _ _ bD x1
    refine ⟨xs, d9, by omega, xs ++ [v], upd_same, by rw [List.length_append, x2]; rfl, fun x hx => ?_, (B9.off bD _).more (by omega), ?_⟩
    · rcases List.mem_append.mp hx with hx | hx
      · exact x3 x hx
      · rw [List.mem_singleton.mp hx]
        exact good v hv
    · intro a o na ha
      rw [upd_ne (fun z => by rw [z, nD] at ha; cases ha)]
      exact k9 _ _ na (x5 _ _ na ha)
  rintro Hc ⟨xs, x1, x2, x3, x4, x5⟩
  refine ⟨p8, D, _, _, rfl, rfl, x5 _ _ z8 e8, x1, by rw [x2]; show 1 + 4 ≤ sizeLine; omega, fun p nP => ?_⟩
  have bp : p ≠ b := x4.ne nP
  have sp := same_new nP (.lst ([V.ref p7] ++ xs))
  have kf : Kept b H8 (upd Hc p (.lst ([V.ref p7] ++ xs))) := x5.trans (.of sp)
  refine q p ([V.ref p7] ++ xs) _ ((Kept.of s18).trans kf) (x4.keep sp) bp upd_same (by rw [List.length_append, x2]; show 1 + 4 ≤ 5; decide) fun x hx => ?_
  rcases List.mem_append.mp hx with hx | hx
  · rw [List.mem_singleton.mp hx]
    exact ⟨good7.1.kept b8 kf good7.2, good7.2⟩
  · exact ⟨(x3 x hx).1.kept b8 kf (x3 x hx).2, (x3 x hx).2⟩
end
end Any
set_option pp.maxSteps 600
namespace Any
open L2 PySem PySem.Spec PyProof.Rows LamX NdefX
/-! ### one part otherwise -/
theorem set_map {α β : Type} (f : α → β) {rs : List α} {k : Nat} {r r' : α} (hk : rs[k]? = some r) (hf : f r' = f r) : (rs.set k r').map f = rs.map f := by
  refine List.ext_getElem? fun i => ?_
  rw [List.getElem?_map, List.getElem?_map, List.getElem?_set]
  by_cases c : k = i
  · subst c
    have hl : k < rs.length := (List.getElem?_eq_some_iff.mp hk).1
    rw [if_pos rfl, if_pos hl, hk]
    exact congrArg some hf
  · rw [if_neg c]
theorem fold_climb : ∀ {l l' : List Rm}, l.map (fun r => (r.name, r.above)) = l'.map (fun r => (r.name, r.above)) → ∀ st, l.foldl climb st = l'.foldl climb st
  | [], [], _, _ => rfl
  | [], _ :: _, h, _ => by cases h
  | _ :: _, [], h, _ => by cases h
  | r :: l, r' :: l', h, st => by
    rw [List.map_cons, List.map_cons] at h
    obtain ⟨h1, h2⟩ := List.cons.inj h
    have e : climb st r = climb st r' := by
      unfold climb
      rw [(Prod.mk.inj h1).1, (Prod.mk.inj h1).2]
    rw [List.foldl_cons, List.foldl_cons, e]
    exact fold_climb h2 _
theorem ben_of {l l' : List Rm} (h : l.map (fun r => (r.name, r.above)) = l'.map (fun r => (r.name, r.above))) (n : Str) : ben l n = ben l' n := by
  have e : ∀ l : List Rm, ben l n = ((l.map fun r => (r.name, r.above)).filter fun z => decide (z.2 = n)).map (·.1) := fun l => by
    unfold ben
    rw [List.filter_map, List.map_map]
    rfl
  rw [e, e, h]
theorem right_set {rs : List Rm} (h : Right rs) {k : Nat} {r r' : Rm} (hk : rs[k]? = some r) (e1 : r'.name = r.name) (e2 : r'.above = r.above) (e3 : r'.boxes = r.boxes) (hs : r'.saysOk)
    (h0 : k = 0 → r'.firstOk ∧ r'.body.right r.bn [] (ben rs r.name)) (h1 : k ≠ 0 → r'.otherOk ∧ r'.body.right r.bn ["asked"] (ben rs r.name)) : Right (rs.set k r') := by
  have both : (rs.set k r').map (fun r => (r.name, r.above)) = rs.map (fun r => (r.name, r.above)) := set_map _ hk (by rw [e1, e2])
  have nms : (rs.set k r').map (·.name) = rs.map (·.name) := set_map _ hk e1
  have bens : ∀ n, ben (rs.set k r') n = ben rs n := ben_of both
  have fl : ∀ i a, floorOf (rs.set k r') i a = floorOf rs i a := fun i a => by
    unfold floorOf
    rw [fold_climb (l' := (rs.take i).reverse)]
    rw [List.map_reverse, List.map_reverse, List.map_take, List.map_take, both]
  have ab : ∀ i (x y : Rm), x.above = y.above → aboveOk rs i y → aboveOk (rs.set k r') i x := fun i x y e z => by
    unfold aboveOk at z ⊢
    rw [e, List.map_take, nms, ← List.map_take, fl]
    exact z
  refine ⟨by rw [List.length_set]; exact h.lo, by rw [List.length_set]; exact h.hi, fun i x hi => ?_⟩
  rw [List.getElem?_set] at hi
  by_cases c : k = i
  · subst c
    have hl : k < rs.length := (List.getElem?_eq_some_iff.mp hk).1
    rw [if_pos rfl, if_pos hl] at hi
    cases hi
    have z := h.all k r hk
    have ebn : r'.bn = r.bn := by unfold Rm.bn; rw [e3]
    refine ⟨by rw [e1]; exact z.name, by rw [List.map_take, nms, ← List.map_take, e1]; exact z.one, ab _ _ _ e2 z.above, ?_, by rw [ebn]; exact z.asc, hs, fun i0 => ?_, fun i0 => ?_⟩
    · have := z.boxes
      unfold Rm.boxesOk at this ⊢
      rw [ebn, e3]
      exact this
    · obtain ⟨a1, a2⟩ := h0 i0
      exact ⟨a1, by rw [ebn, bens, e1]; exact a2⟩
    · obtain ⟨a1, a2⟩ := h1 i0
      exact ⟨a1, by rw [ebn, bens, e1]; exact a2⟩
  · rw [if_neg c] at hi
    have z := h.all i x hi
    refine ⟨z.name, by rw [List.map_take, nms, ← List.map_take]; exact z.one, ab _ _ _ rfl z.above, z.boxes, z.asc, z.says, fun i0 => ?_, fun i0 => ?_⟩
    · obtain ⟨a1, a2⟩ := z.first i0
      exact ⟨a1, by rw [bens]; exact a2⟩
    · obtain ⟨a1, a2⟩ := z.other i0
      exact ⟨a1, by rw [bens]; exact a2⟩
abbrev vow4 : Ts := .is .told .told
abbrev one3 : Ts := .is (.num 3) (.num 3)
inductive Other (r : Rm) : Rm → Prop
  | body {x : Str} (h : x ∈ r.bn) : Other r { r with body := Bd.of (r.body.toL ++ [.hear x]) }
  | ask {k : Int} (h : r.ask = some k) (ha : r.above ≠ "") : Other r { r with ask := some (k + 1) }
  | vow (ha : r.above ≠ "") (h : PyData.eqv (vowD r.promise) (tsD vow4) = false) : Other r { r with promise := some vow4 }
  | bare (ha : r.above ≠ "") (h : PyData.eqv (vowD r.promise) (tsD vow4) = true) : Other r { r with promise := none }
  | says : Other r { r with sayings := r.sayings.drop 1 ++ [one3] }
theorem eqvAll_len : ∀ {xs ys : List PyData}, PyData.eqvAll xs ys = true → xs.length = ys.length
  | [], [], _ => rfl
  | [], _ :: _, h => by simp [PyData.eqvAll] at h
  | _ :: _, [], h => by simp [PyData.eqvAll] at h
  | x :: xs, y :: ys, h => by
    rw [PyData.eqvAll, Bool.and_eq_true] at h
    rw [List.length_cons, List.length_cons, eqvAll_len h.2]
theorem bdL_len : ∀ b : Bd, (bdL b).length = b.len
  | .nil => by unfold bdL; rfl
  | .cons s b => by
    unfold bdL
    rw [List.length_cons, bdL_len b]
    rfl
theorem lb_ne {t : Ts} (h : t.lb) : PyData.eqv (tsD t) (tsD one3) = false := by
  cases t with
  | is l r =>
    cases l with
    | num n => exact h.elim
    | box x => simp [tsD, exD, PyData.eqv, PyData.eqvAll, one3, show (Str.ofString "box" == Str.ofString "number") = false by decide +kernel]
    | asked => simp [tsD, exD, PyData.eqv, PyData.eqvAll, one3]
    | told => simp [tsD, exD, PyData.eqv, PyData.eqvAll, one3]
    | op d a b => simp [tsD, exD, PyData.eqv, PyData.eqvAll, one3]
  | bel l r => simp [tsD, PyData.eqv, PyData.eqvAll, one3, show (Str.ofString "below" == Str.ofString "is") = false by decide +kernel]
  | nt t => simp [tsD, PyData.eqv, PyData.eqvAll, one3]
  | both t u => simp [tsD, PyData.eqv, PyData.eqvAll, one3, show (Str.ofString "both" == Str.ofString "is") = false by decide +kernel]
  | either t u => simp [tsD, PyData.eqv, PyData.eqvAll, one3, show (Str.ofString "either" == Str.ofString "is") = false by decide +kernel]
theorem says_ne : ∀ ts : List Ts, (∀ t ∈ ts, t.lb) → PyData.eqvAll (ts.map tsD) ((ts.drop 1 ++ [one3]).map tsD) = false := by
  intro ts h
  cases e : PyData.eqvAll (ts.map tsD) ((ts.drop 1 ++ [one3]).map tsD) with
  | false => rfl
  | true =>
    have l := eqvAll_len e
    rw [List.length_map, List.length_map, List.length_append, List.length_drop] at l
    have l1 : 1 ≤ ts.length := by
      have : ([one3] : List Ts).length = 1 := rfl
      omega
    -- the last ones
    have last : ∀ {xs ys : List PyData} (i : Nat) {x y : PyData}, PyData.eqvAll xs ys = true → xs[i]? = some x → ys[i]? = some y → PyData.eqv x y = true := by
      intro xs
      induction xs with
      | nil => intro ys i x y _ h1 _; cases h1
      | cons a xs ih =>
        intro ys i x y h0 h1 h2
        cases ys with
        | nil => cases h2
        | cons c ys =>
          rw [PyData.eqvAll, Bool.and_eq_true] at h0
          cases i with
          | zero =>
            cases h1
            cases h2
            exact h0.1
          | succ i => exact ih i h0.2 h1 h2
    have z := last (ts.length - 1) (x := tsD (ts[ts.length - 1]'(by omega))) (y := tsD one3) e (by rw [List.getElem?_map, List.getElem?_eq_getElem (by omega)]; rfl) (by
      rw [List.getElem?_map, List.getElem?_append_right (by rw [List.length_drop]; exact Nat.le_refl _), List.length_drop, Nat.sub_self]
      rfl)
    rw [lb_ne (h _ (List.getElem_mem _))] at z
    cases z
theorem other_ne {r r' : Rm} (o : Other r r') (hf : r.few) (hfd : r.fd) : rmB r r' = false := by
  have e1 := (Fd.nm (k := 0) hfd.name).refl
  have e2 := hfd.above.refl
  have e3 := hfd.boxes.refl
  have e4 := hfd.sayings.refl
  have e5 := hfd.ask.refl
  have e6 := hfd.told.refl
  have e7 := hfd.promise.refl
  cases o with
  | @body x h =>
    have e : PyData.eqv r.bdD (Rm.bdD { r with body := Bd.of (r.body.toL ++ [.hear x]) }) = false := by
      cases e : PyData.eqv r.bdD (Rm.bdD { r with body := Bd.of (r.body.toL ++ [.hear x]) }) with
      | false => rfl
      | true =>
        have l := eqvAll_len (show PyData.eqvAll (bdL r.body) (bdL (Bd.of (r.body.toL ++ [.hear x]))) = true from e)
        rw [bdL_len, bdL_len, of_len, List.length_append, toL_len] at l
        exact absurd l (by show ¬ _ = _ + 1; omega)
    unfold rmB
    show (PyData.eqv (.str r.name) (.str r.name) && (PyData.eqv (.str r.above) (.str r.above) && (PyData.eqv r.bxD r.bxD && (PyData.eqv r.syD r.syD && (PyData.eqv (askD r.ask) (askD r.ask) && (PyData.eqv (toldD r.told) (toldD r.told) && (PyData.eqv (vowD r.promise) (vowD r.promise) && _))))))) = false
    rw [e1, e2, e3, e4, e5, e6, e7]
    exact e
  | @ask k h ha =>
    unfold rmB
    show (PyData.eqv (.str r.name) (.str r.name) && (PyData.eqv (.str r.above) (.str r.above) && (PyData.eqv r.bxD r.bxD && (PyData.eqv r.syD r.syD && (PyData.eqv (askD r.ask) (askD (some (k + 1))) && _))))) = false
    rw [e1, e2, e3, e4, h]
    have e : PyData.eqv (askD (some k)) (askD (some (k + 1))) = false := by
      show (k == k + 1) = false
      exact beq_false_of_ne (by omega)
    rw [e]
    rfl
  | vow ha h =>
    unfold rmB
    show (PyData.eqv (.str r.name) (.str r.name) && (PyData.eqv (.str r.above) (.str r.above) && (PyData.eqv r.bxD r.bxD && (PyData.eqv r.syD r.syD && (PyData.eqv (askD r.ask) (askD r.ask) && (PyData.eqv (toldD r.told) (toldD r.told) && (PyData.eqv (vowD r.promise) (tsD vow4) && _))))))) = false
    rw [h, Bool.false_and, Bool.and_false, Bool.and_false, Bool.and_false, Bool.and_false, Bool.and_false, Bool.and_false]
  | bare ha h =>
    unfold rmB
    show (PyData.eqv (.str r.name) (.str r.name) && (PyData.eqv (.str r.above) (.str r.above) && (PyData.eqv r.bxD r.bxD && (PyData.eqv r.syD r.syD && (PyData.eqv (askD r.ask) (askD r.ask) && (PyData.eqv (toldD r.told) (toldD r.told) && (PyData.eqv (vowD r.promise) .none && _))))))) = false
    have e : PyData.eqv (vowD r.promise) .none = false := by
      cases ep : r.promise with
      | none =>
        rw [ep] at h
        cases h
      | some t => cases t <;> rfl
    rw [e, Bool.false_and, Bool.and_false, Bool.and_false, Bool.and_false, Bool.and_false, Bool.and_false, Bool.and_false]
  | says =>
    unfold rmB
    show (PyData.eqv (.str r.name) (.str r.name) && (PyData.eqv (.str r.above) (.str r.above) && (PyData.eqv r.bxD r.bxD && (PyData.eqvAll (r.sayings.map tsD) ((r.sayings.drop 1 ++ [one3]).map tsD) && _)))) = false
    rw [says_ne _ hf.says, Bool.false_and, Bool.and_false, Bool.and_false, Bool.and_false]
theorem other_right {rs : List Rm} (h : Right rs) {k : Nat} {r r' : Rm} (hk : rs[k]? = some r) (o : Other r r') (hf : r.few) : Right (rs.set k r') := by
  have z := h.all k r hk
  have k0 : r.above ≠ "" → k ≠ 0 := fun ha e => ha (z.above.1 e)
  cases o with
  | @body x hx =>
    have bd : ∀ ws, r.body.right r.bn ws (ben rs r.name) → (Bd.of (r.body.toL ++ [.hear x])).right r.bn ws (ben rs r.name) := fun ws hb => by
      obtain ⟨f1, f2⟩ := hf.body
      have tl := toL_len r.body
      have tt := r.body.tot_eq
      refine ⟨of_ok fun s hs => ?_, by rw [of_len, List.length_append]; show _ + 1 ≤ 12; omega, of_dp fun s hs => ?_, by rw [of_tot, List.map_append, List.sum_append]; show _ + 1 ≤ 30; omega⟩
      · rcases List.mem_append.mp hs with hs | hs
        · exact Bd.ok_mem hb.1 hs
        · rw [List.mem_singleton.mp hs]
          unfold Sg.ok
          exact hx
      · rcases List.mem_append.mp hs with hs | hs
        · exact Nat.le_trans (Bd.dp_mem hs) hb.2.2.1
        · rw [List.mem_singleton.mp hs]
          show 1 ≤ 4
          decide
    exact right_set h hk rfl rfl rfl z.says (fun i0 => ⟨(z.first i0).1, bd _ (z.first i0).2⟩) (fun i0 => ⟨(z.other i0).1, bd _ (z.other i0).2⟩)
  | @ask j hj ha =>
    refine right_set h hk rfl rfl rfl z.says (fun i0 => absurd i0 (k0 ha)) fun i0 => ?_
    obtain ⟨⟨⟨i, ei, i1, i2⟩, ht, hv⟩, hb⟩ := z.other i0
    rw [hj] at ei
    have e := Option.some.inj ei
    have := hf.ask j hj
    exact ⟨⟨⟨j + 1, rfl, by omega, by omega⟩, ht, hv⟩, hb⟩
  | vow ha _ =>
    refine right_set h hk rfl rfl rfl z.says (fun i0 => absurd i0 (k0 ha)) fun i0 => ?_
    obtain ⟨⟨hi, ht, hv⟩, hb⟩ := z.other i0
    refine ⟨⟨hi, ht, fun t et => ?_⟩, hb⟩
    cases et
    refine ⟨?_, by decide, by decide⟩
    show ("told" : Str) ∈ (["asked", "told"] : List Str) ∧ ("told" : Str) ∈ (["asked", "told"] : List Str)
    exact ⟨List.mem_cons_of_mem _ (List.mem_cons_self ..), List.mem_cons_of_mem _ (List.mem_cons_self ..)⟩
  | bare ha _ =>
    refine right_set h hk rfl rfl rfl z.says (fun i0 => absurd i0 (k0 ha)) fun i0 => ?_
    obtain ⟨⟨hi, ht, hv⟩, hb⟩ := z.other i0
    exact ⟨⟨hi, ht, fun t et => by cases et⟩, hb⟩
  | says =>
    refine right_set h hk rfl rfl rfl ⟨?_, fun t ht => ?_⟩ z.first z.other
    · have := z.says.1
      show (r.sayings.drop 1 ++ [one3]).length ≤ 4
      rw [List.length_append, List.length_drop]
      show r.sayings.length - 1 + 1 ≤ 4
      omega
    · rcases List.mem_append.mp ht with ht | ht
      · exact z.says.2 t (List.mem_of_mem_drop ht)
      · rw [List.mem_singleton.mp ht]
        refine ⟨⟨⟨?_, ?_⟩, by decide, by decide⟩, rfl⟩
        · show (0 : Int) ≤ 3 ∧ (3 : Int) ≤ 999
          decide
        · show (0 : Int) ≤ 3 ∧ (3 : Int) ≤ 999
          decide
end Any
set_option pp.maxSteps 600
set_option maxHeartbeats 2000000
namespace Any
open L2 PySem PySem.Spec PyProof.Rows LamX NdefX
/-! ### _law_other -/
section
variable {K : PySem.W.Frag} {H : Hp} {Q : VK} {a : Addr} {xs : List V}
theorem slA_all {lo hi : Option Int} (h : H a = some (.tup xs)) (q : ∀ p H', Same H H' → H' p = some (.tup (cutV xs lo hi)) → Q (.ref p) H') : rSlA K (.ref a) lo hi H Q := by
  refine ⟨a, xs, rfl, SqT.of h, fun z => q a H same_refl ?_, fun _ p hp => q p _ (same_new hp _) upd_same⟩
  unfold cutV
  rw [z.1, z.2, List.drop_zero, Nat.sub_zero, List.take_length]
  exact h
end
abbrev sOt : Stmt := top 83
abbrev nmOt : List Str := ["_law_bag_here", "_law_some", "_law_sort", "_law_vow", "_law_one"]
abbrev psOt : List Str := ["_law_bag_here", "_law_some"]
theorem scOt : FnScope nmOt psOt (defScope sOt) := ⟨rfl, rfl, rfl, by decide +kernel, rfl, by decide +kernel, by decide +kernel⟩
def spOt : Sp := fun vs H Q _ => ∃ (b a : Addr) (m : Nat) (r : Rm), vs = [.ref b, .ref a] ∧ Bag H b m ∧ m + 1 < 2 ^ 40 ∧ EightAt H a r ∧ r.fd ∧ 1 ≤ r.boxes.length ∧ r.boxes.length ≤ 4 ∧ r.sayings.length ≤ 4 ∧ r.body.len ≤ 12 ∧ (r.above ≠ "" → ∃ k, r.ask = some k) ∧
  ∀ p r' H', Kept b H H' → Bag H' b (m + 1) → EightAt H' p r' → Other r r' → Q (.ref p) H'
theorem bn_mem {r : Rm} {z : Str × Int × Int} {zs : List (Str × Int × Int)} (e : r.boxes = z :: zs) : z.1 ∈ r.bn := by
  unfold Rm.bn
  rw [e]
  exact List.mem_cons_self ..
theorem paired_drop {α β : Type} {R : α → β → Prop} : ∀ {xs : List α} {ys : List β}, Paired R xs ys → ∀ i : Nat, Paired R (xs.drop i) (ys.drop i)
  | _, _, .nil, i => by rw [List.drop_nil, List.drop_nil]; exact .nil
  | _, _, .cons r t, 0 => .cons r t
  | _, _, .cons r t, i + 1 => by rw [List.drop_succ_cons, List.drop_succ_cons]; exact paired_drop t i
section
variable {P : Program} {w : World} {K : PySem.W.Frag} {mg : Str → Option Value} {base : Heap} {f : Addr} {fd : FuncData}
theorem ok_ot (O : Own mg) (DT : Df P w K mg base 1 "_law_take" ["_law_bag_here", "_law_many_here"] spTake) (F : Fun K "_law_other" "_law_other" sOt f fd) : FnOk P w K mg base CX0 2 f fd psOt spOt := by
  refine F.ok scOt (fun vs H Q E h => ?_) (fun cdv A outer s H vs Q E hr h => ?_)
  · obtain ⟨b, a, m, r, rfl, _⟩ := h
    rfl
  obtain ⟨b, a, m, r, rfl, hB, hm, h8, hF, bx1, bx4, sy4, bd12, hask, q⟩ := h
  have hs : sizeLine = 16777216 := sizeLine_eq
  refine ⟨_, pss_cons (ps_set (i := 2) scOt.nd rfl (Or.inl rfl) (pe_D DT hr rfl (pa_cons (pv 0) (pa_cons pe_int pa_nil))))
    (pss_cons (ps_if (PW.pt (pw_or (pt_cmpR op_eq (pv 2) pe_int (nomark _)) (pw_or1 (PW.pt (pw_and (pt_cmpR op_eq (pe_ix ix_tup (pv 1) pe_int (fun _ _ => rfl)) pe_str (nomark _)) (pw_and1 (pt_cmpR op_lt (pv 2) pe_int (nomark _))))))))
      (pss_one (ps_ret (pe_op op_catA (pe_slice sl_tupA (pv 1) po_none (po_some pe_int)) (pe_tup (pa_cons (pe_op op_catA (pe_ix ix_tup (pv 1) pe_int (fun _ _ => rfl)) (pe_tup (pa_cons (pe_tup (pa_cons pe_str (pa_cons (pe_ix ix_tup (pe_ix ix_tup (pe_ix ix_tup (pv 1) pe_int (fun _ _ => rfl)) pe_int (fun _ _ => rfl)) pe_int (fun _ _ => rfl)) pa_nil))) pa_nil))) pa_nil))))) pss_nil)
    (pss_cons (ps_if (pt_cmpR op_eq (pv 2) pe_int (nomark _))
      (pss_one (ps_ret (pe_op op_catA (pe_op op_catA (pe_slice sl_tupA (pv 1) po_none (po_some pe_int)) (pe_tup (pa_cons (pe_op op_add (pe_ix ix_tup (pv 1) pe_int (fun _ _ => rfl)) pe_int) pa_nil))) (pe_slice sl_tupA (pv 1) (po_some pe_int) po_none)))) pss_nil)
    (pss_cons (ps_if (pt_cmpR op_eq (pv 2) pe_int (nomark _))
      (pss_cons (ps_set (i := 3) scOt.nd rfl (Or.inl rfl) (pe_tup (pa_cons pe_str (pa_cons (pe_tup (pa_cons pe_str pa_nil)) (pa_cons (pe_tup (pa_cons pe_str pa_nil)) pa_nil)))))
      (pss_one (ps_ret (pe_op op_catA (pe_op op_catA (pe_slice sl_tupA (pv 1) po_none (po_some pe_int)) (pe_tup (pa_cons (pe_ix ix_list (pe_lst (pa_cons (pv 3) (pa_cons pe_non pa_nil))) (pe_callTy call_int1 rfl O.int (by decide +kernel) (pa_cons (pe_cmpR (op_eqD hr.units) (pe_ix ix_tup (pv 1) pe_int (fun _ _ => rfl)) (pv 3) (nomark _)) pa_nil)) (fun _ _ => rfl)) pa_nil))) (pe_slice sl_tupA (pv 1) (po_some pe_int) po_none))))) pss_nil)
    (pss_cons (ps_set (i := 4) scOt.nd rfl (Or.inl rfl) (pe_tup (pa_cons pe_str (pa_cons (pe_tup (pa_cons pe_str (pa_cons pe_int pa_nil))) (pa_cons (pe_tup (pa_cons pe_str (pa_cons pe_int pa_nil))) pa_nil)))))
    (pss_one (ps_ret (pe_op op_catA (pe_op op_catA (pe_slice sl_tupA (pv 1) po_none (po_some pe_int)) (pe_tup (pa_cons (pe_op op_catA (pe_slice sl_tupA (pe_ix ix_tup (pv 1) pe_int (fun _ _ => rfl)) (po_some pe_int) po_none) (pe_tup (pa_cons (pv 4) pa_nil))) pa_nil))) (pe_slice sl_tupA (pv 1) (po_some pe_int) po_none)))))))), ?_⟩
  obtain ⟨n, ab, bx, sy, ka, t, pr, y, e8, pa⟩ := h8
  obtain ⟨ea, eb, ⟨cb, ebx, has⟩, ⟨cs, esy, hsy⟩, hka, ht, hp, ⟨cy, ey, hy⟩⟩ := pa
  subst ea eb ebx esy ey
  refine ⟨_, rfl, b, 4, m, rfl, hB, by omega, by decide, by decide, fun d H1 k1 B1 d0 d1 => ?_⟩
  have t1 := hB.tups k1
  replace e8 := t1 _ _ e8
  obtain ⟨as1, hcb, pcb⟩ := has
  obtain ⟨us1, hcs, pcs⟩ := hsy
  obtain ⟨vs1, hcy, bcy⟩ := hy
  replace hcb := t1 _ _ hcb
  replace hcs := t1 _ _ hcs
  replace hcy := t1 _ _ hcy
  replace pcb := paired_imp (fun _ _ y => t1 _ _ y) pcb
  replace pcs := paired_imp (fun _ _ (y : TsAt H _ _) => y.keep t1) pcs
  have pcy := paired_imp (fun _ _ (y : SgAt H _ _) => SgAt.keep t1 _ y) bcy.paired
  replace ht := ht.keep t1
  replace hp := hp.keep t1
  have lus := paired_len pcs
  have lvs := paired_len pcy
  have tl := toL_len r.body
  have bcy1 : BdL H1 vs1 r.body := bcy.keep t1
  refine ⟨_, rfl, rfl, _, rfl, itEq (fun c1 => ?_) (fun c1 => ⟨_, rfl, a, _, _, _, rfl, rfl, SqT.of e8, atI_nat (j := 1) rfl, rfl, _, rfl, itD (fun c2 => ⟨_, rfl, _, _, rfl, rfl, _, rfl, ite2 (fun c3 => ?_) (fun c3 => ?_)⟩) (fun c2 => itF rfl ?_)⟩)⟩
  · obtain ⟨z, zs, ez⟩ : ∃ z zs, r.boxes = z :: zs := by
      cases qz : r.boxes with
      | nil => rw [qz] at bx1; exact absurd bx1 (by decide)
      | cons z zs => exact ⟨z, zs, rfl⟩
    have pcb' := pcb
    rw [ez] at pcb'
    cases pcb' with
    | cons hz0 hzs =>
    rename_i a0 as0
    refine ⟨_, rfl, 7, rfl, slA_all e8 fun p1 H2 s2 e2 => ?_⟩
    have b8 := s2 _ _ e8
    refine ⟨_, rfl, a, _, _, _, rfl, rfl, SqT.of b8, atI_nat (j := 7) rfl, _, rfl, a, _, _, _, rfl, rfl, SqT.of b8, atI_nat (j := 2) rfl, cb, _, _, _, rfl, rfl, SqT.of (s2 _ _ hcb), atI_nat (j := 0) rfl, a0, _, _, _, rfl, rfl, SqT.of (s2 _ _ hz0), atI_nat (j := 0) rfl, (by show 2 ≤ sizeLine; omega), fun p3 n3 => ?_⟩
    have s3 := same_new n3 (.tup [.str "hear", .str z.1])
    have e3 : upd H2 p3 (.tup [.str "hear", .str z.1]) p3 = some (.tup [.str "hear", .str z.1]) := upd_same
    generalize upd H2 p3 (.tup [.str "hear", .str z.1]) = H3 at *
    refine ⟨(by show 1 ≤ sizeLine; omega), fun p4 n4 => ?_⟩
    have s4 := same_new n4 (.tup [.ref p3])
    have s34 := s3.trans s4
    refine mk_catA (s34 _ _ (s2 _ _ hcy)) upd_same (by rw [lvs, tl]; show _ + 1 ≤ 1000; omega) fun p5 H5 s5 e5 => ?_
    refine ⟨(by show 1 ≤ sizeLine; omega), fun p6 n6 => ?_⟩
    have s6 := same_new n6 (.tup [.ref p5])
    have s36 := s34.trans (s5.trans s6)
    refine mk_catA (s36 _ _ e2) upd_same (by show 7 + 1 ≤ 1000; decide) fun p7 H7 s7 e7 => ?_
    have sA := s2.trans (s36.trans s7)
    have s47 := s4.trans (s5.trans (s6.trans s7))
    refine q p7 { r with body := Bd.of (r.body.toL ++ [.hear z.1]) } H7 (k1.trans (.of sA)) (B1.keep sA) ⟨_, _, _, _, _, _, _, _, e7, ?_⟩ (.body (bn_mem ez))
    refine ⟨rfl, rfl, ⟨cb, rfl, _, sA _ _ hcb, paired_imp (fun _ _ y => sA _ _ y) pcb⟩, ⟨cs, rfl, us1, sA _ _ hcs, paired_imp (fun _ _ y => y.keep (Same.tups sA)) pcs⟩, hka, ht.keep (Same.tups sA), hp.keep (Same.tups sA), ⟨p5, rfl, _, (s6.trans s7) _ _ e5, of_at (paired_app (paired_imp (fun _ _ y => SgAt.keep (Same.tups sA) _ y) pcy) (.cons ?_ .nil))⟩⟩
    unfold SgAt
    exact ⟨p3, rfl, s47 _ _ e3⟩
  · obtain ⟨z, zs, ez⟩ : ∃ z zs, r.boxes = z :: zs := by
      cases qz : r.boxes with
      | nil => rw [qz] at bx1; exact absurd bx1 (by decide)
      | cons z zs => exact ⟨z, zs, rfl⟩
    have pcb' := pcb
    rw [ez] at pcb'
    cases pcb' with
    | cons hz0 hzs =>
    rename_i a0 as0
    refine ⟨_, rfl, 7, rfl, slA_all e8 fun p1 H2 s2 e2 => ?_⟩
    have b8 := s2 _ _ e8
    refine ⟨_, rfl, a, _, _, _, rfl, rfl, SqT.of b8, atI_nat (j := 7) rfl, _, rfl, a, _, _, _, rfl, rfl, SqT.of b8, atI_nat (j := 2) rfl, cb, _, _, _, rfl, rfl, SqT.of (s2 _ _ hcb), atI_nat (j := 0) rfl, a0, _, _, _, rfl, rfl, SqT.of (s2 _ _ hz0), atI_nat (j := 0) rfl, (by show 2 ≤ sizeLine; omega), fun p3 n3 => ?_⟩
    have s3 := same_new n3 (.tup [.str "hear", .str z.1])
    have e3 : upd H2 p3 (.tup [.str "hear", .str z.1]) p3 = some (.tup [.str "hear", .str z.1]) := upd_same
    generalize upd H2 p3 (.tup [.str "hear", .str z.1]) = H3 at *
    refine ⟨(by show 1 ≤ sizeLine; omega), fun p4 n4 => ?_⟩
    have s4 := same_new n4 (.tup [.ref p3])
    have s34 := s3.trans s4
    refine mk_catA (s34 _ _ (s2 _ _ hcy)) upd_same (by rw [lvs, tl]; show _ + 1 ≤ 1000; omega) fun p5 H5 s5 e5 => ?_
    refine ⟨(by show 1 ≤ sizeLine; omega), fun p6 n6 => ?_⟩
    have s6 := same_new n6 (.tup [.ref p5])
    have s36 := s34.trans (s5.trans s6)
    refine mk_catA (s36 _ _ e2) upd_same (by show 7 + 1 ≤ 1000; decide) fun p7 H7 s7 e7 => ?_
    have sA := s2.trans (s36.trans s7)
    have s47 := s4.trans (s5.trans (s6.trans s7))
    refine q p7 { r with body := Bd.of (r.body.toL ++ [.hear z.1]) } H7 (k1.trans (.of sA)) (B1.keep sA) ⟨_, _, _, _, _, _, _, _, e7, ?_⟩ (.body (bn_mem ez))
    refine ⟨rfl, rfl, ⟨cb, rfl, _, sA _ _ hcb, paired_imp (fun _ _ y => sA _ _ y) pcb⟩, ⟨cs, rfl, us1, sA _ _ hcs, paired_imp (fun _ _ y => y.keep (Same.tups sA)) pcs⟩, hka, ht.keep (Same.tups sA), hp.keep (Same.tups sA), ⟨p5, rfl, _, (s6.trans s7) _ _ e5, of_at (paired_app (paired_imp (fun _ _ y => SgAt.keep (Same.tups sA) _ y) pcy) (.cons ?_ .nil))⟩⟩
    unfold SgAt
    exact ⟨p3, rfl, s47 _ _ e3⟩
  · have c3 : ¬ d < 3 := fun z => c3 (decide_eq_true z)
    refine ⟨_, rfl, rfl, _, rfl, itEq (fun z => absurd z (by omega)) (fun _ => ⟨_, rfl, rfl, _, rfl, itEq (fun z => absurd z (by omega)) (fun _ => ?_)⟩)⟩
    refine ⟨(by show 2 ≤ sizeLine; omega), fun q1 m1 => ⟨(by show 2 ≤ sizeLine; omega), fun q2 m2 => ⟨(by show 3 ≤ sizeLine; omega), fun q3 m3 => ?_⟩⟩⟩
    have w1 := same_new m1 (.tup [.str "number", .int 3])
    have w2 := same_new m2 (.tup [.str "number", .int 3])
    have w3 := same_new m3 (.tup [.str "is", .ref q1, .ref q2])
    have w13 := w1.trans (w2.trans w3)
    have hone : TsAt (upd (upd (upd H1 q1 (.tup [.str "number", .int 3])) q2 (.tup [.str "number", .int 3])) q3 (.tup [.str "is", .ref q1, .ref q2])) (.ref q3) one3 := .is upd_same (.num (w3 _ _ (w2 _ _ upd_same))) (.num (w3 _ _ upd_same))
    generalize upd (upd (upd H1 q1 (.tup [.str "number", .int 3])) q2 (.tup [.str "number", .int 3])) q3 (.tup [.str "is", .ref q1, .ref q2]) = HV at *
    refine ⟨_, rfl, 3, rfl, slA_all (w13 _ _ e8) fun p1 H2 s2 e2 => ?_⟩
    have w12 := w13.trans s2
    refine ⟨_, rfl, a, _, _, _, rfl, rfl, SqT.of (w12 _ _ e8), atI_nat (j := 3) rfl, 1, rfl, ?_⟩
    first | (unfold tNoPart; dsimp only) | (dsimp only; unfold tNoPart; dsimp only) | dsimp only
    refine slA_all (w12 _ _ hcs) fun p3 H3 s3 e3 => ?_
    rw [show ((1 : Int)) = ((1 : Nat) : Int) from rfl, cut_from] at e3
    refine ⟨_, rfl, (by show 1 ≤ sizeLine; omega), fun p4 n4 => ?_⟩
    have s4 := same_new n4 (.tup [.ref q3])
    have s34 := s3.trans s4
    refine mk_catA (s4 _ _ e3) upd_same (by rw [List.length_drop, lus]; show _ + 1 ≤ 1000; omega) fun p5 H5 s5 e5 => ?_
    refine ⟨(by show 1 ≤ sizeLine; omega), fun p6 n6 => ?_⟩
    have s6 := same_new n6 (.tup [.ref p5])
    have s36 := s34.trans (s5.trans s6)
    refine mk_catA (s36 _ _ e2) upd_same (by show 3 + 1 ≤ 1000; decide) fun p7 H7 s7 e7 => ?_
    refine ⟨_, rfl, 4, rfl, ?_⟩
    first | (unfold tNoPart; dsimp only) | (dsimp only; unfold tNoPart; dsimp only) | dsimp only
    refine slA_all (s7 _ _ (s36 _ _ (w12 _ _ e8))) fun p8 H8 s8 e8' => ?_
    refine mk_catA (s8 _ _ e7) e8' (by show 4 + 4 ≤ 1000; decide) fun p9 H9 s9 e9 => ?_
    have sV := s2.trans (s36.trans (s7.trans (s8.trans s9)))
    have sA := w13.trans sV
    have s69 := s6.trans (s7.trans (s8.trans s9))
    refine q p9 { r with sayings := r.sayings.drop 1 ++ [one3] } H9 (k1.trans (.of sA)) (B1.keep sA) ⟨_, _, _, _, _, _, _, _, e9, ?_⟩ .says
    exact ⟨rfl, rfl, ⟨cb, rfl, as1, sA _ _ hcb, paired_imp (fun _ _ y => sA _ _ y) pcb⟩, ⟨p5, rfl, _, s69 _ _ e5, paired_app (paired_drop (paired_imp (fun _ _ y => y.keep (Same.tups sA)) pcs) 1) (.cons (hone.keep (Same.tups sV)) .nil)⟩, hka, ht.keep (Same.tups sA), hp.keep (Same.tups sA), ⟨cy, rfl, vs1, sA _ _ hcy, (bcy1.keep (Same.tups sA))⟩⟩
  · have c2 : r.above ≠ "" := fun z => c2 (by rw [z])
    refine ⟨_, rfl, rfl, _, rfl, itEq (fun _ => ?_) (fun _ => ⟨_, rfl, rfl, _, rfl, itEq (fun _ => ?_) (fun _ => ?_)⟩)⟩
    · obtain ⟨k, hk⟩ := hask c2
      rw [hk] at hka
      have hka : ka = .int k := hka
      subst hka
      refine ⟨_, rfl, 4, rfl, slA_all e8 fun p1 H2 s2 e2 => ?_⟩
      refine ⟨_, rfl, a, _, _, _, rfl, rfl, SqT.of (s2 _ _ e8), atI_nat (j := 4) rfl, _, _, rfl, rfl, (by show 1 ≤ sizeLine; omega), fun p3 n3 => ?_⟩
      have s3 := same_new n3 (.tup [.int (k + 1)])
      refine mk_catA (s3 _ _ e2) upd_same (by show 4 + 1 ≤ 1000; decide) fun p4 H4 s4 e4 => ?_
      have s34 := s3.trans s4
      refine ⟨_, rfl, 5, rfl, ?_⟩
      first | (unfold tNoPart; dsimp only) | (dsimp only; unfold tNoPart; dsimp only) | dsimp only
      refine slA_all (s34 _ _ (s2 _ _ e8)) fun p5 H5 s5 e5 => ?_
      refine mk_catA (s5 _ _ e4) e5 (by show 5 + 3 ≤ 1000; decide) fun p6 H6 s6 e6 => ?_
      have sA := s2.trans (s34.trans (s5.trans s6))
      refine q p6 { r with ask := some (k + 1) } H6 (k1.trans (.of sA)) (B1.keep sA) ⟨_, _, _, _, _, _, _, _, e6, ?_⟩ (.ask hk c2)
      exact ⟨rfl, rfl, ⟨cb, rfl, as1, sA _ _ hcb, paired_imp (fun _ _ y => sA _ _ y) pcb⟩, ⟨cs, rfl, us1, sA _ _ hcs, paired_imp (fun _ _ y => y.keep (Same.tups sA)) pcs⟩, rfl, ht.keep (Same.tups sA), hp.keep (Same.tups sA), ⟨cy, rfl, vs1, sA _ _ hcy, (bcy1.keep (Same.tups sA))⟩⟩
    · refine ⟨(by show 1 ≤ sizeLine; omega), fun q1 m1 => ⟨(by show 1 ≤ sizeLine; omega), fun q2 m2 => ⟨(by show 3 ≤ sizeLine; omega), fun q3 m3 => ?_⟩⟩⟩
      have w1 := same_new m1 (.tup [.str "told"])
      have w2 := same_new m2 (.tup [.str "told"])
      have w3 := same_new m3 (.tup [.str "is", .ref q1, .ref q2])
      have w13 := w1.trans (w2.trans w3)
      have hvow : TsAt (upd (upd (upd H1 q1 (.tup [.str "told"])) q2 (.tup [.str "told"])) q3 (.tup [.str "is", .ref q1, .ref q2])) (.ref q3) vow4 := .is upd_same (.told (w3 _ _ (w2 _ _ upd_same))) (.told (w3 _ _ upd_same))
      generalize upd (upd (upd H1 q1 (.tup [.str "told"])) q2 (.tup [.str "told"])) q3 (.tup [.str "is", .ref q1, .ref q2]) = HV at *
      refine ⟨_, rfl, 6, rfl, slA_all (w13 _ _ e8) fun p1 H2 s2 e2 => ?_⟩
      refine ⟨_, rfl, (by show 2 ≤ sizeLine; omega), fun pl nl => ?_⟩
      have sl := same_new nl (.lst [.ref q3, .non])
      have s0l := w13.trans (s2.trans sl)
      refine ⟨_, rfl, a, _, _, _, rfl, rfl, SqT.of (s0l _ _ e8), atI_nat (j := 6) rfl, _, rfl, _, _, vow_dp (hp.keep (Same.tups s0l)), tsD_dp (hvow.keep (Same.tups (s2.trans sl))), hF.promise.shaped (by decide), (by decide +kernel), .inr ⟨_, rfl, ?_⟩⟩
      obtain ⟨o, v, hv, hov, oth⟩ : ∃ (o : Option Ts) (v : V), atI [V.ref q3, .non] (if PyData.eqv (vowD r.promise) (tsD vow4) = true then 1 else 0) = some v ∧ VowAt HV v o ∧ Other r { r with promise := o } := by
        cases e : PyData.eqv (vowD r.promise) (tsD vow4) with
        | true => exact ⟨none, .non, rfl, rfl, .bare c2 e⟩
        | false => exact ⟨some vow4, .ref q3, rfl, hvow, .vow c2 e⟩
      refine ⟨pl, _, _, _, rfl, rfl, SqL.of upd_same, hv, (by show 1 ≤ sizeLine; omega), fun p3 n3 => ?_⟩
      have s3 := same_new n3 (.tup [v])
      have sl3 := sl.trans s3
      refine mk_catA (sl3 _ _ e2) upd_same (by show 6 + 1 ≤ 1000; decide) fun p4 H4 s4 e4 => ?_
      have s34 := sl3.trans s4
      refine ⟨_, rfl, 7, rfl, ?_⟩
      first | (unfold tNoPart; dsimp only) | (dsimp only; unfold tNoPart; dsimp only) | dsimp only
      refine slA_all (s34 _ _ (s2 _ _ (w13 _ _ e8))) fun p5 H5 s5 e5 => ?_
      refine mk_catA (s5 _ _ e4) e5 (by show 7 + 1 ≤ 1000; decide) fun p6 H6 s6 e6 => ?_
      have sV := s2.trans (s34.trans (s5.trans s6))
      have sA := w13.trans sV
      refine q p6 { r with promise := o } H6 (k1.trans (.of sA)) (B1.keep sA) ⟨_, _, _, _, _, _, _, _, e6, ?_⟩ oth
      exact ⟨rfl, rfl, ⟨cb, rfl, as1, sA _ _ hcb, paired_imp (fun _ _ y => sA _ _ y) pcb⟩, ⟨cs, rfl, us1, sA _ _ hcs, paired_imp (fun _ _ y => y.keep (Same.tups sA)) pcs⟩, hka, ht.keep (Same.tups sA), hov.keep (Same.tups sV), ⟨cy, rfl, vs1, sA _ _ hcy, (bcy1.keep (Same.tups sA))⟩⟩
    · refine ⟨(by show 2 ≤ sizeLine; omega), fun q1 m1 => ⟨(by show 2 ≤ sizeLine; omega), fun q2 m2 => ⟨(by show 3 ≤ sizeLine; omega), fun q3 m3 => ?_⟩⟩⟩
      have w1 := same_new m1 (.tup [.str "number", .int 3])
      have w2 := same_new m2 (.tup [.str "number", .int 3])
      have w3 := same_new m3 (.tup [.str "is", .ref q1, .ref q2])
      have w13 := w1.trans (w2.trans w3)
      have hone : TsAt (upd (upd (upd H1 q1 (.tup [.str "number", .int 3])) q2 (.tup [.str "number", .int 3])) q3 (.tup [.str "is", .ref q1, .ref q2])) (.ref q3) one3 := .is upd_same (.num (w3 _ _ (w2 _ _ upd_same))) (.num (w3 _ _ upd_same))
      generalize upd (upd (upd H1 q1 (.tup [.str "number", .int 3])) q2 (.tup [.str "number", .int 3])) q3 (.tup [.str "is", .ref q1, .ref q2]) = HV at *
      refine ⟨_, rfl, 3, rfl, slA_all (w13 _ _ e8) fun p1 H2 s2 e2 => ?_⟩
      have w12 := w13.trans s2
      refine ⟨_, rfl, a, _, _, _, rfl, rfl, SqT.of (w12 _ _ e8), atI_nat (j := 3) rfl, 1, rfl, ?_⟩
      first | (unfold tNoPart; dsimp only) | (dsimp only; unfold tNoPart; dsimp only) | dsimp only
      refine slA_all (w12 _ _ hcs) fun p3 H3 s3 e3 => ?_
      rw [show ((1 : Int)) = ((1 : Nat) : Int) from rfl, cut_from] at e3
      refine ⟨_, rfl, (by show 1 ≤ sizeLine; omega), fun p4 n4 => ?_⟩
      have s4 := same_new n4 (.tup [.ref q3])
      have s34 := s3.trans s4
      refine mk_catA (s4 _ _ e3) upd_same (by rw [List.length_drop, lus]; show _ + 1 ≤ 1000; omega) fun p5 H5 s5 e5 => ?_
      refine ⟨(by show 1 ≤ sizeLine; omega), fun p6 n6 => ?_⟩
      have s6 := same_new n6 (.tup [.ref p5])
      have s36 := s34.trans (s5.trans s6)
      refine mk_catA (s36 _ _ e2) upd_same (by show 3 + 1 ≤ 1000; decide) fun p7 H7 s7 e7 => ?_
      refine ⟨_, rfl, 4, rfl, ?_⟩
      first | (unfold tNoPart; dsimp only) | (dsimp only; unfold tNoPart; dsimp only) | dsimp only
      refine slA_all (s7 _ _ (s36 _ _ (w12 _ _ e8))) fun p8 H8 s8 e8' => ?_
      refine mk_catA (s8 _ _ e7) e8' (by show 4 + 4 ≤ 1000; decide) fun p9 H9 s9 e9 => ?_
      have sV := s2.trans (s36.trans (s7.trans (s8.trans s9)))
      have sA := w13.trans sV
      have s69 := s6.trans (s7.trans (s8.trans s9))
      refine q p9 { r with sayings := r.sayings.drop 1 ++ [one3] } H9 (k1.trans (.of sA)) (B1.keep sA) ⟨_, _, _, _, _, _, _, _, e9, ?_⟩ .says
      exact ⟨rfl, rfl, ⟨cb, rfl, as1, sA _ _ hcb, paired_imp (fun _ _ y => sA _ _ y) pcb⟩, ⟨p5, rfl, _, s69 _ _ e5, paired_app (paired_drop (paired_imp (fun _ _ y => y.keep (Same.tups sA)) pcs) 1) (.cons (hone.keep (Same.tups sV)) .nil)⟩, hka, ht.keep (Same.tups sA), hp.keep (Same.tups sA), ⟨cy, rfl, vs1, sA _ _ hcy, (bcy1.keep (Same.tups sA))⟩⟩
end
end Any
set_option pp.maxSteps 600
set_option maxHeartbeats 2000000
namespace Any
open L2 PySem PySem.Spec PyProof.Rows LamX NdefX
section
variable {X : Cx} {C : CXT} {k : Nat} {f D : Addr} {fd : FuncData} {ps : List Str} {sp : Sp} {E : XK}
theorem call_lenO (F : FnOk X.prog X.w X.K X.mg X.base C k f fd ps sp) (hs : PySem.W.findIn X.K (.ref D) "__len__" = some (some (.ref f))) (hf : PySem.W.isFn X.K (.ref f) = true) (hb : Binds X.K fd ps []) (hx : Passes C X E) (hr : Room (k + 1) X.A) :
    CallR X (.builtin "len") (fun xs H Q => ∃ a dx fs, xs = [.ref a] ∧ H a = some (.ins D dx fs) ∧ sp [.ref a] H (fun v H' => ∃ n : Int, v = .int n ∧ 0 ≤ n ∧ n < 2 ^ 63 ∧ Q (.int n) H') E) := by
  intro pins s σ H xs us Q I r h
  obtain ⟨a, dx, fs, rfl, ha, hsp⟩ := h
  obtain ⟨u, rfl, ru⟩ := vals1 r
  cases ru
  obtain ⟨mA, J, _⟩ := ins_get I.hok ha
  obtain ⟨od, J, _⟩ := J.look
  obtain ⟨m, hF⟩ := I.fr
  refine PySem.W.len_K hF I.ok.mod.kin J hs hf ?_
  have hl := F.len _ _ _ _ hsp
  have e0 : Env0 X.prog X.w X.K X.mg X.base X.A.in1 X.stack s H := by
    have e := I.env0
    exact ⟨e.frames, e.mod, e.bs, e.bsz, e.funs, e.frf, e.hok, e.bare⟩
  have r2 : Vals [V.ref a] [Value.ref a] := .cons rfl .nil
  refine wpAny_call (codeAny_mono (F.run X.A.in1 X.stack s H ⟨[.ref a], []⟩ [.ref a] [.ref a] _ E hr.in1 e0 (by
    have := hb s [.ref a] I.kIn (by simpa using hl)
    simpa using this) r2 hsp) fun r s' hq => ?_)
  cases r with
  | error e => exact hx pins σ H s e s' I hq
  | ok fl =>
    cases fl with
    | ret w =>
      obtain ⟨z, H', I', rz, n, ez, n0, n1, q⟩ := I.after hq
      subst ez
      obtain ⟨t, rfl⟩ := rz
      exact ⟨⟨n0, n1⟩, .int n, H', I'.kept (fun _ _ e => e), ⟨_, rfl⟩, q⟩
    | next => exact False.elim hq
    | brk => exact False.elim hq
    | cont => exact False.elim hq
end
/-! ### _law_room_right -/
theorem eqQ_ref {X : Cx} {C : Addr} {k : Nat} {sp : Sp} (D : EqD X.prog X.w X.K X.mg X.base C k sp) (T : NoTy X.K C) : EqQ X k (DRef C sp) := by
  refine (rcQ_ref D T).eqQ (fun x y H b u d rx ry => ?_) (fun x y H b d => ?_)
  · obtain ⟨a, dx, fs, rfl, ha, ho, hsp⟩ := d
    cases ry
    cases ho with
    | non => cases rx
    | str z =>
      obtain ⟨t, e⟩ := rx
      cases e
    | @tup l xs h =>
      cases rx
      rw [ha] at h
      cases h
  · obtain ⟨a, dx, fs, rfl, _⟩ := d
    exact .inr ⟨a, rfl⟩
/-- an own class with a __len__ -/
structure LenD (P : PySem.Program) (w : World) (K : PySem.W.Frag) (mg : Str → Option Value) (base : Heap) (C : Addr) (k : Nat) (sp : Sp) : Prop where
  ex : ∃ f fd, PySem.W.findIn K (.ref C) "__len__" = some (some (.ref f)) ∧ PySem.W.isFn K (.ref f) = true ∧ FnOk P w K mg base CX0 k f fd ["self"] sp ∧ Binds K fd ["self"] []
def rLenO (D : Addr) (sp : Sp) : List V → Hp → VK → Prop := fun xs H Q => ∃ a dx fs, xs = [.ref a] ∧ H a = some (.ins D dx fs) ∧ sp [.ref a] H (fun v H' => ∃ n : Int, v = .int n ∧ 0 ≤ n ∧ n < 2 ^ 63 ∧ Q (.int n) H') E0
theorem call_lenD {X : Cx} {D : Addr} {k : Nat} {sp : Sp} (L : LenD X.prog X.w X.K X.mg X.base D k sp) (hr : Room (k + 1) X.A) : CallR X (.builtin "len") (rLenO D sp) := by
  obtain ⟨f, fd, hs, hf, F, hb⟩ := L.ex
  exact call_lenO F hs hf hb pass0 hr
abbrev sRr : Stmt := top 86
abbrev nmRr : List Str := ["_law_one", "_law_some", "_law_other_here", "_law_found", "_law_twin"]
abbrev psRr : List Str := ["_law_one", "_law_some", "_law_other_here"]
theorem scRr : FnScope nmRr psRr (defScope sRr) := ⟨rfl, rfl, rfl, by decide +kernel, rfl, by decide +kernel, by decide +kernel⟩
def spRr (C : Addr) : Sp := fun vs H Q _ => ∃ (x a y : Addr) (r r' : Rm), vs = [.ref x, .ref a, .ref y] ∧ RmAt C H x r ∧ EightAt H a r ∧ RmAt C H y r' ∧ r.fd ∧ r'.fd ∧ rmB r r' = false ∧ rmB r' r = false ∧ x ≠ y ∧ r.body.dp < 5 ∧ r.body.tot ≤ 1000 ∧ ∀ H', Same H H' → Q (.bl true) H'
theorem parts_shown {K : PySem.W.Frag} {H : Hp} {a : Addr} {xs : List V} {r : Rm} (h : H a = some (.lst xs)) (hd : DpAll K H xs r.parts) (hF : r.fd) : Shows K H a (.list r.parts) ∧ (PyData.list r.parts).showable = true ∧ (PyData.list r.parts).depth ≤ 60 ∧ (PyData.list r.parts).shown.length ≤ sizeLine := by
  have z : Fd (.list r.parts) 15 11000 := .lst hF.all
  refine ⟨.seq (.lst (SqL.of h) hd) z.nd, z.sh, Nat.le_trans z.dp (by decide), ?_⟩
  have l := PyData.shown_le_bulk 64 (by decide) _ z.ls
  have b := z.bk
  rw [sizeLine_eq]
  omega
section
variable {P : Program} {w : World} {K : PySem.W.Frag} {mg : Str → Option Value} {base : Heap} {f C : Addr} {fd : FuncData}
set_option maxHeartbeats 8000000 in
theorem ok_rr (O : Own mg) (mr : mg "repr" = none) (T : RoomC K C) (ED : EqD P w K mg base C 2 (spReq C)) (RD : ReD P w K mg base C 1 (spRrp C)) (LD : LenD P w K mg base C 7 (spRln C)) (NT : NoTy K C) (DM : Df P w K mg base 3 "_law_made" ["_law_some"] (spMade C)) (DL : Df P w K mg base 6 "_law_many" ["_law_deeds"] (spLm 5))
    (F : Fun K "_law_room_right" "_law_room_right" sRr f fd) : FnG P w K mg base CX0 12 f fd psRr (spRr C) := by
  refine fun_g F scRr (fun vs H Q E h => ?_) (fun cdv A outer s H vs Q E hG hr h => ?_)
  · obtain ⟨x, a, y, r, r', rfl, _⟩ := h
    rfl
  obtain ⟨x, a, y, r, r', rfl, hx, h8, hy, hF, hF', ne1, ne2, nxy, hdp, htot, q⟩ := h
  have hs : sizeLine = 16777216 := sizeLine_eq
  have hG' : (A.deeper (envOfC "_law_room_right" (defScope sRr) s.heap.objs.size f cdv)).guards = some [] := hG
  have hu : (A.deeper (envOfC "_law_room_right" (defScope sRr) s.heap.objs.size f cdv)).units + 70 < cLine := by have := hr.un; omega
  have hr2 := hr.mono (show 2 ≤ 11 by decide)
  have hr3 := hr.mono (show 3 ≤ 11 by decide)
  have hr6 := hr.mono (show 6 ≤ 11 by decide)
  have hr8 := hr.mono (show 7 + 1 ≤ 11 by decide)
  have hin := (((eqQ_ref (X := (cxOf CX0 P w K mg base nmRr "_law_room_right" (defScope sRr) f cdv A outer s H E).nox) ED NT).or (eqQ_rm (X := (cxOf CX0 P w K mg base nmRr "_law_room_right" (defScope sRr) f cdv A outer s H E).nox) ED)))
  refine ⟨_, pss_cons (ps_set (i := 3) scRr.nd rfl (Or.inl rfl) (pe_lst (pa_cons (pe_fld (pv 0) rfl) (pa_cons (pe_fld (pv 0) rfl) (pa_cons (pe_fld (pv 0) rfl) (pa_cons (pe_fld (pv 0) rfl) (pa_cons (pe_fld (pv 0) rfl) (pa_cons (pe_fld (pv 0) rfl) (pa_cons (pe_fld (pv 0) rfl) (pa_cons (pe_fld (pv 0) rfl) pa_nil))))))))))
    (pss_cons (ps_if (PW.pt (pw_or (pt_cmpR op_ne (pe_callB (call_repr hG' hu) rfl mr (by decide +kernel) (pa_cons (pv 3) pa_nil)) (pe_callB (call_repr hG' hu) rfl mr (by decide +kernel) (pa_cons (pe_callTy call_list_of rfl O.list (by decide +kernel) (pa_cons (pv 1) pa_nil)) pa_nil)) (nomark _))
        (pw_or (pt_cmpR op_ne (pe_callB (call_reprO RD hr2) rfl mr (by decide +kernel) (pa_cons (pv 0) pa_nil)) (pe_op op_add_str (pe_op op_add_str pe_str (pe_ix ix_tup (pv 1) pe_int (fun _ _ => rfl))) pe_str) (nomark _))
        (pw_or1 (pt_cmpR op_ne (pe_callB (call_lenD LD hr8) rfl O.len PySem.boot_len (pa_cons (pv 0) pa_nil)) (pe_D DL hr6 rfl (pa_cons (pe_ix ix_tup (pv 1) pe_int (fun _ _ => rfl)) pa_nil)) (nomark _)))))) (pss_one (ps_ret pe_bl)) pss_nil)
    (pss_cons (ps_set (i := 4) scRr.nd rfl (Or.inl rfl) (pe_D DM hr3 rfl (pa_cons (pv 1) pa_nil)))
    (pss_cons (ps_if (PW.pt (pw_or (pt_not (pt_cmpR (op_eqO ED hr2) (pv 0) (pv 4) (nomark _))) (pw_or (pt_cmpR (op_neO ED hr3) (pv 0) (pv 4) (nomark _)) (pw_or (pt_cmpR (op_eqO ED hr2) (pv 0) (pv 2) (nomark _)) (pw_or (pt_cmpR (op_eqO ED hr2) (pv 0) (pv 1) (nomark _))
        (pw_or1 (pt_not (pt_cmpR (op_neO ED hr3) (pv 0) (pv 2) (nomark _))))))))) (pss_one (ps_ret pe_bl)) pss_nil)
    (pss_one (ps_ret (pe_and (pe_cmpR (op_inQ hin hr3) (pv 0) (pe_lst (pa_cons pe_non (pa_cons (pv 2) (pa_cons (pv 4) pa_nil)))) (by with_unfolding_all rfl))
      (pe_one (pe_cmpR (op_notInQ hin hr3) (pv 0) (pe_lst (pa_cons pe_non (pa_cons (pv 2) (pa_cons (pe_ix ix_tup (pv 1) pe_int (fun _ _ => rfl)) pa_nil)))) (by with_unfolding_all rfl)))))))))
    , ?_⟩
  obtain ⟨dx, n, ab, bx, sy, ka, t, pr, yb, ex, pa⟩ := id hx
  obtain ⟨n2, ab2, bx2, sy2, ka2, t2, pr2, yb2, e8, pa2⟩ := id h8
  refine ⟨_, rfl, x, C, dx, _, _, rfl, ex, T.cl, T.n1, rf_name, _, rfl, x, C, dx, _, _, rfl, ex, T.cl, T.n2, rf_above, _, rfl, x, C, dx, _, _, rfl, ex, T.cl, T.n3, rf_boxes, _, rfl, x, C, dx, _, _, rfl, ex, T.cl, T.n4, rf_sayings,
    _, rfl, x, C, dx, _, _, rfl, ex, T.cl, T.n5, rf_ask, _, rfl, x, C, dx, _, _, rfl, ex, T.cl, T.n6, rf_told, _, rfl, x, C, dx, _, _, rfl, ex, T.cl, T.n7, rf_promise, _, rfl, x, C, dx, _, _, rfl, ex, T.cl, T.n8, rf_body, (by show 8 ≤ sizeLine; omega), fun pf nf => ?_⟩
  have s1 := same_new nf (.lst [n, ab, bx, sy, ka, t, pr, yb])
  have ef : upd H pf (.lst [n, ab, bx, sy, ka, t, pr, yb]) pf = some (.lst [n, ab, bx, sy, ka, t, pr, yb]) := upd_same
  generalize upd H pf (.lst [n, ab, bx, sy, ka, t, pr, yb]) = H1 at *
  obtain ⟨g1, g2, g3, g4⟩ := parts_shown (K := K) ef (parts_dp (pa.keep (Same.tups s1))) hF
  refine ⟨_, rfl, pf, _, rfl, g1, g2, g3, g4, ?_⟩
  refine ⟨_, rfl, a, _, rfl, .inr (SqT.of (s1 _ _ e8)), fun pl nl => ?_⟩
  have s2 := same_new nl (.lst [n2, ab2, bx2, sy2, ka2, t2, pr2, yb2])
  have s12 := s1.trans s2
  obtain ⟨k1, k2, k3, k4⟩ := parts_shown (K := K) (@upd_same H1 pl (.lst [n2, ab2, bx2, sy2, ka2, t2, pr2, yb2])) (parts_dp (pa2.keep (Same.tups s12))) hF
  generalize upd H1 pl (.lst [n2, ab2, bx2, sy2, ka2, t2, pr2, yb2]) = H2 at *
  have hx2 := hx.keep s12
  have h82 := h8.keep (Same.tups s12)
  have hn2 := pa2.name
  subst hn2
  have c1 : ("Room(" : Str).length = 5 := by decide +kernel
  have c2 : (")" : Str).length = 1 := by decide +kernel
  have h8n := hF.name.hi
  refine ⟨pl, _, rfl, k1, k2, k3, k4, rfl, _, rfl, itF (by rw [decide_eq_true rfl]; rfl) ?_⟩
  refine ⟨_, rfl, x, dx, _, rfl, s12 _ _ ex, x, r, rfl, hx2, hF, _, rfl, ?_⟩
  refine ⟨_, rfl, a, _, _, _, rfl, rfl, SqT.of (s12 _ _ e8), atI_nat (j := 0) rfl, _, _, rfl, rfl, by rw [c1]; omega, _, _, rfl, rfl, by rw [Str.length_append, c1, c2]; omega, rfl, _, rfl, itF ?_ ?_⟩
  · rw [Str.empty_append, decide_eq_true rfl]
    rfl
  obtain ⟨cy, ey, hby⟩ := pa2.body
  subst ey
  refine ⟨_, rfl, x, dx, _, rfl, s12 _ _ ex, x, r, rfl, hx2, hdp, htot, fun H3 s3 => ⟨_, rfl, by omega, by omega, ?_⟩⟩
  have s13 := s12.trans s3
  refine ⟨_, rfl, a, _, _, _, rfl, rfl, SqT.of (s13 _ _ e8), atI_nat (j := 7) rfl, cy, r.body, rfl, hby.keep (Same.tups s13), hdp, htot, rfl, _, rfl, itF (by rw [decide_eq_true rfl]; rfl) ?_⟩
  refine ⟨_, rfl, a, r, rfl, h8.keep (Same.tups s13), fun tw H4 ntw s4 hm => ?_⟩
  have s14 := s13.trans s4
  have hx4 := hx.keep s14
  have hy4 := hy.keep s14
  have ex4 := s14 _ _ ex
  obtain ⟨dt, n5, ab5, bx5, sy5, ka5, t5, pr5, yb5, ex5, pa5⟩ := id hm
  obtain ⟨dy, n6, ab6, bx6, sy6, ka6, t6, pr6, yb6, ex6, pa6⟩ := id hy4
  have rr := rmB_refl hF
  refine ⟨_, rfl, _, rfl, x, dx, _, rfl, ex4, .ins ex5, x, _, r, rfl, hx4, hF, .inl ⟨tw, r, rfl, hm, hF, _, rfl, _, rfl, itF (by rw [rr]; rfl) ?_⟩⟩
  refine ⟨_, rfl, _, rfl, x, dx, _, rfl, ex4, .ins ex5, x, _, r, rfl, hx4, hF, .inl ⟨tw, r, rfl, hm, hF, _, rfl, _, rfl, itF (by rw [rr]; rfl) ?_⟩⟩
  refine ⟨_, rfl, _, rfl, x, dx, _, rfl, ex4, .ins ex6, x, _, r, rfl, hx4, hF, .inl ⟨y, r', rfl, hy4, hF', _, rfl, _, rfl, itF ne1 ?_⟩⟩
  refine ⟨_, rfl, _, rfl, x, dx, _, rfl, ex4, .tup (s14 _ _ e8), x, _, r, rfl, hx4, hF, .inr ⟨.tup (s14 _ _ e8), _, rfl, _, rfl, itF rfl ?_⟩⟩
  refine ⟨_, rfl, _, rfl, x, dx, _, rfl, ex4, .ins ex6, x, _, r, rfl, hx4, hF, .inl ⟨y, r', rfl, hy4, hF', _, rfl, _, rfl, itF (by rw [ne1]; rfl) ?_⟩⟩
  -- in, not in
  have ask : ∀ (v : V), Lft H4 v → NoIns H4 v → ∀ Hx, Same H4 Hx → DRef C (spReq C) v (.ref x) Hx false := fun v l ni Hx sx => by
    refine ⟨x, dx, _, rfl, sx _ _ ex4, ?_, fun Q' q' => ⟨x, v, r, rfl, hx4.keep sx, hF, .inr ⟨ni.keep sx, q'⟩⟩⟩
    cases l with
    | non => exact .non
    | str z => exact .str z
    | tup h => exact .tup (sx _ _ h)
  refine ⟨_, rfl, _, rfl, _, rfl, (by show 3 ≤ sizeLine; omega), fun p1 n1 => ?_⟩
  have s5 := same_new n1 (.lst [.non, .ref y, .ref tw])
  refine ⟨p1, _, fun i => decide (i = 2), rfl, upd_same, fun i z hz => ?_, ?_⟩
  · have : i = 0 ∨ i = 1 ∨ i = 2 := by
      have := (List.getElem?_eq_some_iff.mp hz).1
      have e : ([V.non, .ref y, .ref tw] : List V).length = 3 := rfl
      omega
    rcases this with rfl | rfl | rfl
    · cases hz
      exact .inl (ask _ .non .non _ s5)
    · cases hz
      refine .inr ⟨y, x, r', r, rfl, rfl, hy4.keep s5, hx4.keep s5, hF', hF, ne2.symm, fun e => absurd e.symm nxy⟩
    · cases hz
      exact .inr ⟨tw, x, r, r, rfl, rfl, hm.keep s5, hx4.keep s5, hF, hF, rr.symm, fun _ => rfl⟩
  refine ⟨_, rfl, itT rfl ?_⟩
  refine ⟨_, rfl, _, rfl, _, rfl, a, _, _, _, rfl, rfl, SqT.of (s5 _ _ (s14 _ _ e8)), atI_nat (j := 0) rfl, (by show 3 ≤ sizeLine; omega), fun p2 n2 => ?_⟩
  have s6 := same_new n2 (.lst [.non, .ref y, .str r.name])
  have s56 := s5.trans s6
  refine ⟨p2, _, fun _ => false, rfl, upd_same, fun i z hz => ?_, ?_⟩
  · have : i = 0 ∨ i = 1 ∨ i = 2 := by
      have := (List.getElem?_eq_some_iff.mp hz).1
      have e : ([V.non, .ref y, .str r.name] : List V).length = 3 := rfl
      omega
    rcases this with rfl | rfl | rfl
    · cases hz
      exact .inl (ask _ .non .non _ s56)
    · cases hz
      refine .inr ⟨y, x, r', r, rfl, rfl, hy4.keep s56, hx4.keep s56, hF', hF, ne2.symm, fun e => absurd e.symm nxy⟩
    · cases hz
      exact .inl (ask _ (.str _) (.str _) _ s56)
  exact q _ (s14.trans s56)
end
end Any
set_option pp.maxSteps 600
set_option maxHeartbeats 1000000
namespace Any
open L2 PySem PySem.Spec PyProof.Rows LamX NdefX
/-! ### a lambda that is handed down, where there are other tables too -/
section
variable {X : Cx} {pins : List (Addr × Obj)} {σ : L2.St} {H : Hp} {s : Shared}
theorem lam_make3 {T : List NTab} {nm : Nat → Nat → Str} {c P : Addr} {ar : Arguments} {bd : Expr} {sc : Scope} {pos : Pos} {E : Value → Shared → Prop} {Q : Value → Shared → Prop} (I : Inv X pins σ H s) (base : TabB X.base X.mg c P) (mine : X.env.code = .ref c)
    (listed : (P, nm) ∈ T) (named : nm pos.line pos.col = X.env.qual ++ "<lambda>") (uni : ∀ p ∈ T, p.1 = P → p.2 = nm) (all : TabsN T H) (nod : defaultsOf ar X.env = ([], [])) (capt : ∀ y ∈ sc.names, y.2 = .free → ∃ c, X.env.cells.lookup y.1 = some c)
    (go : ∀ (f c' : Addr) (pm ctv : Value) (H1 : Hp) (s' : Shared), Inv X pins σ H1 s' → Gr T H H1 → s'.heap.get? f = some (PySem.W.kla_obj "<lambda>" (X.env.qual ++ "<lambda>") ar bd sc (cloFrom X.env.cells sc.names []) pm c' ctv) → H1 f = none → f ∉ frs X.stack → H1 c' = some (CodeO c' (X.env.qual ++ "<lambda>")) → Q (.ref f) s') :
    wpAny (model X.prog X.w) X.A (eval (.Lambda ar bd sc pos) X.env) Q E s := by
  obtain ⟨ps, at_, tri, told⟩ := (show TabN H P nm from all _ listed)
  have raw : s.heap.get? P = some { cls := .none, data := .fields ps } := I.hok P _ at_
  have glob := I.mod.glob.keeps I.bk
  have nofr : ∀ f, s.heap.objs.size ≤ f → f ∉ frs X.stack := fun f hf z => by
    rcases List.mem_cons.mp (I.stkSub _ z) with e | e
    · have h1 := I.lt
      rw [← e] at h1
      exact Nat.lt_irrefl _ (Nat.lt_of_lt_of_le h1 hf)
    · exact I.nofs hf e
  have last : ∀ (H1 : Hp) (s1 : Shared) (c' : Addr) (ctv : Value) (tk : Nat), Inv X pins σ H1 s1 → Gr T H H1 → s.heap.objs.size ≤ s1.heap.objs.size → H1 c' = some (CodeO c' (X.env.qual ++ "<lambda>")) →
      Q (.ref s1.heap.objs.size) { s1 with heap := s1.heap.push (PySem.W.kla_obj "<lambda>" (X.env.qual ++ "<lambda>") ar bd sc (cloFrom X.env.cells sc.names []) ((X.mg "__name__").getD .none) c' ctv), toks := tk } := fun H1 s1 c' ctv tk J g hsz x4 => by
    have J2 : Inv X pins σ H1 { s1 with heap := s1.heap.push (PySem.W.kla_obj "<lambda>" (X.env.qual ++ "<lambda>") ar bd sc (cloFrom X.env.cells sc.names []) ((X.mg "__name__").getD .none) c' ctv), toks := tk } := J.kept (t' := tk) fun b o e => Heap.get?_push_of_some _ e
    exact go s1.heap.objs.size c' ((X.mg "__name__").getD .none) ctv H1 _ J2 g (Heap.get?_push_size _ rfl) (J.hok.fresh (Nat.le_refl _)) (nofr _ hsz) x4
  refine PySem.W.kla_eval nod ?_
  cases seen : codeAmong pos ps.toList with
  | some cv =>
    obtain ⟨c', rfl, known⟩ := told pos cv seen
    rw [named] at known
    refine PySem.W.kla_makeFunctionHit (mg := X.mg) (c := c) (P := P) (ps := ps) (closure_ok capt) I.ok.glob glob mine (base.code.keeps I.bk) raw tri seen (base.bm.keeps I.bk) fun ctv h' tk kp hsz => ?_
    exact last H { s with heap := h', toks := tk } c' ctv tk (I.kept kp) (Gr.refl all) hsz known
  | none =>
    refine PySem.W.kla_makeFunction (mg := X.mg) (c := c) (P := P) (ps := ps) (closure_ok capt) I.ok.glob glob mine (base.code.keeps I.bk) raw tri seen base.gP (base.bm.keeps I.bk) fun c' ctv h' tk kp above below rec tab => ?_
    obtain ⟨d, oc, vs, tok, ed, g1, g2, g3⟩ := rec
    cases ed
    have new : H c' = none := I.hok.fresh above
    have J := inv_table (t' := tk) (more := #[rawInt pos.line, rawInt pos.col, .ref c']) (h' := h') I at_ (fun b o n e => kp b o n e) tab above ⟨oc, vs, tok, g1, g2, g3⟩
    exact last (putTab H P c' ps pos (X.env.qual ++ "<lambda>")) { s with heap := h', toks := tk } c' ctv tk J ⟨putTab_ext at_ new, fun b z => NdefX.upd_none (NdefX.upd_none z), putTab_tabs uni all at_ tri told new named⟩ (Nat.le_trans above (Nat.le_of_lt below)) upd_same
end
/-- the reading of x(lambda: .., es) -/
def tLamN (T : List NTab) (q : Str) (TT : (XK → Hp → VK → Prop) → List V → Hp → VK → Prop) (t : XK → TE) (ta : TA) : TE := fun σ H Q => TabsN T H ∧ ∀ (c' : Addr) (H1 : Hp), Gr T H H1 → H1 c' = some (CodeO c' q) →
  ta σ H1 fun vs H2 => H2 c' = some (CodeO c' q) ∧ TT (fun E H' Q' => t E σ H' Q') vs H2 Q
theorem pe_lamN {X : Cx} {T : List NTab} {nm : Nat → Nat → Str} {TT : (XK → Hp → VK → Prop) → List V → Hp → VK → Prop} {x : Str} {c P : Addr} {m : Nat} {params : Arguments} {body : Expr} {scope : Scope} {t : XK → TE} {ta : TA} {es : List Expr} {p lpos pos : Pos}
    (D : DfL X.prog X.w X.K X.mg X.base (m + 1) x TT) (hG : X.A.guards = some []) (hr : Room (m + 2) X.A) (hg : Gl X x) (TB : TabB X.base X.mg c P) (hcode : X.env.code = .ref c) (hmT : (P, nm) ∈ T) (named : nm lpos.line lpos.col = X.env.qual ++ "<lambda>") (hu : ∀ p ∈ T, p.1 = P → p.2 = nm)
    (L : LamS X.env.scope scope) (hdef : defaultsOf params X.env = ([], [])) (hbind : ∀ (q : Str) (cl : List (Str × Addr)) (pm cv ctv : Value), bindArgs (PySem.W.kla_fn "<lambda>" q params body scope cl pm cv ctv) ⟨[], []⟩ = pure [])
    (hbody : ∀ (A : Around) (outer : List Env) (s : Shared) (H : Hp) (E : XK) (f c' : Addr), A.guards = some [] → Room m (A.deeper (lamEnv X scope s.heap.objs.size f c')) → PE (lamCx X A outer s H E scope f c') body (t E)) (ha : PA X es ta)
    (hdb : (x == ("__debug__" : Str)) = false := by decide) (hst : starEach (.Lambda params body scope lpos :: es) X.env = (false, eval (.Lambda params body scope lpos) X.env) :: starEach es X.env := by rfl) (hpl : (backTo pos (starEach es X.env)).any (·.1) = false := by rfl) :
    PE X (.Call (.Name x p) (.Lambda params body scope lpos :: es) [] pos) (tLamN T (X.env.qual ++ "<lambda>") TT t ta) := by
  refine ⟨fun pins s σ H Q I h => ?_⟩
  obtain ⟨hT, h⟩ := h
  obtain ⟨g, hm, hk, F⟩ := D
  refine wpAny_Call_Name_kw (ld_glob I hg hm ?_ hdb)
  refine PySem.W.callWith_K (h₀ := X.base) I.ok.mod.kin hk ?_ hst hpl
  rw [hst]
  show wpAny _ _ (spliced ((false, eval (.Lambda params body scope lpos) X.env) :: backTo pos (starEach es X.env))) _ _ s
  refine Calls.spliced_cons (lam_make3 I TB hcode hmT named hu hT hdef (L.has I.ok) fun f c' pm' ctv H1 s' I1 g1 hf hfn hfr hco => ?_)
  have nL : f ≠ X.env.locals := fun z => by
    obtain ⟨_, ⟨o, es, ep, ho, hd, _⟩, _⟩ := I1.loc
    rw [← z, hf] at ho
    cases ho
    cases hd
  have nF : f ∉ X.fs := fun z => by
    obtain ⟨_, o, ho, hd⟩ := I1.funs.mem z
    rw [hf] at ho
    exact hfr (by
      rcases I1.ok.stk with e | ⟨e, _⟩
      · rw [e]; exact z
      · rw [e]
        obtain ⟨v, hv, hv2⟩ := List.mem_filterMap.mp z
        exact List.mem_filterMap.mpr ⟨v, List.mem_cons_of_mem _ hv, hv2⟩)
  have J1 : Inv X ((f, PySem.W.kla_obj "<lambda>" (X.env.qual ++ "<lambda>") params body scope (cloFrom X.env.cells scope.names []) pm' c' ctv) :: pins) σ H1 s' := by
    refine I1.pins_of fun p hp => ?_
    rcases List.mem_cons.mp hp with rfl | hp
    · exact ⟨hf, hfn, nL, nF, fun v z => by cases z⟩
    · exact I1.pin p (List.mem_append_right _ hp)
  refine thn (ha.run pos _ s' σ H1 _ J1 (h c' H1 g1 hco)) fun us s2 ⟨vs, H2, J2, rv, hc2, ht⟩ => ?_
  have I2 : Inv X pins σ H2 s2 := J2.pins_of fun p hp => J2.pin p (List.mem_append_right _ (List.mem_cons_of_mem _ hp))
  obtain ⟨hf2, hn2, _⟩ := J2.pin (f, _) (List.mem_append_right _ List.mem_cons_self)
  refine ⟨I2.kIn, ?_⟩
  show wpAny _ _ (call (.ref g) (.ref f :: us)) _ _ _
  have ask := asked_of (t := t) I2 L hf2 hn2 hfr (hbind _ _ _ _ _) fun A outer s H E hG hr => hbody A outer s H E f c' hG hr
  refine wpAny_call (codeAny_mono (F X.A X.stack s2 H2 f c' _ us vs Q _ hG hr I2.env0 ask hc2 rv ht) fun r s3 hq => ?_)
  cases r with
  | error e => exact False.elim hq
  | ok fl =>
    cases fl with
    | ret u => exact I2.after hq
    | next => exact False.elim hq
    | brk => exact False.elim hq
    | cont => exact False.elim hq
end Any
set_option pp.maxSteps 600
namespace Any
open L2 PySem PySem.Spec PyProof.Rows LamX NdefX
theorem pe_Mz {X : Cx} {k : Nat} {m : Str} {C : Addr} {sp : Sp} {pos apos : Pos} {o : Expr} {ta : TE} {pl : Sem Bool} (D : Mf X.prog X.w X.K X.mg X.base C k m ["self"] sp) (c : Cls X.K C) (he : PE X o ta) (hr : Room k X.A)
    (ht : eval (.Call (.Attribute o m apos) [] [] pos) X.env = (do
      let ov ← eval o X.env
      standAt apos.atName
      let (f, first) ← holding [ov] (getMethod ov m pl)
      callWith pos f first (backTo pos (starEach [] X.env)) (backToKw pos (keywordEach [] X.env))) := by rfl) :
    PE X (.Call (.Attribute o m apos) [] [] pos) (tMeth C m sp [] E0 ta tNil) := by
  obtain ⟨f, fd, hm, F, hb⟩ := D
  exact pe_meth0 he c hm F hr hb .nil pass0 ht
section
variable (P : Program) (w : World) (K : PySem.W.Frag) (mg : Str → Option Value) (base : Heap)
def Mk1 (k : Nat) (x : Str) (C : Addr) (ps : List Str) (sp : Sp) : Prop := ∃ f fd, mg x = some (.ref C) ∧ Mk K C f ∧ FnOk P w K mg base CX0 k f fd ps sp ∧ Binds K fd ps []
end
theorem pe_C {X : Cx} {k : Nat} {x : Str} {C : Addr} {ps : List Str} {sp : Sp} {p pos : Pos} {e : Expr} {es : List Expr} {t : TA} (D : Mk1 X.prog X.w X.K X.mg X.base k x C ps sp) (hr : Room (k + 1) X.A) (hg : Gl X x)
    (ha : PA X (e :: es) t) (hdb : (x == ("__debug__" : Str)) = false := by decide) (he : starEach (e :: es) X.env = (false, eval e X.env) :: starEach es X.env := by rfl) (hpl : (backTo pos (starEach es X.env)).any (·.1) = false := by rfl) :
    PE X (.Call (.Name x p) (e :: es) [] pos) (tMake C sp [] E0 t) := by
  obtain ⟨f, fd, hm, M, F, hb⟩ := D
  exact pe_make M F hr hg hm hb .nil pass0 ha hdb he hpl
end Any
set_option pp.maxSteps 600
set_option maxHeartbeats 4000000
namespace Any
open L2 PySem PySem.Spec PyProof.Rows LamX NdefX
/-! ### the law -/
abbrev sLaw : Stmt := top 87
abbrev nmLaw : List Str := ["_law_script", "_law_at", "_law_bag_here", "_law_rooms_here", "_law_some", "_law_built", "_law_spot", "_law_other_here", "_law_near", "_law_beneath", "_law_due", "_law_house", "_law_thing", "_law_one"]
theorem scLaw : FnScope nmLaw ["_law_script"] (defScope sLaw) := ⟨rfl, rfl, rfl, by decide +kernel, rfl, by decide +kernel, by decide +kernel⟩
/-- the name of the law's lambdas -/
def qLaw : Str := (envOfC "law" (defScope sLaw) 0 0 .none).qual ++ "<lambda>"
abbrev turnB : List Stmt := forBody (stAt (defBody sLaw) 0)
abbrev psTk : List Str := ["_law_bag_here", "_law_many_here"]
/-- a method that lets an exception out -/
def MfX (P : Program) (w : World) (K : PySem.W.Frag) (mg : Str → Option Value) (base : Heap) (C : Addr) (k : Nat) (m : Str) (ps : List Str) (sp : Sp) : Prop := ∃ f fd, Meth K C m f ∧ FnG P w K mg base (L2.CX P w) k f fd ps sp ∧ Binds K fd ps []
def DfG' (P : Program) (w : World) (K : PySem.W.Frag) (mg : Str → Option Value) (base : Heap) (k : Nat) (x : Str) (ps : List Str) (sp : Sp) : Prop := DfG P w K mg base k x ps sp
/-- what the law asks -/
structure Fns (P : Program) (w : World) (K : PySem.W.Frag) (mg : Str → Option Value) (base : Heap) (T_ : List NTab) (C D CN CP : Addr) : Prop where
  O : Own mg
  mr : mg "range" = none
  mrepr : mg "repr" = none
  RC : RoomC K C
  TP : HeldC K D
  NT : NoTy K C
  NTD : NoTy K D
  bag : Df P w K mg base 1 "_law_bag" ["_law_script", "_law_at"] (spBag K)
  take : Df P w K mg base 1 "_law_take" psTk spTake
  rooms : Df P w K mg base 23 "_law_rooms" ["_law_bag_here", "_law_most", "_law_lots"] spLRooms
  made : Df P w K mg base 3 "_law_made" ["_law_some"] (spMade C)
  prog : Df P w K mg base 32 "_law_program" ["_law_rooms_here"] (spLProg T_ C D)
  mkp : Mk1 P w K mg base 30 "Program" D ["self", "rooms"] (spPInit T_ C D)
  mkx : ∃ f fd, mg "Program" = some (.ref D) ∧ Mk K D f ∧ FnOk P w K mg base (L2.CX P w) 30 f fd ["self", "rooms"] (spPInitX C D CP) ∧ Binds K fd ["self", "rooms"] []
  other : Df P w K mg base 2 "_law_other" psOt spOt
  rr : DfG P w K mg base 12 "_law_room_right" psRr (spRr C)
  things : Df P w K mg base 3 "_law_things" ["_law_bag_here", "_law_built"] (spTh C)
  refu : DfL P w K mg base 32 "_law_refused" (TTrf CN CP)
  ED : EqD P w K mg base C 2 (spReq C)
  EDP : EqD P w K mg base D 4 (spPeq C D)
  RDP : ReD P w K mg base D 1 (spPrp D)
  LDP : LenD P w K mg base D 1 (spPln D)
  ro : Mf P w K mg base D 1 "room_of" ["self", "name"] (spRO C D)
  ben : Mf P w K mg base D 2 "beneath" ["self", "name"] (spBen C D)
  rms : Mf P w K mg base D 1 "rooms" ["self"] (spRms D)
  rox : MfX P w K mg base D 4 "room_of" ["self", "name"] (spROX K C D CN)
  benx : MfX P w K mg base D 5 "beneath" ["self", "name"] (spROX K C D CN)
section
variable {P : Program} {w : World} {K : PySem.W.Frag} {mg : Str → Option Value} {base : Heap} {T_ : List NTab} {f c Pt C D_ CN CP : Addr} {fd : FuncData}
theorem NoRms.gr {H H' : Hp} {v : V} (h : NoRms C H v) (g : Gr T_ H H') : NoRms C H' v := by
  cases h with
  | oth h =>
    refine .oth ?_
    cases h with
    | non => exact .non
    | int i => exact .int i
    | str x => exact .str x
    | lst h => exact .lst (g.lst h)
    | dK h => exact .dK (g.ext _ _ h fun _ z => by cases z)
    | ins h => exact .ins (g.ins h)
  | len h l => exact .len (g.tups _ _ h) l
  | one h l hk n =>
    refine .one (g.tups _ _ h) l (fun e he => ?_) ?_
    · obtain ⟨dx, fs, h1⟩ := hk e he
      exact ⟨dx, fs, g.ins h1⟩
    · cases n with
      | non => exact .non
      | str x => exact .str x
      | tup h9 => exact .tup (g.tups _ _ h9)
/-- two tuples of flat things and of the very same -/
abbrev DFl : Eqq := fun x y H b => DFlatQ x y H b ∨ DSame x y H b
theorem eqQ_fl {X : Cx} : EqQ X 0 DFl := eqQ_flat.or eqQ_same
/-- .. of things that are no tuple of rooms -/
theorem law_things (N : Fns P w K mg base T_ C D_ CN CP) (TB : TabB base mg c Pt) (inT : (Pt, fun _ _ => qLaw) ∈ T_) (uni : ∀ p ∈ T_, p.1 = Pt → p.2 = fun _ _ => qLaw) (A : Around) (outer : List Env) (s : Shared) (H0 : Hp) (E : XK) (hG : A.guards = some []) (hr : Room 40 (A.deeper (envOfC "law" (defScope sLaw) s.heap.objs.size f (.ref c)))) :
    ∃ t, PSs (cxOf CX0 P w K mg base nmLaw "law" (defScope sLaw) f (.ref c) A outer s H0 E).nox (turnB.drop 11) t ∧
      ∀ (D : Ends) (H : Hp) (b R : Addr) (as : List Addr) (m : Nat) (z0 z1 z3 z4 z6 z7 z8 z9 z10 z11 z12 z13 : Option V), Bag H b m → m + 4 < 2 ^ 40 → H R = some (.tup (as.map V.ref)) → 1 ≤ as.length → as.length ≤ 7 → (∀ e ∈ as, ∃ dx fs, H e = some (.ins C dx fs)) → TabsN T_ H →
        (∀ H' z12, Kg T_ b H H' → D.nx [z0, z1, some (.ref b), z3, z4, some (.ref R), z6, z7, z8, z9, z10, z11, z12, z13] H') → t D [z0, z1, some (.ref b), z3, z4, some (.ref R), z6, z7, z8, z9, z10, z11, z12, z13] H := by
  have hG' : (A.deeper (envOfC "law" (defScope sLaw) s.heap.objs.size f (.ref c))).guards = some [] := hG
  have hr3 := hr.mono (show 3 ≤ 40 by decide)
  have hr1 := hr.mono (show 1 ≤ 40 by decide)
  have hr33 := hr.mono (show 31 + 2 ≤ 40 by decide)
  have hs : sizeLine = 16777216 := sizeLine_eq
  obtain ⟨pf, pfd, mP, MK, GX, BX⟩ := N.mkx
  refine ⟨_, pss_one (ps_for PassesOwn.never rfl (pi_list (pe_D N.things hr3 rfl (pa_cons (pv 2) (pa_cons (pv 5) pa_nil)))) (pg_name (i := 12) scLaw.nd rfl (Or.inr rfl))
    (pss_one (ps_if (pt_cmpR (op_neTupQ eqQ_fl hr1) (pe_lamN (T := T_) (nm := fun _ _ => qLaw) (m := 31) N.refu hG' hr33 rfl TB rfl inT rfl uni (show LamS (defScope sLaw) _ from lamS_by (by decide +kernel)) rfl (fun _ _ _ _ _ => rfl)
        (fun A o s H E f c' hG hr => pe_make MK GX hr rfl mP BX .nil (passes_call (takes_of rfl rfl rfl rfl) fun _ _ _ _ h => h) (pa_cons (pv 12) pa_nil)) pa_nil) (pe_tup (pa_cons pe_str (pa_cons (pe_un un_neg pe_int) (pa_cons pe_str pa_nil)))) (nomark _)) (pss_one (ps_ret pe_bl)) pss_nil))), ?_⟩
  intro D H b R as m z0 z1 z3 z4 z6 z7 z8 z9 z10 z11 z12 z13 hB hm hR l1 l7 hin hT q
  refine ⟨_, rfl, _, rfl, b, R, as, m, rfl, hB, hm, hR, l1, l7, hin, fun p xs H1 k1 B1 pb hp hl hx => ?_⟩
  have g1 : Kg T_ b H H1 := (Kg.refl hT).kept hB k1
  refine ⟨p, rfl, ⟨_, SqL.of hp⟩, ?_⟩
  refine for_list (K := K) (a := p) (xs := xs) (fun i σ Hc => ∃ z12 : Option V, σ = [z0, z1, some (.ref b), z3, z4, some (.ref R), z6, z7, z8, z9, z10, z11, z12, z13] ∧ Gr T_ H1 Hc) ⟨_, rfl, .refl g1.tabs⟩ ?_ ?_ ?_
  · rintro i σ Hc _ ⟨z12, rfl, g⟩
    exact SqL.of (g.lst hp)
  · rintro i v σ Hc hv ⟨z12, rfl, g⟩
    have nv := (hx v (List.mem_of_getElem? hv)).1.gr g
    refine ⟨g.tabs, fun c1 H3 g3 hc3 => ⟨hc3, rfl, .inr ⟨?_, fun p4 H4 s4 e4 => ?_⟩⟩⟩
    · refine ⟨_, rfl, fun x dx nx ndx ne => ?_⟩
      have s2 : Same H3 (upd (upd H3 dx (.own x)) x (.ins D_ dx [])) := fun a o ha => by
        rw [upd_ne (ne_of_none ha nx), upd_ne (ne_of_none ha ndx)]
        exact ha
      exact ⟨x, dx, v, rfl, upd_same, (nv.gr g3).same s2, fun bb H5 s5 hb => ⟨rfl, bb, rfl, hb, s2.trans s5⟩⟩
    · refine ⟨_, rfl, (by show 3 ≤ sizeLine; omega), fun p5 n5 => ?_⟩
      have s5 := same_new n5 (.tup [.str "NoProgram", .int (-1), .str "rooms"])
      refine ⟨true, ⟨p4, p5, _, _, fun _ => true, rfl, rfl, SqT.of (s5 _ _ e4), SqT.of upd_same, fun i x y h1 h2 => ?_, by decide⟩, _, rfl, itF rfl ⟨_, rfl, g.trans (g3.same (s4.trans s5))⟩⟩
      have : i = 0 ∨ i = 1 ∨ i = 2 := by
        have := (List.getElem?_eq_some_iff.mp h1).1
        have e : ([V.str "NoProgram", .int (-1), .str "rooms"] : List V).length = 3 := rfl
        omega
      rcases this with rfl | rfl | rfl <;> (cases h1; cases h2; exact .inl ⟨by decide, by decide, by decide +kernel⟩)
  · rintro σ Hc ⟨z12, rfl, g⟩
    exact q Hc _ (g1.gr g)
end
end Any
set_option pp.maxSteps 600
set_option maxHeartbeats 4000000
namespace Any
open L2 PySem PySem.Spec PyProof.Rows LamX NdefX
/-! ### names that are none -/
inductive OddT (C : Addr) (H : Hp) : V → Prop
  | non : OddT C H .non
  | emp : OddT C H (.str "")
  | nob : OddT C H (.str "nobody")
  | three : OddT C H (.int 3)
  | unit {a : Addr} (h : H a = some (.tup [])) : OddT C H (.ref a)
  | room {a : Addr} {r : Rm} (h : RmAt C H a r) (f : r.fd) : OddT C H (.ref a)
  | tr : OddT C H (.bl true)
theorem eight_odd : ∀ x ∈ eight8, (x == ("" : Str)) = false ∧ (x == ("nobody" : Str)) = false := by decide +kernel
section
variable {K : PySem.W.Frag} {C : Addr} {H : Hp} {v : V}
theorem OddT.gr {T : List NTab} {H' : Hp} (h : OddT C H v) (g : Gr T H H') : OddT C H' v := by
  cases h with
  | non => exact .non
  | emp => exact .emp
  | nob => exact .nob
  | three => exact .three
  | unit h => exact .unit (g.tups _ _ h)
  | room h f => exact .room (h.gr g) f
  | tr => exact .tr
theorem OddT.same {H' : Hp} (h : OddT C H v) (s : Same H H') : OddT C H' v := by
  cases h with
  | non => exact .non
  | emp => exact .emp
  | nob => exact .nob
  | three => exact .three
  | unit h => exact .unit (s _ _ h)
  | room h f => exact .room (h.keep s) f
  | tr => exact .tr
theorem OddT.ne {x : Str} (h : OddT C H v) (hx : x ∈ eight8) : NeVO K C H x v := by
  obtain ⟨h1, h2⟩ := eight_odd x hx
  have sh : SeqAt.shaped (.str x) = true := (Fd.nm (k := 0) (eight_nm x hx)).shaped (by decide)
  cases h with
  | non => exact .inl (.inl ⟨.none, .non, sh, rfl, rfl⟩)
  | emp => exact .inl (.inl ⟨.str "", .str _, sh, by decide +kernel, h1⟩)
  | nob => exact .inl (.inl ⟨.str "nobody", .str _, sh, by decide +kernel, h2⟩)
  | three => exact .inl (.inl ⟨.int 3, .int _, sh, rfl, rfl⟩)
  | unit h => exact .inl (.inl ⟨.tuple [], .tup (SqT.of h) .nil, sh, rfl, rfl⟩)
  | room h f => exact .inr ⟨_, _, rfl, h, f⟩
  | tr => exact .inl (.inl ⟨.bool true, .bl _, sh, rfl, rfl⟩)
theorem OddT.sh (h : OddT C H v) : ShO K C (spRrp C) 2000 H v := by
  cases h with
  | non => exact .inl ⟨_, .non, by decide +kernel⟩
  | emp => exact .inl ⟨_, .str _, by decide +kernel⟩
  | nob => exact .inl ⟨_, .str _, by decide +kernel⟩
  | three => exact .inl ⟨_, .int 3 (by decide), by decide +kernel⟩
  | unit h => exact .inl ⟨_, .dat (.seq (.tup (SqT.of h) .nil) rfl) rfl (by decide), by decide +kernel⟩
  | @room a r h f =>
    obtain ⟨dx, n, ab, b, s, k, t, p, y, h1, h2⟩ := id h
    refine .inr ⟨a, dx, _, Str.empty ++ "Room(" ++ r.name ++ ")", rfl, h1, ?_, fun Q q => ⟨a, r, rfl, h, f, q⟩⟩
    have c0 : (Str.empty : Str).length = 0 := rfl
    have c1 : ("Room(" : Str).length = 5 := by decide +kernel
    have c2 : (")" : Str).length = 1 := by decide +kernel
    have := f.name.hi
    rw [Str.length_append, Str.length_append, Str.length_append, c0, c1, c2]
    omega
  | tr => exact .inl ⟨_, .bl true, by decide +kernel⟩
theorem OddT.fl {H' : Hp} (h : OddT C H v) : DFl v v H' true := by
  cases h with
  | non => exact .inl ⟨by decide, by decide, by decide +kernel⟩
  | emp => exact .inl ⟨by decide, by decide, by decide +kernel⟩
  | nob => exact .inl ⟨by decide, by decide, by decide +kernel⟩
  | three => exact .inl ⟨by decide, by decide, by decide +kernel⟩
  | unit h => exact .inr ⟨_, rfl, rfl, rfl⟩
  | room h f => exact .inr ⟨_, rfl, rfl, rfl⟩
  | tr => exact .inl ⟨by decide, by decide, by decide +kernel⟩
end
section
variable {P : Program} {w : World} {K : PySem.W.Frag} {mg : Str → Option Value} {base : Heap} {T_ : List NTab} {f c Pt C D_ CN CP : Addr} {fd : FuncData}
theorem law_odd (N : Fns P w K mg base T_ C D_ CN CP) (TB : TabB base mg c Pt) (inT : (Pt, fun _ _ => qLaw) ∈ T_) (uni : ∀ p ∈ T_, p.1 = Pt → p.2 = fun _ _ => qLaw) (A : Around) (outer : List Env) (s : Shared) (H0 : Hp) (E : XK) (hG : A.guards = some []) (hr : Room 40 (A.deeper (envOfC "law" (defScope sLaw) s.heap.objs.size f (.ref c)))) :
    ∃ t, PSs (cxOf CX0 P w K mg base nmLaw "law" (defScope sLaw) f (.ref c) A outer s H0 E).nox (turnB.drop 10) t ∧
      ∀ (D : Ends) (H : Hp) (b R x : Addr) (as : List Addr) (rs : List Rm) (m : Nat) (z0 z1 z3 z4 z6 z7 z8 z9 z10 z12 z13 : Option V), Bag H b m → m + 4 < 2 ^ 40 → HeldAt D_ H x R → H R = some (.tup (as.map V.ref)) → Paired (RmAt C H) as rs → Right rs → rs.length ≤ 7 → (∀ r ∈ rs, r.name ∈ eight8) → TabsN T_ H →
        (∀ H' z12, Kg T_ b H H' → D.nx [z0, z1, some (.ref b), z3, z4, some (.ref R), z6, z7, z8, z9, z10, some (.ref x), z12, z13] H') → t D [z0, z1, some (.ref b), z3, z4, some (.ref R), z6, z7, z8, z9, z10, some (.ref x), z12, z13] H := by
  obtain ⟨t11, ht11, leaf⟩ := law_things N TB inT uni A outer s H0 E hG hr
  have hG' : (A.deeper (envOfC "law" (defScope sLaw) s.heap.objs.size f (.ref c))).guards = some [] := hG
  have hr1 := hr.mono (show 1 ≤ 40 by decide)
  have hr33 := hr.mono (show 31 + 2 ≤ 40 by decide)
  have hs : sizeLine = 16777216 := sizeLine_eq
  have TP := N.TP
  obtain ⟨rf, rfd, rM, rF, rB⟩ := N.rox
  obtain ⟨bf, bfd, bM, bF, bB⟩ := N.benx
  refine ⟨_, pss_cons (ps_for PassesOwn.never rfl (pi_list (pe_lst (pa_cons pe_non (pa_cons pe_str (pa_cons pe_str (pa_cons pe_int (pa_cons (pe_tup pa_nil) (pa_cons (pe_ix ix_tup (pv 5) pe_int (fun _ _ => rfl)) (pa_cons pe_bl pa_nil))))))))) (pg_name (i := 12) scLaw.nd rfl (Or.inr rfl))
    (pss_cons (ps_if (pt_cmpR (op_neTupQ eqQ_fl hr1) (pe_lamN (T := T_) (nm := fun _ _ => qLaw) (m := 31) N.refu hG' hr33 rfl TB rfl inT rfl uni (show LamS (defScope sLaw) _ from lamS_by (by decide +kernel)) rfl (fun _ _ _ _ _ => rfl)
        (fun A o s H E f c' hG hr => pe_methG (E := E) (pv 11) TP.cl rM rF hG (hr.mono (by decide)) rB (passes_call (takes_of rfl rfl rfl rfl) fun _ _ _ _ h => h) (pa_cons (pv 12) pa_nil)) pa_nil) (pe_tup (pa_cons pe_str (pa_cons (pv 12) (pa_cons pe_bl pa_nil)))) (nomark _)) (pss_one (ps_ret pe_bl)) pss_nil)
    (pss_one (ps_if (pt_cmpR (op_neTupQ eqQ_fl hr1) (pe_lamN (T := T_) (nm := fun _ _ => qLaw) (m := 31) N.refu hG' hr33 rfl TB rfl inT rfl uni (show LamS (defScope sLaw) _ from lamS_by (by decide +kernel)) rfl (fun _ _ _ _ _ => rfl)
        (fun A o s H E f c' hG hr => pe_methG (E := E) (pv 11) TP.cl bM bF hG (hr.mono (by decide)) bB (passes_call (takes_of rfl rfl rfl rfl) fun _ _ _ _ h => h) (pa_cons (pv 12) pa_nil)) pa_nil) (pe_tup (pa_cons pe_str (pa_cons (pv 12) (pa_cons pe_bl pa_nil)))) (nomark _)) (pss_one (ps_ret pe_bl)) pss_nil)))) ht11, ?_⟩
  intro D H b R x as rs m z0 z1 z3 z4 z6 z7 z8 z9 z10 z12 z13 hB hm hx hR hp ok l7 hn hT q
  have hl := paired_len hp
  have lo := ok.lo
  refine ⟨(by show 0 ≤ sizeLine; omega), fun p1 n1 => ?_⟩
  have s1 := same_new n1 (.tup [])
  have e1 : upd H p1 (.tup []) p1 = some (.tup []) := upd_same
  generalize upd H p1 (.tup []) = H1 at *
  obtain ⟨r0, hr0⟩ : ∃ r0, rs[0]? = some r0 := ⟨_, List.getElem?_eq_getElem (by omega)⟩
  obtain ⟨a0, ha0, hat0⟩ := paired_put hp hr0
  refine ⟨_, rfl, R, _, _, _, rfl, rfl, SqT.of (s1 _ _ hR), atI_nat (j := 0) (v := .ref a0) (by rw [List.getElem?_map, ha0]; rfl), (by show 7 ≤ sizeLine; omega), fun p2 n2 => ?_⟩
  have s2 := same_new n2 (.lst [.non, .str "", .str "nobody", .int 3, .ref p1, .ref a0, .bl true])
  have e2 : upd H1 p2 (.lst [.non, .str "", .str "nobody", .int 3, .ref p1, .ref a0, .bl true]) p2 = some (.lst [.non, .str "", .str "nobody", .int 3, .ref p1, .ref a0, .bl true]) := upd_same
  generalize upd H1 p2 (.lst [.non, .str "", .str "nobody", .int 3, .ref p1, .ref a0, .bl true]) = H2 at *
  have s12 := s1.trans s2
  have g2 : Gr T_ H H2 := .of hT s12
  have odd : ∀ v ∈ ([.non, .str "", .str "nobody", .int 3, .ref p1, .ref a0, .bl true] : List V), OddT C H2 v := fun v hv => by
    simp only [List.mem_cons, List.not_mem_nil, or_false] at hv
    rcases hv with rfl | rfl | rfl | rfl | rfl | rfl | rfl
    · exact .non
    · exact .emp
    · exact .nob
    · exact .three
    · exact .unit (s2 _ _ e1)
    · exact .room (hat0.keep s12) (room_fd ok hr0)
    · exact .tr
  refine ⟨p2, rfl, ⟨_, SqL.of e2⟩, ?_⟩
  refine for_list (K := K) (a := p2) (xs := [.non, .str "", .str "nobody", .int 3, .ref p1, .ref a0, .bl true]) (fun i σ Hc => ∃ z12 : Option V, σ = [z0, z1, some (.ref b), z3, z4, some (.ref R), z6, z7, z8, z9, z10, some (.ref x), z12, z13] ∧ Gr T_ H2 Hc) ⟨_, rfl, .refl g2.tabs⟩ ?_ ?_ ?_
  · rintro i σ Hc _ ⟨z12, rfl, g⟩
    exact SqL.of (g.lst e2)
  · rintro i v σ Hc hv ⟨z12, rfl, g⟩
    have ov := (odd v (List.mem_of_getElem? hv)).gr g
    obtain ⟨dx, vv, hx0⟩ := hx
    have tell : ∀ (H3 : Hp), Gr T_ Hc H3 → ∃ (y R' : Addr) (u : V) (rs' : List Rm), [V.ref x, v] = [.ref y, u] ∧ HeldAt D_ H3 y R' ∧ RsAt C H3 R' rs' ∧ (∀ r ∈ rs', NeVO K C H3 r.name u) ∧ (∀ H', Same H3 H' → ShO K C (spRrp C) 2000 H' u) ∧ ∀ bb H', Same H3 H' → H' bb = some (.xd [("name", u)]) → RfN CN H3 v (.ref CN) (some bb) H' := fun H3 g3 => by
      have gA := (g2.trans g).trans g3
      have o3 := ov.gr g3
      exact ⟨x, R, v, rs, rfl, ⟨dx, vv, gA.ins hx0⟩, RsAt.gr gA ⟨as, hR, hp⟩, fun r hr => o3.ne (hn r hr), fun H' s => (o3.same s).sh, fun bb H' s hb => ⟨rfl, bb, rfl, hb, s⟩⟩
    have three : ∀ (l : List V), l = [.str "NoRoom", v, .bl true] → ∀ (i : Nat) (xx yy : V), l[i]? = some xx → l[i]? = some yy → ∀ Hx, DFl xx yy Hx true := fun l el i xx yy h1 h2 Hx => by
      subst el
      have : i = 0 ∨ i = 1 ∨ i = 2 := by
        have := (List.getElem?_eq_some_iff.mp h1).1
        have e : ([V.str "NoRoom", v, .bl true] : List V).length = 3 := rfl
        omega
      rcases this with rfl | rfl | rfl
      · cases h1; cases h2; exact .inl ⟨by decide, by decide, by decide +kernel⟩
      · cases h1; cases h2; exact ov.fl
      · cases h1; cases h2; exact .inl ⟨by decide, by decide, by decide +kernel⟩
    refine ⟨g.tabs, fun c1 H3 g3 hc3 => ⟨hc3, rfl, .inl ⟨v, ?_, fun p4 H4 s4 e4 => ?_⟩⟩⟩
    · exact ⟨_, rfl, x, dx, _, rfl, ((g2.trans g).trans g3).ins hx0, pf_none (by decide +kernel) (by decide +kernel), _, rfl, tell H3 g3⟩
    refine ⟨_, rfl, (by show 3 ≤ sizeLine; omega), fun p5 n5 => ?_⟩
    have s5 := same_new n5 (.tup [.str "NoRoom", v, .bl true])
    refine ⟨true, ⟨p4, p5, _, _, fun _ => true, rfl, rfl, SqT.of (s5 _ _ e4), SqT.of upd_same, fun i x y h1 h2 => three _ rfl i x y h1 h2 _, by show _ = tupB _ 3 3; decide⟩, _, rfl, itF rfl ?_⟩
    have g5 := g3.same (s4.trans s5)
    refine ⟨g5.tabs, fun c6 H6 g6 hc6 => ⟨hc6, rfl, .inl ⟨v, ?_, fun p7 H7 s7 e7 => ?_⟩⟩⟩
    · exact ⟨_, rfl, x, dx, _, rfl, ((g2.trans g).trans (g5.trans g6)).ins hx0, pf_none (by decide +kernel) (by decide +kernel), _, rfl, tell H6 (g5.trans g6)⟩
    refine ⟨_, rfl, (by show 3 ≤ sizeLine; omega), fun p8 n8 => ?_⟩
    have s8 := same_new n8 (.tup [.str "NoRoom", v, .bl true])
    exact ⟨true, ⟨p7, p8, _, _, fun _ => true, rfl, rfl, SqT.of (s8 _ _ e7), SqT.of upd_same, fun i x y h1 h2 => three _ rfl i x y h1 h2 _, by show _ = tupB _ 3 3; decide⟩, _, rfl, itF rfl ⟨_, rfl, g.trans ((g5.trans g6).same (s7.trans s8))⟩⟩
  · rintro σ Hc ⟨z12, rfl, g⟩
    have gA := g2.trans g
    exact leaf D Hc b R as m z0 z1 z3 z4 z6 z7 z8 z9 z10 (some (.ref x)) z12 z13 (hB.gr gA) hm (gA.tups _ _ hR) (by omega) (by omega) (fun e he => by
      obtain ⟨i, hi⟩ := List.getElem?_of_mem he
      obtain ⟨r, _, hat⟩ := paired_get hp hi
      obtain ⟨dx, n, ab, bx, sy, k, t, p, y, h1, h2⟩ := hat.gr gA
      exact ⟨dx, _, h1⟩) gA.tabs fun H' z12' k' => q H' z12' ((Kg.of gA).trans k')
end
end Any
set_option pp.maxSteps 600
set_option maxHeartbeats 4000000
namespace Any
open L2 PySem PySem.Spec PyProof.Rows LamX NdefX
theorem cut_last (ys : List V) (z : V) : cutV (ys ++ [z]) none (some (-1)) = ys := by
  have l : (ys ++ [z]).length = ys.length + 1 := by rw [List.length_append]; rfl
  unfold cutV
  rw [HT.sIx_none, List.drop_zero, Nat.sub_zero]
  have e : HT.sIx (ys ++ [z]).length (ys ++ [z]).length (some (-1)) = ys.length := by
    show (if (-1 : Int) < 0 then ((-1 : Int) + ((ys ++ [z]).length : Int)).toNat else min ((-1 : Int)).toNat (ys ++ [z]).length) = _
    rw [if_pos (by decide), l]
    omega
  rw [e, List.take_left]
theorem strs_same {ns : List Str} (h : ∀ x ∈ ns, PyData.strOk x = true) : PyData.eqv (.list (ns.map PyData.str)) (.list (ns.map PyData.str)) = true :=
  PySem.SeqAt.eqv_refl_plain _ (by
    show PyData.plainAll (ns.map PyData.str) = true
    clear h
    induction ns with
    | nil => rfl
    | cons x r ih => show (PyData.plain (.str x) && PyData.plainAll (r.map PyData.str)) = true; rw [ih]; rfl)
section
variable {P : Program} {w : World} {K : PySem.W.Frag} {mg : Str → Option Value} {base : Heap} {T_ : List NTab} {f c Pt C D_ CN CP : Addr} {fd : FuncData}
/-- each room of the program -/
theorem law_each (N : Fns P w K mg base T_ C D_ CN CP) (TB : TabB base mg c Pt) (inT : (Pt, fun _ _ => qLaw) ∈ T_) (uni : ∀ p ∈ T_, p.1 = Pt → p.2 = fun _ _ => qLaw) (A : Around) (outer : List Env) (s : Shared) (H0 : Hp) (E : XK) (hG : A.guards = some []) (hr : Room 40 (A.deeper (envOfC "law" (defScope sLaw) s.heap.objs.size f (.ref c)))) :
    ∃ t, PSs (cxOf CX0 P w K mg base nmLaw "law" (defScope sLaw) f (.ref c) A outer s H0 E).nox (turnB.drop 9) t ∧
      ∀ (D : Ends) (H : Hp) (b R x l : Addr) (as a8 : List Addr) (rs : List Rm) (m : Nat) (z0 z1 z4 z6 z7 z8 z9 z10 z12 z13 : Option V), Bag H b m → m + 4 < 2 ^ 40 → HeldAt D_ H x R → H R = some (.tup (as.map V.ref)) → Paired (RmAt C H) as rs → H l = some (.lst (a8.map V.ref)) → Paired (EightAt H) a8 rs → Right rs → rs.length ≤ 7 → (∀ r ∈ rs, r.name ∈ eight8) → TabsN T_ H →
        (∀ H' z4 z9 z10 z12 z13, Kg T_ b H H' → D.nx [z0, z1, some (.ref b), some (.ref l), z4, some (.ref R), z6, z7, z8, z9, z10, some (.ref x), z12, z13] H') → t D [z0, z1, some (.ref b), some (.ref l), z4, some (.ref R), z6, z7, z8, z9, z10, some (.ref x), z12, z13] H := by
  obtain ⟨t10, ht10, leaf⟩ := law_odd N TB inT uni A outer s H0 E hG hr
  have hr1 := hr.mono (show 1 ≤ 40 by decide)
  have hr2 := hr.mono (show 2 ≤ 40 by decide)
  have hr3 := hr.mono (show 3 ≤ 40 by decide)
  have hs : sizeLine = 16777216 := sizeLine_eq
  have TP := N.TP
  refine ⟨_, pss_cons (ps_for PassesOwn.never rfl (pi_list (pv 3)) (pg_name (i := 4) scLaw.nd rfl (Or.inr rfl))
    (pss_cons (ps_set (i := 9) scLaw.nd rfl (Or.inl rfl) (pe_M N.ben TP.cl (pv 11) hr2 (pa_cons (pe_ix ix_tup (pv 4) pe_int (fun _ _ => rfl)) pa_nil)))
    (pss_cons (ps_setLc (i := 10) (own := [("_law_one", 13)]) (g := gName 13) (by rfl) scLaw.nd rfl rfl (sw_true rfl rfl rfl (by decide +kernel)) (pi_list (pv 3)) (blkOk_by (N := nmLaw) (sc := defScope sLaw) (by decide +kernel))
        (fun _ _ _ _ _ => pg_name (i := 13) scLaw.nd rfl (Or.inl rfl)) (fun _ _ _ _ _ => pts_one (pt_cmpR op_eq (pe_ix (show IxR _ (rIxT K) from ix_tup) (pv 13) pe_int (fun _ _ => rfl)) (pe_ix (show IxR _ (rIxT K) from ix_tup) (pv 4) pe_int (fun _ _ => rfl)) (nomark _))) (fun _ _ _ _ _ => pe_ix (show IxR _ (rIxT K) from ix_tup) (pv 13) pe_int (fun _ _ => rfl)))
    (pss_cons (ps_if (PW.pt (pw_or (pt_cmpR (op_neO N.ED hr3) (pe_M N.ro TP.cl (pv 11) hr1 (pa_cons (pe_ix ix_tup (pv 4) pe_int (fun _ _ => rfl)) pa_nil)) (pe_D N.made hr3 rfl (pa_cons (pv 4) pa_nil)) (nomark _))
        (pw_or1 (pt_cmpR (op_neD hr.units) (pv 9) (pv 10) (nomark _))))) (pss_one (ps_ret pe_bl)) pss_nil)
    (pss_cons (ps_expr (pe_bm PySem.F.plainAttrs_list PySem.F.slot_list_append PySem.F.type_list_append mt_append (pv 9) (pa_cons pe_str pa_nil)))
    (pss_one (ps_if (pt_cmpR (op_neD hr.units) (pe_M N.ben TP.cl (pv 11) hr2 (pa_cons (pe_ix ix_tup (pv 4) pe_int (fun _ _ => rfl)) pa_nil)) (pe_slice sl_list (pv 9) po_none (po_some (pe_un un_neg pe_int))) (nomark _)) (pss_one (ps_ret pe_bl)) pss_nil))))))) ht10, ?_⟩
  intro D H b R x l as a8 rs m z0 z1 z4 z6 z7 z8 z9 z10 z12 z13 hB hm hx hR hp hl8 hp8 ok l7 hn hT q
  have hlen := paired_len hp8
  refine ⟨_, rfl, l, rfl, ⟨_, SqL.of hl8⟩, ?_⟩
  refine for_list (K := K) (a := l) (xs := a8.map V.ref) (fun i σ Hc => ∃ z4 z9 z10 z13 : Option V, σ = [z0, z1, some (.ref b), some (.ref l), z4, some (.ref R), z6, z7, z8, z9, z10, some (.ref x), z12, z13] ∧ Gr T_ H Hc) ⟨_, _, _, _, rfl, .refl hT⟩ ?_ ?_ ?_
  · rintro i σ Hc _ ⟨z4, z9, z10, z13, rfl, g⟩
    exact SqL.of (g.lst hl8)
  · rintro i v σ Hc hv ⟨z4, z9, z10, z13, rfl, g⟩
    obtain ⟨e, he, rfl⟩ := refs_at hv
    obtain ⟨r, hri, h8⟩ := paired_get hp8 he
    obtain ⟨ab, bx, sy, ka, t, pr, y, e80⟩ : ∃ ab bx sy ka t pr y, H e = some (.tup [.str r.name, ab, bx, sy, ka, t, pr, y]) := by
      obtain ⟨n, ab, bx, sy, ka, t, pr, y, e8, pa⟩ := h8
      have := pa.name
      subst this
      exact ⟨ab, bx, sy, ka, t, pr, y, e8⟩
    have h8 := h8.keep g.tups
    have e8 := g.tups _ _ e80
    obtain ⟨dx, vv, hx0⟩ := hx
    have held : ∀ Hx, Gr T_ H Hx → HeldAt D_ Hx x R := fun Hx gx => ⟨dx, vv, gx.ins hx0⟩
    have rat : ∀ Hx, Gr T_ H Hx → RsAt C Hx R rs := fun Hx gx => RsAt.gr gx ⟨as, hR, hp⟩
    have bnm : ∀ z ∈ ben rs r.name, PyData.strOk z = true := fun z hz => nm_ok (ben_nm ok hz)
    refine ⟨_, rfl, x, dx, _, rfl, g.ins hx0, pf_none (by decide +kernel) (by decide +kernel), _, rfl, e, _, _, _, rfl, rfl, SqT.of e8, atI_nat (j := 0) rfl, x, rs, i, r, rfl, ⟨R, held _ g, rat _ g⟩, ok, hri, fun p1 H1 n1 s1 e1 => ?_⟩
    have g1 := g.same s1
    refine ⟨_, rfl, l, rfl, ⟨_, SqL.of (g1.lst hl8)⟩, fun p2 n2 => ?_⟩
    refine turns_list (K := K) (a := l) (xs := a8.map V.ref) (rs.map fun o => if o.above = r.name then some (V.str o.name) else none) n2 (fun Hx sm => SqL.of (sm _ _ (g1.lst hl8))) (by rw [List.length_map, List.length_map]; exact hlen.symm) (by rw [List.length_map]; omega) ?_ ?_
    · intro j v o Hx Y N_ hv2 ho sm hY hN_
      obtain ⟨e', he', rfl⟩ := refs_at hv2
      obtain ⟨r', hr', h8'⟩ := paired_get hp8 he'
      rw [List.getElem?_map, hr'] at ho
      have ho : o = if r'.above = r.name then some (V.str r'.name) else none := (Option.some.inj ho).symm
      obtain ⟨n', ab', bx', sy', ka', t', pr', y', e8', pa'⟩ := (h8'.keep g1.tups).keep (Same.tups sm)
      have hn' := pa'.name
      have ha' := pa'.above
      subst hn' ha'
      refine ⟨rfl, _, rfl, e', _, _, _, rfl, rfl, SqT.of e8', atI_nat (j := 1) rfl, _, rfl, e, _, _, _, rfl, rfl, SqT.of (sm _ _ (s1 _ _ e8)), atI_nat (j := 0) rfl, rfl, _, rfl, ite2 (fun c1 => ?_) (fun c1 => ?_)⟩
      · have e9 : r'.above = r.name := V.str.inj (of_decide_eq_true c1)
        rw [if_pos e9] at ho
        exact ⟨_, rfl, e', _, _, _, rfl, rfl, SqT.of e8', atI_nat (j := 0) rfl, hY _ ho Hx same_refl⟩
      · have e9 : ¬ r'.above = r.name := fun z => c1 (decide_eq_true (by rw [z]))
        rw [if_neg e9] at ho
        exact hN_ ho Hx same_refl
    intro H2 e2 s2
    rw [fm_ben] at e2
    have g2 := g1.same s2
    have s12 := s1.trans s2
    refine ⟨_, rfl, x, dx, _, rfl, g2.ins hx0, pf_none (by decide +kernel) (by decide +kernel), _, rfl, e, _, _, _, rfl, rfl, SqT.of (s12 _ _ e8), atI_nat (j := 0) rfl, x, R, r.name, rs, i, r, rfl, held _ g2, rat _ g2, hri, rfl, right_uno ok hri, fun a ha => ?_⟩
    refine ⟨_, rfl, e, r, rfl, h8.keep (Same.tups s12), fun y3 H3 n3 s3 hy3 => ?_⟩
    have ha3 := ha.keep s3
    have hfd := room_fd ok hri
    obtain ⟨da, na, aa, ba, sa, kka, ta, pra, ya, exa, paa⟩ := id ha3
    obtain ⟨dy, ny, ay, by_, sy3, ky, ty, pry, yy, exy, pay⟩ := id hy3
    have s13 := s12.trans s3
    have e13 := (s2.trans s3) _ _ e1
    have e23 := s3 _ _ e2
    refine ⟨a, da, _, rfl, exa, .ins exy, a, _, r, rfl, ha3, hfd, .inl ⟨y3, r, rfl, hy3, hfd, _, rfl, _, rfl, itF (by rw [rmB_refl hfd]; rfl) ?_⟩⟩
    refine ⟨_, rfl, _, rfl, _, _, .lst (SqL.of e13) (strs_data _), .lst (SqL.of e23) (strs_data _), shaped_lst bnm, shaped_lst bnm, _, rfl, itF (by rw [strs_same bnm]; rfl) ?_⟩
    have bl : (ben rs r.name).length ≤ 7 := by
      unfold ben
      rw [List.length_map]
      exact Nat.le_trans (List.length_filter_le ..) l7
    refine ⟨_, rfl, .inl ⟨rfl, _, SqL.of e13⟩, p1, _, _, rfl, rfl, e13, by rw [List.length_map]; omega, ?_⟩
    have g3 := g2.same s3
    have g4 := gr_put (ys := (ben rs r.name).map V.str ++ [.str "more"]) g3 (g.no _ n1) e13
    have e4 : upd H3 p1 (.lst ((ben rs r.name).map V.str ++ [.str "more"])) p1 = some (.lst ((ben rs r.name).map V.str ++ [.str "more"])) := upd_same
    generalize upd H3 p1 (.lst ((ben rs r.name).map V.str ++ [.str "more"])) = H4 at *
    refine ⟨_, rfl, x, dx, _, rfl, g4.ins hx0, pf_none (by decide +kernel) (by decide +kernel), _, rfl, e, _, _, _, rfl, rfl, SqT.of (g4.tups _ _ e80), atI_nat (j := 0) rfl, x, rs, i, r, rfl, ⟨R, held _ g4, rat _ g4⟩, ok, hri, fun p5 H5 n5 s5 e5 => ?_⟩
    refine ⟨_, rfl, _, rfl, -1, rfl, p1, _, rfl, SqL.of (s5 _ _ e4), fun p6 n6 => ?_⟩
    rw [cut_last]
    have s6 := same_new n6 (.lst ((ben rs r.name).map V.str))
    refine ⟨_, _, .lst (SqL.of (s6 _ _ e5)) (strs_data _), .lst (SqL.of upd_same) (strs_data _), shaped_lst bnm, shaped_lst bnm, _, rfl, itF (by rw [strs_same bnm]; rfl) ⟨_, _, _, _, rfl, g4.same (s5.trans s6)⟩⟩
  · rintro σ Hc ⟨z4, z9, z10, z13, rfl, g⟩
    exact leaf D Hc b R x as rs m z0 z1 (some (.ref l)) z4 z6 z7 z8 z9 z10 z12 z13 (hB.gr g) hm (by obtain ⟨dx, vv, hx0⟩ := hx; exact ⟨dx, vv, g.ins hx0⟩) (g.tups _ _ hR) (paired_imp (fun _ _ y => y.gr g) hp) ok l7 hn g.tabs fun H' z12' k' => q H' _ _ _ _ _ ((Kg.of g).trans k')
end
end Any
set_option pp.maxSteps 600
set_option maxHeartbeats 8000000
namespace Any
open L2 PySem PySem.Spec PyProof.Rows LamX NdefX
theorem rmB_comm (r r' : Rm) : rmB r r' = rmB r' r := by
  unfold rmB
  rw [PySem.W.eqv_comm (.str r.name), PySem.W.eqv_comm (.str r.above), PySem.W.eqv_comm r.bxD, PySem.W.eqv_comm r.syD, PySem.W.eqv_comm (askD r.ask), PySem.W.eqv_comm (toldD r.told), PySem.W.eqv_comm (vowD r.promise), PySem.W.eqv_comm r.bdD]
theorem paired_set' {α β : Type} {R : α → β → Prop} : ∀ {xs : List α} {ys : List β}, Paired R xs ys → ∀ {x : α} {y : β}, R x y → ∀ k, Paired R (xs.set k x) (ys.set k y)
  | _, _, .nil, _, _, _, _ => .nil
  | _, _, .cons r t, _, _, h, 0 => .cons h t
  | _, _, .cons r t, _, _, h, k + 1 => .cons r (paired_set' t h k)
theorem set_cut {α : Type} : ∀ (xs : List α) (k : Nat) (y : α), k < xs.length → xs.take k ++ [y] ++ xs.drop (k + 1) = xs.set k y
  | [], k, y, h => by simp at h
  | x :: xs, 0, y, h => by simp
  | x :: xs, k + 1, y, h => by
    have := set_cut xs k y (by simpa using h)
    simpa using this
section
variable {P : Program} {w : World} {K : PySem.W.Frag} {mg : Str → Option Value} {base : Heap} {T_ : List NTab} {f c Pt C D_ CN CP : Addr} {fd : FuncData}
theorem RmAt.kept' {C : Addr} {H H' : Hp} {x : Addr} {r : Rm} (h : RmAt C H x r) (k : ∀ {a' : Addr} {o : HO}, H a' = some o → (∀ xs, o ≠ .lst xs) → H' a' = some o) : RmAt C H' x r := by
  obtain ⟨dx, n, a, b, s, q, t, p, y, h1, h2⟩ := h
  exact ⟨dx, n, a, b, s, q, t, p, y, k h1 (fun _ z => by cases z), h2.keep fun a' xs h => k h (fun _ z => by cases z)⟩
/-- two programs that are not the very same -/
def DPx (C D_ : Addr) : Eqq := fun x y H b => DOwn D_ (spPeq C D_) x y H b ∧ ∃ a c, x = .ref a ∧ y = .ref c ∧ a ≠ c
theorem eqQ_px {X : Cx} {C D_ : Addr} {k : Nat} (D : EqD X.prog X.w X.K X.mg X.base D_ k (spPeq C D_)) : EqQ X k (DPx C D_) := by
  have h : RcQ X k (DPx C D_) := fun A pins s σ H x y u v b sb I rx ry d => rcQ_own D A pins s σ H x y u v b sb I rx ry d.1
  refine h.eqQ (fun x y H b u d rx ry => ?_) (fun x y H b d => ?_)
  · obtain ⟨_, a, c, rfl, rfl, ne⟩ := d
    cases rx
    cases ry
    exact absurd rfl ne
  · obtain ⟨_, a, c, rfl, rfl, ne⟩ := d
    exact .inl ⟨a, rfl⟩
/-- two programs, or None and a tuple against one -/
abbrev DPg (C D_ : Addr) : Eqq := fun x y H b => DRef D_ (spPeq C D_) x y H b ∨ DPx C D_ x y H b
theorem law_turn (N : Fns P w K mg base T_ C D_ CN CP) (TB : TabB base mg c Pt) (inT : (Pt, fun _ _ => qLaw) ∈ T_) (uni : ∀ p ∈ T_, p.1 = Pt → p.2 = fun _ _ => qLaw) (A : Around) (outer : List Env) (s : Shared) (H0 : Hp) (E : XK) (hG : A.guards = some []) (hr : Room 40 (A.deeper (envOfC "law" (defScope sLaw) s.heap.objs.size f (.ref c)))) :
    ∃ t, PSs (cxOf CX0 P w K mg base nmLaw "law" (defScope sLaw) f (.ref c) A outer s H0 E).nox turnB t ∧
      ∀ (D : Ends) (H : Hp) (a : Addr) (ns : List Int) (i : Nat) (z2 z3 z4 z5 z6 z7 z8 z9 z10 z11 z12 z13 : Option V), SqL K H a (ns.map V.int) → i < 64 → TabsN T_ H →
        (∀ H' z2 z3 z4 z5 z6 z7 z8 z9 z10 z11 z12 z13, Gr T_ H H' → D.nx [some (.ref a), some (.int i), z2, z3, z4, z5, z6, z7, z8, z9, z10, z11, z12, z13] H') → t D [some (.ref a), some (.int i), z2, z3, z4, z5, z6, z7, z8, z9, z10, z11, z12, z13] H := by
  obtain ⟨t9, ht9, leaf⟩ := law_each N TB inT uni A outer s H0 E hG hr
  have hG' : (A.deeper (envOfC "law" (defScope sLaw) s.heap.objs.size f (.ref c))).guards = some [] := hG
  have hu : (A.deeper (envOfC "law" (defScope sLaw) s.heap.objs.size f (.ref c))).units + 70 < cLine := by have := hr.un; omega
  have hr1 := hr.mono (show 1 ≤ 40 by decide)
  have hr2 := hr.mono (show 2 ≤ 40 by decide)
  have hr3 := hr.mono (show 3 ≤ 40 by decide)
  have hr4 := hr.mono (show 4 ≤ 40 by decide)
  have hr5 := hr.mono (show 5 ≤ 40 by decide)
  have hr12 := hr.mono (show 12 ≤ 40 by decide)
  have hr23 := hr.mono (show 23 ≤ 40 by decide)
  have hr31 := hr.mono (show 31 ≤ 40 by decide)
  have hr32 := hr.mono (show 32 ≤ 40 by decide)
  have hs : sizeLine = 16777216 := sizeLine_eq
  have TP := N.TP
  have mt := N.O.tuple
  let X := (cxOf CX0 P w K mg base nmLaw "law" (defScope sLaw) f (.ref c) A outer s H0 E).nox
  have hin : EqQ X 4 (DPg C D_) := (eqQ_ref N.EDP N.NTD).or (eqQ_px N.EDP)
  refine ⟨_, pss_cons (ps_set (i := 2) scLaw.nd rfl (Or.inl rfl) (pe_D N.bag hr1 rfl (pa_cons (pv 0) (pa_cons (pv 1) pa_nil))))
    (pss_cons (ps_set (i := 3) scLaw.nd rfl (Or.inl rfl) (pe_D N.rooms hr23 rfl (pa_cons (pv 2) (pa_cons pe_int (pa_cons pe_int pa_nil)))))
    (pss_cons (ps_set (i := 5) scLaw.nd rfl (Or.inl rfl) (pe_callTy call_tuple_of rfl mt (by decide +kernel) (pa_cons (pe_lc (own := [("_law_some", 4)]) (g := gName 4) (tt := tYes) rfl scLaw.nd (pi_list (pv 3))
        (blkOk_by (N := nmLaw) (sc := defScope sLaw) (by decide +kernel)) (fun _ _ _ _ _ => pg_name (i := 4) scLaw.nd rfl (by first | exact Or.inl rfl | exact Or.inr rfl)) (fun _ _ _ _ _ => pts_nil) (fun _ _ _ _ _ => pe_D N.made hr3 rfl (pa_cons (pv 4) pa_nil))) pa_nil)))
    (pss_cons (ps_asg (pe_tup (pa_cons (pe_C N.mkp hr31 rfl (pa_cons (pv 5) pa_nil)) (pa_cons (pe_D N.take hr1 rfl (pa_cons (pv 2) (pa_cons (pe_callB call_len_seq rfl N.O.len PySem.boot_len (pa_cons (pv 3) pa_nil)) pa_nil))) pa_nil))) (pg_tup rfl (pgs_cons (pg_name (i := 11) scLaw.nd rfl (Or.inr rfl)) (pgs_cons (pg_name (i := 6) scLaw.nd rfl (Or.inl rfl)) pgs_nil))))
    (pss_cons (ps_set (i := 7) scLaw.nd rfl (Or.inl rfl) (pe_D N.other hr2 rfl (pa_cons (pv 2) (pa_cons (pe_ix ix_list (pv 3) (pv 6) (fun _ _ => rfl)) pa_nil))))
    (pss_cons (ps_if (pt_not (pt_val (pe_DG N.rr hG' hr12 rfl (pa_cons (pe_ix ix_tup (pv 5) (pv 6) (fun _ _ => rfl)) (pa_cons (pe_ix ix_list (pv 3) (pv 6) (fun _ _ => rfl)) (pa_cons (pe_D N.made hr3 rfl (pa_cons (pv 7) pa_nil)) pa_nil)))))) (pss_one (ps_ret pe_bl)) pss_nil)
    (pss_cons (ps_set (i := 8) scLaw.nd rfl (Or.inl rfl) (pe_C N.mkp hr31 rfl (pa_cons (pe_op op_catA (pe_op op_catA (pe_slice sl_tupA (pv 5) po_none (po_some (pv 6))) (pe_tup (pa_cons (pe_D N.made hr3 rfl (pa_cons (pv 7) pa_nil)) pa_nil))) (pe_slice sl_tupA (pv 5) (po_some (pe_op op_add (pv 6) pe_int)) po_none)) pa_nil)))
    (pss_cons (ps_if (PW.pt (pw_or (pt_not (pt_cmpR (op_eqO N.EDP hr4) (pv 11) (pe_D N.prog hr32 rfl (pa_cons (pv 3) pa_nil)) (nomark _))) (pw_or (pt_cmpR (op_inQ hin hr5) (pv 11) (pe_lst (pa_cons (pv 5) (pa_cons pe_non (pa_cons (pv 8) pa_nil)))) (by with_unfolding_all rfl))
        (pw_or1 (pt_not (pt_cmpR (op_neO N.EDP hr5) (pv 11) (pv 8) (nomark _))))))) (pss_one (ps_ret pe_bl)) pss_nil)
    (pss_cons (ps_if (PW.pt (pw_or (pt_cmpR op_ne (pe_callB (call_lenD N.LDP hr2) rfl N.O.len PySem.boot_len (pa_cons (pv 11) pa_nil)) (pe_callB call_len_seq rfl N.O.len PySem.boot_len (pa_cons (pv 3) pa_nil)) (nomark _))
        (pw_or (pt_cmpR op_ne (pe_callB (call_reprO N.RDP hr2) rfl N.mrepr (by decide +kernel) (pa_cons (pv 11) pa_nil)) (pe_op op_add_str (pe_op op_add_str pe_str (pe_callTy call_str_int rfl N.O.str (by decide +kernel) (pa_cons (pe_callB call_len_seq rfl N.O.len PySem.boot_len (pa_cons (pv 3) pa_nil)) pa_nil))) pe_str) (nomark _))
        (pw_or1 (pt_cmpR (op_neTupQ eqQ_same hr1) (pe_Mz N.rms TP.cl (pv 11) hr1) (pv 5) (nomark _)))))) (pss_one (ps_ret pe_bl)) pss_nil)
    ht9)))))))), ?_⟩
  intro D H a ns i z2 z3 z4 z5 z6 z7 z8 z9 z10 z11 z12 z13 hS hi hT q
  refine ⟨_, rfl, _, rfl, a, ns, _, rfl, hS, by omega, by omega, fun b H1 nb s1 B1 => ?_⟩
  have g1 : Gr T_ H H1 := .of hT s1
  refine ⟨_, rfl, b, 5, 4, 0, rfl, B1, by decide, by decide, by decide, by decide, by decide, fun l a8 rs H2 k2 B2 nl lb hl hp8 ok hbx hfw hn h5 => ?_⟩
  have g2 := gr_kept g1 nb B1 k2
  have nl0 : H l = none := g1.no l nl
  have hlen := paired_len hp8
  have lo := ok.lo
  refine ⟨_, rfl, l, rfl, ⟨_, SqL.of hl⟩, fun c1 n1 => ?_⟩
  refine lc_list (K := K) (a := l) (xs := a8.map V.ref) (fun i Hc => ∃ xs : List Addr, Hc c1 = some (.lst (xs.map V.ref)) ∧ Paired (RmAt C Hc) xs (rs.take i) ∧ Same H2 Hc) ⟨[], upd_same, .nil, same_new n1 _⟩ ?_ ?_ ?_
  · rintro i Hc _ ⟨xs, _, _, sm⟩
    exact SqL.of (sm _ _ hl)
  · rintro i v Hc hv ⟨xs, x1, x2, sm⟩
    obtain ⟨e, he, rfl⟩ := refs_at hv
    obtain ⟨r, hri, hat⟩ := paired_get hp8 he
    have xl := paired_len x2
    rw [List.length_take] at xl
    refine ⟨rfl, _, rfl, e, r, rfl, hat.keep (Same.tups sm), fun x H3 hx s3 hr3 => ?_⟩
    refine ⟨_, s3 _ _ x1, by rw [List.length_map]; omega, xs ++ [x], by rw [upd_same, List.map_append]; rfl, ?_, fun a o ha => ?_⟩
    · have ob := Objs.put (ys := xs.map V.ref ++ [V.ref x]) (s3 _ _ x1)
      rw [List.take_add_one, hri]
      exact paired_snoc (paired_imp (fun _ _ z => (z.keep s3).keepO ob) x2) (hr3.keepO ob)
    · rw [upd_ne (ne_of_none ha n1)]
      exact s3 _ _ (sm _ _ ha)
  rintro Hc ⟨as, x1, hp, sm⟩
  rw [List.length_map, hlen, List.take_length] at hp
  refine ⟨c1, _, rfl, .inl ⟨SqL.of x1, fun R nR => ?_⟩⟩
  have s3 := same_new nR (.tup (as.map V.ref))
  have hR : upd Hc R (.tup (as.map V.ref)) R = some (.tup (as.map V.ref)) := upd_same
  replace hp := paired_imp (fun _ _ (z : RmAt C Hc _ _) => z.keep s3) hp
  generalize upd Hc R (.tup (as.map V.ref)) = H3 at *
  have s23 := sm.trans s3
  have g3 := g2.same s23
  have hla := paired_len hp
  refine ⟨_, rfl, fun x dx nx ndx ne => ?_⟩
  have s4 : Same H3 (upd (upd H3 dx (.own x)) x (.ins D_ dx [])) := fun a o ha => by
    rw [upd_ne (ne_of_none ha nx), upd_ne (ne_of_none ha ndx)]
    exact ha
  refine ⟨x, dx, R, rs, rfl, upd_same, ⟨as, s4 _ _ hR, paired_imp (fun _ _ z => z.keep s4) hp⟩, ok, (Gr.of g3.tabs s4).tabs, fun p H4 k4 h4 hp4 => ⟨rfl, ?_⟩⟩
  have g34 : Gr T_ H3 H4 := gr_kg (Gr.of g3.tabs s4) nx k4
  have g24 : Gr T_ H2 H4 := (Gr.of g2.tabs s23).trans g34
  have g4 := g2.trans g24
  have B4 := B2.gr g24
  refine ⟨_, rfl, _, rfl, l, _, rfl, .inl (SqL.of (g24.lst hl)), b, _, _, rfl, B4, by decide, by rw [List.length_map]; omega, by rw [List.length_map]; omega, fun d H5 k5 B5 d0 d1 => ?_⟩
  rw [List.length_map] at d1
  obtain ⟨k, rfl⟩ : ∃ k : Nat, d = k := ⟨d.toNat, by omega⟩
  have kl : k < rs.length := by omega
  have g5 := gr_kept g4 nb B4 k5
  refine ⟨(by show 2 ≤ sizeLine; omega), fun pt nt => ⟨pt, _, rfl, SqT.of upd_same, rfl, _, _, rfl, _, _, rfl, rfl, ?_⟩⟩
  have s6 := same_new nt (.tup [.ref x, .int k])
  generalize upd H5 pt (.tup [.ref x, .int k]) = H6 at *
  have g6 := g5.same s6
  have B6 := B5.keep s6
  have nbx : ∀ {a' : Addr} {o : HO}, H4 a' = some o → (∀ xs, o ≠ .lst xs) → H6 a' = some o := fun h no => by
    obtain ⟨xs, hb⟩ := B4.lst
    exact s6 _ _ (k5 _ _ (ne_of h hb (fun z => no xs z)) h)
  have t46 : Tups H4 H6 := fun a' xs h => nbx h (fun _ z => by cases z)
  have hR6 : H6 R = some (.tup (as.map V.ref)) := nbx (g34.tups _ _ hR) (fun _ z => by cases z)
  have hx6 : H6 x = _ := nbx h4 (fun _ z => by cases z)
  have hl6 : H6 l = some (.lst (a8.map V.ref)) := s6 _ _ (k5 _ _ lb (g24.lst hl))
  have hp86 : Paired (EightAt H6) a8 rs := paired_imp (fun _ _ y => (y.keep g24.tups).keep t46) hp8
  have hp6 : Paired (RmAt C H6) as rs := paired_imp (fun _ _ (y : RmAt C H3 _ _) => (y.gr g34).kept' nbx) hp
  obtain ⟨r, hrk⟩ : ∃ r, rs[k]? = some r := ⟨_, List.getElem?_eq_getElem kl⟩
  obtain ⟨e8, he8, h8⟩ := paired_put hp86 hrk
  obtain ⟨ek, hek, hxk⟩ := paired_put hp6 hrk
  have zr := ok.all k r hrk
  have fd := room_fd ok hrk
  have fw := hfw r (List.mem_of_getElem? hrk)
  have rt : ∃ ws, r.body.right r.bn ws (ben rs r.name) := by
    by_cases c : k = 0
    · exact ⟨_, (zr.first c).2⟩
    · exact ⟨_, (zr.other c).2⟩
  obtain ⟨ws, rt⟩ := rt
  refine ⟨_, rfl, _, rfl, _, rfl, l, _, _, _, rfl, rfl, SqL.of hl6, atI_nat (j := k) (v := .ref e8) (by rw [List.getElem?_map, he8]; rfl), b, e8, _, r, rfl, B6, by decide, h8, fd, hbx r (List.mem_of_getElem? hrk), zr.boxes.1, zr.says.1, rt.2.1, fun ha => ?_, fun p7 r' H7 k7 B7 h7 oth => ?_⟩
  · by_cases c : k = 0
    · exact absurd (zr.above.1 c) ha
    · obtain ⟨i, hi, _⟩ := (zr.other c).1.1
      exact ⟨i, hi⟩
  have g7 := gr_kept g6 nb B6 k7
  have ok' := other_right ok hrk oth fw
  have hrk' : (rs.set k r')[k]? = some r' := by
    rw [List.getElem?_set, if_pos rfl, if_pos kl]
  have fd' := room_fd ok' hrk'
  have ne1 := other_ne oth fw fd
  have ne2 : rmB r' r = false := (rmB_comm r' r).trans ne1
  have nbx7 : ∀ {a' : Addr} {o : HO}, H6 a' = some o → (∀ xs, o ≠ .lst xs) → H7 a' = some o := fun h no => by
    obtain ⟨xs, hb⟩ := B6.lst
    exact k7 _ _ (ne_of h hb (fun z => no xs z)) h
  have t67 : Tups H6 H7 := fun a' xs h => nbx7 h (fun _ z => by cases z)
  have hR7 : H7 R = some (.tup (as.map V.ref)) := t67 _ _ hR6
  have hl7 : H7 l = some (.lst (a8.map V.ref)) := k7 _ _ lb hl6
  have hp87 : Paired (EightAt H7) a8 rs := paired_imp (fun _ _ y => y.keep t67) hp86
  have hp7 : Paired (RmAt C H7) as rs := paired_imp (fun _ _ (y : RmAt C H6 _ _) => y.kept' nbx7) hp6
  have hx7 := nbx7 hx6 (fun _ z => by cases z)
  have hxk7 := hxk.kept' nbx7
  refine ⟨_, rfl, _, rfl, R, _, _, _, rfl, rfl, SqT.of hR7, atI_nat (j := k) (v := .ref ek) (by rw [List.getElem?_map, hek]; rfl), _, rfl, _, rfl, l, _, _, _, rfl, rfl, SqL.of hl7, atI_nat (j := k) (v := .ref e8) (by rw [List.getElem?_map, he8]; rfl), _, rfl, p7, r', rfl, h7, fun y H8 ny s8 hy => ?_⟩
  have nxy : ek ≠ y := by
    obtain ⟨dx, n, ab, bx, sy, kk, t, p, yy, h1, h2⟩ := hxk7
    exact ne_of_none h1 ny
  refine ⟨ek, e8, y, r, r', rfl, hxk7.keep s8, (h8.keep t67).keep (Same.tups s8), hy, fd, fd', ne1, ne2, nxy, by have := rt.2.2.1; omega, by have := rt.2.2.2; omega, fun H9 s9 => ⟨_, rfl, itF rfl ?_⟩⟩
  have s79 := s8.trans s9
  have g9 := g7.same s79
  have hR9 := s79 _ _ hR7
  have hx9 := s79 _ _ hx7
  have hp9 : Paired (RmAt C H9) as rs := paired_imp (fun _ _ (z : RmAt C H7 _ _) => z.keep s79) hp7
  have h79 := h7.keep (Same.tups s79)
  refine ⟨_, rfl, _, rfl, k, rfl, slA_all hR9 fun q1 H10 s10 e10 => ?_⟩
  rw [cut_to _ k (by rw [List.length_map]; omega)] at e10
  refine ⟨_, rfl, p7, r', rfl, h79.keep (Same.tups s10), fun y2 H11 ny2 s11 hy2 => ⟨(by show 1 ≤ sizeLine; omega), fun q2 n2 => ?_⟩⟩
  have s12 := same_new n2 (.tup [.ref y2])
  refine mk_catA (s12 _ _ (s11 _ _ e10)) upd_same (by rw [List.length_take, List.length_map]; show _ + 1 ≤ 1000; omega) fun q3 H13 s13 e13 => ?_
  have s1013 := s10.trans (s11.trans (s12.trans s13))
  refine ⟨_, rfl, _, rfl, _, _, rfl, rfl, _, rfl, ?_⟩
  first | (unfold tNoPart; dsimp only) | (dsimp only; unfold tNoPart; dsimp only) | dsimp only
  refine slA_all (s1013 _ _ hR9) fun q4 H14 s14 e14 => ?_
  rw [show ((k : Int) + 1) = ((k + 1 : Nat) : Int) by omega, cut_from] at e14
  refine mk_catA (s14 _ _ e13) e14 (by rw [List.length_append, List.length_take, List.length_drop, List.length_map]; show _ + 1 + _ ≤ 1000; omega) fun R2 HN s15 e15 => ?_
  rw [show ([V.ref y2] : List V) = [y2].map V.ref from rfl, ← List.map_take, ← List.map_drop, ← List.map_append, ← List.map_append, set_cut as k y2 (by omega)] at e15
  have sN := s1013.trans (s14.trans s15)
  have sy2 := s12.trans (s13.trans (s14.trans s15))
  have hpN : Paired (RmAt C HN) as rs := paired_imp (fun _ _ z => z.keep sN) hp9
  have hp2N : Paired (RmAt C HN) (as.set k y2) (rs.set k r') := paired_set' hpN (hy2.keep sy2) k
  have gN : Gr T_ H HN := g9.same sN
  intro x2 dx2 nx2 ndx2 ne0
  have s16 : Same HN (upd (upd HN dx2 (.own x2)) x2 (.ins D_ dx2 [])) := fun a o ha => by
    rw [upd_ne (ne_of_none ha nx2), upd_ne (ne_of_none ha ndx2)]
    exact ha
  refine ⟨x2, dx2, R2, rs.set k r', rfl, upd_same, ⟨as.set k y2, s16 _ _ e15, paired_imp (fun _ _ z => z.keep s16) hp2N⟩, ok', (Gr.of gN.tabs s16).tabs, fun pn HP k16 h16 hpn => ⟨rfl, ?_⟩⟩
  have gNP : Gr T_ HN HP := gr_kg (Gr.of gN.tabs s16) nx2 k16
  have xne : x ≠ x2 := ne_of_none (sN _ _ hx9) nx2
  have yne : y2 ≠ ek := by
    obtain ⟨d1, n, ab, bx, sy, kk, t, p, yy, h1, h2⟩ := hxk7
    exact (ne_of_none (s10 _ _ (s79 _ _ h1)) ny2).symm
  have gP := gN.trans gNP
  -- what stands there from now on
  have there : ∀ {Hx : Hp}, Gr T_ HP Hx → Hx x = some (.ins D_ dx [("held", .ref R), ("drawn", .ref p)]) ∧ Hx x2 = some (.ins D_ dx2 [("held", .ref R2), ("drawn", .ref pn)]) ∧ Hx R = some (.tup (as.map V.ref)) ∧ Hx R2 = some (.tup ((as.set k y2).map V.ref)) ∧ Paired (RmAt C Hx) as rs ∧ Paired (RmAt C Hx) (as.set k y2) (rs.set k r') := fun {Hx} gx => by
    have gz := gNP.trans gx
    exact ⟨gz.ins (sN _ _ hx9), gx.ins h16, gz.tups _ _ (sN _ _ hR9), gz.tups _ _ e15, paired_imp (fun _ _ z => z.gr gz) hpN, paired_imp (fun _ _ z => z.gr gz) hp2N⟩
  have hlP : ∀ {Hx : Hp}, Gr T_ HP Hx → Hx l = some (.lst (a8.map V.ref)) := fun gx => (gNP.trans gx).lst (sN _ _ (s79 _ _ hl7))
  have hp8P : ∀ {Hx : Hp}, Gr T_ HP Hx → Paired (EightAt Hx) a8 rs := fun gx => paired_imp (fun _ _ z => ((z.keep (Same.tups (s79.trans sN))).keep (gNP.trans gx).tups)) hp87
  have fdi : ∀ {i : Nat} {r0 : Rm}, rs[i]? = some r0 → r0.fd := fun h => room_fd ok h
  have same2 : ∀ {Hx : Hp} {as3 : List Addr}, Paired (RmAt C Hx) as rs → Paired (RmAt C Hx) as3 rs → Prq (DRm C) (as.map V.ref) (as3.map V.ref) Hx (fun _ => true) := fun h1 h2 i xx yy hx hy => by
    obtain ⟨u1, hu1, rfl⟩ := refs_at hx
    obtain ⟨u2, hu2, rfl⟩ := refs_at hy
    obtain ⟨r1, hr1', hat1⟩ := paired_get h1 hu1
    obtain ⟨r2, hr2', hat2⟩ := paired_get h2 hu2
    rw [hr1'] at hr2'
    cases hr2'
    exact ⟨u1, u2, r1, r1, rfl, rfl, hat1, hat2, fdi hr1', fdi hr1', (rmB_refl (fdi hr1')).symm, fun _ => rfl⟩
  have lset : (as.set k y2).length = as.length := List.length_set ..
  have tb : ∀ n : Nat, tupB (fun _ => true) n n = true := fun n => by
    unfold tupB
    rw [beq_self_eq_true, Bool.and_true]
    exact List.all_eq_true.mpr fun _ _ => rfl
  have tf : tupB (fun i => !decide (i = k)) as.length as.length = false := by
    unfold tupB
    have : (List.range (min as.length as.length)).all (fun i => !decide (i = k)) = false := by
      refine List.all_eq_false.mpr ⟨k, List.mem_range.mpr (by omega), ?_⟩
      rw [decide_eq_true rfl]
      decide
    rw [this]
    rfl
  have mix : ∀ {Hx : Hp}, Paired (RmAt C Hx) as rs → Paired (RmAt C Hx) (as.set k y2) (rs.set k r') → ∀ (i : Nat) (xx yy : V), (as.map V.ref)[i]? = some xx → ((as.set k y2).map V.ref)[i]? = some yy → DRm C xx yy Hx (!decide (i = k)) ∧ DRm C yy xx Hx (!decide (i = k)) := fun h1 h2 i xx yy hx hy => by
    obtain ⟨u1, hu1, rfl⟩ := refs_at hx
    obtain ⟨u2, hu2, rfl⟩ := refs_at hy
    obtain ⟨r1, hr1', hat1⟩ := paired_get h1 hu1
    obtain ⟨r2, hr2', hat2⟩ := paired_get h2 hu2
    by_cases c : i = k
    · subst c
      rw [hrk] at hr1'
      rw [hrk'] at hr2'
      cases hr1'
      cases hr2'
      rw [hek] at hu1
      rw [List.getElem?_set, if_pos rfl, if_pos (by omega)] at hu2
      cases hu1
      cases hu2
      rw [decide_eq_true rfl]
      exact ⟨⟨ek, y2, r, r', rfl, rfl, hat1, hat2, fd, fd', ne1.symm, fun e => absurd e.symm yne⟩, ⟨y2, ek, r', r, rfl, rfl, hat2, hat1, fd', fd, ne2.symm, fun e => absurd e yne⟩⟩
    · rw [List.getElem?_set, if_neg (fun e => c e.symm)] at hr2' hu2
      rw [hr1'] at hr2'
      cases hr2'
      rw [decide_eq_false c]
      exact ⟨⟨u1, u2, r1, r1, rfl, rfl, hat1, hat2, fdi hr1', fdi hr1', (rmB_refl (fdi hr1')).symm, fun _ => rfl⟩, ⟨u2, u1, r1, r1, rfl, rfl, hat2, hat1, fdi hr1', fdi hr1', (rmB_refl (fdi hr1')).symm, fun _ => rfl⟩⟩
  -- the house is the same, and not the other one
  refine ⟨_, rfl, _, rfl, l, a8, rs, rfl, hlP (.refl gP.tabs), hp8P (.refl gP.tabs), ok, gP.tabs, fun x3 HQ nx3 gQ pg => ?_⟩
  obtain ⟨d3, R3, p3, h3, hp3, as3, hR3, hq3⟩ := pg
  obtain ⟨w1, w2, w3, w4, w5, w6⟩ := there gQ
  have l3 := paired_len hq3
  refine ⟨x, dx, _, rfl, w1, .ins h3, x, _, R, rfl, ⟨dx, _, w1⟩, .inl ⟨x3, R3, as, as3, fun _ => true, rfl, ⟨d3, _, h3⟩, w3, hR3, same2 w5 hq3, _, rfl, _, rfl, itF ?_ ?_⟩⟩
  · rw [show as3.length = as.length by omega, tb]
    rfl
  refine ⟨_, rfl, _, rfl, _, rfl, (by show 3 ≤ sizeLine; omega), fun pL nL => ?_⟩
  have sL := same_new nL (.lst [.ref R, .non, .ref x2])
  have gL : Gr T_ HP (upd HQ pL (.lst [.ref R, .non, .ref x2])) := gQ.same sL
  refine ⟨pL, _, fun _ => false, rfl, upd_same, fun i z hz => ?_, _, rfl, itF rfl ?_⟩
  · obtain ⟨v1, v2, v3, v4, v5, v6⟩ := there gL
    have : i = 0 ∨ i = 1 ∨ i = 2 := by
      have := (List.getElem?_eq_some_iff.mp hz).1
      have e : ([V.ref R, .non, .ref x2] : List V).length = 3 := rfl
      omega
    rcases this with rfl | rfl | rfl
    · cases hz
      exact .inl ⟨x, dx, _, rfl, v1, .tup v3, fun Q' q' => ⟨x, _, R, rfl, ⟨dx, _, v1⟩, .inr ⟨.tup v3, q'⟩⟩⟩
    · cases hz
      exact .inl ⟨x, dx, _, rfl, v1, .non, fun Q' q' => ⟨x, _, R, rfl, ⟨dx, _, v1⟩, .inr ⟨.non, q'⟩⟩⟩
    · cases hz
      refine .inr ⟨⟨x2, dx2, _, rfl, v2, .ins v1, fun Q' q' => ⟨x2, _, R2, rfl, ⟨dx2, _, v2⟩, .inl ⟨x, R, as.set k y2, as, fun i => !decide (i = k), rfl, ⟨dx, _, v1⟩, v4, v3, fun i xx yy h1 h2 => (mix v5 v6 i yy xx h2 h1).2, ?_⟩⟩⟩, x2, x, rfl, rfl, xne.symm⟩
      rw [lset, tf]
      exact q'
  obtain ⟨v1, v2, v3, v4, v5, v6⟩ := there gL
  refine ⟨_, rfl, _, rfl, x, dx, _, rfl, v1, .ins v2, x, _, R, rfl, ⟨dx, _, v1⟩, .inl ⟨x2, R2, as, as.set k y2, fun i => !decide (i = k), rfl, ⟨dx2, _, v2⟩, v3, v4, fun i xx yy h1 h2 => (mix v5 v6 i xx yy h1 h2).1, _, rfl, _, rfl, itF ?_ ?_⟩⟩
  · rw [lset, tf]
    rfl
  -- its length, its text, its rooms
  generalize upd HQ pL (.lst [.ref R, .non, .ref x2]) = HL at *
  have lm : (as.map V.ref).length = rs.length := by rw [List.length_map]; exact hla
  have lm8 : (a8.map V.ref).length = rs.length := by rw [List.length_map]; exact hlen
  refine ⟨_, rfl, x, dx, _, rfl, v1, x, R, _, rfl, ⟨dx, _, v1⟩, v3, ⟨_, rfl, by omega, by omega, ?_⟩⟩
  refine ⟨_, rfl, l, _, rfl, .inl (SqL.of (hlP gL)), rfl, _, rfl, itF (by rw [lm, lm8, decide_eq_true rfl]; rfl) ?_⟩
  refine ⟨_, rfl, x, dx, _, rfl, v1, x, R, _, rfl, ⟨dx, _, v1⟩, v3, by rw [lm]; omega, _, rfl, ?_⟩
  have c1 : ("Program(" : Str).length = 8 := by decide +kernel
  have c2 : (")" : Str).length = 1 := by decide +kernel
  have c3 : ((toString ((rs.length : Nat) : Int) : String) : Str).length ≤ 2 := n8_len ⟨rs.length, by omega⟩
  refine ⟨_, rfl, l, _, rfl, .inl (SqL.of (hlP gL)), ?_⟩
  rw [lm8, lm]
  have lg : ((rs.length : Nat) : Int).natAbs.log2 < 1920 := by
    have := (Nat.log2_lt (show ((rs.length : Nat) : Int).natAbs ≠ 0 by omega)).mpr (show ((rs.length : Nat) : Int).natAbs < 2 ^ 10 by omega)
    omega
  refine ⟨_, rfl, lg, _, _, rfl, rfl, by rw [c1]; omega, _, _, rfl, rfl, by rw [Str.length_append, c1, c2]; omega, rfl, _, rfl, itF ?_ ?_⟩
  · rw [Str.empty_append, decide_eq_true rfl]
    rfl
  refine ⟨_, rfl, x, dx, _, rfl, v1, pf_none (by decide +kernel) (by decide +kernel), x, R, rfl, ⟨dx, _, v1⟩, _, rfl, true, ⟨R, R, _, _, fun _ => true, rfl, rfl, SqT.of v3, SqT.of v3, fun i xx yy h1 h2 => ?_, (tb _).symm⟩, _, rfl, itF rfl ?_⟩
  · rw [h1] at h2
    cases h2
    obtain ⟨u1, hu1, rfl⟩ := refs_at h1
    exact ⟨u1, rfl, rfl, rfl⟩
  have gF := gP.trans gL
  have BL := (B7.keep (s79.trans sN)).gr (gNP.trans gL)
  refine leaf D HL b R x l as a8 rs _ _ _ _ _ _ _ _ _ _ _ BL (by decide) ⟨dx, _, v1⟩ v3 v5 (hlP gL) (hp8P gL) ok (by omega) hn gL.tabs fun H' z4 z9 z10 z12 z13 kf => ?_
  exact q H' _ _ _ _ _ _ _ _ _ _ _ _ (gr_kg gF nb kf)
end
end Any
set_option pp.maxSteps 600
namespace Any
open L2 PySem PySem.Spec PyProof.Rows LamX NdefX
def spLaw (T : List NTab) (K : PySem.W.Frag) : Sp := fun vs H Q _ => ∃ (a : Addr) (ns : List Int), vs = [.ref a] ∧ SqL K H a (ns.map V.int) ∧ ns.length ≤ 63 ∧ TabsN T H ∧ ∀ H', Q (.bl true) H'
structure FunL (K : PySem.W.Frag) (x qual : Str) (st : Stmt) (f : Addr) (fd : FuncData) (c : Addr) : Prop where
  ex : ∃ (oc : Value) (od : Option Addr) (kV doc pm : Value) (an : Option Addr) (ct : Value) (osl : Array (Option Value)),
    fd = PySem.W.fnOf x qual (defArgs st) (defBody st) (defScope st) .none kV doc pm an (.ref c) ct ∧ K.lookup f = some ⟨oc, od, .func fd, osl⟩ ∧ PySem.W.codeIn K (.ref c) qual = true
theorem funL_g {P : Program} {w : World} {K : PySem.W.Frag} {mg : Str → Option Value} {base : Heap} {f c : Addr} {fd : FuncData} {x ql : Str} {st : Stmt} {N ps : List Str} {k : Nat} {sp : Sp} (F : FunL K x ql st f fd c) (S : FnScope N ps (defScope st)) (ln : ∀ vs H Q E, sp vs H Q E → vs.length = ps.length)
    (hb : ∀ (A : Around) (out : List Env) (s : Shared) (H : Hp) (vs : List V) (Q : VK) (E : XK), A.guards = some [] → Room k (A.deeper (envOfC ql (defScope st) s.heap.objs.size f (.ref c))) → sp vs H Q E →
      ∃ t, PSs (cxOf CX0 P w K mg base N ql (defScope st) f (.ref c) A out s H E).nox (defBody st) t ∧ t ⟨fun _ H' => Q .non H', Q, fun _ _ => False, fun _ _ => False⟩ (L2.start N vs) H) : FnG P w K mg base CX0 (k + 1) f fd ps sp := by
  obtain ⟨_, _, _, _, _, _, _, _, rfl, lk, hc⟩ := F.ex
  refine fn_g lk hc S ln fun A out s H vs Q E hg hr hs => ?_
  obtain ⟨t, h, q⟩ := hb A out s H vs Q E hg hr hs
  exact ⟨t, h.nox, q⟩
section
variable {P : Program} {w : World} {K : PySem.W.Frag} {mg : Str → Option Value} {base : Heap} {T_ : List NTab} {f c Pt C D_ CN CP : Addr} {fd : FuncData}
theorem ok_law (N : Fns P w K mg base T_ C D_ CN CP) (TB : TabB base mg c Pt) (inT : (Pt, fun _ _ => qLaw) ∈ T_) (uni : ∀ p ∈ T_, p.1 = Pt → p.2 = fun _ _ => qLaw) (mx : mg "max" = none) (mn : mg "min" = none)
    (F : FunL K "law" "law" sLaw f fd c) : FnG P w K mg base CX0 41 f fd ["_law_script"] (spLaw T_ K) := by
  refine funL_g F scLaw (fun vs H Q E h => ?_) (fun A outer s H vs Q E hG hr h => ?_)
  · obtain ⟨a, ns, rfl, _⟩ := h
    rfl
  obtain ⟨a, ns, rfl, hS, h63, hT, q⟩ := h
  obtain ⟨t, ht, leaf⟩ := law_turn N TB inT uni A outer s H E hG hr
  refine ⟨_, pss_cons (ps_for PassesOwn.never rfl (pi_range1 rfl N.mr (pa_cons (pe_callB (call_max2 rfl) rfl mx (by decide +kernel) (pa_cons pe_int (pa_cons (pe_callB (call_min2 rfl) rfl mn (by decide +kernel) (pa_cons pe_int (pa_cons (pe_callB call_len_seq rfl N.O.len PySem.boot_len (pa_cons (pv 0) pa_nil)) pa_nil))) pa_nil))) pa_nil))
      (pg_name (i := 1) scLaw.nd rfl (Or.inl rfl)) ht) (pss_one (ps_ret pe_bl)), ?_⟩
  refine ⟨_, rfl, a, _, rfl, .inl hS, _, _, rfl, _, _, rfl, _, rfl, ?_, ?_, ?_⟩
  · split <;> (try split) <;> omega
  · rw [List.length_map]
    split <;> (try split) <;> omega
  refine for_range (lo := 0) (fun i σ H' => ∃ x1 x2 x3 x4 x5 x6 x7 x8 x9 x10 x11 x12 x13 : Option V, σ = [some (.ref a), x1, x2, x3, x4, x5, x6, x7, x8, x9, x10, x11, x12, x13] ∧ Gr T_ H H') ⟨_, _, _, _, _, _, _, _, _, _, _, _, _, rfl, Gr.refl hT⟩ ?_ (fun σ H' _ => q H')
  rintro i σ H1 hi ⟨x1, x2, x3, x4, x5, x6, x7, x8, x9, x10, x11, x12, x13, rfl, s1⟩
  have hi6 : i < 6 := by
    rw [List.length_map] at hi
    split at hi <;> (try split at hi) <;> omega
  rw [Int.zero_add]
  exact leaf _ H1 a ns i x2 x3 x4 x5 x6 x7 x8 x9 x10 x11 x12 x13 (s1.seq hS) (by omega) s1.tabs fun H' z2 z3 z4 z5 z6 z7 z8 z9 z10 z11 z12 z13 g => ⟨_, _, _, _, _, _, _, _, _, _, _, _, _, rfl, s1.trans g⟩
end
end Any
namespace Any
open L2 PySem PySem.Spec PyProof.Rows LamX NdefX
theorem fnr {P : Program} {w : World} {K : PySem.W.Frag} {mg : Str → Option Value} {base : Heap} {k : Nat} {f : Addr} {fd : FuncData} {ps : List Str} {sp : Sp} (F : FnOk P w K mg base CX0 k f fd ps sp) (hb : Binds K fd ps []) : FnR P w K mg base CX0 k f sp :=
  (F.raw hb .nil).imp fun vs H Q E h => by rw [List.append_nil]; exact h
theorem kit_blt {K : PySem.W.Frag} {D : Addr} {B : String} {b : Bool} (e : PySem.W.kitMeta B = true) (h : PySem.W.subIn K (.ref D) (.type B) = some b) : PySem.W.kitOne K (.ref D) (.type B) = some b := by
  unfold PySem.W.kitOne PySem.W.kitCls
  rw [if_neg (by simp)]
  dsimp only
  rw [if_pos e]
  exact h
theorem kit_self {K : PySem.W.Frag} {D : Addr} : PySem.W.kitOne K (.ref D) (.ref D) = some true := by
  unfold PySem.W.kitOne
  rw [if_pos (by simp)]
end Any
namespace Any
open L2 PySem PySem.Spec PyProof.Rows LamX NdefX

set_option maxHeartbeats 0 in
theorem all_mk {l : PySem.W.OpenLaw} {w : World} {K : PySem.W.Frag} {h : Heap} {mg : Str → Option Value} {fa D : Addr} (X : K.In h) (G : h.Ns mainGlobals mg) (hfa : mg "law" = some (.ref fa))
    {f1 f2 f3 f4 f5 f6 f7 f8 f9 f10 f11 f12 f13 f14 f15 f16 f17 f18 f19 f20 f21 f22 f23 f24 f25 f26 f27 f28 f29 f30 f31 f32 f33 f34 f35 f36 f37 f38 f39 f40 f41 f42 f43 f44 f45 f46 f47 f48 f49 f50 f51 f52 f53 f54 f55 f56 f57 f58 f59 f60 f61 f62 f63 f64 f65 f66 f67 f68 D6 D24 c7 P7 c8 P8 c9 P9 c68 P68 : Addr} {od1 an1 od2 an2 od3 an3 od4 an4 od5 an5 od6 an6 od7 an7 od8 an8 od9 an9 od10 an10 od11 an11 od12 an12 od13 an13 od14 an14 od15 an15 od16 an16 od17 an17 od18 an18 od19 an19 od20 an20 od21 an21 od22 an22 od23 an23 od24 an24 od25 an25 od26 an26 od27 an27 od28 an28 od29 an29 od30 an30 od31 an31 od32 an32 od33 an33 od34 an34 od35 an35 od36 an36 od37 an37 od38 an38 od39 an39 od40 an40 od41 an41 od42 an42 od43 an43 od44 an44 od45 an45 od46 an46 od47 an47 od48 an48 od49 an49 od50 an50 od51 an51 od52 an52 od53 an53 od54 an54 od55 an55 od56 an56 od57 an57 od58 an58 od59 an59 od60 an60 od61 an61 od62 an62 od63 an63 od64 an64 od65 an65 od66 an66 od67 an67 od68 an68 cod7 cod8 cod9 cod68 : Option Addr} {sl1 sl2 sl3 sl4 sl5 sl6 sl7 sl8 sl9 sl10 sl11 sl12 sl13 sl14 sl15 sl16 sl17 sl18 sl19 sl20 sl21 sl22 sl23 sl24 sl25 sl26 sl27 sl28 sl29 sl30 sl31 sl32 sl33 sl34 sl35 sl36 sl37 sl38 sl39 sl40 sl41 sl42 sl43 sl44 sl45 sl46 sl47 sl48 sl49 sl50 sl51 sl52 sl53 sl54 sl55 sl56 sl57 sl58 sl59 sl60 sl61 sl62 sl63 sl64 sl65 sl66 sl67 sl68 csl7 csl8 csl9 csl68 : Array (Option Value)} {cvs7 cvs8 cvs9 cvs68 : Array Value}
    {oc1 kV1 cd1 dc1 pm1 ct1 oc2 kV2 cd2 dc2 pm2 ct2 oc3 kV3 cd3 dc3 pm3 ct3 oc4 kV4 cd4 dc4 pm4 ct4 oc5 kV5 cd5 dc5 pm5 ct5 oc6 cd6 dc6 pm6 ct6 oc7 kV7 coc7 dc7 pm7 ct7 oc8 kV8 coc8 dc8 pm8 ct8 oc9 kV9 coc9 dc9 pm9 ct9 oc10 kV10 cd10 dc10 pm10 ct10 oc11 kV11 cd11 dc11 pm11 ct11 oc12 kV12 cd12 dc12 pm12 ct12 oc13 kV13 cd13 dc13 pm13 ct13 oc14 kV14 cd14 dc14 pm14 ct14 oc15 kV15 cd15 dc15 pm15 ct15 oc16 kV16 cd16 dc16 pm16 ct16 oc17 kV17 cd17 dc17 pm17 ct17 oc18 kV18 cd18 dc18 pm18 ct18 oc19 kV19 cd19 dc19 pm19 ct19 oc20 kV20 cd20 dc20 pm20 ct20 oc21 kV21 cd21 dc21 pm21 ct21 oc22 kV22 cd22 dc22 pm22 ct22 oc23 kV23 cd23 dc23 pm23 ct23 oc24 cd24 dc24 pm24 ct24 oc25 kV25 cd25 dc25 pm25 ct25 oc26 kV26 cd26 dc26 pm26 ct26 oc27 kV27 cd27 dc27 pm27 ct27 oc28 kV28 cd28 dc28 pm28 ct28 oc29 kV29 cd29 dc29 pm29 ct29 oc30 kV30 cd30 dc30 pm30 ct30 oc31 kV31 cd31 dc31 pm31 ct31 oc32 kV32 cd32 dc32 pm32 ct32 oc33 kV33 cd33 dc33 pm33 ct33 oc34 kV34 cd34 dc34 pm34 ct34 oc35 kV35 cd35 dc35 pm35 ct35 oc36 kV36 cd36 dc36 pm36 ct36 oc37 kV37 cd37 dc37 pm37 ct37 oc38 kV38 cd38 dc38 pm38 ct38 oc39 kV39 cd39 dc39 pm39 ct39 oc40 kV40 cd40 dc40 pm40 ct40 oc41 kV41 cd41 dc41 pm41 ct41 oc42 kV42 cd42 dc42 pm42 ct42 oc43 kV43 cd43 dc43 pm43 ct43 oc44 kV44 cd44 dc44 pm44 ct44 oc45 kV45 cd45 dc45 pm45 ct45 oc46 kV46 cd46 dc46 pm46 ct46 oc47 kV47 cd47 dc47 pm47 ct47 oc48 kV48 cd48 dc48 pm48 ct48 oc49 kV49 cd49 dc49 pm49 ct49 oc50 kV50 cd50 dc50 pm50 ct50 oc51 kV51 cd51 dc51 pm51 ct51 oc52 kV52 cd52 dc52 pm52 ct52 oc53 kV53 cd53 dc53 pm53 ct53 oc54 kV54 cd54 dc54 pm54 ct54 oc55 kV55 cd55 dc55 pm55 ct55 oc56 kV56 cd56 dc56 pm56 ct56 oc57 kV57 cd57 dc57 pm57 ct57 oc58 kV58 cd58 dc58 pm58 ct58 oc59 kV59 cd59 dc59 pm59 ct59 oc60 kV60 cd60 dc60 pm60 ct60 oc61 kV61 cd61 dc61 pm61 ct61 oc62 kV62 cd62 dc62 pm62 ct62 oc63 kV63 cd63 dc63 pm63 ct63 oc64 kV64 cd64 dc64 pm64 ct64 oc65 kV65 cd65 dc65 pm65 ct65 oc66 kV66 cd66 dc66 pm66 ct66 oc67 kV67 cd67 dc67 pm67 ct67 oc68 kV68 coc68 dc68 pm68 ct68 : Value} {es : Array DictEntry} {en : Nat} {tk6_0 tk6_1 : Tok} {C CP CN CG kw : Addr} {nmn qn : Str} {NNn : Addr} {bsn subn : List Value} {snn : List Str} {abn : Bool} {coln : Option Bool} {ddn : Option Addr} {nk0 nk1 nk2 nk3 nk5 : Option Value} {nmg qg : Str} {NNg : Addr} {bsg subg : List Value} {sng : List Str} {abg : Bool} {colg : Option Bool} {ddg : Option Addr} {gk0 gk1 gk2 gk3 gk5 : Option Value} {bmg : List Value} {ot : Obj} {nt : Nat} {s1 s2 s3 s4 s5 s6 t_MOST_DEEP_TERM t_MOST_TERMS t_MOST_DEEP_STEP t_MOST_STEPS t_MOST_IN_BODY t_MOST_ROOMS t_MOST_FLOORS t_MOST_BOXES t_MOST_SAYINGS t_MOST_BOUND : Tok}
    (xC : PySem.W.nsIn K mainGlobals "Room" = some (some (.ref C)))
    (xCP : PySem.W.nsIn K mainGlobals "Program" = some (some (.ref CP)))
    (xCN : PySem.W.nsIn K mainGlobals "NoRoom" = some (some (.ref CN)))
    (xCG : PySem.W.nsIn K mainGlobals "NoProgram" = some (some (.ref CG)))
    (a1 : PySem.W.nsIn K mainGlobals "plus" = some (some (.ref f1)))
    (l1 : K.lookup f1 = some ⟨oc1, od1, .func (PySem.W.fnOf "plus" "plus" (defArgs sPlus) (defBody sPlus) (defScope sPlus) .none kV1 dc1 pm1 an1 cd1 ct1), sl1⟩)
    (e1 : PySem.W.codeIn K cd1 "plus" = true)
    (k1 : PySem.W.keepIn K (.ref f1) = true)
    (a2 : PySem.W.nsIn K mainGlobals "less" = some (some (.ref f2)))
    (l2 : K.lookup f2 = some ⟨oc2, od2, .func (PySem.W.fnOf "less" "less" (defArgs sLess) (defBody sLess) (defScope sLess) .none kV2 dc2 pm2 an2 cd2 ct2), sl2⟩)
    (e2 : PySem.W.codeIn K cd2 "less" = true)
    (k2 : PySem.W.keepIn K (.ref f2) = true)
    (a3 : PySem.W.nsIn K mainGlobals "times" = some (some (.ref f3)))
    (l3 : K.lookup f3 = some ⟨oc3, od3, .func (PySem.W.fnOf "times" "times" (defArgs sTimes) (defBody sTimes) (defScope sTimes) .none kV3 dc3 pm3 an3 cd3 ct3), sl3⟩)
    (e3 : PySem.W.codeIn K cd3 "times" = true)
    (k3 : PySem.W.keepIn K (.ref f3) = true)
    (a4 : PySem.W.nsIn K mainGlobals "over" = some (some (.ref f4)))
    (l4 : K.lookup f4 = some ⟨oc4, od4, .func (PySem.W.fnOf "over" "over" (defArgs sOver) (defBody sOver) (defScope sOver) .none kV4 dc4 pm4 an4 cd4 ct4), sl4⟩)
    (e4 : PySem.W.codeIn K cd4 "over" = true)
    (k4 : PySem.W.keepIn K (.ref f4) = true)
    (a5 : PySem.W.nsIn K mainGlobals "rest" = some (some (.ref f5)))
    (l5 : K.lookup f5 = some ⟨oc5, od5, .func (PySem.W.fnOf "rest" "rest" (defArgs sRest) (defBody sRest) (defScope sRest) .none kV5 dc5 pm5 an5 cd5 ct5), sl5⟩)
    (e5 : PySem.W.codeIn K cd5 "rest" = true)
    (k5 : PySem.W.keepIn K (.ref f5) = true)
    (a6 : PySem.W.nsIn K mainGlobals "holds" = some (some (.ref f6)))
    (l6 : K.lookup f6 = some ⟨oc6, od6, .func (PySem.W.fnOf "holds" "holds" (defArgs sHolds) (defBody sHolds) (defScope sHolds) .none (.ref D6) dc6 pm6 an6 cd6 ct6), sl6⟩)
    (e6 : PySem.W.codeIn K cd6 "holds" = true)
    (k6 : PySem.W.keepIn K (.ref f6) = true)
    (w6_0 : PySem.W.nsIn K D6 "asked" = some (some (.int 0 tk6_0)))
    (w6_1 : PySem.W.nsIn K D6 "told" = some (some (.int 0 tk6_1)))
    (a7 : PySem.W.nsIn K mainGlobals "ready_worth" = some (some (.ref f7)))
    (l7 : K.lookup f7 = some ⟨oc7, od7, .func (PySem.W.fnOf "ready_worth" "ready_worth" (defArgs sReady) (defBody sReady) (defScope sReady) .none kV7 dc7 pm7 an7 (.ref c7) ct7), sl7⟩)
    (e7 : PySem.W.codeIn K (.ref c7) "ready_worth" = true)
    (k7 : PySem.W.keepIn K (.ref f7) = true)
    (g7 : K.lookup c7 = some ⟨coc7, cod7, .fields cvs7, csl7⟩)
    (v7 : cvs7[11]? = some (.ref P7))
    (q7 : PySem.W.codeHdIn K c7 P7 = true)
    (n7 : K.lookup P7 = none)
    (t7 : h.get? P7 = some { cls := .none, data := .fields #[] })
    (a8 : PySem.W.nsIn K mainGlobals "ready_test" = some (some (.ref f8)))
    (l8 : K.lookup f8 = some ⟨oc8, od8, .func (PySem.W.fnOf "ready_test" "ready_test" (defArgs sRT) (defBody sRT) (defScope sRT) .none kV8 dc8 pm8 an8 (.ref c8) ct8), sl8⟩)
    (e8 : PySem.W.codeIn K (.ref c8) "ready_test" = true)
    (k8 : PySem.W.keepIn K (.ref f8) = true)
    (g8 : K.lookup c8 = some ⟨coc8, cod8, .fields cvs8, csl8⟩)
    (v8 : cvs8[11]? = some (.ref P8))
    (q8 : PySem.W.codeHdIn K c8 P8 = true)
    (n8 : K.lookup P8 = none)
    (t8 : h.get? P8 = some { cls := .none, data := .fields #[] })
    (a9 : PySem.W.nsIn K mainGlobals "ready_comparison" = some (some (.ref f9)))
    (l9 : K.lookup f9 = some ⟨oc9, od9, .func (PySem.W.fnOf "ready_comparison" "ready_comparison" (defArgs sRC) (defBody sRC) (defScope sRC) .none kV9 dc9 pm9 an9 (.ref c9) ct9), sl9⟩)
    (e9 : PySem.W.codeIn K (.ref c9) "ready_comparison" = true)
    (k9 : PySem.W.keepIn K (.ref f9) = true)
    (g9 : K.lookup c9 = some ⟨coc9, cod9, .fields cvs9, csl9⟩)
    (v9 : cvs9[11]? = some (.ref P9))
    (q9 : PySem.W.codeHdIn K c9 P9 = true)
    (n9 : K.lookup P9 = none)
    (t9 : h.get? P9 = some { cls := .none, data := .fields #[] })
    (a10 : PySem.W.nsIn K mainGlobals "is_whole" = some (some (.ref f10)))
    (l10 : K.lookup f10 = some ⟨oc10, od10, .func (PySem.W.fnOf "is_whole" "is_whole" (defArgs sWhole) (defBody sWhole) (defScope sWhole) .none kV10 dc10 pm10 an10 cd10 ct10), sl10⟩)
    (e10 : PySem.W.codeIn K cd10 "is_whole" = true)
    (k10 : PySem.W.keepIn K (.ref f10) = true)
    (a11 : PySem.W.nsIn K mainGlobals "is_within" = some (some (.ref f11)))
    (l11 : K.lookup f11 = some ⟨oc11, od11, .func (PySem.W.fnOf "is_within" "is_within" (defArgs sWithin) (defBody sWithin) (defScope sWithin) .none kV11 dc11 pm11 an11 cd11 ct11), sl11⟩)
    (e11 : PySem.W.codeIn K cd11 "is_within" = true)
    (k11 : PySem.W.keepIn K (.ref f11) = true)
    (a12 : PySem.W.nsIn K mainGlobals "is_name" = some (some (.ref f12)))
    (l12 : K.lookup f12 = some ⟨oc12, od12, .func (PySem.W.fnOf "is_name" "is_name" (defArgs sName) (defBody sName) (defScope sName) .none kV12 dc12 pm12 an12 cd12 ct12), sl12⟩)
    (e12 : PySem.W.codeIn K cd12 "is_name" = true)
    (k12 : PySem.W.keepIn K (.ref f12) = true)
    (a13 : PySem.W.nsIn K mainGlobals "is_expression" = some (some (.ref f13)))
    (l13 : K.lookup f13 = some ⟨oc13, od13, .func (PySem.W.fnOf "is_expression" "is_expression" (defArgs sIsExpr) (defBody sIsExpr) (defScope sIsExpr) .none kV13 dc13 pm13 an13 cd13 ct13), sl13⟩)
    (e13 : PySem.W.codeIn K cd13 "is_expression" = true)
    (k13 : PySem.W.keepIn K (.ref f13) = true)
    (a14 : PySem.W.nsIn K mainGlobals "is_test" = some (some (.ref f14)))
    (l14 : K.lookup f14 = some ⟨oc14, od14, .func (PySem.W.fnOf "is_test" "is_test" (defArgs sIsTest) (defBody sIsTest) (defScope sIsTest) .none kV14 dc14 pm14 an14 cd14 ct14), sl14⟩)
    (e14 : PySem.W.codeIn K cd14 "is_test" = true)
    (k14 : PySem.W.keepIn K (.ref f14) = true)
    (a15 : PySem.W.nsIn K mainGlobals "expression_fits" = some (some (.ref f15)))
    (l15 : K.lookup f15 = some ⟨oc15, od15, .func (PySem.W.fnOf "expression_fits" "expression_fits" (defArgs sExFits) (defBody sExFits) (defScope sExFits) .none kV15 dc15 pm15 an15 cd15 ct15), sl15⟩)
    (e15 : PySem.W.codeIn K cd15 "expression_fits" = true)
    (k15 : PySem.W.keepIn K (.ref f15) = true)
    (a16 : PySem.W.nsIn K mainGlobals "test_fits" = some (some (.ref f16)))
    (l16 : K.lookup f16 = some ⟨oc16, od16, .func (PySem.W.fnOf "test_fits" "test_fits" (defArgs sTsFits) (defBody sTsFits) (defScope sTsFits) .none kV16 dc16 pm16 an16 cd16 ct16), sl16⟩)
    (e16 : PySem.W.codeIn K cd16 "test_fits" = true)
    (k16 : PySem.W.keepIn K (.ref f16) = true)
    (a17 : PySem.W.nsIn K mainGlobals "is_row" = some (some (.ref f17)))
    (l17 : K.lookup f17 = some ⟨oc17, od17, .func (PySem.W.fnOf "is_row" "is_row" (defArgs sRow) (defBody sRow) (defScope sRow) .none kV17 dc17 pm17 an17 cd17 ct17), sl17⟩)
    (e17 : PySem.W.codeIn K cd17 "is_row" = true)
    (k17 : PySem.W.keepIn K (.ref f17) = true)
    (a18 : PySem.W.nsIn K mainGlobals "count_terms" = some (some (.ref f18)))
    (l18 : K.lookup f18 = some ⟨oc18, od18, .func (PySem.W.fnOf "count_terms" "count_terms" (defArgs sCount) (defBody sCount) (defScope sCount) .none kV18 dc18 pm18 an18 cd18 ct18), sl18⟩)
    (e18 : PySem.W.codeIn K cd18 "count_terms" = true)
    (k18 : PySem.W.keepIn K (.ref f18) = true)
    (a19 : PySem.W.nsIn K mainGlobals "is_body" = some (some (.ref f19)))
    (l19 : K.lookup f19 = some ⟨oc19, od19, .func (PySem.W.fnOf "is_body" "is_body" (defArgs sBody) (defBody sBody) (defScope sBody) .none kV19 dc19 pm19 an19 cd19 ct19), sl19⟩)
    (e19 : PySem.W.codeIn K cd19 "is_body" = true)
    (k19 : PySem.W.keepIn K (.ref f19) = true)
    (a20 : PySem.W.nsIn K mainGlobals "body_fits" = some (some (.ref f20)))
    (l20 : K.lookup f20 = some ⟨oc20, od20, .func (PySem.W.fnOf "body_fits" "body_fits" (defArgs sBFits) (defBody sBFits) (defScope sBFits) .none kV20 dc20 pm20 an20 cd20 ct20), sl20⟩)
    (e20 : PySem.W.codeIn K cd20 "body_fits" = true)
    (k20 : PySem.W.keepIn K (.ref f20) = true)
    (a21 : PySem.W.nsIn K mainGlobals "step_fits" = some (some (.ref f21)))
    (l21 : K.lookup f21 = some ⟨oc21, od21, .func (PySem.W.fnOf "step_fits" "step_fits" (defArgs sSFits) (defBody sSFits) (defScope sSFits) .none kV21 dc21 pm21 an21 cd21 ct21), sl21⟩)
    (e21 : PySem.W.codeIn K cd21 "step_fits" = true)
    (k21 : PySem.W.keepIn K (.ref f21) = true)
    (a22 : PySem.W.nsIn K mainGlobals "all_steps" = some (some (.ref f22)))
    (l22 : K.lookup f22 = some ⟨oc22, od22, .func (PySem.W.fnOf "all_steps" "all_steps" (defArgs sAll) (defBody sAll) (defScope sAll) .none kV22 dc22 pm22 an22 cd22 ct22), sl22⟩)
    (e22 : PySem.W.codeIn K cd22 "all_steps" = true)
    (k22 : PySem.W.keepIn K (.ref f22) = true)
    (a23 : PySem.W.nsIn K mainGlobals "bodies_within" = some (some (.ref f23)))
    (l23 : K.lookup f23 = some ⟨oc23, od23, .func (PySem.W.fnOf "bodies_within" "bodies_within" (defArgs sWithinB) (defBody sWithinB) (defScope sWithinB) .none kV23 dc23 pm23 an23 cd23 ct23), sl23⟩)
    (e23 : PySem.W.codeIn K cd23 "bodies_within" = true)
    (k23 : PySem.W.keepIn K (.ref f23) = true)
    (a24 : PySem.W.findIn K (.ref C) "__init__" = some (some (.ref f24)))
    (i24 : PySem.W.isFn K (.ref f24) = true)
    (l24 : K.lookup f24 = some ⟨oc24, od24, .func (PySem.W.fnOf "__init__" "Room.__init__" (defArgs sRInit) (defBody sRInit) (defScope sRInit) .none (.ref D24) dc24 pm24 an24 cd24 ct24), sl24⟩)
    (e24 : PySem.W.codeIn K cd24 "Room.__init__" = true)
    (k24 : PySem.W.keepIn K (.ref f24) = true)
    (a25 : PySem.W.findIn K (.ref C) "__eq__" = some (some (.ref f25)))
    (i25 : PySem.W.isFn K (.ref f25) = true)
    (l25 : K.lookup f25 = some ⟨oc25, od25, .func (PySem.W.fnOf "__eq__" "Room.__eq__" (defArgs sReq) (defBody sReq) (defScope sReq) .none kV25 dc25 pm25 an25 cd25 ct25), sl25⟩)
    (e25 : PySem.W.codeIn K cd25 "Room.__eq__" = true)
    (k25 : PySem.W.keepIn K (.ref f25) = true)
    (a26 : PySem.W.findIn K (.ref C) "__len__" = some (some (.ref f26)))
    (i26 : PySem.W.isFn K (.ref f26) = true)
    (l26 : K.lookup f26 = some ⟨oc26, od26, .func (PySem.W.fnOf "__len__" "Room.__len__" (defArgs sRln) (defBody sRln) (defScope sRln) .none kV26 dc26 pm26 an26 cd26 ct26), sl26⟩)
    (e26 : PySem.W.codeIn K cd26 "Room.__len__" = true)
    (k26 : PySem.W.keepIn K (.ref f26) = true)
    (a27 : PySem.W.findIn K (.ref C) "__repr__" = some (some (.ref f27)))
    (i27 : PySem.W.isFn K (.ref f27) = true)
    (l27 : K.lookup f27 = some ⟨oc27, od27, .func (PySem.W.fnOf "__repr__" "Room.__repr__" (defArgs sRrp) (defBody sRrp) (defScope sRrp) .none kV27 dc27 pm27 an27 cd27 ct27), sl27⟩)
    (e27 : PySem.W.codeIn K cd27 "Room.__repr__" = true)
    (k27 : PySem.W.keepIn K (.ref f27) = true)
    (a28 : PySem.W.findIn K (.ref CP) "__init__" = some (some (.ref f28)))
    (i28 : PySem.W.isFn K (.ref f28) = true)
    (l28 : K.lookup f28 = some ⟨oc28, od28, .func (PySem.W.fnOf "__init__" "Program.__init__" (defArgs sPInit) (defBody sPInit) (defScope sPInit) .none kV28 dc28 pm28 an28 cd28 ct28), sl28⟩)
    (e28 : PySem.W.codeIn K cd28 "Program.__init__" = true)
    (k28 : PySem.W.keepIn K (.ref f28) = true)
    (a29 : PySem.W.findIn K (.ref CP) "rooms" = some (some (.ref f29)))
    (i29 : PySem.W.isFn K (.ref f29) = true)
    (l29 : K.lookup f29 = some ⟨oc29, od29, .func (PySem.W.fnOf "rooms" "Program.rooms" (defArgs sPrs) (defBody sPrs) (defScope sPrs) .none kV29 dc29 pm29 an29 cd29 ct29), sl29⟩)
    (e29 : PySem.W.codeIn K cd29 "Program.rooms" = true)
    (k29 : PySem.W.keepIn K (.ref f29) = true)
    (a30 : PySem.W.findIn K (.ref CP) "room_of" = some (some (.ref f30)))
    (i30 : PySem.W.isFn K (.ref f30) = true)
    (l30 : K.lookup f30 = some ⟨oc30, od30, .func (PySem.W.fnOf "room_of" "Program.room_of" (defArgs sRO) (defBody sRO) (defScope sRO) .none kV30 dc30 pm30 an30 cd30 ct30), sl30⟩)
    (e30 : PySem.W.codeIn K cd30 "Program.room_of" = true)
    (k30 : PySem.W.keepIn K (.ref f30) = true)
    (a31 : PySem.W.findIn K (.ref CP) "beneath" = some (some (.ref f31)))
    (i31 : PySem.W.isFn K (.ref f31) = true)
    (l31 : K.lookup f31 = some ⟨oc31, od31, .func (PySem.W.fnOf "beneath" "Program.beneath" (defArgs sBen) (defBody sBen) (defScope sBen) .none kV31 dc31 pm31 an31 cd31 ct31), sl31⟩)
    (e31 : PySem.W.codeIn K cd31 "Program.beneath" = true)
    (k31 : PySem.W.keepIn K (.ref f31) = true)
    (a32 : PySem.W.findIn K (.ref CP) "__eq__" = some (some (.ref f32)))
    (i32 : PySem.W.isFn K (.ref f32) = true)
    (l32 : K.lookup f32 = some ⟨oc32, od32, .func (PySem.W.fnOf "__eq__" "Program.__eq__" (defArgs sPeq) (defBody sPeq) (defScope sPeq) .none kV32 dc32 pm32 an32 cd32 ct32), sl32⟩)
    (e32 : PySem.W.codeIn K cd32 "Program.__eq__" = true)
    (k32 : PySem.W.keepIn K (.ref f32) = true)
    (a33 : PySem.W.findIn K (.ref CP) "__len__" = some (some (.ref f33)))
    (i33 : PySem.W.isFn K (.ref f33) = true)
    (l33 : K.lookup f33 = some ⟨oc33, od33, .func (PySem.W.fnOf "__len__" "Program.__len__" (defArgs sPln) (defBody sPln) (defScope sPln) .none kV33 dc33 pm33 an33 cd33 ct33), sl33⟩)
    (e33 : PySem.W.codeIn K cd33 "Program.__len__" = true)
    (k33 : PySem.W.keepIn K (.ref f33) = true)
    (a34 : PySem.W.findIn K (.ref CP) "__repr__" = some (some (.ref f34)))
    (i34 : PySem.W.isFn K (.ref f34) = true)
    (l34 : K.lookup f34 = some ⟨oc34, od34, .func (PySem.W.fnOf "__repr__" "Program.__repr__" (defArgs sPrp) (defBody sPrp) (defScope sPrp) .none kV34 dc34 pm34 an34 cd34 ct34), sl34⟩)
    (e34 : PySem.W.codeIn K cd34 "Program.__repr__" = true)
    (k34 : PySem.W.keepIn K (.ref f34) = true)
    (a35 : PySem.W.findIn K (.ref CN) "__init__" = some (some (.ref f35)))
    (i35 : PySem.W.isFn K (.ref f35) = true)
    (l35 : K.lookup f35 = some ⟨oc35, od35, .func (PySem.W.fnOf "__init__" "NoRoom.__init__" (defArgs sNR) (defBody sNR) (defScope sNR) .none kV35 dc35 pm35 an35 cd35 ct35), sl35⟩)
    (e35 : PySem.W.codeIn K cd35 "NoRoom.__init__" = true)
    (k35 : PySem.W.keepIn K (.ref f35) = true)
    (a36 : PySem.W.findIn K (.ref CG) "__init__" = some (some (.ref f36)))
    (i36 : PySem.W.isFn K (.ref f36) = true)
    (l36 : K.lookup f36 = some ⟨oc36, od36, .func (PySem.W.fnOf "__init__" "NoProgram.__init__" (defArgs sNP) (defBody sNP) (defScope sNP) .none kV36 dc36 pm36 an36 cd36 ct36), sl36⟩)
    (e36 : PySem.W.codeIn K cd36 "NoProgram.__init__" = true)
    (k36 : PySem.W.keepIn K (.ref f36) = true)
    (a37 : PySem.W.nsIn K mainGlobals "are_rooms" = some (some (.ref f37)))
    (l37 : K.lookup f37 = some ⟨oc37, od37, .func (PySem.W.fnOf "are_rooms" "are_rooms" (defArgs sRooms) (defBody sRooms) (defScope sRooms) .none kV37 dc37 pm37 an37 cd37 ct37), sl37⟩)
    (e37 : PySem.W.codeIn K cd37 "are_rooms" = true)
    (k37 : PySem.W.keepIn K (.ref f37) = true)
    (a38 : PySem.W.nsIn K mainGlobals "fault_of" = some (some (.ref f38)))
    (l38 : K.lookup f38 = some ⟨oc38, od38, .func (PySem.W.fnOf "fault_of" "fault_of" (defArgs sFault) (defBody sFault) (defScope sFault) .none kV38 dc38 pm38 an38 cd38 ct38), sl38⟩)
    (e38 : PySem.W.codeIn K cd38 "fault_of" = true)
    (k38 : PySem.W.keepIn K (.ref f38) = true)
    (a39 : PySem.W.nsIn K mainGlobals "name_fits" = some (some (.ref f39)))
    (l39 : K.lookup f39 = some ⟨oc39, od39, .func (PySem.W.fnOf "name_fits" "name_fits" (defArgs sNameF) (defBody sNameF) (defScope sNameF) .none kV39 dc39 pm39 an39 cd39 ct39), sl39⟩)
    (e39 : PySem.W.codeIn K cd39 "name_fits" = true)
    (k39 : PySem.W.keepIn K (.ref f39) = true)
    (a40 : PySem.W.nsIn K mainGlobals "above_fits" = some (some (.ref f40)))
    (l40 : K.lookup f40 = some ⟨oc40, od40, .func (PySem.W.fnOf "above_fits" "above_fits" (defArgs sAboveF) (defBody sAboveF) (defScope sAboveF) .none kV40 dc40 pm40 an40 cd40 ct40), sl40⟩)
    (e40 : PySem.W.codeIn K cd40 "above_fits" = true)
    (k40 : PySem.W.keepIn K (.ref f40) = true)
    (a41 : PySem.W.nsIn K mainGlobals "floor_of" = some (some (.ref f41)))
    (l41 : K.lookup f41 = some ⟨oc41, od41, .func (PySem.W.fnOf "floor_of" "floor_of" (defArgs sFloor) (defBody sFloor) (defScope sFloor) .none kV41 dc41 pm41 an41 cd41 ct41), sl41⟩)
    (e41 : PySem.W.codeIn K cd41 "floor_of" = true)
    (k41 : PySem.W.keepIn K (.ref f41) = true)
    (a42 : PySem.W.nsIn K mainGlobals "boxes_fit" = some (some (.ref f42)))
    (l42 : K.lookup f42 = some ⟨oc42, od42, .func (PySem.W.fnOf "boxes_fit" "boxes_fit" (defArgs sBoxesF) (defBody sBoxesF) (defScope sBoxesF) .none kV42 dc42 pm42 an42 cd42 ct42), sl42⟩)
    (e42 : PySem.W.codeIn K cd42 "boxes_fit" = true)
    (k42 : PySem.W.keepIn K (.ref f42) = true)
    (a43 : PySem.W.nsIn K mainGlobals "box_fits" = some (some (.ref f43)))
    (l43 : K.lookup f43 = some ⟨oc43, od43, .func (PySem.W.fnOf "box_fits" "box_fits" (defArgs sBoxF) (defBody sBoxF) (defScope sBoxF) .none kV43 dc43 pm43 an43 cd43 ct43), sl43⟩)
    (e43 : PySem.W.codeIn K cd43 "box_fits" = true)
    (k43 : PySem.W.keepIn K (.ref f43) = true)
    (a44 : PySem.W.nsIn K mainGlobals "sayings_fit" = some (some (.ref f44)))
    (l44 : K.lookup f44 = some ⟨oc44, od44, .func (PySem.W.fnOf "sayings_fit" "sayings_fit" (defArgs sSaysF) (defBody sSaysF) (defScope sSaysF) .none kV44 dc44 pm44 an44 cd44 ct44), sl44⟩)
    (e44 : PySem.W.codeIn K cd44 "sayings_fit" = true)
    (k44 : PySem.W.keepIn K (.ref f44) = true)
    (a45 : PySem.W.nsIn K mainGlobals "first_fault" = some (some (.ref f45)))
    (l45 : K.lookup f45 = some ⟨oc45, od45, .func (PySem.W.fnOf "first_fault" "first_fault" (defArgs sFirstF) (defBody sFirstF) (defScope sFirstF) .none kV45 dc45 pm45 an45 cd45 ct45), sl45⟩)
    (e45 : PySem.W.codeIn K cd45 "first_fault" = true)
    (k45 : PySem.W.keepIn K (.ref f45) = true)
    (a46 : PySem.W.nsIn K mainGlobals "other_fault" = some (some (.ref f46)))
    (l46 : K.lookup f46 = some ⟨oc46, od46, .func (PySem.W.fnOf "other_fault" "other_fault" (defArgs sOtherF) (defBody sOtherF) (defScope sOtherF) .none kV46 dc46 pm46 an46 cd46 ct46), sl46⟩)
    (e46 : PySem.W.codeIn K cd46 "other_fault" = true)
    (k46 : PySem.W.keepIn K (.ref f46) = true)
    (a47 : PySem.W.nsIn K mainGlobals "told_fits" = some (some (.ref f47)))
    (l47 : K.lookup f47 = some ⟨oc47, od47, .func (PySem.W.fnOf "told_fits" "told_fits" (defArgs sToldF) (defBody sToldF) (defScope sToldF) .none kV47 dc47 pm47 an47 cd47 ct47), sl47⟩)
    (e47 : PySem.W.codeIn K cd47 "told_fits" = true)
    (k47 : PySem.W.keepIn K (.ref f47) = true)
    (a48 : PySem.W.nsIn K mainGlobals "body_fault" = some (some (.ref f48)))
    (l48 : K.lookup f48 = some ⟨oc48, od48, .func (PySem.W.fnOf "body_fault" "body_fault" (defArgs sBodyF) (defBody sBodyF) (defScope sBodyF) .none kV48 dc48 pm48 an48 cd48 ct48), sl48⟩)
    (e48 : PySem.W.codeIn K cd48 "body_fault" = true)
    (k48 : PySem.W.keepIn K (.ref f48) = true)
    (a49 : PySem.W.nsIn K mainGlobals "box_names" = some (some (.ref f49)))
    (l49 : K.lookup f49 = some ⟨oc49, od49, .func (PySem.W.fnOf "box_names" "box_names" (defArgs sNames) (defBody sNames) (defScope sNames) .none kV49 dc49 pm49 an49 cd49 ct49), sl49⟩)
    (e49 : PySem.W.codeIn K cd49 "box_names" = true)
    (k49 : PySem.W.keepIn K (.ref f49) = true)
    (a50 : PySem.W.nsIn K mainGlobals "_law_bag" = some (some (.ref f50)))
    (l50 : K.lookup f50 = some ⟨oc50, od50, .func (PySem.W.fnOf "_law_bag" "_law_bag" (defArgs sBag) (defBody sBag) (defScope sBag) .none kV50 dc50 pm50 an50 cd50 ct50), sl50⟩)
    (e50 : PySem.W.codeIn K cd50 "_law_bag" = true)
    (k50 : PySem.W.keepIn K (.ref f50) = true)
    (a51 : PySem.W.nsIn K mainGlobals "_law_take" = some (some (.ref f51)))
    (l51 : K.lookup f51 = some ⟨oc51, od51, .func (PySem.W.fnOf "_law_take" "_law_take" (defArgs sTake) (defBody sTake) (defScope sTake) .none kV51 dc51 pm51 an51 cd51 ct51), sl51⟩)
    (e51 : PySem.W.codeIn K cd51 "_law_take" = true)
    (k51 : PySem.W.keepIn K (.ref f51) = true)
    (a52 : PySem.W.nsIn K mainGlobals "_law_of" = some (some (.ref f52)))
    (l52 : K.lookup f52 = some ⟨oc52, od52, .func (PySem.W.fnOf "_law_of" "_law_of" (defArgs sOf) (defBody sOf) (defScope sOf) .none kV52 dc52 pm52 an52 cd52 ct52), sl52⟩)
    (e52 : PySem.W.codeIn K cd52 "_law_of" = true)
    (k52 : PySem.W.keepIn K (.ref f52) = true)
    (a53 : PySem.W.nsIn K mainGlobals "_law_mixed" = some (some (.ref f53)))
    (l53 : K.lookup f53 = some ⟨oc53, od53, .func (PySem.W.fnOf "_law_mixed" "_law_mixed" (defArgs sMixed) (defBody sMixed) (defScope sMixed) .none kV53 dc53 pm53 an53 cd53 ct53), sl53⟩)
    (e53 : PySem.W.codeIn K cd53 "_law_mixed" = true)
    (k53 : PySem.W.keepIn K (.ref f53) = true)
    (a54 : PySem.W.nsIn K mainGlobals "_law_expr" = some (some (.ref f54)))
    (l54 : K.lookup f54 = some ⟨oc54, od54, .func (PySem.W.fnOf "_law_expr" "_law_expr" (defArgs sExpr) (defBody sExpr) (defScope sExpr) .none kV54 dc54 pm54 an54 cd54 ct54), sl54⟩)
    (e54 : PySem.W.codeIn K cd54 "_law_expr" = true)
    (k54 : PySem.W.keepIn K (.ref f54) = true)
    (a55 : PySem.W.nsIn K mainGlobals "_law_test" = some (some (.ref f55)))
    (l55 : K.lookup f55 = some ⟨oc55, od55, .func (PySem.W.fnOf "_law_test" "_law_test" (defArgs sTest) (defBody sTest) (defScope sTest) .none kV55 dc55 pm55 an55 cd55 ct55), sl55⟩)
    (e55 : PySem.W.codeIn K cd55 "_law_test" = true)
    (k55 : PySem.W.keepIn K (.ref f55) = true)
    (a56 : PySem.W.nsIn K mainGlobals "_law_steps" = some (some (.ref f56)))
    (l56 : K.lookup f56 = some ⟨oc56, od56, .func (PySem.W.fnOf "_law_steps" "_law_steps" (defArgs sSteps) (defBody sSteps) (defScope sSteps) .none kV56 dc56 pm56 an56 cd56 ct56), sl56⟩)
    (e56 : PySem.W.codeIn K cd56 "_law_steps" = true)
    (k56 : PySem.W.keepIn K (.ref f56) = true)
    (a57 : PySem.W.nsIn K mainGlobals "_law_group" = some (some (.ref f57)))
    (l57 : K.lookup f57 = some ⟨oc57, od57, .func (PySem.W.fnOf "_law_group" "_law_group" (defArgs sGroup) (defBody sGroup) (defScope sGroup) .none kV57 dc57 pm57 an57 cd57 ct57), sl57⟩)
    (e57 : PySem.W.codeIn K cd57 "_law_group" = true)
    (k57 : PySem.W.keepIn K (.ref f57) = true)
    (a58 : PySem.W.nsIn K mainGlobals "_law_answer" = some (some (.ref f58)))
    (l58 : K.lookup f58 = some ⟨oc58, od58, .func (PySem.W.fnOf "_law_answer" "_law_answer" (defArgs sAnswer) (defBody sAnswer) (defScope sAnswer) .none kV58 dc58 pm58 an58 cd58 ct58), sl58⟩)
    (e58 : PySem.W.codeIn K cd58 "_law_answer" = true)
    (k58 : PySem.W.keepIn K (.ref f58) = true)
    (a59 : PySem.W.nsIn K mainGlobals "_law_room" = some (some (.ref f59)))
    (l59 : K.lookup f59 = some ⟨oc59, od59, .func (PySem.W.fnOf "_law_room" "_law_room" (defArgs sRoom) (defBody sRoom) (defScope sRoom) .none kV59 dc59 pm59 an59 cd59 ct59), sl59⟩)
    (e59 : PySem.W.codeIn K cd59 "_law_room" = true)
    (k59 : PySem.W.keepIn K (.ref f59) = true)
    (a60 : PySem.W.nsIn K mainGlobals "_law_rooms" = some (some (.ref f60)))
    (l60 : K.lookup f60 = some ⟨oc60, od60, .func (PySem.W.fnOf "_law_rooms" "_law_rooms" (defArgs sRms) (defBody sRms) (defScope sRms) .none kV60 dc60 pm60 an60 cd60 ct60), sl60⟩)
    (e60 : PySem.W.codeIn K cd60 "_law_rooms" = true)
    (k60 : PySem.W.keepIn K (.ref f60) = true)
    (a61 : PySem.W.nsIn K mainGlobals "_law_made" = some (some (.ref f61)))
    (l61 : K.lookup f61 = some ⟨oc61, od61, .func (PySem.W.fnOf "_law_made" "_law_made" (defArgs sMade) (defBody sMade) (defScope sMade) .none kV61 dc61 pm61 an61 cd61 ct61), sl61⟩)
    (e61 : PySem.W.codeIn K cd61 "_law_made" = true)
    (k61 : PySem.W.keepIn K (.ref f61) = true)
    (a62 : PySem.W.nsIn K mainGlobals "_law_program" = some (some (.ref f62)))
    (l62 : K.lookup f62 = some ⟨oc62, od62, .func (PySem.W.fnOf "_law_program" "_law_program" (defArgs sLProg) (defBody sLProg) (defScope sLProg) .none kV62 dc62 pm62 an62 cd62 ct62), sl62⟩)
    (e62 : PySem.W.codeIn K cd62 "_law_program" = true)
    (k62 : PySem.W.keepIn K (.ref f62) = true)
    (a63 : PySem.W.nsIn K mainGlobals "_law_many" = some (some (.ref f63)))
    (l63 : K.lookup f63 = some ⟨oc63, od63, .func (PySem.W.fnOf "_law_many" "_law_many" (defArgs sLm) (defBody sLm) (defScope sLm) .none kV63 dc63 pm63 an63 cd63 ct63), sl63⟩)
    (e63 : PySem.W.codeIn K cd63 "_law_many" = true)
    (k63 : PySem.W.keepIn K (.ref f63) = true)
    (a64 : PySem.W.nsIn K mainGlobals "_law_other" = some (some (.ref f64)))
    (l64 : K.lookup f64 = some ⟨oc64, od64, .func (PySem.W.fnOf "_law_other" "_law_other" (defArgs sOt) (defBody sOt) (defScope sOt) .none kV64 dc64 pm64 an64 cd64 ct64), sl64⟩)
    (e64 : PySem.W.codeIn K cd64 "_law_other" = true)
    (k64 : PySem.W.keepIn K (.ref f64) = true)
    (a65 : PySem.W.nsIn K mainGlobals "_law_refused" = some (some (.ref f65)))
    (l65 : K.lookup f65 = some ⟨oc65, od65, .func (PySem.W.fnOf "_law_refused" "_law_refused" (defArgs sRf) (defBody sRf) (defScope sRf) .none kV65 dc65 pm65 an65 cd65 ct65), sl65⟩)
    (e65 : PySem.W.codeIn K cd65 "_law_refused" = true)
    (k65 : PySem.W.keepIn K (.ref f65) = true)
    (a66 : PySem.W.nsIn K mainGlobals "_law_things" = some (some (.ref f66)))
    (l66 : K.lookup f66 = some ⟨oc66, od66, .func (PySem.W.fnOf "_law_things" "_law_things" (defArgs sTh) (defBody sTh) (defScope sTh) .none kV66 dc66 pm66 an66 cd66 ct66), sl66⟩)
    (e66 : PySem.W.codeIn K cd66 "_law_things" = true)
    (k66 : PySem.W.keepIn K (.ref f66) = true)
    (a67 : PySem.W.nsIn K mainGlobals "_law_room_right" = some (some (.ref f67)))
    (l67 : K.lookup f67 = some ⟨oc67, od67, .func (PySem.W.fnOf "_law_room_right" "_law_room_right" (defArgs sRr) (defBody sRr) (defScope sRr) .none kV67 dc67 pm67 an67 cd67 ct67), sl67⟩)
    (e67 : PySem.W.codeIn K cd67 "_law_room_right" = true)
    (k67 : PySem.W.keepIn K (.ref f67) = true)
    (a68 : PySem.W.nsIn K mainGlobals "law" = some (some (.ref f68)))
    (l68 : K.lookup f68 = some ⟨oc68, od68, .func (PySem.W.fnOf "law" "law" (defArgs sLaw) (defBody sLaw) (defScope sLaw) .none kV68 dc68 pm68 an68 (.ref c68) ct68), sl68⟩)
    (e68 : PySem.W.codeIn K (.ref c68) "law" = true)
    (k68 : PySem.W.keepIn K (.ref f68) = true)
    (g68 : K.lookup c68 = some ⟨coc68, cod68, .fields cvs68, csl68⟩)
    (v68 : cvs68[11]? = some (.ref P68))
    (q68 : PySem.W.codeHdIn K c68 P68 = true)
    (n68 : K.lookup P68 = none)
    (t68 : h.get? P68 = some { cls := .none, data := .fields #[] })
    (da : PySem.W.nsIn K mainGlobals "DEEDS" = some (some (.ref D)))
    (dl : K.lookup D = some ⟨.type "dict", none, .dict es en, #[]⟩)
    (dk : PySem.W.KeysLit w.params es.toList)
    (d_plus : PySem.W.nsIn K D "plus" = some (some (.ref f1)))
    (d_less : PySem.W.nsIn K D "less" = some (some (.ref f2)))
    (d_times : PySem.W.nsIn K D "times" = some (some (.ref f3)))
    (d_over : PySem.W.nsIn K D "over" = some (some (.ref f4)))
    (d_rest : PySem.W.nsIn K D "rest" = some (some (.ref f5)))
    (rpg : PySem.W.plainGet K C Str.empty = true)
    (rhd : PySem.W.hasDictIn K C = true)
    (rpo : PySem.W.plainOver K C = true)
    (rsa : PySem.W.findIn K (.ref C) "__setattr__" = some (some (.builtin "object.__setattr__")))
    (rmk : PySem.W.makesIn K C = true)
    (rkc : PySem.W.keepIn K (.ref C) = true)
    (r_name : PySem.W.findIn K (.ref C) "name" = some none)
    (r_above : PySem.W.findIn K (.ref C) "above" = some none)
    (r_boxes : PySem.W.findIn K (.ref C) "boxes" = some none)
    (r_sayings : PySem.W.findIn K (.ref C) "sayings" = some none)
    (r_ask : PySem.W.findIn K (.ref C) "ask" = some none)
    (r_told : PySem.W.findIn K (.ref C) "told" = some none)
    (r_promise : PySem.W.findIn K (.ref C) "promise" = some none)
    (r_body : PySem.W.findIn K (.ref C) "body" = some none)
    (rcl : PySem.W.findIn K (.ref C) "__class__" = some (some (.builtin "object.__class__")))
    (rmro : PySem.W.mroIn K C (.type "object") = some true)
    (rty : PySem.W.typeIn K (.ref C) = some (.type "type"))
    (rne : PySem.W.findIn K (.ref C) "__ne__" = some (some (.builtin "object.__ne__")))
    (rnN : PySem.W.mroIn K C (.type "NoneType") = some false)
    (rnS : PySem.W.mroIn K C (.type "str") = some false)
    (rnT : PySem.W.mroIn K C (.type "tuple") = some false)
    (ppg : PySem.W.plainGet K CP Str.empty = true)
    (phd : PySem.W.hasDictIn K CP = true)
    (ppo : PySem.W.plainOver K CP = true)
    (psa : PySem.W.findIn K (.ref CP) "__setattr__" = some (some (.builtin "object.__setattr__")))
    (pmk : PySem.W.makesIn K CP = true)
    (pkc : PySem.W.keepIn K (.ref CP) = true)
    (p_held : PySem.W.findIn K (.ref CP) "held" = some none)
    (p_drawn : PySem.W.findIn K (.ref CP) "drawn" = some none)
    (pcl : PySem.W.findIn K (.ref CP) "__class__" = some (some (.builtin "object.__class__")))
    (pmro : PySem.W.mroIn K CP (.type "object") = some true)
    (pty : PySem.W.typeIn K (.ref CP) = some (.type "type"))
    (pne : PySem.W.findIn K (.ref CP) "__ne__" = some (some (.builtin "object.__ne__")))
    (pnN : PySem.W.mroIn K CP (.type "NoneType") = some false)
    (pnS : PySem.W.mroIn K CP (.type "str") = some false)
    (pnT : PySem.W.mroIn K CP (.type "tuple") = some false)
    (x_get : PySem.W.specialIn K (.builtin "object.__class__") "__get__" = some (some (.builtin "getset_descriptor.__get__")))
    (x_tk : PySem.W.takesIn K (.builtin "object.__class__") = some true)
    (nL : K.lookup CN = some (excClassObj nmn qn CN NNn bsn [.type "LookupError", .type "Exception", .type "BaseException", .type "object"] true snn subn abn coln ddn nk0 nk1 nk2 nk3 nk5 "LookupError.__new__"))
    (nsa : PySem.W.findIn K (.ref CN) "__setattr__" = some (some (.builtin "object.__setattr__")))
    (nga : PySem.W.findIn K (.ref CN) "__getattribute__" = some (some (.builtin "BaseException.__getattribute__")))
    (ngg : PySem.W.findIn K (.ref CN) "__getattr__" = some (none))
    (nf_name : PySem.W.findIn K (.ref CN) "name" = some (none))
    (nft : PySem.W.typeIn K (.ref f35) = some (.type "function"))
    (nkC : PySem.W.keepIn K (.ref CN) = true)
    (nex : PySem.W.subIn K (.ref CN) (.type "BaseException") = some true)
    (nty2 : PySem.W.typeIn K (.ref CN) = some (.type "type"))
    (nhd : PySem.W.hasDictIn K CN = true)
    (nsub : PySem.W.subIn K (.ref CN) (.ref CN) = some true)
    (ncl : PySem.W.findIn K (.ref CN) "__class__" = some (some (.builtin "object.__class__")))
    (nmro : PySem.W.mroIn K CN (.type "object") = some true)
    (gL : K.lookup CG = some (excClassObj nmg qg CG NNg bsg bmg true sng subg abg colg ddg gk0 gk1 gk2 gk3 gk5 "ValueError.__new__"))
    (gsa : PySem.W.findIn K (.ref CG) "__setattr__" = some (some (.builtin "object.__setattr__")))
    (gga : PySem.W.findIn K (.ref CG) "__getattribute__" = some (some (.builtin "BaseException.__getattribute__")))
    (ggg : PySem.W.findIn K (.ref CG) "__getattr__" = some (none))
    (gf_room : PySem.W.findIn K (.ref CG) "room" = some (none))
    (gf_why : PySem.W.findIn K (.ref CG) "why" = some (none))
    (gft : PySem.W.typeIn K (.ref f36) = some (.type "function"))
    (gkC : PySem.W.keepIn K (.ref CG) = true)
    (gex : PySem.W.subIn K (.ref CG) (.type "BaseException") = some true)
    (gty2 : PySem.W.typeIn K (.ref CG) = some (.type "type"))
    (ghd : PySem.W.hasDictIn K CG = true)
    (gsub : PySem.W.subIn K (.ref CG) (.ref CG) = some true)
    (gcl : PySem.W.findIn K (.ref CG) "__class__" = some (some (.builtin "object.__class__")))
    (gmro : PySem.W.mroIn K CG (.type "object") = some true)
    (gbm : PySem.HandSPX.refsVE bmg = true)
    (nle : PySem.W.subIn K (.ref CN) (.type "LookupError") = some true)
    (vL : PySem.W.findCls K (.type "LookupError") (.type "type") "__init__" = some (.val (.builtin "LookupError.__init__")))
    (vV : PySem.W.findCls K (.type "ValueError") (.type "type") "__init__" = some (.val (.builtin "ValueError.__init__")))
    (noff : PySem.W.subIn K (.ref CN) (.ref CG) = some false)
    (dkd : Keyed es.toList deedWords)
    (dsm : (D == sysModules) = false)
    (kwn : PySem.W.nsIn K mainGlobals "KEPT_WORDS" = some (some (.ref kw)))
    (kwl : K.lookup kw = some ot)
    (kwc : ot.cls = .type "tuple")
    (kwd : ot.data = .seq #[.str "asked" s1, .str "told" s2, .str "not" s3, .str "and" s4, .str "or" s5] nt)
    (ltn : PySem.W.nsIn K mainGlobals "LETTERS" = some (some (.str letters s6)))
    (c_MOST_DEEP_TERM : PySem.W.nsIn K mainGlobals "MOST_DEEP_TERM" = some (some (.int 5 t_MOST_DEEP_TERM)))
    (c_MOST_TERMS : PySem.W.nsIn K mainGlobals "MOST_TERMS" = some (some (.int 16 t_MOST_TERMS)))
    (c_MOST_DEEP_STEP : PySem.W.nsIn K mainGlobals "MOST_DEEP_STEP" = some (some (.int 4 t_MOST_DEEP_STEP)))
    (c_MOST_STEPS : PySem.W.nsIn K mainGlobals "MOST_STEPS" = some (some (.int 30 t_MOST_STEPS)))
    (c_MOST_IN_BODY : PySem.W.nsIn K mainGlobals "MOST_IN_BODY" = some (some (.int 12 t_MOST_IN_BODY)))
    (c_MOST_ROOMS : PySem.W.nsIn K mainGlobals "MOST_ROOMS" = some (some (.int 8 t_MOST_ROOMS)))
    (c_MOST_FLOORS : PySem.W.nsIn K mainGlobals "MOST_FLOORS" = some (some (.int 4 t_MOST_FLOORS)))
    (c_MOST_BOXES : PySem.W.nsIn K mainGlobals "MOST_BOXES" = some (some (.int 4 t_MOST_BOXES)))
    (c_MOST_SAYINGS : PySem.W.nsIn K mainGlobals "MOST_SAYINGS" = some (some (.int 4 t_MOST_SAYINGS)))
    (c_MOST_BOUND : PySem.W.nsIn K mainGlobals "MOST_BOUND" = some (some (.int 40 t_MOST_BOUND)))
    (z1 : PySem.W.nsIn K mainGlobals "isinstance" = some none)
    (z2 : PySem.W.nsIn K mainGlobals "int" = some none)
    (z3 : PySem.W.nsIn K mainGlobals "bool" = some none)
    (z4 : PySem.W.nsIn K mainGlobals "str" = some none)
    (z5 : PySem.W.nsIn K mainGlobals "tuple" = some none)
    (z6 : PySem.W.nsIn K mainGlobals "len" = some none)
    (z7 : PySem.W.nsIn K mainGlobals "all" = some none)
    (z8 : PySem.W.nsIn K mainGlobals "sum" = some none)
    (z9 : PySem.W.nsIn K mainGlobals "list" = some none)
    (z10 : PySem.W.nsIn K mainGlobals "max" = some none)
    (z11 : PySem.W.nsIn K mainGlobals "min" = some none)
    (z12 : PySem.W.nsIn K mainGlobals "range" = some none)
    (z13 : PySem.W.nsIn K mainGlobals "abs" = some none)
    (z14 : PySem.W.nsIn K mainGlobals "reversed" = some none)
    (z15 : PySem.W.nsIn K mainGlobals "set" = some none)
    (z16 : PySem.W.nsIn K mainGlobals "sorted" = some none)
    (z17 : PySem.W.nsIn K mainGlobals "repr" = some none)
    (z18 : PySem.W.nsIn K mainGlobals "LookupError" = some none)
    (z19 : PySem.W.nsIn K mainGlobals "ValueError" = some none)
    (x_ne7_8 : P7 = P8 → False)
    (x_ne7_9 : P7 = P9 → False)
    (x_ne7_68 : P7 = P68 → False)
    (x_ne8_9 : P8 = P9 → False)
    (x_ne8_68 : P8 = P68 → False)
    (x_ne9_68 : P9 = P68 → False)
    : LawT l w K 41 63 "_law_script" mg fa h := by
  have e := hfa.symm.trans (PySem.W.mg_of X G a68)
  cases e
  have F1 := fun_mk (st := sPlus) l1 e1 k1
  have b1 := F1.binds (ps := ["left", "right"]) fun _ _ _ _ _ _ us hl => match us, hl with | [_, _], _ => rfl
  have m1 := PySem.W.mg_of X G a1
  have F2 := fun_mk (st := sLess) l2 e2 k2
  have b2 := F2.binds (ps := ["left", "right"]) fun _ _ _ _ _ _ us hl => match us, hl with | [_, _], _ => rfl
  have m2 := PySem.W.mg_of X G a2
  have F3 := fun_mk (st := sTimes) l3 e3 k3
  have b3 := F3.binds (ps := ["left", "right"]) fun _ _ _ _ _ _ us hl => match us, hl with | [_, _], _ => rfl
  have m3 := PySem.W.mg_of X G a3
  have F4 := fun_mk (st := sOver) l4 e4 k4
  have b4 := F4.binds (ps := ["left", "right"]) fun _ _ _ _ _ _ us hl => match us, hl with | [_, _], _ => rfl
  have m4 := PySem.W.mg_of X G a4
  have F5 := fun_mk (st := sRest) l5 e5 k5
  have b5 := F5.binds (ps := ["left", "right"]) fun _ _ _ _ _ _ us hl => match us, hl with | [_, _], _ => rfl
  have m5 := PySem.W.mg_of X G a5
  have F6 : FunD K "holds" "holds" (defArgs sHolds) (defBody sHolds) (defScope sHolds) [] [("asked", .int 0), ("told", .int 0)] f6 (PySem.W.fnOf "holds" "holds" (defArgs sHolds) (defBody sHolds) (defScope sHolds) .none (.ref D6) dc6 pm6 an6 cd6 ct6) :=
    ⟨⟨oc6, od6, .none, .ref D6, dc6, pm6, an6, cd6, ct6, sl6, rfl, l6, e6, .inl ⟨rfl, rfl⟩, .inr ⟨D6, rfl, fun q hq => by
      simp only [List.mem_cons, List.not_mem_nil, or_false] at hq
      rcases hq with rfl | rfl
      · exact ⟨_, w6_0, ⟨_, rfl⟩⟩
      · exact ⟨_, w6_1, ⟨_, rfl⟩⟩⟩⟩, k6⟩
  have m6 := PySem.W.mg_of X G a6
  have F7 : FunC K "ready_worth" "ready_worth" sReady f7 _ c7 := ⟨⟨oc7, od7, kV7, dc7, pm7, an7, ct7, sl7, rfl, l7, e7⟩, k7⟩
  have b7 := F7.binds (ps := ["expression", "owns"]) fun _ _ _ _ _ us hl => match us, hl with | [_, _], _ => rfl
  have m7 := PySem.W.mg_of X G a7
  have F8 : FunC K "ready_test" "ready_test" sRT f8 _ c8 := ⟨⟨oc8, od8, kV8, dc8, pm8, an8, ct8, sl8, rfl, l8, e8⟩, k8⟩
  have b8 := F8.binds (ps := ["test", "owns"]) fun _ _ _ _ _ us hl => match us, hl with | [_, _], _ => rfl
  have m8 := PySem.W.mg_of X G a8
  have F9 : FunC K "ready_comparison" "ready_comparison" sRC f9 _ c9 := ⟨⟨oc9, od9, kV9, dc9, pm9, an9, ct9, sl9, rfl, l9, e9⟩, k9⟩
  have b9 := F9.binds (ps := ["kind", "left", "right"]) fun _ _ _ _ _ us hl => match us, hl with | [_, _, _], _ => rfl
  have m9 := PySem.W.mg_of X G a9
  have F10 := fun_mk (st := sWhole) l10 e10 k10
  have b10 := F10.binds (ps := ["thing"]) fun _ _ _ _ _ _ us hl => match us, hl with | [_], _ => rfl
  have m10 := PySem.W.mg_of X G a10
  have F11 := fun_mk (st := sWithin) l11 e11 k11
  have b11 := F11.binds (ps := ["thing", "least", "most"]) fun _ _ _ _ _ _ us hl => match us, hl with | [_, _, _], _ => rfl
  have m11 := PySem.W.mg_of X G a11
  have F12 := fun_mk (st := sName) l12 e12 k12
  have b12 := F12.binds (ps := ["thing"]) fun _ _ _ _ _ _ us hl => match us, hl with | [_], _ => rfl
  have m12 := PySem.W.mg_of X G a12
  have F13 := fun_mk (st := sIsExpr) l13 e13 k13
  have b13 := F13.binds (ps := ["thing", "boxes", "words"]) fun _ _ _ _ _ _ us hl => match us, hl with | [_, _, _], _ => rfl
  have m13 := PySem.W.mg_of X G a13
  have F14 := fun_mk (st := sIsTest) l14 e14 k14
  have b14 := F14.binds (ps := ["thing", "boxes", "words"]) fun _ _ _ _ _ _ us hl => match us, hl with | [_, _, _], _ => rfl
  have m14 := PySem.W.mg_of X G a14
  have F15 := fun_mk (st := sExFits) l15 e15 k15
  have b15 := F15.binds (ps := ["thing", "boxes", "words", "deep"]) fun _ _ _ _ _ _ us hl => match us, hl with | [_, _, _, _], _ => rfl
  have m15 := PySem.W.mg_of X G a15
  have F16 := fun_mk (st := sTsFits) l16 e16 k16
  have b16 := F16.binds (ps := ["thing", "boxes", "words", "deep"]) fun _ _ _ _ _ _ us hl => match us, hl with | [_, _, _, _], _ => rfl
  have m16 := PySem.W.mg_of X G a16
  have F17 := fun_mk (st := sRow) l17 e17 k17
  have b17 := F17.binds (ps := ["thing"]) fun _ _ _ _ _ _ us hl => match us, hl with | [_], _ => rfl
  have m17 := PySem.W.mg_of X G a17
  have F18 := fun_mk (st := sCount) l18 e18 k18
  have b18 := F18.binds (ps := ["term"]) fun _ _ _ _ _ _ us hl => match us, hl with | [_], _ => rfl
  have m18 := PySem.W.mg_of X G a18
  have F19 := fun_mk (st := sBody) l19 e19 k19
  have b19 := F19.binds (ps := ["thing", "boxes", "words", "beneath"]) fun _ _ _ _ _ _ us hl => match us, hl with | [_, _, _, _], _ => rfl
  have m19 := PySem.W.mg_of X G a19
  have F20 := fun_mk (st := sBFits) l20 e20 k20
  have b20 := F20.binds (ps := ["thing", "boxes", "words", "beneath", "deep"]) fun _ _ _ _ _ _ us hl => match us, hl with | [_, _, _, _, _], _ => rfl
  have m20 := PySem.W.mg_of X G a20
  have F21 := fun_mk (st := sSFits) l21 e21 k21
  have b21 := F21.binds (ps := ["step", "boxes", "words", "beneath", "deep"]) fun _ _ _ _ _ _ us hl => match us, hl with | [_, _, _, _, _], _ => rfl
  have m21 := PySem.W.mg_of X G a21
  have F22 := fun_mk (st := sAll) l22 e22 k22
  have b22 := F22.binds (ps := ["body"]) fun _ _ _ _ _ _ us hl => match us, hl with | [_], _ => rfl
  have m22 := PySem.W.mg_of X G a22
  have F23 := fun_mk (st := sWithinB) l23 e23 k23
  have b23 := F23.binds (ps := ["step"]) fun _ _ _ _ _ _ us hl => match us, hl with | [_], _ => rfl
  have m23 := PySem.W.mg_of X G a23
  have F24 : FunD K "__init__" "Room.__init__" (defArgs sRInit) (defBody sRInit) (defScope sRInit) [] [] f24 (PySem.W.fnOf "__init__" "Room.__init__" (defArgs sRInit) (defBody sRInit) (defScope sRInit) .none (.ref D24) dc24 pm24 an24 cd24 ct24) :=
    ⟨⟨oc24, od24, .none, .ref D24, dc24, pm24, an24, cd24, ct24, sl24, rfl, l24, e24, .inl ⟨rfl, rfl⟩, .inr ⟨D24, rfl, fun q hq => nomatch hq⟩⟩, k24⟩
  have F25 := fun_mk (st := sReq) l25 e25 k25
  have b25 := F25.binds (ps := ["self", "other"]) fun _ _ _ _ _ _ us hl => match us, hl with | [_, _], _ => rfl
  have F26 := fun_mk (st := sRln) l26 e26 k26
  have b26 := F26.binds (ps := ["self"]) fun _ _ _ _ _ _ us hl => match us, hl with | [_], _ => rfl
  have F27 := fun_mk (st := sRrp) l27 e27 k27
  have b27 := F27.binds (ps := ["self"]) fun _ _ _ _ _ _ us hl => match us, hl with | [_], _ => rfl
  have F28 := fun_mk (st := sPInit) l28 e28 k28
  have b28 := F28.binds (ps := ["self", "rooms"]) fun _ _ _ _ _ _ us hl => match us, hl with | [_, _], _ => rfl
  have F29 := fun_mk (st := sPrs) l29 e29 k29
  have b29 := F29.binds (ps := ["self"]) fun _ _ _ _ _ _ us hl => match us, hl with | [_], _ => rfl
  have F30 := fun_mk (st := sRO) l30 e30 k30
  have b30 := F30.binds (ps := ["self", "name"]) fun _ _ _ _ _ _ us hl => match us, hl with | [_, _], _ => rfl
  have F31 := fun_mk (st := sBen) l31 e31 k31
  have b31 := F31.binds (ps := ["self", "name"]) fun _ _ _ _ _ _ us hl => match us, hl with | [_, _], _ => rfl
  have F32 := fun_mk (st := sPeq) l32 e32 k32
  have b32 := F32.binds (ps := ["self", "other"]) fun _ _ _ _ _ _ us hl => match us, hl with | [_, _], _ => rfl
  have F33 := fun_mk (st := sPln) l33 e33 k33
  have b33 := F33.binds (ps := ["self"]) fun _ _ _ _ _ _ us hl => match us, hl with | [_], _ => rfl
  have F34 := fun_mk (st := sPrp) l34 e34 k34
  have b34 := F34.binds (ps := ["self"]) fun _ _ _ _ _ _ us hl => match us, hl with | [_], _ => rfl
  have F35 := fun_mk (st := sNR) l35 e35 k35
  have b35 := F35.binds (ps := ["self", "name"]) fun _ _ _ _ _ _ us hl => match us, hl with | [_, _], _ => rfl
  have F36 := fun_mk (st := sNP) l36 e36 k36
  have b36 := F36.binds (ps := ["self", "room", "why"]) fun _ _ _ _ _ _ us hl => match us, hl with | [_, _, _], _ => rfl
  have F37 := fun_mk (st := sRooms) l37 e37 k37
  have b37 := F37.binds (ps := ["things"]) fun _ _ _ _ _ _ us hl => match us, hl with | [_], _ => rfl
  have m37 := PySem.W.mg_of X G a37
  have F38 := fun_mk (st := sFault) l38 e38 k38
  have b38 := F38.binds (ps := ["rooms", "at"]) fun _ _ _ _ _ _ us hl => match us, hl with | [_, _], _ => rfl
  have m38 := PySem.W.mg_of X G a38
  have F39 := fun_mk (st := sNameF) l39 e39 k39
  have b39 := F39.binds (ps := ["rooms", "at"]) fun _ _ _ _ _ _ us hl => match us, hl with | [_, _], _ => rfl
  have m39 := PySem.W.mg_of X G a39
  have F40 := fun_mk (st := sAboveF) l40 e40 k40
  have b40 := F40.binds (ps := ["rooms", "at"]) fun _ _ _ _ _ _ us hl => match us, hl with | [_, _], _ => rfl
  have m40 := PySem.W.mg_of X G a40
  have F41 := fun_mk (st := sFloor) l41 e41 k41
  have b41 := F41.binds (ps := ["rooms", "at"]) fun _ _ _ _ _ _ us hl => match us, hl with | [_, _], _ => rfl
  have m41 := PySem.W.mg_of X G a41
  have F42 := fun_mk (st := sBoxesF) l42 e42 k42
  have b42 := F42.binds (ps := ["boxes"]) fun _ _ _ _ _ _ us hl => match us, hl with | [_], _ => rfl
  have m42 := PySem.W.mg_of X G a42
  have F43 := fun_mk (st := sBoxF) l43 e43 k43
  have b43 := F43.binds (ps := ["box"]) fun _ _ _ _ _ _ us hl => match us, hl with | [_], _ => rfl
  have m43 := PySem.W.mg_of X G a43
  have F44 := fun_mk (st := sSaysF) l44 e44 k44
  have b44 := F44.binds (ps := ["room"]) fun _ _ _ _ _ _ us hl => match us, hl with | [_], _ => rfl
  have m44 := PySem.W.mg_of X G a44
  have F45 := fun_mk (st := sFirstF) l45 e45 k45
  have b45 := F45.binds (ps := ["room"]) fun _ _ _ _ _ _ us hl => match us, hl with | [_], _ => rfl
  have m45 := PySem.W.mg_of X G a45
  have F46 := fun_mk (st := sOtherF) l46 e46 k46
  have b46 := F46.binds (ps := ["room"]) fun _ _ _ _ _ _ us hl => match us, hl with | [_], _ => rfl
  have m46 := PySem.W.mg_of X G a46
  have F47 := fun_mk (st := sToldF) l47 e47 k47
  have b47 := F47.binds (ps := ["room"]) fun _ _ _ _ _ _ us hl => match us, hl with | [_], _ => rfl
  have m47 := PySem.W.mg_of X G a47
  have F48 := fun_mk (st := sBodyF) l48 e48 k48
  have b48 := F48.binds (ps := ["rooms", "at", "words"]) fun _ _ _ _ _ _ us hl => match us, hl with | [_, _, _], _ => rfl
  have m48 := PySem.W.mg_of X G a48
  have F49 := fun_mk (st := sNames) l49 e49 k49
  have b49 := F49.binds (ps := ["room"]) fun _ _ _ _ _ _ us hl => match us, hl with | [_], _ => rfl
  have m49 := PySem.W.mg_of X G a49
  have F50 := fun_mk (st := sBag) l50 e50 k50
  have b50 := F50.binds (ps := ["_law_script", "_law_at"]) fun _ _ _ _ _ _ us hl => match us, hl with | [_, _], _ => rfl
  have m50 := PySem.W.mg_of X G a50
  have F51 := fun_mk (st := sTake) l51 e51 k51
  have b51 := F51.binds (ps := ["_law_bag_here", "_law_many_here"]) fun _ _ _ _ _ _ us hl => match us, hl with | [_, _], _ => rfl
  have m51 := PySem.W.mg_of X G a51
  have F52 := fun_mk (st := sOf) l52 e52 k52
  have b52 := F52.binds (ps := ["_law_bag_here", "_law_some"]) fun _ _ _ _ _ _ us hl => match us, hl with | [_, _], _ => rfl
  have m52 := PySem.W.mg_of X G a52
  have F53 := fun_mk (st := sMixed) l53 e53 k53
  have b53 := F53.binds (ps := ["_law_bag_here", "_law_some"]) fun _ _ _ _ _ _ us hl => match us, hl with | [_, _], _ => rfl
  have m53 := PySem.W.mg_of X G a53
  have F54 := fun_mk (st := sExpr) l54 e54 k54
  have b54 := F54.binds (ps := ["_law_bag_here", "_law_names", "_law_asks", "_law_deep"]) fun _ _ _ _ _ _ us hl => match us, hl with | [_, _, _, _], _ => rfl
  have m54 := PySem.W.mg_of X G a54
  have F55 := fun_mk (st := sTest) l55 e55 k55
  have b55 := F55.binds (ps := ["_law_bag_here", "_law_names", "_law_asks", "_law_deep"]) fun _ _ _ _ _ _ us hl => match us, hl with | [_, _, _, _], _ => rfl
  have m55 := PySem.W.mg_of X G a55
  have F56 := fun_mk (st := sSteps) l56 e56 k56
  have b56 := F56.binds (ps := ["_law_bag_here", "_law_names", "_law_asks", "_law_beneath", "_law_deep"]) fun _ _ _ _ _ _ us hl => match us, hl with | [_, _, _, _, _], _ => rfl
  have m56 := PySem.W.mg_of X G a56
  have F57 := fun_mk (st := sGroup) l57 e57 k57
  have b57 := F57.binds (ps := ["_law_bag_here", "_law_names", "_law_asks", "_law_lows", "_law_lots"]) fun _ _ _ _ _ _ us hl => match us, hl with | [_, _, _, _, _], _ => rfl
  have m57 := PySem.W.mg_of X G a57
  have F58 := fun_mk (st := sAnswer) l58 e58 k58
  have b58 := F58.binds (ps := ["_law_bag_here", "_law_lots"]) fun _ _ _ _ _ _ us hl => match us, hl with | [_, _], _ => rfl
  have m58 := PySem.W.mg_of X G a58
  have F59 := fun_mk (st := sRoom) l59 e59 k59
  have b59 := F59.binds (ps := ["_law_bag_here", "_law_name", "_law_roof", "_law_answer_here", "_law_beneath", "_law_lots"]) fun _ _ _ _ _ _ us hl => match us, hl with | [_, _, _, _, _, _], _ => rfl
  have m59 := PySem.W.mg_of X G a59
  have F60 := fun_mk (st := sRms) l60 e60 k60
  have b60 := F60.binds (ps := ["_law_bag_here", "_law_most", "_law_lots"]) fun _ _ _ _ _ _ us hl => match us, hl with | [_, _, _], _ => rfl
  have m60 := PySem.W.mg_of X G a60
  have F61 := fun_mk (st := sMade) l61 e61 k61
  have b61 := F61.binds (ps := ["_law_some"]) fun _ _ _ _ _ _ us hl => match us, hl with | [_], _ => rfl
  have m61 := PySem.W.mg_of X G a61
  have F62 := fun_mk (st := sLProg) l62 e62 k62
  have b62 := F62.binds (ps := ["_law_rooms_here"]) fun _ _ _ _ _ _ us hl => match us, hl with | [_], _ => rfl
  have m62 := PySem.W.mg_of X G a62
  have F63 := fun_mk (st := sLm) l63 e63 k63
  have b63 := F63.binds (ps := ["_law_deeds"]) fun _ _ _ _ _ _ us hl => match us, hl with | [_], _ => rfl
  have m63 := PySem.W.mg_of X G a63
  have F64 := fun_mk (st := sOt) l64 e64 k64
  have b64 := F64.binds (ps := ["_law_bag_here", "_law_some"]) fun _ _ _ _ _ _ us hl => match us, hl with | [_, _], _ => rfl
  have m64 := PySem.W.mg_of X G a64
  have F65 := fun_mk (st := sRf) l65 e65 k65
  have b65 := F65.binds (ps := ["_law_deed"]) fun _ _ _ _ _ _ us hl => match us, hl with | [_], _ => rfl
  have m65 := PySem.W.mg_of X G a65
  have F66 := fun_mk (st := sTh) l66 e66 k66
  have b66 := F66.binds (ps := ["_law_bag_here", "_law_built"]) fun _ _ _ _ _ _ us hl => match us, hl with | [_, _], _ => rfl
  have m66 := PySem.W.mg_of X G a66
  have F67 := fun_mk (st := sRr) l67 e67 k67
  have b67 := F67.binds (ps := ["_law_one", "_law_some", "_law_other_here"]) fun _ _ _ _ _ _ us hl => match us, hl with | [_, _, _], _ => rfl
  have m67 := PySem.W.mg_of X G a67
  have F68 : FunC K "law" "law" sLaw _ _ c68 := ⟨⟨oc68, od68, kV68, dc68, pm68, an68, ct68, sl68, rfl, l68, e68⟩, k68⟩
  have b68 := F68.binds (ps := ["_law_script"]) fun _ _ _ _ _ us hl => match us, hl with | [_], _ => rfl
  have m68 := PySem.W.mg_of X G a68
  have y_isinstance := PySem.W.mg_none_of X G z1
  have y_int := PySem.W.mg_none_of X G z2
  have y_bool := PySem.W.mg_none_of X G z3
  have y_str := PySem.W.mg_none_of X G z4
  have y_tuple := PySem.W.mg_none_of X G z5
  have y_len := PySem.W.mg_none_of X G z6
  have y_all := PySem.W.mg_none_of X G z7
  have y_sum := PySem.W.mg_none_of X G z8
  have y_list := PySem.W.mg_none_of X G z9
  have y_max := PySem.W.mg_none_of X G z10
  have y_min := PySem.W.mg_none_of X G z11
  have y_range := PySem.W.mg_none_of X G z12
  have y_abs := PySem.W.mg_none_of X G z13
  have y_reversed := PySem.W.mg_none_of X G z14
  have y_set := PySem.W.mg_none_of X G z15
  have y_sorted := PySem.W.mg_none_of X G z16
  have y_repr := PySem.W.mg_none_of X G z17
  have y_LookupError := PySem.W.mg_none_of X G z18
  have y_ValueError := PySem.W.mg_none_of X G z19
  let T : List NTab := [(P7, fun _ _ => qReady), (P8, fun _ _ => qRT), (P9, fun _ _ => qRC), (P68, fun _ _ => qLaw)]
  refine ⟨PySem.W.fnOf "law" "law" (defArgs sLaw) (defBody sLaw) (defScope sLaw) .none kV68 dc68 pm68 an68 (.ref c68) ct68, [(c7, P7), (c8, P8), (c9, P9), (c68, P68)], spLaw T K, fun p hp => by
      simp only [List.mem_cons, List.not_mem_nil, or_false] at hp
      rcases hp with rfl | rfl | rfl | rfl
      · exact t7
      · exact t8
      · exact t9
      · exact t68, fun p hp => by
      simp only [List.mem_cons, List.not_mem_nil, or_false] at hp
      rcases hp with rfl | rfl | rfl | rfl
      · exact n7
      · exact n8
      · exact n9
      · exact n68, fun p hp => by
      simp only [List.mem_cons, List.not_mem_nil, or_false] at hp
      rcases hp with rfl | rfl | rfl | rfl
      · exact PySem.W.codeHd_of_K X q7
      · exact PySem.W.codeHd_of_K X q8
      · exact PySem.W.codeHd_of_K X q9
      · exact PySem.W.codeHd_of_K X q68, fun s v => .of_eq rfl, fun H a ns hl t hS => ⟨a, ns, rfl, hS, hl, ?_, fun _ => rfl⟩, fun base _ _ TB => ?_⟩
  · intro p hp
    simp only [T, List.mem_cons, List.not_mem_nil, or_false] at hp
    rcases hp with rfl | rfl | rfl | rfl
    · exact TabN.nil (t (c7, P7) (by simp))
    · exact TabN.nil (t (c8, P8) (by simp))
    · exact TabN.nil (t (c9, P9) (by simp))
    · exact TabN.nil (t (c68, P68) (by simp))
  have TB7 : TabB base mg c7 P7 := TB (c7, P7) (by simp)
  have TB8 : TabB base mg c8 P8 := TB (c8, P8) (by simp)
  have TB9 : TabB base mg c9 P9 := TB (c9, P9) (by simp)
  have TB68 : TabB base mg c68 P68 := TB (c68, P68) (by simp)
  have hm7 : (P7, fun _ _ => qReady) ∈ T := by simp [T]
  have hm8 : (P8, fun _ _ => qRT) ∈ T := by simp [T]
  have hm9 : (P9, fun _ _ => qRC) ∈ T := by simp [T]
  have hm68 : (P68, fun _ _ => qLaw) ∈ T := by simp [T]
  have ne7_8 : P7 ≠ P8 := by
    intro z
    have := PySem.W.codeHd_of_K X q7
    have := PySem.W.codeHd_of_K X q8
    exact x_ne7_8 z
  have ne7_9 : P7 ≠ P9 := by
    intro z
    have := PySem.W.codeHd_of_K X q7
    have := PySem.W.codeHd_of_K X q9
    exact x_ne7_9 z
  have ne7_68 : P7 ≠ P68 := by
    intro z
    have := PySem.W.codeHd_of_K X q7
    have := PySem.W.codeHd_of_K X q68
    exact x_ne7_68 z
  have ne8_9 : P8 ≠ P9 := by
    intro z
    have := PySem.W.codeHd_of_K X q8
    have := PySem.W.codeHd_of_K X q9
    exact x_ne8_9 z
  have ne8_68 : P8 ≠ P68 := by
    intro z
    have := PySem.W.codeHd_of_K X q8
    have := PySem.W.codeHd_of_K X q68
    exact x_ne8_68 z
  have ne9_68 : P9 ≠ P68 := by
    intro z
    have := PySem.W.codeHd_of_K X q9
    have := PySem.W.codeHd_of_K X q68
    exact x_ne9_68 z
  have hu7 : ∀ p ∈ T, p.1 = P7 → p.2 = fun _ _ => qReady := by
    intro p hp e
    simp only [T, List.mem_cons, List.not_mem_nil, or_false] at hp
    rcases hp with rfl | rfl | rfl | rfl
    · rfl
    · exact absurd e (Ne.symm ne7_8)
    · exact absurd e (Ne.symm ne7_9)
    · exact absurd e (Ne.symm ne7_68)
  have hu8 : ∀ p ∈ T, p.1 = P8 → p.2 = fun _ _ => qRT := by
    intro p hp e
    simp only [T, List.mem_cons, List.not_mem_nil, or_false] at hp
    rcases hp with rfl | rfl | rfl | rfl
    · exact absurd e (ne7_8)
    · rfl
    · exact absurd e (Ne.symm ne8_9)
    · exact absurd e (Ne.symm ne8_68)
  have hu9 : ∀ p ∈ T, p.1 = P9 → p.2 = fun _ _ => qRC := by
    intro p hp e
    simp only [T, List.mem_cons, List.not_mem_nil, or_false] at hp
    rcases hp with rfl | rfl | rfl | rfl
    · exact absurd e (ne7_9)
    · exact absurd e (ne8_9)
    · rfl
    · exact absurd e (Ne.symm ne9_68)
  have hu68 : ∀ p ∈ T, p.1 = P68 → p.2 = fun _ _ => qLaw := by
    intro p hp e
    simp only [T, List.mem_cons, List.not_mem_nil, or_false] at hp
    rcases hp with rfl | rfl | rfl | rfl
    · exact absurd e (ne7_68)
    · exact absurd e (ne8_68)
    · exact absurd e (ne9_68)
    · rfl
  have kd : ∀ (x : Str) (g : Addr), PySem.W.nsIn K D x = some (some (.ref g)) → KDct K w D x (.ref g) := fun x g e => ⟨es, en, _, dl, dk, e, rfl⟩
  have Dd_ : DeedsT l.prog w K mg base := ⟨D, PySem.W.mg_of X G da, fun d => by
    cases d with
    | plus => exact ⟨f1, kd _ _ d_plus, k1, (FnOk.raw (ok_plus F1) b1 .nil).imp fun vs H Q E h => by rw [List.append_nil]; exact h⟩
    | less => exact ⟨f2, kd _ _ d_less, k2, (FnOk.raw (ok_less F2) b2 .nil).imp fun vs H Q E h => by rw [List.append_nil]; exact h⟩
    | times => exact ⟨f3, kd _ _ d_times, k3, (FnOk.raw (ok_times F3) b3 .nil).imp fun vs H Q E h => by rw [List.append_nil]; exact h⟩
    | over => exact ⟨f4, kd _ _ d_over, k4, (FnOk.raw (ok_over F4) b4 .nil).imp fun vs H Q E h => by rw [List.append_nil]; exact h⟩
    | rest => exact ⟨f5, kd _ _ d_rest, k5, (FnOk.raw (ok_rest F5) b5 .nil).imp fun vs H Q E h => by rw [List.append_nil]; exact h⟩⟩
  have O : Own mg := ⟨y_isinstance, y_int, y_bool, y_str, y_tuple, y_len, y_all, y_sum, y_list⟩
  have TR : RoomC K C := ⟨⟨rpg, rhd, rpo, rsa⟩, r_name, r_above, r_boxes, r_sayings, r_ask, r_told, r_promise, r_body⟩
  have TI : RoomI K C := ⟨rcl, x_get, x_tk, rmro, kit_self⟩
  have TP : ProgC K CP := ⟨⟨ppg, phd, ppo, psa⟩, p_held, p_drawn⟩
  have TH : HeldC K CP := ⟨⟨ppg, phd, ppo, psa⟩, p_held⟩
  have KR : KindC K C := ⟨rty, rcl, x_get, x_tk, rmro⟩
  have KP : KindC K CP := ⟨pty, pcl, x_get, x_tk, pmro⟩
  have NT : NoTy K C := ⟨rnN, rnS, rnT⟩
  have NTD : NoTy K CP := ⟨pnN, pnS, pnT⟩
  have mR := PySem.W.mg_of X G xC
  have mP := PySem.W.mg_of X G xCP
  have mN := PySem.W.mg_of X G xCN
  have mG := PySem.W.mg_of X G xCG
  have Z : NoRoomC K mg CN := ⟨⟨over_lookup, ⟨nmn, qn, NNn, bsn, snn, subn, abn, coln, ddn, nk0, nk1, nk2, nk3, nk5, nL⟩, nsa, nex, nty2, nkC⟩, nf_name, ⟨nga, ngg, nex, nhd⟩, ⟨nga, ngg, nex, nhd, ncl, x_get, x_tk, nmro⟩, kit_blt (by decide +kernel) nle, PySem.W.exm_ref nex nhd nty2 nsub, y_LookupError, vL, mN⟩
  have ZP : NoProgC K mg CG := ⟨⟨⟨nmg, qg, NNg, bsg, bmg, sng, subg, abg, colg, ddg, gk0, gk1, gk2, gk3, gk5, gL, gbm⟩, gsa, gex, gty2, gkC⟩, gf_room, gf_why, ⟨gga, ggg, gex, ghd⟩, ⟨gga, ggg, gex, ghd, gcl, x_get, x_tk, gmro⟩, PySem.W.exm_ref gex ghd gty2 gsub, y_ValueError, vV, mG⟩
  have RF : RfC K mg CN CG := ⟨Z, ZP, PySem.W.exm_ref gex ghd gty2 noff⟩
  have kT : PySem.W.kitOne K (.ref C) (.type "tuple") = some false := kit_blt (by decide +kernel) rnT
  have kD : KKeys K w D deedWords := ⟨es, en, dl, dk, dkd, by decide, dsm, by rw [sizeLine_eq]; decide⟩
  have hkw : ∀ H, SqT K H kw (keptWords.map V.str) := fun H => .inr ⟨ot, _, nt, kwl, kwc, kwd, by (show 5 ≤ sizeLine; rw [sizeLine_eq]; decide), .cons ⟨_, rfl⟩ (.cons ⟨_, rfl⟩ (.cons ⟨_, rfl⟩ (.cons ⟨_, rfl⟩ (.cons ⟨_, rfl⟩ .nil))))⟩
  have GRW := all_ready F7 TB7 hm7 hu7 Dd_ m7 b7 6
  have GC := ok_rc (P := l.prog) (w := w) F9 TB9 hm9 hu9
  have GRT := all_rt F8 TB8 hm8 hu8 m8 b8 GRW m7 k7 b7 GC m9 k9 b9 5
  have GH := ok_holds F6 GRT m8 k8 b8 y_list
  have Gwhole := ok_whole (P := l.prog) (w := w) (mg := mg) (base := base) O F10
  have Gwithin := ok_within F11 Gwhole b10 k10 m10
  have Grow := ok_row (P := l.prog) (w := w) (mg := mg) (base := base) O F17
  have Gcount := all_count (P := l.prog) (w := w) (mg := mg) (base := base) O F18 b18 m18 6
  have Gef := all_ef O F15 b15 m15 Grow b17 k17 m17 Gwithin b11 k11 m11 (PySem.W.mg_of X G da) kD 6
  have Gtf := all_tf O F16 b16 m16 Grow b17 k17 m17 Gef b15 k15 m15 6
  have Gie := ok_isE F13 Gef b15 k15 m15 Gcount b18 k18 m18 (PySem.W.mg_of X G c_MOST_DEEP_TERM) (PySem.W.mg_of X G c_MOST_TERMS)
  have Git := ok_isT F14 Gtf b16 k16 m16 Gcount b18 k18 m18 (PySem.W.mg_of X G c_MOST_DEEP_TERM) (PySem.W.mg_of X G c_MOST_TERMS)
  have Gbf := all_bf O F21 F20 b21 k21 m21 (PySem.W.mg_of X G c_MOST_IN_BODY) b20 k20 m20 Grow b17 k17 m17 Gwithin b11 k11 m11 Gie b13 k13 m13 Git b14 k14 m14 4
  have Gwb := ok_wb (P := l.prog) (w := w) (mg := mg) (base := base) F23
  have Gas := all_all F22 b22 m22 Gwb b23 k23 m23 5
  have Gib := ok_isB O F19 Gbf b20 k20 m20 Gas b22 k22 m22 (PySem.W.mg_of X G c_MOST_DEEP_STEP) (PySem.W.mg_of X G c_MOST_STEPS)
  have Gname := ok_name (P := l.prog) (w := w) (mg := mg) (base := base) O F12 (PySem.W.mg_of X G kwn) hkw (PySem.W.mg_of X G ltn)
  have Gbn := ok_bn (P := l.prog) (w := w) (mg := mg) (base := base) TR F49
  have Gbox := ok_boxf O F43 Gname b12 k12 m12 Gwithin b11 k11 m11 (PySem.W.mg_of X G c_MOST_BOUND)
  have Gboxes := ok_boxesf O y_set y_sorted F42 (PySem.W.mg_of X G c_MOST_BOXES) Gbox b43 k43 m43
  have Gtold := ok_toldf O TR F47 Gwithin b11 k11 m11 (PySem.W.mg_of X G c_MOST_BOUND) Gie b13 k13 m13 Gbn b49 k49 m49
  have Gfirst := ok_firstf (P := l.prog) (w := w) (mg := mg) (base := base) TR F45
  have Gother := ok_otherf TR F46 Gwithin b11 k11 m11 (PySem.W.mg_of X G c_MOST_BOUND) Git b14 k14 m14 Gtold b47 k47 m47
  have Grooms := ok_rooms (P := l.prog) (w := w) (mg := mg) (base := base) O TR TI mR F37 (PySem.W.mg_of X G c_MOST_ROOMS)
  have Gnamef := ok_namef TR F39 Gname b12 k12 m12
  have Gbodyf := ok_bodyf TR F48 Gib b19 k19 m19 Gbn b49 k49 m49
  have Gfloor := ok_floor (P := l.prog) (w := w) (mg := mg) (base := base) TR y_reversed F41
  have Gabove := ok_abovef TR F40 Gfloor b41 k41 m41 (PySem.W.mg_of X G c_MOST_FLOORS)
  have Gsays := ok_saysf O TR F44 (PySem.W.mg_of X G c_MOST_SAYINGS) Git b14 k14 m14 F6 GH m6
  have Gfault := ok_fault TR F38 Gnamef b39 k39 m39 Gabove b40 k40 m40 Gboxes b42 k42 m42 Gsays b44 k44 m44 Gfirst b45 k45 m45 Gother b46 k46 m46 Gbodyf b48 k48 m48
  have Gpinit := ok_pinit O y_range TP F28 Grooms b37 k37 m37 Gfault b38 k38 m38
  have MkP : Mk K CP f28 := ⟨pmk, a28, i28, pkc⟩
  have MP : Mk1 l.prog w K mg base 30 "Program" CP _ (spPInit T C CP) := ⟨f28, _, mP, MkP, Gpinit, b28⟩
  have Greq := ok_req (P := l.prog) (w := w) (base := base) O TR KR mR F25
  have ED : EqD l.prog w K mg base C 2 (spReq C) := ⟨⟨f25, a25, i25, fnr (Greq.mono (by decide)) b25⟩, rne, rmro⟩
  have RD : ReD l.prog w K mg base C 1 (spRrp C) := ⟨⟨f27, a27, i27, fnr (ok_rrp TR F27) b27⟩⟩
  have Das : Df l.prog w K mg base 6 "all_steps" _ (spAll 5) := ⟨f22, _, m22, k22, Gas, b22⟩
  have LD : LenD l.prog w K mg base C 7 (spRln C) := ⟨⟨f26, _, a26, i26, ok_rln O TR Das F26, b26⟩⟩
  have EDP : EqD l.prog w K mg base CP 4 (spPeq C CP) := ⟨⟨f32, a32, i32, fnr (ok_peq O TH KP mP ED F32) b32⟩, pne, pmro⟩
  have RDP : ReD l.prog w K mg base CP 1 (spPrp CP) := ⟨⟨f34, a34, i34, fnr (ok_prp O TH F34) b34⟩⟩
  have LDP : LenD l.prog w K mg base CP 1 (spPln CP) := ⟨⟨f33, _, a33, i33, ok_pln O TH F33, b33⟩⟩
  have Mrms : Mf l.prog w K mg base CP 1 "rooms" _ (spRms CP) := ⟨f29, _, ⟨a29, i29, k29⟩, ok_rms TH F29, b29⟩
  have Mro : Mf l.prog w K mg base CP 1 "room_of" _ (spRO C CP) := ⟨f30, _, ⟨a30, i30, k30⟩, ok_ro TR TH F30, b30⟩
  have Mben : Mf l.prog w K mg base CP 2 "beneath" _ (spBen C CP) := ⟨f31, _, ⟨a31, i31, k31⟩, ok_ben TR TH Mro F31, b31⟩
  have Gnr := ok_noroom (P := l.prog) (w := w) (base := base) Z RD F35
  have Grox := ok_rox TR TH ED NT Z a35 nft Gnr b35 F30
  have Gbenx := ok_benx TH ⟨a30, i30, k30⟩ Grox b30 F31
  have Gnp := ok_noprog (P := l.prog) (w := w) (base := base) ZP F36
  have Dry : Df l.prog w K mg base 1 "are_rooms" _ (spRoomsX C) := ⟨f37, _, m37, k37, ok_roomsx O TR KR kT mR F37 (PySem.W.mg_of X G c_MOST_ROOMS), b37⟩
  have Dfa : Df l.prog w K mg base 29 "fault_of" _ (spFault T C) := ⟨f38, _, m38, k38, Gfault, b38⟩
  have Gpx := ok_pinitx O y_range ZP a36 gft Gnp b36 F28 Dry Dfa (D := CP)
  have Gmade := ok_made (P := l.prog) (w := w) (mg := mg) (base := base) F61 ⟨rmk, a24, i24, rkc⟩ mR TR F24
  have Lmade : Df l.prog w K mg base 3 "_law_made" _ (spMade C) := ⟨f61, _, m61, k61, Gmade, b61⟩
  have Gprog := ok_lprog y_tuple F62 Gmade b61 k61 m61 MkP mP Gpinit b28
  have Lprog : Df l.prog w K mg base 32 "_law_program" _ (spLProg T C CP) := ⟨f62, _, m62, k62, Gprog, b62⟩
  have Lbag : Df l.prog w K mg base 1 "_law_bag" _ (spBag K) := ⟨f50, _, m50, k50, ok_bag F50 y_len y_abs y_int, b50⟩
  have Gtake := ok_take (P := l.prog) (w := w) (mg := mg) (base := base) F51
  have Ltake : Df l.prog w K mg base 1 "_law_take" _ spTake := ⟨f51, _, m51, k51, Gtake, b51⟩
  have Gof := ok_of F52 Gtake b51 k51 m51 y_len
  have Lof : Df l.prog w K mg base 2 "_law_of" _ spOf := ⟨f52, _, m52, k52, Gof, b52⟩
  have Lmix : Df l.prog w K mg base 2 "_law_mixed" _ spMixed := ⟨f53, _, m53, k53, ok_mixed y_list y_len F53 Gtake b51 k51 m51, b53⟩
  have Gexpr := all_expr F54 Gtake b51 k51 m51 Gof b52 k52 m52 b54 m54 7
  have Lexpr : Df l.prog w K mg base 9 "_law_expr" _ (spExpr 7) := ⟨f54, _, m54, k54, Gexpr, b54⟩
  have Ltest : Df l.prog w K mg base 17 "_law_test" _ (spTest 8) := ⟨f55, _, m55, k55, all_test F55 Gtake b51 k51 m51 Gexpr b54 k54 m54 b55 m55 8, b55⟩
  have Lsteps : Df l.prog w K mg base 21 "_law_steps" _ (spSteps 3) := all_steps_ (n := 3) y_range y_tuple ⟨f56, _, m56, F56, b56⟩ Ltake Lof Lexpr Ltest
  have Lgroup : Df l.prog w K mg base 10 "_law_group" _ spGroup := ⟨f57, _, m57, k57, ok_group O F57 Ltake Lof Lexpr, b57⟩
  have Lans : Df l.prog w K mg base 2 "_law_answer" _ spAnswer := ⟨f58, _, m58, k58, ok_answer O F58 Ltake, b58⟩
  have Lroom : Df l.prog w K mg base 22 "_law_room" _ spRoom := ⟨f59, _, m59, k59, ok_room O y_sorted F59 Ltake Lof Lmix Lexpr Lsteps Lgroup, b59⟩
  have Lrooms : Df l.prog w K mg base 23 "_law_rooms" _ spLRooms := ⟨f60, _, m60, k60, ok_lrooms O y_range y_min F60 Ltake Lmix Lans Lroom, b60⟩
  have Lmany : Df l.prog w K mg base 6 "_law_many" _ (spLm 5) := all_lm ⟨f63, _, m63, F63, b63⟩ 5
  have Lother : Df l.prog w K mg base 2 "_law_other" _ spOt := ⟨f64, _, m64, k64, ok_ot O Ltake F64, b64⟩
  have Lth : Df l.prog w K mg base 3 "_law_things" _ (spTh C) := ⟨f66, _, m66, k66, ok_th O y_range Lof F66, b66⟩
  have Lrr : DfG l.prog w K mg base 12 "_law_room_right" _ (spRr C) := ⟨f67, _, m67, k67, ok_rr O y_repr TR ED RD LD NT Lmade Lmany F67, b67⟩
  have Lrf := ok_rf (P := l.prog) (w := w) (base := base) O RF m65 F65 b65 32
  have N : Fns l.prog w K mg base T C CP CN CG := ⟨O, y_range, y_repr, TR, TH, NT, NTD, Lbag, Ltake, Lrooms, Lmade, Lprog, MP, ⟨f28, _, mP, MkP, Gpx, b28⟩, Lother, Lrr, Lth, Lrf, ED, EDP, RDP, LDP, Mro, Mben, Mrms, ⟨f30, _, ⟨a30, i30, k30⟩, Grox, b30⟩, ⟨f31, _, ⟨a31, i31, k31⟩, Gbenx, b31⟩⟩
  exact ok_law N TB68 hm68 hu68 y_max y_min ⟨F68.ex⟩
end Any
open PySem PySem.W PyProof.Rows
set_option maxRecDepth 100000 in
set_option maxHeartbeats 0 in
theorem PySem.Challenge.cw_anystore_k04_rooms_and_programs_holds : PySem.Challenge.rw_anystore_k04_rooms_and_programs.Holds := by
  w_on; o_law; k_head; (case hw => w_witness2)
  k_fill
  refine Any.walk_gT (l := PySem.Challenge.rw_anystore_k04_rooms_and_programs) (n := 63) (k := 41) (x := "_law_script") rfl (by decide) rfl ⟨rfl, by decide, by decide⟩ (fun w h Y => PySem.W.km_in_of Y) ?F
  case F =>
    intro w mg fa h Y KX G hmg
    have hT8 := PySem.W.km_tabs_of Y
    refine' Any.all_mk KX G hmg ?xC ?xCP ?xCN ?xCG ?a1 ?l1 ?e1 ?k1 ?a2 ?l2 ?e2 ?k2 ?a3 ?l3 ?e3 ?k3 ?a4 ?l4 ?e4 ?k4 ?a5 ?l5 ?e5 ?k5 ?a6 ?l6 ?e6 ?k6 ?w6_0 ?w6_1 ?a7 ?l7 ?e7 ?k7 ?g7 ?v7 ?q7 ?n7 ?t7 ?a8 ?l8 ?e8 ?k8 ?g8 ?v8 ?q8 ?n8 ?t8 ?a9 ?l9 ?e9 ?k9 ?g9 ?v9 ?q9 ?n9 ?t9 ?a10 ?l10 ?e10 ?k10 ?a11 ?l11 ?e11 ?k11 ?a12 ?l12 ?e12 ?k12 ?a13 ?l13 ?e13 ?k13 ?a14 ?l14 ?e14 ?k14 ?a15 ?l15 ?e15 ?k15 ?a16 ?l16 ?e16 ?k16 ?a17 ?l17 ?e17 ?k17 ?a18 ?l18 ?e18 ?k18 ?a19 ?l19 ?e19 ?k19 ?a20 ?l20 ?e20 ?k20 ?a21 ?l21 ?e21 ?k21 ?a22 ?l22 ?e22 ?k22 ?a23 ?l23 ?e23 ?k23 ?a24 ?i24 ?l24 ?e24 ?k24 ?a25 ?i25 ?l25 ?e25 ?k25 ?a26 ?i26 ?l26 ?e26 ?k26 ?a27 ?i27 ?l27 ?e27 ?k27 ?a28 ?i28 ?l28 ?e28 ?k28 ?a29 ?i29 ?l29 ?e29 ?k29 ?a30 ?i30 ?l30 ?e30 ?k30 ?a31 ?i31 ?l31 ?e31 ?k31 ?a32 ?i32 ?l32 ?e32 ?k32 ?a33 ?i33 ?l33 ?e33 ?k33 ?a34 ?i34 ?l34 ?e34 ?k34 ?a35 ?i35 ?l35 ?e35 ?k35 ?a36 ?i36 ?l36 ?e36 ?k36 ?a37 ?l37 ?e37 ?k37 ?a38 ?l38 ?e38 ?k38 ?a39 ?l39 ?e39 ?k39 ?a40 ?l40 ?e40 ?k40 ?a41 ?l41 ?e41 ?k41 ?a42 ?l42 ?e42 ?k42 ?a43 ?l43 ?e43 ?k43 ?a44 ?l44 ?e44 ?k44 ?a45 ?l45 ?e45 ?k45 ?a46 ?l46 ?e46 ?k46 ?a47 ?l47 ?e47 ?k47 ?a48 ?l48 ?e48 ?k48 ?a49 ?l49 ?e49 ?k49 ?a50 ?l50 ?e50 ?k50 ?a51 ?l51 ?e51 ?k51 ?a52 ?l52 ?e52 ?k52 ?a53 ?l53 ?e53 ?k53 ?a54 ?l54 ?e54 ?k54 ?a55 ?l55 ?e55 ?k55 ?a56 ?l56 ?e56 ?k56 ?a57 ?l57 ?e57 ?k57 ?a58 ?l58 ?e58 ?k58 ?a59 ?l59 ?e59 ?k59 ?a60 ?l60 ?e60 ?k60 ?a61 ?l61 ?e61 ?k61 ?a62 ?l62 ?e62 ?k62 ?a63 ?l63 ?e63 ?k63 ?a64 ?l64 ?e64 ?k64 ?a65 ?l65 ?e65 ?k65 ?a66 ?l66 ?e66 ?k66 ?a67 ?l67 ?e67 ?k67 ?a68 ?l68 ?e68 ?k68 ?g68 ?v68 ?q68 ?n68 ?t68 ?da ?dl ?dk ?d_plus ?d_less ?d_times ?d_over ?d_rest ?rpg ?rhd ?rpo ?rsa ?rmk ?rkc ?r_name ?r_above ?r_boxes ?r_sayings ?r_ask ?r_told ?r_promise ?r_body ?rcl ?rmro ?rty ?rne ?rnN ?rnS ?rnT ?ppg ?phd ?ppo ?psa ?pmk ?pkc ?p_held ?p_drawn ?pcl ?pmro ?pty ?pne ?pnN ?pnS ?pnT ?x_get ?x_tk ?nL ?nsa ?nga ?ngg ?nf_name ?nft ?nkC ?nex ?nty2 ?nhd ?nsub ?ncl ?nmro ?gL ?gsa ?gga ?ggg ?gf_room ?gf_why ?gft ?gkC ?gex ?gty2 ?ghd ?gsub ?gcl ?gmro ?gbm ?nle ?vL ?vV ?noff ?dkd ?dsm ?kwn ?kwl ?kwc ?kwd ?ltn ?c_MOST_DEEP_TERM ?c_MOST_TERMS ?c_MOST_DEEP_STEP ?c_MOST_STEPS ?c_MOST_IN_BODY ?c_MOST_ROOMS ?c_MOST_FLOORS ?c_MOST_BOXES ?c_MOST_SAYINGS ?c_MOST_BOUND ?z1 ?z2 ?z3 ?z4 ?z5 ?z6 ?z7 ?z8 ?z9 ?z10 ?z11 ?z12 ?z13 ?z14 ?z15 ?z16 ?z17 ?z18 ?z19 ?x_ne7_8 ?x_ne7_9 ?x_ne7_68 ?x_ne8_9 ?x_ne8_68 ?x_ne9_68
    (case xC => k_is)
    (case xCP => k_is)
    (case xCN => k_is)
    (case xCG => k_is)
    (case a1 => k_is)
    (case l1 => k_is)
    (case e1 => k_is)
    (case k1 => k_is)
    (case a2 => k_is)
    (case l2 => k_is)
    (case e2 => k_is)
    (case k2 => k_is)
    (case a3 => k_is)
    (case l3 => k_is)
    (case e3 => k_is)
    (case k3 => k_is)
    (case a4 => k_is)
    (case l4 => k_is)
    (case e4 => k_is)
    (case k4 => k_is)
    (case a5 => k_is)
    (case l5 => k_is)
    (case e5 => k_is)
    (case k5 => k_is)
    (case a6 => k_is)
    (case l6 => k_is)
    (case e6 => k_is)
    (case k6 => k_is)
    (case w6_0 => k_is)
    (case w6_1 => k_is)
    (case a7 => k_is)
    (case l7 => k_is)
    (case e7 => k_is)
    (case k7 => k_is)
    (case g7 => k_is)
    (case v7 => rfl)
    (case q7 => kernel_rfl)
    (case n7 => kernel_rfl)
    (case t7 => exact hT8 _ (by k_mem))
    (case a8 => k_is)
    (case l8 => k_is)
    (case e8 => k_is)
    (case k8 => k_is)
    (case g8 => k_is)
    (case v8 => rfl)
    (case q8 => kernel_rfl)
    (case n8 => kernel_rfl)
    (case t8 => exact hT8 _ (by k_mem))
    (case a9 => k_is)
    (case l9 => k_is)
    (case e9 => k_is)
    (case k9 => k_is)
    (case g9 => k_is)
    (case v9 => rfl)
    (case q9 => kernel_rfl)
    (case n9 => kernel_rfl)
    (case t9 => exact hT8 _ (by k_mem))
    (case a10 => k_is)
    (case l10 => k_is)
    (case e10 => k_is)
    (case k10 => k_is)
    (case a11 => k_is)
    (case l11 => k_is)
    (case e11 => k_is)
    (case k11 => k_is)
    (case a12 => k_is)
    (case l12 => k_is)
    (case e12 => k_is)
    (case k12 => k_is)
    (case a13 => k_is)
    (case l13 => k_is)
    (case e13 => k_is)
    (case k13 => k_is)
    (case a14 => k_is)
    (case l14 => k_is)
    (case e14 => k_is)
    (case k14 => k_is)
    (case a15 => k_is)
    (case l15 => k_is)
    (case e15 => k_is)
    (case k15 => k_is)
    (case a16 => k_is)
    (case l16 => k_is)
    (case e16 => k_is)
    (case k16 => k_is)
    (case a17 => k_is)
    (case l17 => k_is)
    (case e17 => k_is)
    (case k17 => k_is)
    (case a18 => k_is)
    (case l18 => k_is)
    (case e18 => k_is)
    (case k18 => k_is)
    (case a19 => k_is)
    (case l19 => k_is)
    (case e19 => k_is)
    (case k19 => k_is)
    (case a20 => k_is)
    (case l20 => k_is)
    (case e20 => k_is)
    (case k20 => k_is)
    (case a21 => k_is)
    (case l21 => k_is)
    (case e21 => k_is)
    (case k21 => k_is)
    (case a22 => k_is)
    (case l22 => k_is)
    (case e22 => k_is)
    (case k22 => k_is)
    (case a23 => k_is)
    (case l23 => k_is)
    (case e23 => k_is)
    (case k23 => k_is)
    (case a24 => k_is)
    (case i24 => k_is)
    (case l24 => k_is)
    (case e24 => k_is)
    (case k24 => k_is)
    (case a25 => k_is)
    (case i25 => k_is)
    (case l25 => k_is)
    (case e25 => k_is)
    (case k25 => k_is)
    (case a26 => k_is)
    (case i26 => k_is)
    (case l26 => k_is)
    (case e26 => k_is)
    (case k26 => k_is)
    (case a27 => k_is)
    (case i27 => k_is)
    (case l27 => k_is)
    (case e27 => k_is)
    (case k27 => k_is)
    (case a28 => k_is)
    (case i28 => k_is)
    (case l28 => k_is)
    (case e28 => k_is)
    (case k28 => k_is)
    (case a29 => k_is)
    (case i29 => k_is)
    (case l29 => k_is)
    (case e29 => k_is)
    (case k29 => k_is)
    (case a30 => k_is)
    (case i30 => k_is)
    (case l30 => k_is)
    (case e30 => k_is)
    (case k30 => k_is)
    (case a31 => k_is)
    (case i31 => k_is)
    (case l31 => k_is)
    (case e31 => k_is)
    (case k31 => k_is)
    (case a32 => k_is)
    (case i32 => k_is)
    (case l32 => k_is)
    (case e32 => k_is)
    (case k32 => k_is)
    (case a33 => k_is)
    (case i33 => k_is)
    (case l33 => k_is)
    (case e33 => k_is)
    (case k33 => k_is)
    (case a34 => k_is)
    (case i34 => k_is)
    (case l34 => k_is)
    (case e34 => k_is)
    (case k34 => k_is)
    (case a35 => k_is)
    (case i35 => k_is)
    (case l35 => k_is)
    (case e35 => k_is)
    (case k35 => k_is)
    (case a36 => k_is)
    (case i36 => k_is)
    (case l36 => k_is)
    (case e36 => k_is)
    (case k36 => k_is)
    (case a37 => k_is)
    (case l37 => k_is)
    (case e37 => k_is)
    (case k37 => k_is)
    (case a38 => k_is)
    (case l38 => k_is)
    (case e38 => k_is)
    (case k38 => k_is)
    (case a39 => k_is)
    (case l39 => k_is)
    (case e39 => k_is)
    (case k39 => k_is)
    (case a40 => k_is)
    (case l40 => k_is)
    (case e40 => k_is)
    (case k40 => k_is)
    (case a41 => k_is)
    (case l41 => k_is)
    (case e41 => k_is)
    (case k41 => k_is)
    (case a42 => k_is)
    (case l42 => k_is)
    (case e42 => k_is)
    (case k42 => k_is)
    (case a43 => k_is)
    (case l43 => k_is)
    (case e43 => k_is)
    (case k43 => k_is)
    (case a44 => k_is)
    (case l44 => k_is)
    (case e44 => k_is)
    (case k44 => k_is)
    (case a45 => k_is)
    (case l45 => k_is)
    (case e45 => k_is)
    (case k45 => k_is)
    (case a46 => k_is)
    (case l46 => k_is)
    (case e46 => k_is)
    (case k46 => k_is)
    (case a47 => k_is)
    (case l47 => k_is)
    (case e47 => k_is)
    (case k47 => k_is)
    (case a48 => k_is)
    (case l48 => k_is)
    (case e48 => k_is)
    (case k48 => k_is)
    (case a49 => k_is)
    (case l49 => k_is)
    (case e49 => k_is)
    (case k49 => k_is)
    (case a50 => k_is)
    (case l50 => k_is)
    (case e50 => k_is)
    (case k50 => k_is)
    (case a51 => k_is)
    (case l51 => k_is)
    (case e51 => k_is)
    (case k51 => k_is)
    (case a52 => k_is)
    (case l52 => k_is)
    (case e52 => k_is)
    (case k52 => k_is)
    (case a53 => k_is)
    (case l53 => k_is)
    (case e53 => k_is)
    (case k53 => k_is)
    (case a54 => k_is)
    (case l54 => k_is)
    (case e54 => k_is)
    (case k54 => k_is)
    (case a55 => k_is)
    (case l55 => k_is)
    (case e55 => k_is)
    (case k55 => k_is)
    (case a56 => k_is)
    (case l56 => k_is)
    (case e56 => k_is)
    (case k56 => k_is)
    (case a57 => k_is)
    (case l57 => k_is)
    (case e57 => k_is)
    (case k57 => k_is)
    (case a58 => k_is)
    (case l58 => k_is)
    (case e58 => k_is)
    (case k58 => k_is)
    (case a59 => k_is)
    (case l59 => k_is)
    (case e59 => k_is)
    (case k59 => k_is)
    (case a60 => k_is)
    (case l60 => k_is)
    (case e60 => k_is)
    (case k60 => k_is)
    (case a61 => k_is)
    (case l61 => k_is)
    (case e61 => k_is)
    (case k61 => k_is)
    (case a62 => k_is)
    (case l62 => k_is)
    (case e62 => k_is)
    (case k62 => k_is)
    (case a63 => k_is)
    (case l63 => k_is)
    (case e63 => k_is)
    (case k63 => k_is)
    (case a64 => k_is)
    (case l64 => k_is)
    (case e64 => k_is)
    (case k64 => k_is)
    (case a65 => k_is)
    (case l65 => k_is)
    (case e65 => k_is)
    (case k65 => k_is)
    (case a66 => k_is)
    (case l66 => k_is)
    (case e66 => k_is)
    (case k66 => k_is)
    (case a67 => k_is)
    (case l67 => k_is)
    (case e67 => k_is)
    (case k67 => k_is)
    (case a68 => k_is)
    (case l68 => k_is)
    (case e68 => k_is)
    (case k68 => k_is)
    (case g68 => k_is)
    (case v68 => rfl)
    (case q68 => kernel_rfl)
    (case n68 => kernel_rfl)
    (case t68 => exact hT8 _ (by k_mem))
    (case da => k_is)
    (case dl => k_is)
    (case dk => k_keys)
    (case d_plus => k_is)
    (case d_less => k_is)
    (case d_times => k_is)
    (case d_over => k_is)
    (case d_rest => k_is)
    (case rpg => k_is)
    (case rhd => k_is)
    (case rpo => k_is)
    (case rsa => k_is)
    (case rmk => k_is)
    (case rkc => k_is)
    (case r_name => k_is)
    (case r_above => k_is)
    (case r_boxes => k_is)
    (case r_sayings => k_is)
    (case r_ask => k_is)
    (case r_told => k_is)
    (case r_promise => k_is)
    (case r_body => k_is)
    (case rcl => k_is)
    (case rmro => k_is)
    (case rty => k_is)
    (case rne => k_is)
    (case rnN => k_is)
    (case rnS => k_is)
    (case rnT => k_is)
    (case ppg => k_is)
    (case phd => k_is)
    (case ppo => k_is)
    (case psa => k_is)
    (case pmk => k_is)
    (case pkc => k_is)
    (case p_held => k_is)
    (case p_drawn => k_is)
    (case pcl => k_is)
    (case pmro => k_is)
    (case pty => k_is)
    (case pne => k_is)
    (case pnN => k_is)
    (case pnS => k_is)
    (case pnT => k_is)
    (case x_get => k_is)
    (case x_tk => k_is)
    (case nL => k_is)
    (case nsa => k_is)
    (case nga => k_is)
    (case ngg => k_is)
    (case nf_name => k_is)
    (case nft => k_is)
    (case nkC => k_is)
    (case nex => k_is)
    (case nty2 => k_is)
    (case nhd => k_is)
    (case nsub => first | rfl | k_is)
    (case ncl => k_is)
    (case nmro => k_is)
    (case gL => k_is)
    (case gsa => k_is)
    (case gga => k_is)
    (case ggg => k_is)
    (case gf_room => k_is)
    (case gf_why => k_is)
    (case gft => k_is)
    (case gkC => k_is)
    (case gex => k_is)
    (case gty2 => k_is)
    (case ghd => k_is)
    (case gsub => first | rfl | k_is)
    (case gcl => k_is)
    (case gmro => k_is)
    (case gbm => rfl)
    (case nle => k_is)
    (case vL => k_is)
    (case vV => k_is)
    (case noff => k_is)
    (case dkd => exact ⟨⟨_, rfl⟩, ⟨_, rfl⟩, ⟨_, rfl⟩, ⟨_, rfl⟩, ⟨_, rfl⟩, trivial⟩)
    (case dsm => rfl)
    (case kwn => k_is)
    (case kwl => k_is)
    (case kwc => rfl)
    (case kwd => rfl)
    (case ltn => k_is)
    (case c_MOST_DEEP_TERM => k_is)
    (case c_MOST_TERMS => k_is)
    (case c_MOST_DEEP_STEP => k_is)
    (case c_MOST_STEPS => k_is)
    (case c_MOST_IN_BODY => k_is)
    (case c_MOST_ROOMS => k_is)
    (case c_MOST_FLOORS => k_is)
    (case c_MOST_BOXES => k_is)
    (case c_MOST_SAYINGS => k_is)
    (case c_MOST_BOUND => k_is)
    (case z1 => k_is)
    (case z2 => k_is)
    (case z3 => k_is)
    (case z4 => k_is)
    (case z5 => k_is)
    (case z6 => k_is)
    (case z7 => k_is)
    (case z8 => k_is)
    (case z9 => k_is)
    (case z10 => k_is)
    (case z11 => k_is)
    (case z12 => k_is)
    (case z13 => k_is)
    (case z14 => k_is)
    (case z15 => k_is)
    (case z16 => k_is)
    (case z17 => k_is)
    (case z18 => k_is)
    (case z19 => k_is)
    (case x_ne7_8 => exact (by decide))
    (case x_ne7_9 => exact (by decide))
    (case x_ne7_68 => exact (by decide))
    (case x_ne8_9 => exact (by decide))
    (case x_ne8_68 => exact (by decide))
    (case x_ne9_68 => exact (by decide))
#print axioms PySem.Challenge.cw_anystore_k04_rooms_and_programs_holds
