import PyProof.Rows.All
import Wide.All
import OpenK.AllK
import Wide.FinOn
import HandS.ForMost
import HandS.Wide
import HandS.Defaults
import HandS.More
import HandS.RaiseMore
import HandS.Style
import PyProof.ReprRoads
import PyProof.SliceMore
import HandS.IterVal
import HandS.Nested
import HandS.Conv
import KE.KDictList
import KE.KNestM
import HandS.EndTab
import HandS.NoneIn
import HandS.FStr
import PyProof.Rows.ReprOcc
import PyProof.StrBlock2
import PyProof.StrBlockL
import PyProof.StrLaws
import PyProof.FitsReplace
import HandS.MakeKwOnly
import HandS.SetKeys
import PyProof.P3Eq
import PySem.Challenge.RW_anystore_k31_expressions_written
set_option Elab.async false
set_option linter.all false
set_option maxRecDepth 100000
namespace Any
open L2 PySem PyProof.Rows
open PySem.Spec

/-! ### the texts of data (repr) -/
/-- a thing without parts -/
inductive Flat : V → PyData → Prop
  | non : Flat .non .none
  | bl (b : Bool) : Flat (.bl b) (.bool b)
  | int (i : Int) : Flat (.int i) (.int i)
  | str (x : Str) : Flat (.str x) (.str x)
def keyD : Key → PyData
  | .inl i => .int i
  | .inr x => .str x
/-- what repr may be asked of: lists and tuples at any depth, dicts of flat things -/
inductive Shows (K : PySem.W.Frag) (H : Hp) : Addr → PyData → Prop
  | seq {a : Addr} {d : PyData} : Dp K H (.ref a) d → d.hasDict = false → Shows K H a d
  | dct {a : Addr} {kvs : List (Key × V)} {ds : List (PyData × PyData)} : H a = some (.dK kvs) →
      Paired (fun (p : Key × V) (q : PyData × PyData) => q.1 = keyD p.1 ∧ Flat p.2 q.2) kvs ds → Shows K H a (.dict ds)

section
variable {P : Program} {w : World} {h : Heap}
theorem flat_reads {v : V} {u : Value} {d : PyData} (f : Flat v d) (r : RelV v u) : Reads h u d [] := by
  cases f with
  | non => cases r; exact .none
  | bl b => cases r; exact .bool b
  | int i => obtain ⟨t, rfl⟩ := r; exact .int i t
  | str x => obtain ⟨t, rfl⟩ := r; exact .str x t
theorem key_reads {k : Key} {u : Value} (e : keyIs k u = true) : Reads h u (keyD k) [] := by
  rcases keyIs_shape e with ⟨i, t, rfl, rfl⟩ | ⟨x, t, rfl, rfl⟩
  · exact .int i t
  · exact .str x t
theorem dct_reads : ∀ {kvs : List (Key × V)} {ds : List (PyData × PyData)} {vs : List (Key × Value)} {es : List DictEntry},
    Paired (fun (p : Key × V) (q : PyData × PyData) => q.1 = keyD p.1 ∧ Flat p.2 q.2) kvs ds → KV kvs vs → Pairs (mixKind P w) es vs →
    ReadsAll h (es.map (·.key)) (ds.map (·.1)) [] ∧ ReadsAll h (es.map (·.val)) (ds.map (·.2)) []
  | _, _, _, _, .nil, r, q => by
    cases r; cases q; exact ⟨.nil, .nil⟩
  | _, _, _, _, .cons z zs, r, q => by
    cases r with
    | cons r1 r2 =>
      cases q with
      | cons q1 q2 q3 =>
        obtain ⟨a, b⟩ := dct_reads zs r2 q3
        rename_i p ps d dd vv vr e es
        have k1 : keyIs vv.1 e.key = true := q1
        refine ⟨?_, ?_⟩
        · have c := ReadsAll.cons (as := []) (bs := []) (key_reads (h := h) k1) a
          rw [← r1.1, ← z.1] at c
          exact c
        · have c := ReadsAll.cons (as := []) (bs := []) (flat_reads (h := h) z.2 r1.2) b
          rw [← q2] at c
          exact c
end

section
variable {X : Cx}
def rRepr (K : PySem.W.Frag) : List V → Hp → VK → Prop := fun vs H Q => ∃ a d, vs = [.ref a] ∧ Shows K H a d ∧ d.showable = true ∧ d.depth ≤ 60 ∧ d.shown.length ≤ sizeLine ∧ Q (.str d.shown) H
theorem call_repr (hG : X.A.guards = some []) (hu : X.A.units + 70 < cLine) : CallR X (.builtin "repr") (rRepr X.K) := by
  intro pins s σ H xs us Q I r h
  obtain ⟨a, d, rfl, hd, hs, hdp, hz, q⟩ := h
  obtain ⟨u, rfl, ru⟩ := vals1 r
  cases ru
  have key : ∃ as, Reads s.heap (.ref a) d as ∧ (d.hasDict = true → sysModules ∉ as) := by
    cases hd with
    | seq h1 h2 =>
      obtain ⟨as, q1⟩ := Dp.reads I d _ _ h1 rfl
      exact ⟨as, q1, fun z => by rw [h2] at z; cases z⟩
    | dct h1 h2 =>
      obtain ⟨_, ns, vs, kv, o, es, ep, e1, e2, e3, _, e5, _⟩ := I.hok a _ h1
      obtain ⟨q1, q2⟩ := dct_reads (h := s.heap) h2 kv e5
      refine ⟨_, Reads.dict e1 e2.1 e3 q1 q2, fun _ z => ?_⟩
      rcases List.mem_append.mp z with z | z
      · rcases List.mem_cons.mp z with z | z
        · rw [← z] at ns
          simp at ns
        · cases z
      · cases z
  obtain ⟨as, rd, sm⟩ := key
  refine repr_of_reads' rd hs sm hG (by omega) (fun _ _ e => e) (fun h' u tk hk => ?_) hz
  exact ⟨.str d.shown, H, I.kept hk, ⟨_, rfl⟩, q⟩

/-! ### xs[::e], e being 1 or -1 -/
theorem pick_one (items : Array Value) : slicePick items none none (some 1) = items := by
  have e : slicePick items none none (some 1) = slicePick items none none none := rfl
  rw [e, slicePick_all]
def tStep (K : PySem.W.Frag) (te ts : TE) : TE := fun σ H Q => te σ H fun x H1 => ts σ H1 fun y H2 => ∃ a xs, x = .ref a ∧ SqL K H2 a xs ∧
  ((y = .int 1 ∧ ∀ p, H2 p = none → Q (.ref p) (upd H2 p (.lst xs))) ∨ (y = .int (-1) ∧ ∀ p, H2 p = none → Q (.ref p) (upd H2 p (.lst xs.reverse))))
theorem pe_step {e st : Expr} {te ts : TE} {p3 pos : Pos} (he : PE X e te) (hst : PE X st ts) :
    PE X (.Subscript e (.Slice none none (some st) p3) pos) (tStep X.K te ts) := by
  refine ⟨fun pins s σ H Q I h => ?_⟩
  refine Subscript_ (thn (he.run pins s σ H _ I h) fun v s1 ⟨x, H1, I1, r1, q1⟩ => ?_)
  refine wpAny_Slice (thn (po_none.run pins s1 σ H1 (fun o H2 => o = none ∧ H2 = H1) I1 ⟨rfl, rfl⟩) fun vl s2 ⟨l, H2, I2, pl, el, e2⟩ => ?_)
  subst el e2
  refine thn (po_none.run pins s2 σ H2 (fun o H3 => o = none ∧ H3 = H2) I2 ⟨rfl, rfl⟩) fun vu s3 ⟨u, H3, I3, pu, eu, e3⟩ => ?_
  subst eu e3
  rw [evalPart_some]
  refine thn (hst.run pins s3 σ H3 _ I3 q1) fun vs s4 ⟨y, H4, I4, r4, a, xs, ex, hx, q⟩ => ?_
  subst ex
  cases r1
  have I5 : Inv X pins σ H4 { s4 with heap := s4.heap.push { cls := .type "slice", data := .fields #[vl, vu, vs] } } := I4.kept (t' := s4.toks) fun b ob q => Heap.get?_push_of_some _ q
  obtain ⟨its, r, ht, hz⟩ := I5.list hx
  have hlen := r.length
  have two : ∃ k : Int, y = .int k ∧ k ≠ 0 ∧ ∃ zs ws, Vals ws zs ∧ slicePick its.toArray none none (some k) = zs.toArray ∧ ws.length ≤ sizeLine ∧ ∀ p, H4 p = none → Q (.ref p) (upd H4 p (.lst ws)) := by
    rcases q with ⟨ey, q⟩ | ⟨ey, q⟩
    · exact ⟨1, ey, by decide, its, xs, r, pick_one _, hz, q⟩
    · exact ⟨-1, ey, by decide, its.reverse, xs.reverse, r.reverse, by rw [PySem.W.krv_pick], by rw [List.length_reverse]; exact hz, q⟩
  obtain ⟨k, ey, hk, zs, ws, rz, epk, hzs, qq⟩ := two
  subst ey
  obtain ⟨t, rfl⟩ := (show ∃ t, vs = Value.int k t from r4)
  show wpAny (model X.prog X.w) X.A (subscriptTail e (.Slice none none (some st) p3) (.ref a) (.ref s4.heap.objs.size)) (EP X pins σ Q) X.xe _
  refine tail_any (ops := [.ref a, .ref s4.heap.objs.size]) ht.isList.typeIs (PySem.slot_list_getitem.lookup) ?_ (by with_unfolding_all rfl)
  refine wpAny_getItem_list_slice ht.isList (Heap.IsSliceOf.new _ vl vu (.int k t)) pl pu (IsPart.int k t) (by intro z; exact hk (Option.some.inj z)) ?_ (by rw [List.size_toArray]; omega)
  rw [epk]
  refine ⟨.ref _, _, I5.laid (t' := s4.toks) (o := .lst ws) (fun b ob q => Heap.get?_push_of_some _ q) (Nat.le_refl _) ?_, rfl, qq _ (I5.hok.fresh (Nat.le_refl _))⟩
  exact ⟨hzs, _, 0, rz, Heap.get?_push_size _ rfl⟩

/-! ### great powers -/
def CPowW (i j : Int) : Prop := 0 ≤ j ∧ (Builtin.Int.intBits i : Int) * j ≤ 2 ^ 27
theorem op_powW : OpR X (binaryOp .Pow) (rI CPowW fun i j => .int (i ^ j.toNat)) := opI fun _ _ _ _ _ _ _ hc q => pow_int hc.1 hc.2 q
end
end Any
namespace Any
open L2 PySem PyProof.Rows
open PySem.Spec

/-! ### defs that run where no repr is under way -/
section
variable (P : Program) (w : World) (K : PySem.W.Frag) (mg : Str → Option Value) (base : Heap)
/-- as FnOk, for callers with no guard -/
structure FnG (C : CXT) (k : Nat) (f : Addr) (fd : FuncData) (ps : List Str) (sp : Sp) : Prop where
  len : ∀ vs H Q E, sp vs H Q E → vs.length = ps.length
  go : ∀ (A : Around) (out : List Env) (s : Shared) (H : Hp) (args : Args) (us : List Value) (vs : List V) (Q : VK) (E : XK), A.guards = some [] → Room k A →
    Env0 P w K mg base A out s H → BindsTo s fd args (ps.zip us) → Vals vs us → sp vs H Q E → codeAny (model P w) A (.call (.ref f) args) (CR C out P w H s Q E) s
end
section
variable {P : Program} {w : World} {K : PySem.W.Frag} {mg : Str → Option Value} {base : Heap}
theorem FnG.of {C : CXT} {k : Nat} {f : Addr} {fd : FuncData} {ps : List Str} {sp : Sp} (F : FnOk P w K mg base C k f fd ps sp) : FnG P w K mg base C k f fd ps sp :=
  ⟨F.len, fun A out s H args us vs Q E _ hr => F.run A out s H args us vs Q E hr⟩
theorem FnG.mono {C : CXT} {j k : Nat} {f : Addr} {fd : FuncData} {ps : List Str} {sp : Sp} (F : FnG P w K mg base C j f fd ps sp) (h : j ≤ k) : FnG P w K mg base C k f fd ps sp :=
  ⟨F.len, fun A out s H args us vs Q E hg hr => F.go A out s H args us vs Q E hg (hr.mono h)⟩

/-- a def's body, under no guard -/
theorem fn_g {C : CXT} {k : Nat} {f : Addr} {nm ql : Str} {ar : Arguments} {bd : List Stmt} {sc : Scope} {v1 v2 v3 v4 v5 v6 v7 : Value} {a1 a2 : Option Addr} {sl : Array (Option Value)} {N ps : List Str} {sp : Sp}
    (at_ : K.lookup f = some ⟨v7, a2, .func (PySem.W.fnOf nm ql ar bd sc v1 v2 v3 v4 a1 v5 v6), sl⟩) (code : PySem.W.codeIn K v5 ql = true) (S : FnScope N ps sc)
    (ln : ∀ vs H Q E, sp vs H Q E → vs.length = ps.length)
    (hb : ∀ (A : Around) (out : List Env) (s : Shared) (H : Hp) (vs : List V) (Q : VK) (E : XK), A.guards = some [] → Room k (A.deeper (envOfC ql sc s.heap.objs.size f v5)) → sp vs H Q E →
      ∃ t, PSs (cxOf C P w K mg base N ql sc f v5 A out s H E) bd t ∧ t ⟨fun _ H' => Q .non H', Q, fun _ _ => False, fun _ _ => False⟩ (start N vs) H) :
    FnG P w K mg base C (k + 1) f (PySem.W.fnOf nm ql ar bd sc v1 v2 v3 v4 a1 v5 v6) ps sp where
  len := ln
  go A out s H args us vs Q E hg hr e0 hbi rv hsp := by
    have kx : K.In s.heap := e0.mod.kin.keeps (fun b o z => (e0.bs b o z).1)
    have nl : s.heap.NoLimit := e0.mod.nolimit.keeps (fun b o z => (e0.bs b o z).1)
    have kd : ∀ y ∈ ps.zip us, sc.names.lookup y.1 = some .local ∨ (sc.names.lookup y.1 = some .cell ∧ ((cellsFrom (s.heap.objs.size + 1) sc.names []).lookup y.1).isSome = true) := by
      rintro ⟨n, v⟩ hy
      have z := S.par n (List.of_mem_zip hy).1
      exact z.elim .inl (fun z => .inr ⟨z, PySem.W.cellsFrom_some _ _ _ (.inl z)⟩)
    refine codeAny_call_function hr.depth (kx _ _ at_) rfl S.co S.gen rfl (PySem.W.codeRec_of kx code) (hbi _ _ _ _ (wpAny_newFunctionEnv_cells S.kind kd (fun env he s1 x => ?_)))
    subst he
    obtain ⟨t, ht, hq⟩ := hb A out s H vs Q E hg (hr.deeper _) hsp
    have I := inv_start (CX := C) (E := E) S hr.hd e0 (ln _ _ _ _ hsp) rv x
    refine ⟨nl.keeps x.toInCall.keep, codeAny_func (wpAny_mono (ht.run [] s1 (start N vs) H _ I hq) (fun fl s' hs => ?_) (fun _ _ z => z))⟩
    cases fl with
    | ret u => obtain ⟨v, σ', H', J, r', q⟩ := hs; exact ⟨v, H', J.os, J.bare, J.base, J.hok, r', q⟩
    | next => obtain ⟨σ', H', J, q⟩ := hs; exact ⟨.non, H', J.os, J.bare, J.base, J.hok, rfl, q⟩
    | brk => exact hs.elim fun _ z => z.elim fun _ z => z.2.elim
    | cont => exact hs.elim fun _ z => z.elim fun _ z => z.2.elim
theorem fun_g {x ql : Str} {st : Stmt} {f : Addr} {fd : FuncData} {N ps : List Str} {k : Nat} {sp : Sp} (F : Fun K x ql st f fd) (S : FnScope N ps (defScope st)) (ln : ∀ vs H Q E, sp vs H Q E → vs.length = ps.length)
    (hb : ∀ (cv : Value) (A : Around) (out : List Env) (s : Shared) (H : Hp) (vs : List V) (Q : VK) (E : XK), A.guards = some [] → Room k (A.deeper (envOfC ql (defScope st) s.heap.objs.size f cv)) → sp vs H Q E →
      ∃ t, PSs (cxOf CX0 P w K mg base N ql (defScope st) f cv A out s H E).nox (defBody st) t ∧ t ⟨fun _ H' => Q .non H', Q, fun _ _ => False, fun _ _ => False⟩ (start N vs) H) : FnG P w K mg base CX0 (k + 1) f fd ps sp := by
  obtain ⟨_, _, _, _, _, _, cv, _, _, rfl, lk, hc⟩ := F.ex
  refine fn_g lk hc S ln fun A out s H vs Q E hg hr hs => ?_
  obtain ⟨t, h, q⟩ := hb cv A out s H vs Q E hg hr hs
  exact ⟨t, h.nox, q⟩
end

section
variable {X : Cx} {C : CXT} {k : Nat} {f : Addr} {fd : FuncData} {ps : List Str} {sp : Sp} {ds : List V} {us0 : List Value} {E : XK} {x : Str} {p pos : Pos} {e : Expr} {es : List Expr} {t : TA}
/-- a call of such a def -/
theorem pe_callG (F : FnG X.prog X.w X.K X.mg X.base C k f fd ps sp) (hG : X.A.guards = some []) (hr : Room k X.A) (hg : Gl X x) (hm : X.mg x = some (.ref f)) (hk : PySem.W.keepIn X.K (.ref f) = true) (hb : Binds X.K fd ps us0) (hd : Vals ds us0)
    (hx : Passes C X E) (ha : PA X (e :: es) t) (h1 : (x == ("__debug__" : Str)) = false := by decide) (h2 : starEach (e :: es) X.env = (false, eval e X.env) :: starEach es X.env := by rfl)
    (h3 : (backTo pos (starEach es X.env)).any (·.1) = false := by rfl) : PE X (.Call (.Name x p) (e :: es) [] pos) (tCall sp ds E t) where
  run pins s σ H Q I h := by
    refine wpAny_Call_Name_kw (ld_glob I hg hm (PySem.W.callWith_K (h₀ := X.base) I.ok.mod.kin hk (thn (ha.run pos pins s σ H _ I h) ?_) h2 h3) h1)
    rintro us s1 ⟨vs, H1, I1, rv, q⟩
    have rr := rv.append hd
    have hl : (us ++ us0).length = ps.length := rr.length.symm.trans (F.len _ _ _ _ q)
    refine ⟨I1.kIn, wpAny_call (codeAny_mono (F.go X.A X.stack s1 H1 _ _ _ Q E hG hr I1.env0 (hb s1 us I1.kIn hl) rr q) ?_)⟩
    rintro (err | fl) s' hq
    · exact hx pins σ H1 s1 err s' I1 hq
    · cases fl with
      | ret u => exact I1.after hq
      | next => cases hq
      | brk => cases hq
      | cont => cases hq

/-- x(e, ..), x a name that holds one of several defs -/
def tCallS (X : Cx) (C : CXT) (k i : Nat) (E : XK) (t : TA) : TE := fun σ H Q => ∃ f sp, FnR X.prog X.w X.K X.mg X.base C k f sp ∧ PySem.W.keepIn X.K (.ref f) = true ∧ σ[i]? = some (some (.ref f)) ∧ t σ H fun vs H1 => sp vs H1 Q E
theorem pe_callS {i : Nat} (hr : Room k X.A) (hx : Passes C X E) (hN : X.N[i]? = some x) (hv : Vis X.env.scope x) (ha : PA X (e :: es) t)
    (h1 : (x == ("__debug__" : Str)) = false := by decide) (h4 : (x == ("__classdict__" : Str)) = false := by decide) (h2 : starEach (e :: es) X.env = (false, eval e X.env) :: starEach es X.env := by rfl)
    (h3 : (backTo pos (starEach es X.env)).any (·.1) = false := by rfl) : PE X (.Call (.Name x p) (e :: es) [] pos) (tCallS X C k i E t) where
  run pins s σ H Q I h := by
    obtain ⟨f, sp, F, hk, hs, h⟩ := h
    exact (ItX.pe_callV (i := i) (p := p) F hr hk hx hN hv ha h1 h4 h2 h3).run pins s σ H Q I ⟨hs, h⟩

/-- f(k = v, ..) alone -/
theorem pe_callK0 {ks : List Str} {g : List Value → List Value → List Value} {gV : List V → List V → List V} {kws : List Keyword} {tk : TA} (F : FnOk X.prog X.w X.K X.mg X.base C k f fd ps sp) (hr : Room k X.A) (hg : Gl X x) (hm : X.mg x = some (.ref f))
    (hk : PySem.W.keepIn X.K (.ref f) = true) (hb : KBn X.K fd ps 0 ks g gV) (hx : Passes C X E) (hkw : PK X kws tk) (hall : (backToKw pos (keywordEach kws X.env)).all (·.1.isSome) = true := by rfl)
    (hks : (backToKw pos (keywordEach kws X.env)).filterMap (·.1) = ks := by rfl) (h1 : (x == ("__debug__" : Str)) = false := by decide)
    (h3 : ((backTo pos (starEach [] X.env)).any (·.1) || (backToKw pos (keywordEach kws X.env)).any (·.1.isNone)) = false := by rfl) :
    PE X (.Call (.Name x p) [] kws pos) (fun σ H Q => tk σ H fun zs H1 => zs.length = ks.length ∧ sp (gV [] zs) H1 Q E) where
  run pins s σ H Q I h := by
    refine wpAny_Call_Name_kw (ld_glob I hg hm ?_ h1)
    refine PySem.W.callWith_KW0 (h₀ := X.base) I.ok.mod.kin hk hall (thn (hkw.run pos pins s σ H _ I h) ?_) h3
    rintro ws s1 ⟨zs, H1, I1, rz, l1, q⟩
    refine ⟨I1.kIn, ?_⟩
    rw [hks]
    exact run_fnN (us := []) (vs := []) F hr hb hx I1 .nil rz rfl l1 q
end

/-! ### the law's call, under no guard -/
section
variable {P : Program} {w : World} {K : PySem.W.Frag} {mg mb : Str → Option Value}
theorem law_g {C : CXT} {k : Nat} {fa a : Addr} {fd : FuncData} {x : Str} {sp : Sp} {s : Shared} {vs : List Value} {ns : List Int}
    (kx : K.In s.heap) (g1 : s.heap.Ns mainGlobals mg) (g2 : s.heap.Ns builtinsNs mb) (g3 : ∀ x : Str, x ≠ "__name__" → mb x = bootBuiltins x) (g4 : s.heap.NoLimit) (g5 : s.gens = #[])
    (la : s.heap.get? a = some { cls := .type "list", data := .seq vs.toArray }) (li : IntsAre vs ns) (ll : ns.length ≤ sizeLine) (hr : Room k callerA)
    (F : ∀ base : Heap, K.In base → base.Ns mainGlobals mg → FnG P w K mg base C k fa fd [x] sp) (bd : ∀ (s : Shared) (u : Value), BindsTo s fd ⟨[u], []⟩ [(x, u)])
    (want : ∀ H : Hp, Only H → SqL K H a (ns.map V.int) → sp [.ref a] H (fun v _ => v = .bl true) fun _ _ _ => False)
    (noC : ∀ H e s', C [] H s (fun _ _ _ => False) e s' → False) :
    codeAny (model P w) callerA (.call (.ref fa) ⟨[.ref a], []⟩) (fun r s' => r = .ok (.ret (.bool true)) ∧ OldK s.heap s'.heap ∧ s'.os = s.os ∧ AllBare s'.gens) s := by
  -- one abstract heap: the script, if the written part has it not
  have pick : ∃ H : Hp, Only H ∧ SqL K H a (ns.map V.int) ∧ HOk P w H s.heap ∧ (∀ b u, H b = some u → b = a) ∧ ((H a).isSome = true → K.lookup a = none) := by
    cases hk : K.lookup a with
    | some o =>
      have z := (kx a o hk).symm.trans la
      cases z
      exact ⟨fun _ => none, fun _ => .inl rfl, .inr ⟨_, vs.toArray, _, hk, rfl, rfl, rfl, by rw [List.size_toArray, li.length]; exact ll, by simpa using vals_ints li⟩, (fun b u z => by cases z), (fun b u z => by cases z), (fun z => by cases z)⟩
    | none =>
      let o : HO := .frz { cls := .type "list", data := .seq vs.toArray } (.lst (ns.map V.int))
      have at_a : ∀ b u, upd (fun _ => none) a o b = some u → b = a ∧ u = o := fun b u z => by
        by_cases hb : b = a
        · subst hb; rw [upd_same] at z; exact ⟨rfl, (Option.some.inj z).symm⟩
        · rw [upd_ne hb] at z; cases z
      refine ⟨upd (fun _ => none) a o, fun b => ?_, .inl (.inr ⟨_, upd_same⟩), fun b u z => ?_, fun b u z => (at_a b u z).1, fun _ => rfl⟩
      · by_cases hb : b = a
        · subst hb; exact .inr ⟨_, _, upd_same⟩
        · exact .inl (by rw [upd_ne hb])
      · obtain ⟨rfl, rfl⟩ := at_a b u z
        exact ⟨la, by rw [List.length_map]; exact ll, vs, _, vals_ints li, la⟩
  obtain ⟨H, hO, hS, hok, hA, hK⟩ := pick
  have free : ∀ {b : Addr} {ob : Obj} {es : Array DictEntry} {n : Nat}, s.heap.get? b = some ob → ob.data = .dict es n → H b = none := by
    intro b ob es n z d
    cases q : H b with
    | none => rfl
    | some u =>
      have z1 := hA b u q
      subst z1
      have z2 := z.symm.trans la
      cases z2
      have d' : Data.seq vs.toArray 0 = Data.dict es n := d
      cases d'
  have ns' : ∀ {b : Addr} {m : Str → Option Value}, s.heap.Ns b m → (hidT s.heap H).Ns b m := by
    rintro b m ⟨o, es, n, z, d, r⟩
    exact ⟨o, es, n, hidT_get z (free z d), d, r⟩
  have kb : K.In (hidT s.heap H) := by
    intro b o z
    refine hidT_get (kx b o z) ?_
    cases q : H b with
    | none => rfl
    | some u =>
      have z1 := hA b u q
      subst z1
      have z2 := hK (by rw [q]; rfl)
      rw [z2] at z
      cases z
  obtain ⟨mc, l1, l2⟩ := g4
  have e0 : Env0 P w K mg (hidT s.heap H) callerA [] s H :=
    { frames := rfl, mod := ⟨kb, ns' g1, ⟨mb, ns' g2, g3⟩, ⟨mc, ns' l1, l2⟩⟩, bs := fun b o z => of_hidT z, bsz := Nat.le_of_eq (hidT_size _ _), funs := trivial, frf := fun b z => (by cases z), hok := hok, bare := .of_eq g5 }
  refine codeAny_mono ((F _ kb (ns' g1)).go callerA [] s H ⟨[.ref a], []⟩ [.ref a] [.ref a] _ _ rfl hr e0 (bd s (.ref a)) (.cons rfl .nil) (want H hO hS)) ?_
  rintro (err | fl) s' h
  · exact (noC H err s' h).elim
  cases fl with
  | next => cases h
  | brk => cases h
  | cont => cases h
  | ret u =>
    obtain ⟨v, H', h1, h2, un, hok', rv, rfl⟩ := h
    cases rv
    refine ⟨rfl, OldK.of_keep (fun b o z => ?_), h1, h2⟩
    cases q : H b with
    | none => exact un.keep b o z q (fun z => by cases z) (fun z => by cases z)
    | some u =>
      rcases hO b with z1 | ⟨ob, xs, z1⟩
      · rw [q] at z1; cases z1
      · have z2 := (hok b _ z1).1
        rw [z] at z2
        cases z2
        exact (hok' b _ (un.frzs b _ _ z1)).1
theorem walk_g {l : PySem.W.OpenLaw} {n k : Nat} {q : Program} {loose : List Str} {XP : (Str → Option Value) → Heap → Prop} {YP : World → Heap → Prop} {d : DefRec} {K : Params → PySem.W.Frag} {sp : PySem.W.Frag → Sp} {x : Str}
    (h1 : l.most = some n) (h2 : n ≤ sizeLine) (h3 : d.params.defaults = []) (hr : Room k callerA) (hY : ∀ (w : World) (h : Heap), YP w h → (K w.params).In h)
    (F : ∀ (w : World) (mg : Str → Option Value) (fa : Addr) (h : Heap), (K w.params).In h → h.Ns mainGlobals mg → mg d.name = some (.ref fa) →
      ∃ fd : FuncData, (∀ (s : Shared) (u : Value), BindsTo s fd ⟨[u], []⟩ [(x, u)]) ∧ ∀ base : Heap, (K w.params).In base → base.Ns mainGlobals mg → FnG l.prog w (K w.params) mg base CX0 k fa fd [x] (sp (K w.params)))
    (want : ∀ (K : PySem.W.Frag) (H : Hp) (a : Addr) (ns : List Int), ns.length ≤ n → Only H → SqL K H a (ns.map V.int) → sp K [.ref a] H (fun v _ => v = .bl true) fun _ _ _ => False) :
    PySem.W.WalkO q loose XP YP l.row.toRowW d [] (fun f vs => PySem.call f vs) := by
  refine Att.attach_call h1 h3 fun w s₀ s₁ mg mb fa o pm cd doc a vs ns G Y _ _ _ hmg hobj hints hlen hg => ?_
  have kx := hY w _ Y
  obtain ⟨fd, hb, hF⟩ := F w mg fa _ kx G.T.g hmg
  exact law_g kx G.T.g G.T.b G.T.builtins G.T.nolimit hg hobj hints (Nat.le_trans hlen h2) hr hF hb (fun H hO hS => want _ H a ns hlen hO hS) (fun _ _ _ z => z)
end
end Any
set_option maxHeartbeats 1000000
namespace Any
open L2 PySem PyProof.Rows LamX NdefX
open PySem.Spec
/-! ### statements, the slots at the return told -/
structure EndR where
  nx : L2.St → Hp → Prop
  rt : V → L2.St → Hp → Prop
abbrev TR := EndR → L2.St → Hp → Prop
def SR (X : Cx) (pins : List (Addr × Obj)) (D : EndR) (f : Flow) (s' : Shared) : Prop :=
  match f with
  | .next => ∃ σ' H', Inv X pins σ' H' s' ∧ D.nx σ' H'
  | .ret u => ∃ v σ' H', Inv X pins σ' H' s' ∧ L2.RelV v u ∧ D.rt v σ' H'
  | _ => False
structure PR (X : Cx) (st : Stmt) (t : TR) : Prop where
  run : ∀ (pins : List (Addr × Obj)) (s : Shared) (σ : L2.St) (H : Hp) (D : EndR), Inv X pins σ H s → t D σ H → wpAny (model X.prog X.w) X.A (exec st X.env) (SR X pins D) X.xe s
structure PRs (X : Cx) (st : List Stmt) (t : TR) : Prop where
  run : ∀ (pins : List (Addr × Obj)) (s : Shared) (σ : L2.St) (H : Hp) (D : EndR), Inv X pins σ H s → t D σ H → wpAny (model X.prog X.w) X.A (execs st X.env) (SR X pins D) X.xe s
section
variable {X : Cx} {st : Stmt} {rest : List Stmt} {t u : TR} {e : Expr} {pos : Pos}
/-- a statement that only goes on -/
def tGo (t : TS) : TR := fun D σ H => t { nx := D.nx, rt := fun _ _ => False } σ H
theorem pr_go {t : TS} (h : PS X st t) : PR X st (tGo t) := by
  refine ⟨fun pins s σ H D I hq => thn (h.run pins s σ H _ I hq) fun f s1 q => ?_⟩
  cases f with
  | next => exact q
  | ret v =>
    obtain ⟨_, _, _, _, _, z⟩ := q
    exact z.elim
  | brk =>
    obtain ⟨_, _, _, z⟩ := q
    exact z.elim
  | cont =>
    obtain ⟨_, _, _, z⟩ := q
    exact z.elim
def tRetR (te : TE) : TR := fun D σ H => te σ H fun v H' => D.rt v σ H'
theorem pr_ret {te : TE} (he : PE X e te) : PR X (.Return (some e) pos) (tRetR te) := by
  refine ⟨fun pins s σ H D I h => ?_⟩
  exact wpAny_Return_some (thn (he.run pins s σ H _ I h) fun v s1 ⟨x, H1, I1, r1, q1⟩ => ⟨x, σ, H1, I1, r1, q1⟩)
def tIfR (c : TT) (t u : TR) : TR := fun D σ H => c σ H fun b H1 => if b = true then t D σ H1 else u D σ H1
theorem pr_if {c : Expr} {a b : List Stmt} {tc : TT} (hc : PT X c tc) (ha : PRs X a t) (hb : PRs X b u) : PR X (.If c a b pos) (tIfR tc t u) := by
  refine ⟨fun pins s σ H D I h => ?_⟩
  refine wpAny_If (thn (hc.run pins s σ H _ I h) fun d s1 ⟨H1, I1, q1⟩ => ?_)
  cases d with
  | true => exact ha.run pins s1 σ H1 D I1 q1
  | false => exact hb.run pins s1 σ H1 D I1 q1
def tSeqR (t u : TR) : TR := fun D σ H => t { D with nx := u D } σ H
def tNextR : TR := fun D σ H => D.nx σ H
theorem prs_nil : PRs X [] tNextR := ⟨fun _ _ σ H _ I h => wpAny_execs_nil ⟨σ, H, I, h⟩⟩
theorem prs_cons (h1 : PR X st t) (h2 : PRs X rest u) : PRs X (st :: rest) (tSeqR t u) := by
  refine ⟨fun pins s σ H D I h => ?_⟩
  refine wpAny_execs_cons (thn (h1.run pins s σ H { D with nx := u D } I h) fun f s1 q => ?_)
  cases f with
  | next =>
    obtain ⟨σ', H', I', q⟩ := q
    exact h2.run pins s1 σ' H' D I' q
  | ret v => exact q
  | brk => exact q.elim
  | cont => exact q.elim
theorem prs_one (h1 : PR X st t) : PRs X [st] t := by
  refine ⟨fun pins s σ H D I h => ?_⟩
  refine wpAny_execs_cons (thn (h1.run pins s σ H D I h) fun f s1 q => ?_)
  cases f with
  | next => exact wpAny_execs_nil q
  | ret v => exact q
  | brk => exact q.elim
  | cont => exact q.elim
end
/-! ### a made lambda -/
structure LF where
  qual : Str
  params : Arguments
  body : Expr
  scope : Scope
  cl : List (Str × Addr)
  c : Addr
/-- the object at f is the lambda F -/
def LamO (f : Addr) (F : LF) : HO := .ext fun h => ∃ (pm ctv : Value), h.get? f = some (PySem.W.kla_obj "<lambda>" F.qual F.params F.body F.scope F.cl pm F.c ctv)
theorem lamO_at {P : Program} {w : World} {H : Hp} {h : Heap} {f : Addr} {F : LF} (hok : HOk P w H h) (e : H f = some (LamO f F)) : ∃ (pm ctv : Value), h.get? f = some (PySem.W.kla_obj "<lambda>" F.qual F.params F.body F.scope F.cl pm F.c ctv) := by
  obtain ⟨z, _, _⟩ := hok f _ e
  exact z
theorem lamO_ne {f : Addr} {F : LF} (ps : Array Value) : LamO f F ≠ .tbl ps := fun z => by
  unfold LamO at z
  cases z
section
variable {X : Cx} {pins : List (Addr × Obj)} {σ : L2.St} {H : Hp} {s : Shared}
theorem inv_lam {F : LF} {t' : Nat} {pm ctv : Value} (I : Inv X pins σ H s) :
    Inv X pins σ (upd H s.heap.objs.size (LamO s.heap.objs.size F)) { s with heap := s.heap.push (PySem.W.kla_obj "<lambda>" F.qual F.params F.body F.scope F.cl pm F.c ctv), toks := t' } := by
  refine I.laid (a := s.heap.objs.size) (fun b u e => Heap.get?_push_of_some _ e) (Nat.le_refl _) ?_
  have e : (s.heap.push (PySem.W.kla_obj "<lambda>" F.qual F.params F.body F.scope F.cl pm F.c ctv)).get? s.heap.objs.size = some (PySem.W.kla_obj "<lambda>" F.qual F.params F.body F.scope F.cl pm F.c ctv) := Heap.get?_push_size _ rfl
  exact ⟨⟨pm, ctv, e⟩, ⟨_, e⟩, fun h1 h2 ⟨p, t, z⟩ st => ⟨p, t, st _ z⟩⟩
/-- a table with one code object more -/
def putTab (H : Hp) (P c' : Addr) (ps : Array Value) (pos : Pos) (q : Str) : Hp := upd (upd H P (.tbl (ps ++ #[rawInt pos.line, rawInt pos.col, .ref c']))) c' (CodeO c' q)
theorem putTab_ext {P c' : Addr} {ps : Array Value} {pos : Pos} {q : Str} (at_ : H P = some (.tbl ps)) (new : H c' = none) : ExtN H (putTab H P c' ps pos q) := fun b o e no => by
  have b1 : b ≠ c' := ne_of_none e new
  have b2 : b ≠ P := fun z => by
    rw [z, at_] at e
    exact no ps (Option.some.inj e).symm
  unfold putTab
  rw [upd_ne b1, upd_ne b2, e]
theorem putTab_tabs {T : List NTab} {nm : Nat → Nat → Str} {P c' : Addr} {ps : Array Value} {pos : Pos} {q : Str} (uni : ∀ p ∈ T, p.1 = P → p.2 = nm) (all : TabsN T H) (at_ : H P = some (.tbl ps)) (tri : TriplesOk ps.toList)
    (told : ∀ (pos : Pos) (cv : Value), codeAmong pos ps.toList = some cv → ∃ c, cv = .ref c ∧ H c = some (CodeO c (nm pos.line pos.col))) (new : H c' = none) (hq : nm pos.line pos.col = q) : TabsN T (putTab H P c' ps pos q) := by
  have ext := putTab_ext (pos := pos) (q := q) at_ new
  have own : putTab H P c' ps pos q c' = some (CodeO c' q) := upd_same
  intro p hp
  by_cases pP : p.1 = P
  · have lst : (ps ++ #[rawInt pos.line, rawInt pos.col, .ref c']).toList = ps.toList ++ [rawInt pos.line, rawInt pos.col, .ref c'] := by simp
    refine ⟨ps ++ #[rawInt pos.line, rawInt pos.col, .ref c'], ?_, ?_, fun at2 cv found => ?_⟩
    · rw [pP]
      unfold putTab
      rw [upd_ne (ne_of_none at_ new), upd_same]
    · rw [lst]
      exact PySem.TriplesOk_snoc _ _ _ _ tri
    · rw [lst] at found
      rw [uni p hp pP]
      rcases among_app2 _ tri found with z | ⟨z, l1, l2⟩
      · obtain ⟨c0, x1, x2⟩ := told at2 cv z
        exact ⟨c0, x1, ext _ _ x2 codeO_ne⟩
      · rw [← l1, ← l2, hq]
        exact ⟨c', z, own⟩
  · obtain ⟨qs, y1, y2, y3⟩ := all p hp
    refine ⟨qs, ?_, y2, fun at2 cv found => ?_⟩
    · unfold putTab
      rw [upd_ne (ne_of_none y1 new), upd_ne pP, y1]
    · obtain ⟨c0, x1, x2⟩ := y3 at2 cv found
      exact ⟨c0, x1, ext _ _ x2 codeO_ne⟩
/-- a lambda is made: it is known from now on, and so is its code object -/
theorem lam_make {T : List NTab} {nm : Nat → Nat → Str} {c P : Addr} {ar : Arguments} {bd : Expr} {sc : Scope} {pos : Pos} {E : Value → Shared → Prop} {Q : Value → Shared → Prop} (I : Inv X pins σ H s) (base : TabB X.base X.mg c P) (mine : X.env.code = .ref c)
    (listed : (P, nm) ∈ T) (named : nm pos.line pos.col = X.env.qual ++ "<lambda>") (uni : ∀ p ∈ T, p.1 = P → p.2 = nm) (all : TabsN T H) (nod : defaultsOf ar X.env = ([], [])) (capt : ∀ y ∈ sc.names, y.2 = .free → ∃ c, X.env.cells.lookup y.1 = some c)
    (go : ∀ (f c' : Addr) (H1 : Hp) (s' : Shared), Inv X pins σ H1 s' → ExtN H H1 → (∀ b, H1 b = Option.none → H b = Option.none) → TabsN T H1 → H f = none → H1 f = some (LamO f ⟨X.env.qual ++ "<lambda>", ar, bd, sc, cloFrom X.env.cells sc.names [], c'⟩) → H1 c' = some (CodeO c' (X.env.qual ++ "<lambda>")) → Q (.ref f) s') :
    wpAny (model X.prog X.w) X.A (eval (.Lambda ar bd sc pos) X.env) Q E s := by
  obtain ⟨ps, at_, tri, told⟩ := (show TabN H P nm from all _ listed)
  have raw : s.heap.get? P = some { cls := .none, data := .fields ps } := I.hok P _ at_
  have glob := I.mod.glob.keeps I.bk
  -- behind the making: the new function's object is laid last
  have last : ∀ (H1 : Hp) (s1 : Shared) (c' : Addr) (ctv : Value) (tk : Nat), Inv X pins σ H1 s1 → ExtN H H1 → (∀ b, H1 b = Option.none → H b = Option.none) → TabsN T H1 → H1 c' = some (CodeO c' (X.env.qual ++ "<lambda>")) →
      Q (.ref s1.heap.objs.size) { s1 with heap := s1.heap.push (PySem.W.kla_obj "<lambda>" (X.env.qual ++ "<lambda>") ar bd sc (cloFrom X.env.cells sc.names []) ((X.mg "__name__").getD .none) c' ctv), toks := tk } := fun H1 s1 c' ctv tk J x1 x2 x3 x4 => by
    have free1 := J.hok.fresh (Nat.le_refl _)
    have J2 := inv_lam (F := ⟨X.env.qual ++ "<lambda>", ar, bd, sc, cloFrom X.env.cells sc.names [], c'⟩) (t' := tk) (pm := (X.mg "__name__").getD .none) (ctv := ctv) J
    have up : ∀ b o, H1 b = some o → upd H1 s1.heap.objs.size (LamO s1.heap.objs.size ⟨X.env.qual ++ "<lambda>", ar, bd, sc, cloFrom X.env.cells sc.names [], c'⟩) b = some o := fun b o e => by
      rw [upd_ne (ne_of_none e free1)]
      exact e
    exact go _ c' _ _ J2 (fun b o e n => up b o (x1 b o e n)) (fun b e => x2 b (NdefX.upd_none e)) (x3.ext up) (x2 _ free1) upd_same (up _ _ x4)
  refine PySem.W.kla_eval nod ?_
  cases seen : codeAmong pos ps.toList with
  | some cv =>
    obtain ⟨c', rfl, known⟩ := told pos cv seen
    rw [named] at known
    refine PySem.W.kla_makeFunctionHit (mg := X.mg) (c := c) (P := P) (ps := ps) (closure_ok capt) I.ok.glob glob mine (base.code.keeps I.bk) raw tri seen (base.bm.keeps I.bk) fun ctv h' tk kp _ => ?_
    exact last H { s with heap := h', toks := tk } c' ctv tk (I.kept kp) (ExtN.refl H) (fun _ z => z) all known
  | none =>
    refine PySem.W.kla_makeFunction (mg := X.mg) (c := c) (P := P) (ps := ps) (closure_ok capt) I.ok.glob glob mine (base.code.keeps I.bk) raw tri seen base.gP (base.bm.keeps I.bk) fun c' ctv h' tk kp above _ rec tab => ?_
    obtain ⟨d, oc, vs, tok, ed, g1, g2, g3⟩ := rec
    cases ed
    have new : H c' = none := I.hok.fresh above
    have J := inv_table (t' := tk) (more := #[rawInt pos.line, rawInt pos.col, .ref c']) (h' := h') I at_ (fun b o n e => kp b o n e) tab above ⟨oc, vs, tok, g1, g2, g3⟩
    exact last (putTab H P c' ps pos (X.env.qual ++ "<lambda>")) { s with heap := h', toks := tk } c' ctv tk J (putTab_ext at_ new) (fun b z => NdefX.upd_none (NdefX.upd_none z)) (putTab_tabs uni all at_ tri told new named) upd_same
end
/-- the reading of a lambda -/
def tLamb (T : List NTab) (mk : Addr → LF) : TE := fun _ H Q => TabsN T H ∧ ∀ (f c' : Addr) (H1 : Hp), ExtN H H1 → (∀ b, H1 b = Option.none → H b = Option.none) → TabsN T H1 → H f = none → H1 f = some (LamO f (mk c')) → H1 c' = some (CodeO c' (mk c').qual) → Q (.ref f) H1
theorem pe_lamb {X : Cx} {T : List NTab} {nm : Nat → Nat → Str} {c P : Addr} {params : Arguments} {body : Expr} {scope : Scope} {pos : Pos} (TB : TabB X.base X.mg c P) (hcode : X.env.code = .ref c)
    (hm : (P, nm) ∈ T) (hn : nm pos.line pos.col = X.env.qual ++ "<lambda>") (hu : ∀ p ∈ T, p.1 = P → p.2 = nm) (hdef : defaultsOf params X.env = ([], []))
    (hfree : ∀ y ∈ scope.names, y.2 = .free → X.env.scope.names.lookup y.1 = some .cell ∨ X.env.scope.names.lookup y.1 = some .free) :
    PE X (.Lambda params body scope pos) (tLamb T fun c' => ⟨X.env.qual ++ "<lambda>", params, body, scope, cloFrom X.env.cells scope.names [], c'⟩) := by
  refine ⟨fun pins s σ H Q I h => ?_⟩
  obtain ⟨hT, h⟩ := h
  have hfr : ∀ y ∈ scope.names, y.2 = .free → ∃ c, X.env.cells.lookup y.1 = some c := fun y hy e => (hfree y hy e).elim (fun z => I.ok.has _ (.inl z)) fun z => I.ok.has _ (.inr z)
  exact lam_make I TB hcode hm hn hu hT hdef hfr fun f c' H1 s' I1 eN nn T1 f0 f1 c1 => ⟨.ref f, H1, I1, rfl, h f c' H1 eN nn T1 f0 f1 c1⟩
end Any
set_option maxHeartbeats 1000000
namespace Any
open L2 PySem PyProof.Rows LamX NdefX
open PySem.Spec
/-! ### cells that are known beyond their frame -/
def CellO (c : Addr) (v : V) : HO := .ext fun h => ∃ u, L2.RelV v u ∧ h.IsCell c (some u)
theorem cellO_ok {P : Program} {w : World} {H : Hp} {h : Heap} {c : Addr} {v : V} {u : Value} (r : L2.RelV v u) (hc : h.IsCell c (some u)) : ObjOk P w H h c (CellO c v) := by
  obtain ⟨o, ho, hd⟩ := id hc
  exact ⟨⟨u, r, hc⟩, ⟨o, ho⟩, fun h1 h2 ⟨u, r, o, ho, hd⟩ st => ⟨u, r, o, st _ ho, hd⟩⟩
theorem cellO_tbl {c : Addr} {v : V} (ps : Array Value) : CellO c v ≠ .tbl ps := fun z => by
  unfold CellO at z
  cases z
theorem cellO_own {c x : Addr} {v : V} : CellO c v ≠ .own x := fun z => by
  unfold CellO at z
  cases z
theorem cellO_tup {c : Addr} {v : V} {xs : List V} : CellO c v ≠ .tup xs := fun z => by
  unfold CellO at z
  cases z
theorem cellO_frz {c : Addr} {v : V} {o : Obj} {u : HO} : CellO c v ≠ .frz o u := fun z => by
  unfold CellO at z
  cases z
/-- the cell at b holds v, by the slots -/
def Capt (X : Cx) (σ : L2.St) (b : Addr) (v : V) : Prop := ∃ (x : Str) (i : Nat), X.env.cells.lookup x = some b ∧ X.N[i]? = some x ∧ σ[i]? = some (some v) ∧ X.env.scope.names.lookup x = some .cell
open Classical in
noncomputable def trkC (X : Cx) (σ : L2.St) (H : Hp) : Hp := fun b => if h : ∃ v, Capt X σ b v then some (CellO b h.choose) else H b
section
variable {X : Cx} {pins : List (Addr × Obj)} {σ : L2.St} {H : Hp} {s : Shared}
theorem capt_one (I : Inv X pins σ H s) (nd : X.N.Nodup) {b : Addr} {v v' : V} (h : Capt X σ b v) (h' : Capt X σ b v') : v = v' := by
  obtain ⟨x, i, e1, e2, e3, e4⟩ := h
  obtain ⟨x', i', f1, f2, f3, f4⟩ := h'
  have ex := I.ok.inj x x' b e1 f1
  subst ex
  have ei := nodup_ix nd e2 f2
  subst ei
  rw [e3] at f3
  exact Option.some.inj (Option.some.inj f3)
theorem trkC_at (I : Inv X pins σ H s) (nd : X.N.Nodup) {b : Addr} {v : V} (h : Capt X σ b v) : trkC X σ H b = some (CellO b v) := by
  have e : ∃ v, Capt X σ b v := ⟨v, h⟩
  unfold trkC
  rw [dif_pos e, capt_one I nd e.choose_spec h]
theorem capt_none (I : Inv X pins σ H s) {b : Addr} {v : V} (h : Capt X σ b v) : H b = none := by
  obtain ⟨x, i, e1, _⟩ := h
  exact I.freeC x b e1
theorem trkC_same (I : Inv X pins σ H s) : Same H (trkC X σ H) := fun b o e => by
  unfold trkC
  rw [dif_neg (fun ⟨v, h⟩ => by rw [capt_none I h] at e; cases e)]
  exact e
theorem trkC_cases (I : Inv X pins σ H s) (nd : X.N.Nodup) (b : Addr) : (∃ v, Capt X σ b v ∧ trkC X σ H b = some (CellO b v)) ∨ ((¬ ∃ v, Capt X σ b v) ∧ trkC X σ H b = H b) := by
  by_cases h : ∃ v, Capt X σ b v
  · obtain ⟨v, h⟩ := h
    exact .inl ⟨v, h, trkC_at I nd h⟩
  · refine .inr ⟨h, ?_⟩
    unfold trkC
    rw [dif_neg h]
theorem capt_cell (I : Inv X pins σ H s) {b : Addr} {v : V} (h : Capt X σ b v) : ∃ u, L2.RelV v u ∧ s.heap.IsCell b (some u) := by
  obtain ⟨x, i, e1, e2, e3, e4⟩ := h
  obtain ⟨m, hn, hl⟩ := I.loc
  obtain ⟨u, r, l⟩ := hl i x v e2 e3 (.inr (.inl e4))
  refine ⟨u, r, ?_⟩
  rcases l with ⟨k, _⟩ | ⟨_, c, e, z⟩
  · have k : X.env.scope.names.lookup x = some .local := k
    rw [e4] at k
    cases k
  · rw [e1] at e
    cases e
    exact z
/-- at a def's end its cells are known -/
theorem end_track (I : Inv X pins σ H s) (nd : X.N.Nodup) (hfn : ∀ x, X.fn x = true) (hex : X.ex = []) :
    Un X.fs [] X.H_0 (trkC X σ H) X.s_0.heap s.heap ∧ HOk X.prog X.w (trkC X σ H) s.heap := by
  have new : ∀ {b : Addr} {v : V}, Capt X σ b v → X.s_0.heap.objs.size ≤ b := fun {b v} h => by
    obtain ⟨x, i, e1, _⟩ := h
    exact I.ok.cab x b (hfn x) e1
  have un := I.base
  rw [hex] at un
  have sm := trkC_same I
  refine ⟨⟨un.keep, un.slot, fun b o e n hx => ?_, un.there, fun b xs e => sm _ _ (un.tups b xs e), fun b o u e => sm _ _ (un.frzs b o u e), fun b ps e => ?_⟩, fun b u e => ?_⟩
  · rcases trkC_cases I nd b with ⟨v, h, _⟩ | ⟨_, e2⟩
    · exact absurd (Heap.lt_size e) (Nat.not_lt.mpr (new h))
    · rw [e2]
      exact un.free b o e n hx
  · obtain ⟨more, e1⟩ := un.tbls b ps e
    exact ⟨more, sm _ _ e1⟩
  · rcases trkC_cases I nd b with ⟨v, h, e2⟩ | ⟨_, e2⟩
    · rw [e2] at e
      cases e
      obtain ⟨u, r, z⟩ := capt_cell I h
      exact cellO_ok r z
    · rw [e2] at e
      exact (I.hok b u e).stay (fun _ _ _ q => q) (fun c q => sm _ _ q) fun c xs q => sm _ _ q
end
/-- what is wanted at the end of a def whose cells stay known -/
def RetC (N : List Str) (sc : Scope) (L : Addr) (Q : VK) : V → L2.St → Hp → Prop := fun v σ H' => ∀ H'', Same H' H'' →
  (∀ (x : Str) (c : Addr) (i : Nat) (u : V), (cellsFrom (L + 1) sc.names []).lookup x = some c → N[i]? = some x → σ[i]? = some (some u) → sc.names.lookup x = some .cell → H' c = none ∧ H'' c = some (CellO c u)) →
  (∀ b o, H'' b = some o → H' b = some o ∨ ∃ u, o = CellO b u) → (∀ x y c, (cellsFrom (L + 1) sc.names []).lookup x = some c → (cellsFrom (L + 1) sc.names []).lookup y = some c → x = y) → Q v H''
section
variable {P : Program} {w : World} {K : PySem.W.Frag} {mg : Str → Option Value} {base : Heap}
theorem fn_c {C : CXT} {k : Nat} {f : Addr} {nm ql : Str} {ar : Arguments} {bd : List Stmt} {sc : Scope} {v1 v2 v3 v4 v5 v6 v7 : Value} {a1 a2 : Option Addr} {sl : Array (Option Value)} {N ps : List Str} {sp : Sp}
    (at_ : K.lookup f = some ⟨v7, a2, .func (PySem.W.fnOf nm ql ar bd sc v1 v2 v3 v4 a1 v5 v6), sl⟩) (code : PySem.W.codeIn K v5 ql = true) (S : FnScope N ps sc)
    (ln : ∀ vs H Q E, sp vs H Q E → vs.length = ps.length)
    (hb : ∀ (A : Around) (out : List Env) (s : Shared) (H : Hp) (vs : List V) (Q : VK) (E : XK), Room k (A.deeper (envOfC ql sc s.heap.objs.size f v5)) → sp vs H Q E →
      ∃ t, PRs (cxOf C P w K mg base N ql sc f v5 A out s H E) bd t ∧ t ⟨fun _ H' => Q .non H', RetC N sc s.heap.objs.size Q⟩ (L2.start N vs) H) :
    FnOk P w K mg base C (k + 1) f (PySem.W.fnOf nm ql ar bd sc v1 v2 v3 v4 a1 v5 v6) ps sp where
  len := ln
  run A out s H args us vs Q E hr e0 hbi rv hsp := by
    have kx : K.In s.heap := e0.mod.kin.keeps (fun b o z => (e0.bs b o z).1)
    have nl : s.heap.NoLimit := e0.mod.nolimit.keeps (fun b o z => (e0.bs b o z).1)
    have kd : ∀ y ∈ ps.zip us, sc.names.lookup y.1 = some .local ∨ (sc.names.lookup y.1 = some .cell ∧ ((cellsFrom (s.heap.objs.size + 1) sc.names []).lookup y.1).isSome = true) := by
      rintro ⟨n, v⟩ hy
      have z := S.par n (List.of_mem_zip hy).1
      exact z.elim .inl (fun z => .inr ⟨z, PySem.W.cellsFrom_some _ _ _ (.inl z)⟩)
    refine codeAny_call_function hr.depth (kx _ _ at_) rfl S.co S.gen rfl (PySem.W.codeRec_of kx code) (hbi _ _ _ _ (wpAny_newFunctionEnv_cells S.kind kd (fun env he s1 x => ?_)))
    subst he
    obtain ⟨t, ht, hq⟩ := hb A out s H vs Q E (hr.deeper _) hsp
    have I := inv_start (CX := C) (E := E) S hr.hd e0 (ln _ _ _ _ hsp) rv x
    refine ⟨nl.keeps x.toInCall.keep, codeAny_func (wpAny_mono (ht.run [] s1 (L2.start N vs) H _ I hq) (fun fl s' hs => ?_) (fun _ _ z => z))⟩
    cases fl with
    | ret u =>
      obtain ⟨v, σ', H', J, r', q⟩ := hs
      obtain ⟨un, hok⟩ := end_track J S.nd (fun _ => rfl) rfl
      refine ⟨v, _, J.os, J.bare, un, hok, r', q _ (trkC_same J) (fun x c i u e1 e2 e3 e4 => ?_) (fun b o e => ?_) J.ok.inj⟩
      · have h : Capt (cxOf C P w K mg base N ql sc f v5 A out s H E) σ' c u := ⟨x, i, e1, e2, e3, e4⟩
        exact ⟨capt_none J h, trkC_at J S.nd h⟩
      · rcases trkC_cases J S.nd b with ⟨v, h, e2⟩ | ⟨_, e2⟩
        · rw [e2] at e
          exact .inr ⟨v, (Option.some.inj e).symm⟩
        · rw [e2] at e
          exact .inl e
    | next => obtain ⟨σ', H', J, q⟩ := hs; exact ⟨.non, H', J.os, J.bare, J.base, J.hok, rfl, q⟩
    | brk => exact hs.elim
    | cont => exact hs.elim
end
/-! ### a made lambda is called -/
def hid (H : Hp) (cs : List Addr) : Hp := fun b => if b ∈ cs then none else H b
/-- the cells of cs as in H, all else as in H1 -/
def reT (H H1 : Hp) (cs : List Addr) : Hp := fun b => if b ∈ cs then H b else H1 b
theorem hid_in {H : Hp} {cs : List Addr} {b : Addr} (h : b ∈ cs) : hid H cs b = none := if_pos h
theorem hid_out {H : Hp} {cs : List Addr} {b : Addr} (h : b ∉ cs) : hid H cs b = H b := if_neg h
theorem hid_some {H : Hp} {cs : List Addr} {b : Addr} {o : HO} (h : hid H cs b = some o) : b ∉ cs ∧ H b = some o := by
  by_cases e : b ∈ cs
  · rw [hid_in e] at h
    cases h
  · rw [hid_out e] at h
    exact ⟨e, h⟩
theorem reT_in {H H1 : Hp} {cs : List Addr} {b : Addr} (h : b ∈ cs) : reT H H1 cs b = H b := if_pos h
theorem reT_out {H H1 : Hp} {cs : List Addr} {b : Addr} (h : b ∉ cs) : reT H H1 cs b = H1 b := if_neg h
/-- the captured names fr of F hold ws, in cells that are known -/
structure CapsAt (H : Hp) (F : LF) (fr : List Str) (ws : List V) : Prop where
  len : ws.length = fr.length
  all : ∀ y c, F.cl.lookup y = some c → ∃ w, H c = some (CellO c w)
  inj : ∀ x y c, F.cl.lookup x = some c → F.cl.lookup y = some c → x = y
  has : ∀ (i : Nat) (y : Str), fr[i]? = some y → ∃ c, F.cl.lookup y = some c ∧ ∀ v, ws[i]? = some v → H c = some (CellO c v)
def LF.cells (F : LF) : List Addr := F.cl.filterMap fun p => if F.cl.lookup p.1 = some p.2 then some p.2 else none
theorem LF.mem_cells {F : LF} {y : Str} {c : Addr} (h : F.cl.lookup y = some c) : c ∈ F.cells := by
  refine List.mem_filterMap.mpr ⟨(y, c), PySem.mem_of_lookup h, ?_⟩
  rw [if_pos h]
theorem LF.of_cells {F : LF} {c : Addr} (h : c ∈ F.cells) : ∃ y, F.cl.lookup y = some c := by
  obtain ⟨⟨y, d⟩, _, e⟩ := List.mem_filterMap.mp h
  split at e
  · rename_i z
    cases e
    exact ⟨y, z⟩
  · cases e
abbrev LF.nf (F : LF) : NF := ⟨"<lambda>", F.qual, F.params, [], F.scope, F.cl, F.c⟩
section
variable {P : Program} {w : World} {K : PySem.W.Frag} {mg : Str → Option Value} {base : Heap} {N ps fr : List Str} {F : LF} {f : Addr} {k : Nat}
theorem CapsAt.cell {H : Hp} {ws : List V} (C : CapsAt H F fr ws) {c : Addr} (h : c ∈ F.cells) : ∃ w, H c = some (CellO c w) := by
  obtain ⟨y, e⟩ := F.of_cells h
  exact C.all y c e
theorem lam_run (S : NScope N ps fr F.scope) (hbi : ∀ (pm ctv : Value) (us : List Value), us.length = ps.length → bindArgs (PySem.W.kla_fn "<lambda>" F.qual F.params F.body F.scope F.cl pm (.ref F.c) ctv) ⟨us, []⟩ = pure (ps.zip us))
    {A : Around} {outer : List Env} {s : Shared} {H : Hp} {us : List Value} {vs ws : List V} {Q : VK} (hr : Room (k + 1) A) (e0 : Env0 P w K mg base A outer s H) (hf : H f = some (LamO f F)) (hc : H F.c = some (CodeO F.c F.qual)) (C : CapsAt H F fr ws) (r : Vals vs us) (hl : vs.length = ps.length)
    (hbody : Room k (A.deeper (envF F.nf f s.heap.objs.size)) → ∃ t, PE (ncx CX0 P w K mg base N F.nf f A outer s (hid H F.cells) E0) F.body t ∧ t (startF N vs (ws.map some)) (hid H F.cells) fun v H1 => Q v (reT H H1 F.cells)) :
    codeAny (model P w) A (.call (.ref f) ⟨us, []⟩) (CR CX0 outer P w H s Q E0) s := by
  have lim : s.heap.NoLimit := e0.mod.nolimit.keeps fun b o e => (e0.bs b o e).1
  obtain ⟨pm, ctv, ho⟩ := lamO_at e0.hok hf
  have nown : ∀ {b x : Addr}, H b = some (.own x) → b ∉ F.cells := fun {b x} e z => by
    obtain ⟨w, h⟩ := C.cell z
    rw [e] at h
    exact cellO_own (Option.some.inj h).symm
  have ntup : ∀ {b : Addr} {xs : List V}, H b = some (.tup xs) → b ∉ F.cells := fun {b x} e z => by
    obtain ⟨w, h⟩ := C.cell z
    rw [e] at h
    exact cellO_tup (Option.some.inj h).symm
  have e1 : Env0 P w K mg base A outer s (hid H F.cells) := by
    refine ⟨e0.frames, e0.mod, fun b o e => ⟨(e0.bs b o e).1, ?_⟩, e0.bsz, e0.funs, fun b hb => ?_, fun b u e => ?_, e0.bare⟩
    · by_cases z : b ∈ F.cells
      · exact hid_in z
      · rw [hid_out z]
        exact (e0.bs b o e).2
    · by_cases z : b ∈ F.cells
      · exact hid_in z
      · rw [hid_out z]
        exact e0.frf b hb
    · obtain ⟨n, e⟩ := hid_some e
      exact (e0.hok b u e).stay (fun _ _ _ q => q) (fun c q => by rw [hid_out (nown q)]; exact q) fun c xs q => by rw [hid_out (ntup q)]; exact q
  have isC : ∀ {c : Addr} {v : V}, H c = some (CellO c v) → ∃ u, L2.RelV v u ∧ s.heap.IsCell c (some u) := fun {c v} h => (e0.hok c _ h).1
  have CA : CellsAt F.nf.cl fr (ws.map some) s.heap (hid H F.cells) := by
    refine ⟨by rw [List.length_map]; exact C.len, fun y c e => ⟨hid_in (F.mem_cells e), ?_⟩, C.inj, fun i y e => ?_⟩
    · obtain ⟨w, h⟩ := C.all y c e
      obtain ⟨u, _, z⟩ := isC h
      exact ⟨_, z⟩
    · obtain ⟨c, hc, hv⟩ := C.has i y e
      refine ⟨c, hc, fun v ev => ?_⟩
      rw [List.getElem?_map] at ev
      cases ew : ws[i]? with
      | none => rw [ew] at ev; cases ev
      | some v' =>
        rw [ew] at ev
        cases ev
        exact isC (hv _ ew)
  refine PySem.W.kla_callFunE hr.depth ho rfl S.co S.gen rfl (codeO_at e0.hok hc) ?_
  rw [hbi pm ctv us (by rw [← r.length]; exact hl)]
  refine wpAny_pure (wpAny_newFunctionEnv S.nocell (fun ⟨n, _⟩ hy => S.par n (List.of_mem_zip hy).1) (fun h₁ hns hsb => ⟨lim.fresh _ hsb, ?_⟩) S.kind)
  show codeAny _ _ (.expr F.body (envF F.nf f s.heap.objs.size)) _ _
  have kp : ∀ b o, s.heap.get? b = some o → h₁.get? b = some o := fun b o e => hsb.extBut b o (Nat.ne_of_lt (Heap.lt_size e)) (Heap.get?_push_of_some _ e)
  obtain ⟨t, ht, hq⟩ := hbody (hr.deeper _)
  have I : Inv (ncx CX0 P w K mg base N F.nf f A outer s (hid H F.cells) E0) [] (startF N vs (ws.map some)) (hid H F.cells) { s with heap := h₁, toks := s.toks + (ps.zip us).length } := inv_startN S hr.hd e1 hl r CA hns kp
  refine PySem.W.kla_codeExpr (wpAny_mono (ht.run [] _ _ _ _ I hq) (fun u s' hs => ?_) fun e s' hs => hs)
  obtain ⟨v, H1, J, rv, q⟩ := hs
  have un : Un (frs outer) [] (hid H F.cells) H1 s.heap s'.heap := J.base
  have cn : ∀ {c : Addr}, c ∈ F.cells → H1 c = none ∧ ∀ o, s.heap.get? c = some o → s'.heap.get? c = some o := fun {c} z => by
    obtain ⟨w, h⟩ := C.cell z
    obtain ⟨u, _, o, ho, hd⟩ := isC h
    have nf : c ∉ frs outer := fun z => by
      rw [e0.frf c z] at h
      cases h
    exact ⟨un.free c o ho (hid_in z) (by simp), fun o e => un.keep c o e (hid_in z) nf (by simp)⟩
  refine ⟨v, reT H H1 F.cells, J.os, J.bare, ⟨fun b o e n hb hx => ?_, fun b o e n hb hx => ?_, fun b o e n hx => ?_, un.there, fun b xs e => ?_, fun b o u e => ?_, fun b qs e => ?_⟩, fun b u e => ?_, rv, q⟩
  · have nb : b ∉ F.cells := fun z => by obtain ⟨w, h⟩ := C.cell z; rw [n] at h; cases h
    exact un.keep b o e (by rw [hid_out nb]; exact n) hb hx
  · have nb : b ∉ F.cells := fun z => by obtain ⟨w, h⟩ := C.cell z; rw [n] at h; cases h
    exact un.slot b o e (by rw [hid_out nb]; exact n) hb hx
  · have nb : b ∉ F.cells := fun z => by obtain ⟨w, h⟩ := C.cell z; rw [n] at h; cases h
    rw [reT_out nb]
    exact un.free b o e (by rw [hid_out nb]; exact n) hx
  · rw [reT_out (ntup e)]
    exact un.tups b xs (by rw [hid_out (ntup e)]; exact e)
  · have nb : b ∉ F.cells := fun z => by obtain ⟨w, h⟩ := C.cell z; rw [e] at h; exact cellO_frz (Option.some.inj h).symm
    rw [reT_out nb]
    exact un.frzs b o u (by rw [hid_out nb]; exact e)
  · have nb : b ∉ F.cells := fun z => by obtain ⟨w, h⟩ := C.cell z; rw [e] at h; exact cellO_tbl _ (Option.some.inj h).symm
    rw [reT_out nb]
    exact un.tbls b qs (by rw [hid_out nb]; exact e)
  · by_cases z : b ∈ F.cells
    · rw [reT_in z] at e
      obtain ⟨w, h⟩ := C.cell z
      rw [h] at e
      cases e
      obtain ⟨u, r, o, ho, hd⟩ := isC h
      exact cellO_ok r ⟨o, (cn z).2 o ho, hd⟩
    · rw [reT_out z] at e
      have out : ∀ {c : Addr} {o : HO}, H1 c = some o → reT H H1 F.cells c = some o := fun {c o} q => by
        rw [reT_out (fun z => by rw [(cn z).1] at q; cases q)]
        exact q
      exact (J.hok b u e).stay (fun _ _ _ q => q) (fun c q => out q) fun c xs q => out q
end
end Any
set_option maxHeartbeats 1000000
namespace Any
open L2 PySem PyProof.Rows LamX NdefX
open PySem.Spec
/-! ### a call of a name that holds a made lambda -/
/-- what made lambdas promise: sp f speaks of the one at f -/
def FnL (P : Program) (w : World) (K : PySem.W.Frag) (mg : Str → Option Value) (base : Heap) (k : Nat) (sp : Addr → Sp) : Prop :=
  ∀ (f : Addr) (A : Around) (outer : List Env) (s : Shared) (H : Hp) (us : List Value) (vs : List V) (Q : VK), Room k A → Env0 P w K mg base A outer s H → Vals vs us → sp f vs H Q E0 → codeAny (model P w) A (.call (.ref f) ⟨us, []⟩) (CR CX0 outer P w H s Q E0) s
theorem FnL.mono {P : Program} {w : World} {K : PySem.W.Frag} {mg : Str → Option Value} {base : Heap} {j k : Nat} {sp : Addr → Sp} (F : FnL P w K mg base j sp) (h : j ≤ k) : FnL P w K mg base k sp := fun f A outer s H us vs Q hr => F f A outer s H us vs Q (hr.mono h)
def IsLm (H : Hp) (f : Addr) : Prop := ∃ F, H f = some (LamO f F)
def tCallL (i : Nat) (sp : Addr → Sp) (t : TA) : TE := fun σ H Q => ∃ f, σ[i]? = some (some (.ref f)) ∧ IsLm H f ∧ t σ H fun vs H1 => IsLm H1 f ∧ sp f vs H1 Q E0
section
variable {X : Cx} {sp : Addr → Sp} {i k : Nat} {x : Str} {t : TA} {e : Expr} {es : List Expr} {p pos apos cpos : Pos} {te : TE}
theorem lmAt {pins : List (Addr × Obj)} {σ : L2.St} {H : Hp} {s : Shared} {f : Addr} (I : Inv X pins σ H s) (h : IsLm H f) : PySem.W.FnAt f s.heap := by
  obtain ⟨F, e⟩ := h
  obtain ⟨pm, ctv, ho⟩ := lamO_at I.hok e
  exact ⟨_, _, _, _, ho⟩
theorem pe_callL (Fn : FnL X.prog X.w X.K X.mg X.base k sp) (hr : Room k X.A) (hN : X.N[i]? = some x) (hv : Vis X.env.scope x) (ha : PA X (e :: es) t)
    (hd : (x == ("__debug__" : Str)) = false := by decide) (hcd : (x == ("__classdict__" : Str)) = false := by decide)
    (he : starEach (e :: es) X.env = (false, eval e X.env) :: starEach es X.env := by rfl) (hpl : (backTo pos (starEach es X.env)).any (·.1) = false := by rfl) :
    PE X (.Call (.Name x p) (e :: es) [] pos) (tCallL i sp t) := by
  refine ⟨fun pins s σ H Q I h => ?_⟩
  obtain ⟨f, hs, hf, ht⟩ := h
  refine wpAny_Call_Name_kw (thn ((pe_var (pos := p) hN hv hd hcd).run pins s σ H (fun v H1 => v = .ref f ∧ H1 = H) I ⟨.ref f, hs, rfl, rfl⟩) fun u s1 ⟨v, H1, I1, r1, q1⟩ => ?_)
  obtain ⟨ev, eH⟩ := q1
  subst ev
  rw [eH] at I1
  obtain rfl : u = Value.ref f := r1
  refine PySem.W.callWith_F (first := []) (lmAt I1 hf) (thn (ha.run pos pins s1 σ H _ I1 ht) fun us s2 ⟨vs, H2, I2, r, h1, q⟩ => ⟨lmAt I2 h1, ?_⟩) he hpl
  show wpAny _ _ (call (.ref f) us) _ _ _
  refine wpAny_call (codeAny_mono (Fn f X.A X.stack s2 H2 us vs Q hr I2.env0 r q) fun r s' hq => ?_)
  cases r with
  | error e => exact pass0 pins σ H2 s2 e s' I2 hq
  | ok fl =>
    cases fl with
    | ret u => exact I2.after hq
    | next => exact False.elim hq
    | brk => exact False.elim hq
    | cont => exact False.elim hq
/-! ### list(d.values()) -/
def tListVals (te : TE) : TE := fun σ H Q => te σ H fun x H1 => ∃ (d : Addr) (kvs : List (Key × V)), x = .ref d ∧ H1 d = some (.dK kvs) ∧ ∀ p, H1 p = none → Q (.ref p) (upd H1 p (.lst (kvs.map (·.2))))
theorem vals_get {κ : Type} : ∀ {kvs : List (κ × V)} {vs : List (κ × Value)}, KV kvs vs → Vals (kvs.map (·.2)) (vs.map (·.2))
  | _, _, .nil => .nil
  | _, _, .cons r t => .cons r.2 (vals_get t)
theorem pe_listVals (hc : X.calm = true) (he : PE X e te) (hg : Gl X "list") (hm : X.mg "list" = none) (hv : bootBuiltins "list" = some (.type "list")) (hbase : attributeBase e "values" X.env (eval e X.env) = eval e X.env := by rfl) (hline : (apos.endLine == cpos.line) = true := by rfl)
    (hs : starEach [.Call (.Attribute e "values" apos) [] [] cpos] X.env = (false, eval (.Call (.Attribute e "values" apos) [] [] cpos) X.env) :: starEach [] X.env := by rfl) :
    PE X (.Call (.Name "list" p) [.Call (.Attribute e "values" apos) [] [] cpos] [] pos) (tListVals te) := by
  refine ⟨fun pins s σ H Q I hq => ?_⟩
  refine wpAny_Call_Name_kw (ld_blt I hg hm hv ?_)
  refine PyProof.Rows.callWith_type1 ?_ hs rfl
  rw [hs]
  show wpAny _ _ (spliced ((false, eval (.Call (.Attribute e "values" apos) [] [] cpos) X.env) :: backTo pos (starEach [] X.env))) _ _ s
  refine Calls.spliced_cons ?_
  refine wpAny_Call_method (T := "dict") (id := "dict.values") hbase rfl hline F.plainAttrs_dict F.slot_dict_values F.type_dict_values (thn (he.run pins s σ H _ I hq) fun u s1 ⟨x, H1, I1, rx, d, kvs, ex, hd, q⟩ => ?_)
  subst ex
  obtain rfl : u = Value.ref d := rx
  obtain ⟨hz, hs0, vs, kv, hdo⟩ := I1.hok d _ hd
  obtain ⟨ep, hat⟩ := hdo.dictAt
  have lk : kvs.length = vs.length := Paired.length kv
  have I2 : Inv X pins σ H1 { s1 with heap := s1.heap.push { cls := .type "dict_values", data := .fields #[.ref d] } } := I1.kept (t' := s1.toks) fun b ob q => Heap.get?_push_of_some _ q
  refine ⟨hdo.typeIs, hdo.mapOf.noDict, ?_⟩
  show wpAny _ _ (callWith cpos (.builtin "dict.values") [.ref d] [] []) _ X.xe s1
  refine method_meetsIn F.slot_dict_values F.entry_dict_values rfl (PySem.evalArgs_none ⟨rfl, hdo.typeIs, F.args_dict_values_1 _, _, meets_dict_values (mixKind X.prog X.w) d hs0, ⟨vs, hdo⟩, ?_⟩)
  refine Calls.spliced_nil ?_
  refine PySem.W.kdl_call (PySem.W.kdl_values (knd := mixKind X.prog X.w) (kvs := vs) (ep := ep)) (I1.ok.hd hc) ⟨⟨_, Heap.get?_push_size _ rfl, rfl, rfl⟩, hat.push _⟩ (by omega) fun h' tk acc c hk hS hacc => ?_
  have ev : acc.toList = vs.map (·.2) := PySem.W.kdl_vals_eq acc.toList (by rw [Array.length_toList]; exact hacc.1) fun j v e => hacc.2 j v (by rw [← Array.getElem?_toList]; exact e)
  have hvv := vals_get kv
  rw [← ev] at hvv
  refine ⟨.ref _, upd H1 _ (.lst (kvs.map (·.2))), I2.laid (t' := tk) hk (Nat.le_refl _)
    (show ObjOk X.prog X.w _ _ _ (.lst (kvs.map (·.2))) from ⟨by rw [List.length_map]; exact hz, acc.toList, c, hvv, by rw [Array.toArray_toList]; exact hS⟩), rfl, q _ (I2.hok.fresh (Nat.le_refl _))⟩
end
end Any
set_option maxHeartbeats 1000000
namespace Any
open L2 PySem PyProof.Rows LamX NdefX
open PySem.Spec
/-! ### the law's call with tables of code objects, under no guard -/
section
variable {P : Program} {w : World} {K : PySem.W.Frag} {mg mb : Str → Option Value}
/-- a heap that knows the script, if the written part has it not, and the tables -/
theorem pick_T {a : Addr} {ts : List Addr} {s : Shared} {vs : List Value} {ns : List Int} (kx : K.In s.heap) (la : s.heap.get? a = some { cls := .type "list", data := .seq vs.toArray }) (li : IntsAre vs ns) (ll : ns.length ≤ sizeLine)
    (tab : ∀ t ∈ ts, s.heap.get? t = some { cls := .none, data := .fields #[] }) :
    ∃ H : Hp, (∀ t ∈ ts, H t = some (.tbl #[])) ∧ SqL K H a (ns.map V.int) ∧ HOk P w H s.heap ∧ (∀ b u, H b = some u → b ∉ ts → b = a ∧ K.lookup a = none ∧ ∃ o xs, u = .frz o (.lst xs)) := by
  have nat_ : a ∉ ts := fun z => by
    have q := tab a z
    rw [la] at q
    have d := congrArg Obj.data (Option.some.inj q)
    have d : Data.seq vs.toArray _ = Data.fields #[] := d
    cases d
  cases hk : K.lookup a with
  | some o =>
    have z := (kx a o hk).symm.trans la
    cases z
    refine ⟨fun b => if b ∈ ts then some (.tbl #[]) else none, fun t ht => if_pos ht, .inr ⟨_, vs.toArray, _, hk, rfl, rfl, rfl, by rw [List.size_toArray, li.length]; exact ll, by simpa using vals_ints li⟩, fun b u e => ?_, fun b u e nb => ?_⟩
    · have e : (if b ∈ ts then some (HO.tbl #[]) else none) = some u := e
      split at e
      · rename_i hb
        cases e
        exact tab b hb
      · cases e
    · have e : (if b ∈ ts then some (HO.tbl #[]) else none) = some u := e
      rw [if_neg nb] at e
      cases e
  | none =>
    let o : HO := .frz { cls := .type "list", data := .seq vs.toArray } (.lst (ns.map V.int))
    refine ⟨fun b => if b ∈ ts then some (.tbl #[]) else if b = a then some o else none, fun t ht => if_pos ht, .inl (.inr ⟨_, (if_neg nat_).trans (if_pos rfl)⟩), fun b u e => ?_, fun b u e nb => ?_⟩
    · have e : (if b ∈ ts then some (HO.tbl #[]) else if b = a then some o else none) = some u := e
      split at e
      · rename_i hb
        cases e
        exact tab b hb
      · split at e
        · rename_i hb
          cases e
          rw [hb]
          exact ⟨la, by rw [List.length_map]; exact ll, vs, _, vals_ints li, la⟩
        · cases e
    · have e : (if b ∈ ts then some (HO.tbl #[]) else if b = a then some o else none) = some u := e
      rw [if_neg nb] at e
      split at e
      · rename_i hb
        cases e
        exact ⟨hb, rfl, _, _, rfl⟩
      · cases e
theorem law_gT {C : CXT} {k : Nat} {fa a : Addr} {cs : List (Addr × Addr)} {fd : FuncData} {x : Str} {sp : Sp} {s : Shared} {vs : List Value} {ns : List Int}
    (kx : K.In s.heap) (g1 : s.heap.Ns mainGlobals mg) (g2 : s.heap.Ns builtinsNs mb) (g3 : ∀ x : Str, x ≠ "__name__" → mb x = bootBuiltins x) (g4 : s.heap.NoLimit) (g5 : s.gens = #[])
    (tab : ∀ p ∈ cs, s.heap.get? p.2 = some { cls := .none, data := .fields #[] }) (out : ∀ p ∈ cs, K.lookup p.2 = none) (cod : ∀ p ∈ cs, PySem.W.CodeHd s.heap p.1 p.2)
    (bmn : ∃ (bm : Addr) (ob : Obj), mg "__builtins__" = some (.ref bm) ∧ bm ≠ builtinsNs ∧ s.heap.get? bm = some ob ∧ ob.cls = .type "module" ∧ ob.dict = some builtinsNs ∧ ob.data = .plain)
    (la : s.heap.get? a = some { cls := .type "list", data := .seq vs.toArray }) (li : IntsAre vs ns) (ll : ns.length ≤ sizeLine) (hr : Room k callerA)
    (F : ∀ base : Heap, K.In base → base.Ns mainGlobals mg → (∀ p ∈ cs, TabB base mg p.1 p.2) → FnG P w K mg base C k fa fd [x] sp) (bd : ∀ (s : Shared) (u : Value), BindsTo s fd ⟨[u], []⟩ [(x, u)])
    (want : ∀ H : Hp, (∀ p ∈ cs, H p.2 = some (.tbl #[])) → SqL K H a (ns.map V.int) → sp [.ref a] H (fun v _ => v = .bl true) fun _ _ _ => False)
    (noC : ∀ H e s', C [] H s (fun _ _ _ => False) e s' → False) :
    codeAny (model P w) callerA (.call (.ref fa) ⟨[.ref a], []⟩) (fun r s' => r = .ok (.ret (.bool true)) ∧ OldK s.heap s'.heap ∧ s'.os = s.os ∧ AllBare s'.gens) s := by
  have mem : ∀ p ∈ cs, p.2 ∈ cs.map (·.2) := fun p hp => List.mem_map_of_mem hp
  have isT : ∀ t ∈ cs.map (·.2), s.heap.get? t = some { cls := .none, data := .fields #[] } := fun t ht => by
    obtain ⟨p, hp, rfl⟩ := List.mem_map.mp ht
    exact tab p hp
  obtain ⟨H, hT, hS, hok, hA⟩ := pick_T (P := P) (w := w) kx la li ll isT
  -- what is neither a list nor an empty table is not known
  have free : ∀ {b : Addr} {ob : Obj}, s.heap.get? b = some ob → (∀ us n, ob.data ≠ .seq us n) → ob.data ≠ .fields #[] → H b = none := fun {b ob} z d1 d2 => by
    cases q : H b with
    | none => rfl
    | some u =>
      by_cases ht : b ∈ cs.map (·.2)
      · have z2 := z.symm.trans (isT b ht)
        cases z2
        exact absurd rfl d2
      · obtain ⟨rfl, _⟩ := hA b u q ht
        have z2 := z.symm.trans la
        cases z2
        exact absurd rfl (d1 _ _)
  have freeD : ∀ {b : Addr} {ob : Obj} {es : Array DictEntry} {n : Nat}, s.heap.get? b = some ob → ob.data = .dict es n → H b = none := fun z d => free z (fun us n e => by rw [d] at e; cases e) fun e => by rw [d] at e; cases e
  have ns' : ∀ {b : Addr} {m : Str → Option Value}, s.heap.Ns b m → (hidT s.heap H).Ns b m := by
    rintro b m ⟨o, es, n, z, d, r⟩
    exact ⟨o, es, n, hidT_get z (freeD z d), d, r⟩
  have kb : K.In (hidT s.heap H) := by
    intro b o z
    refine hidT_get (kx b o z) ?_
    cases q : H b with
    | none => rfl
    | some u =>
      by_cases ht : b ∈ cs.map (·.2)
      · obtain ⟨p, hp, rfl⟩ := List.mem_map.mp ht
        rw [out p hp] at z
        cases z
      · obtain ⟨rfl, z2, _⟩ := hA b u q ht
        rw [z2] at z
        cases z
  have TB : ∀ p ∈ cs, TabB (hidT s.heap H) mg p.1 p.2 := fun p hp => by
    have tp := tab p hp
    have apart : ∀ {b : Addr} {ob : Obj}, s.heap.get? b = some ob → ob.data ≠ .fields #[] → b ≠ p.2 := fun z d e => by
      rw [e, tp] at z
      cases z
      exact d rfl
    obtain ⟨og, esg, ng, zg, dg, _⟩ := id g1
    refine ⟨?_, ?_, apart zg (fun e => by rw [dg] at e; cases e)⟩
    · obtain ⟨o, us, file, tf, flags, tg, inF, text, tt, y1, y2, y3, y4, rest⟩ := cod p hp
      refine ⟨o, us, file, tf, flags, tg, inF, text, tt, hidT_get y1 (free y1 (fun us n e => by rw [y3] at e; cases e) fun e => ?_), y2, y3, y4, rest⟩
      rw [y3] at e
      cases e
      simp at y4
    · obtain ⟨bm, ob, m1, m2, m3, m4, m5, m6⟩ := bmn
      refine ⟨bm, ob, m1, m2, fun e => ?_, apart m3 (fun e => by rw [m6] at e; cases e), hidT_get m3 (free m3 (fun us n e => by rw [m6] at e; cases e) fun e => by rw [m6] at e; cases e), m4, m5, m6⟩
      rw [e] at m3
      have z2 := m3.symm.trans zg
      cases z2
      rw [m6] at dg
      cases dg
  obtain ⟨mc, l1, l2⟩ := g4
  have e0 : Env0 P w K mg (hidT s.heap H) callerA [] s H :=
    { frames := rfl, mod := ⟨kb, ns' g1, ⟨mb, ns' g2, g3⟩, ⟨mc, ns' l1, l2⟩⟩, bs := fun b o z => of_hidT z, bsz := Nat.le_of_eq (hidT_size _ _), funs := trivial, frf := fun b z => (by cases z), hok := hok, bare := .of_eq g5 }
  refine codeAny_mono ((F _ kb (ns' g1) TB).go callerA [] s H ⟨[.ref a], []⟩ [.ref a] [.ref a] _ _ rfl hr e0 (bd s (.ref a)) (.cons rfl .nil) (want H (fun p hp => hT _ (mem p hp)) hS)) ?_
  rintro (err | fl) s' h
  · exact (noC H err s' h).elim
  cases fl with
  | next => cases h
  | brk => cases h
  | cont => cases h
  | ret u =>
    obtain ⟨v, H', h1, h2, un, hok', rv, rfl⟩ := h
    cases rv
    have grown : ∀ t ∈ cs.map (·.2), ∃ more : Array Value, s'.heap.get? t = some { cls := .none, data := .fields more } := fun t ht => by
      obtain ⟨more, z⟩ := un.tbls t #[] (hT t ht)
      exact ⟨_, hok' t _ z⟩
    have stay : ∀ b o, b ∉ cs.map (·.2) → s.heap.get? b = some o → s'.heap.get? b = some o := fun b o nb z => by
      cases q : H b with
      | none => exact un.keep b o z q (fun z => by cases z) (fun z => by cases z)
      | some u =>
        obtain ⟨rfl, _, ob, xs, rfl⟩ := hA b u q nb
        have z2 := (hok b _ q).1
        rw [z] at z2
        cases z2
        exact (hok' b _ (un.frzs b _ _ q)).1
    refine ⟨rfl, ⟨fun b o z => ?_, fun b o z => ?_⟩, h1, h2⟩
    · by_cases ht : b ∈ cs.map (·.2)
      · obtain ⟨more, hm⟩ := grown b ht
        obtain ⟨p, hp, rfl⟩ := List.mem_map.mp ht
        have z2 := z.symm.trans (tab p hp)
        cases z2
        exact .inr (.inl ⟨((cod p hp).tab (tab p hp)).isCodeTable, rfl, #[], more, rfl, by rw [Array.empty_append]; exact hm⟩)
      · exact .inl (stay b o ht z)
    · by_cases ht : b ∈ cs.map (·.2)
      · obtain ⟨more, hm⟩ := grown b ht
        exact ⟨_, hm⟩
      · exact ⟨o, stay b o ht z⟩
/-- what is known at the law's end: its promise, with the tables cs -/
def LawT (l : PySem.W.OpenLaw) (w : World) (K : PySem.W.Frag) (k n : Nat) (x : Str) (mg : Str → Option Value) (fa : Addr) (h : Heap) : Prop :=
  ∃ (fd : FuncData) (cs : List (Addr × Addr)) (sp : Sp), (∀ p ∈ cs, h.get? p.2 = some { cls := .none, data := .fields #[] }) ∧ (∀ p ∈ cs, K.lookup p.2 = none) ∧ (∀ p ∈ cs, PySem.W.CodeHd h p.1 p.2) ∧ (∀ (s : Shared) (u : Value), BindsTo s fd ⟨[u], []⟩ [(x, u)]) ∧
    (∀ (H : Hp) (a : Addr) (ns : List Int), ns.length ≤ n → (∀ p ∈ cs, H p.2 = some (.tbl #[])) → SqL K H a (ns.map V.int) → sp [.ref a] H (fun v _ => v = .bl true) fun _ _ _ => False) ∧
    ∀ base : Heap, K.In base → base.Ns mainGlobals mg → (∀ p ∈ cs, TabB base mg p.1 p.2) → FnG l.prog w K mg base CX0 k fa fd [x] sp
theorem walk_gT {l : PySem.W.OpenLaw} {n k : Nat} {q : Program} {loose : List Str} {XP : (Str → Option Value) → Heap → Prop} {YP : World → Heap → Prop} {d : DefRec} {K : Params → PySem.W.Frag} {x : Str}
    (h1 : l.most = some n) (h2 : n ≤ sizeLine) (h3 : d.params.defaults = []) (hr : Room k callerA) (hY : ∀ (w : World) (h : Heap), YP w h → (K w.params).In h)
    (F : ∀ (w : World) (mg : Str → Option Value) (fa : Addr) (h : Heap), YP w h → (K w.params).In h → h.Ns mainGlobals mg → mg d.name = some (.ref fa) → LawT l w (K w.params) k n x mg fa h) :
    PySem.W.WalkO q loose XP YP l.row.toRowW d [] (fun f vs => PySem.call f vs) := by
  refine Att.attach_call h1 h3 fun w s₀ s₁ mg mb fa o pm cd doc a vs ns G Y _ _ _ hmg hobj hints hlen hg => ?_
  have kx := hY w _ Y
  obtain ⟨fd, cs, sp, c1, c2, c3, hb, want, hF⟩ := F w mg fa _ Y kx G.T.g hmg
  exact law_gT kx G.T.g G.T.b G.T.builtins G.T.nolimit hg c1 c2 c3 G.T.bmain hobj hints (Nat.le_trans hlen h2) hr hF hb (fun H t hS => want H a ns hlen t hS) (fun _ _ _ z => z)
end
end Any
namespace Any
open L2 PySem

/-! ### expressions as trees -/
inductive Dd | plus | less | times | over | rest
  deriving DecidableEq
def Dd.word : Dd → Str
  | .plus => "plus" | .less => "less" | .times => "times" | .over => "over" | .rest => "rest"
def Dd.fn : Dd → Int → Int → Int
  | .plus, i, j => i + j
  | .less, i, j => if i < j then 0 else i - j
  | .times, i, j => i * j
  | .over, i, j => if j = 0 then 0 else i / j
  | .rest, i, j => if j = 0 then 0 else i % j
inductive Ex
  | num (n : Int) | box (x : Str) | asked | told | op (d : Dd) (l r : Ex)
def Ex.deep : Ex → Nat
  | .op _ l r => max l.deep r.deep + 1
  | _ => 1
def Ex.size : Ex → Nat
  | .op _ l r => l.size + r.size
  | _ => 1
/-- the number of a box -/
def look (kvs : List (Str × Int)) (x : Str) : Option Int := (kvs.find? fun kv => decide (kv.1 = x)).map (·.2)
def Ex.val (kvs : List (Str × Int)) (a t : Int) : Ex → Int
  | .num n => n
  | .box x => (look kvs x).getD 0
  | .asked => a
  | .told => t
  | .op d l r => d.fn (l.val kvs a t) (r.val kvs a t)
/-- of these boxes, with small numbers -/
def Ex.good (xs : List Str) : Ex → Prop
  | .num n => 0 ≤ n ∧ n < 1024
  | .box x => x ∈ xs
  | .op _ l r => l.good xs ∧ r.good xs
  | _ => True
/-- boxes with small numbers, for each of these names -/
structure Bx (kvs : List (Str × Int)) (xs : List Str) : Prop where
  all : ∀ x ∈ xs, ∃ n, look kvs x = some n ∧ 0 ≤ n ∧ n < 1024
def bx (kvs : List (Str × Int)) : List (Key × V) := kvs.map fun p => (Sum.inr p.1, V.int p.2)
theorem bx_val (x : Str) : ∀ kvs : List (Str × Int), valV (bx kvs) (Sum.inr x) = (look kvs x).map V.int
  | [] => rfl
  | p :: r => by
    have ih := bx_val x r
    unfold valV look bx at ih ⊢
    rw [List.map_cons, List.find?_cons, List.find?_cons]
    by_cases e : p.1 = x
    · have e1 : decide ((Sum.inr p.1 : Key) = Sum.inr x) = true := decide_eq_true (by rw [e])
      rw [decide_eq_true e]
      dsimp only
      rw [e1]
      rfl
    · have e1 : decide ((Sum.inr p.1 : Key) = Sum.inr x) = false := decide_eq_false (fun z => e (Sum.inr.inj z))
      rw [decide_eq_false e]
      dsimp only
      rw [e1]
      exact ih
theorem Dd.fn_nn (d : Dd) {i j : Int} (hi : 0 ≤ i) (hj : 0 ≤ j) : 0 ≤ d.fn i j := by
  cases d with
  | plus => show 0 ≤ i + j; omega
  | less => show 0 ≤ (if i < j then 0 else i - j); split <;> omega
  | times => exact Int.mul_nonneg hi hj
  | over => show 0 ≤ (if j = 0 then 0 else i / j); split; omega; exact Int.ediv_nonneg hi hj
  | rest => show 0 ≤ (if j = 0 then 0 else i % j); split; omega; exact Int.emod_nonneg i (by assumption)
theorem Dd.fn_lt (d : Dd) {i j : Int} {m n : Nat} (hi : 0 ≤ i) (hj : 0 ≤ j) (him : i < 2 ^ m) (hjn : j < 2 ^ n) (hm : 0 < m) (hn : 0 < n) : d.fn i j < 2 ^ (m + n) := by
  have e : (2 : Int) ^ (m + n) = 2 ^ m * 2 ^ n := Int.pow_add ..
  have m2 : (2 : Int) ≤ 2 ^ m := by
    obtain ⟨k, rfl⟩ : ∃ k, m = k + 1 := ⟨m - 1, by omega⟩
    rw [Int.pow_succ]
    have : (0 : Int) < 2 ^ k := Int.pow_pos (by decide)
    omega
  have n2 : (2 : Int) ≤ 2 ^ n := by
    obtain ⟨k, rfl⟩ : ∃ k, n = k + 1 := ⟨n - 1, by omega⟩
    rw [Int.pow_succ]
    have : (0 : Int) < 2 ^ k := Int.pow_pos (by decide)
    omega
  rw [e]
  generalize (2 : Int) ^ m = M at *
  generalize (2 : Int) ^ n = N at *
  have big : M ≤ M * N := by
    have := Int.mul_le_mul_of_nonneg_left (show (1 : Int) ≤ N by omega) (show (0 : Int) ≤ M by omega)
    omega
  have big2 : N ≤ M * N := by
    have := Int.mul_le_mul_of_nonneg_right (show (1 : Int) ≤ M by omega) (show (0 : Int) ≤ N by omega)
    omega
  cases d with
  | plus =>
    show i + j < M * N
    have : 0 ≤ (M - 1) * (N - 1) := Int.mul_nonneg (by omega) (by omega)
    have e2 : (M - 1) * (N - 1) = M * N - M - N + 1 := by rw [Int.sub_mul, Int.mul_sub]; omega
    omega
  | less => show (if i < j then 0 else i - j) < M * N; split <;> omega
  | times => exact Int.lt_of_le_of_lt (Int.mul_le_mul_of_nonneg_left (by omega) hi) (Int.mul_lt_mul_of_pos_right him (by omega))
  | over =>
    show (if j = 0 then 0 else i / j) < M * N
    split
    · omega
    · have := Int.ediv_le_self j hi
      omega
  | rest =>
    show (if j = 0 then 0 else i % j) < M * N
    split
    · omega
    · have := Int.emod_lt_of_pos i (show 0 < j by omega)
      omega
theorem Ex.size_pos : ∀ e : Ex, 0 < e.size
  | .num _ => by show 0 < 1; decide
  | .box _ => by show 0 < 1; decide
  | .asked => by decide
  | .told => by decide
  | .op _ l r => by have := l.size_pos; show 0 < l.size + r.size; omega
theorem Ex.size_le : ∀ e : Ex, e.size ≤ 2 ^ e.deep
  | .num _ => by show 1 ≤ 2 ^ 1; decide
  | .box _ => by show 1 ≤ 2 ^ 1; decide
  | .asked => by show 1 ≤ 2 ^ 1; decide
  | .told => by show 1 ≤ 2 ^ 1; decide
  | .op _ l r => by
    have h1 := l.size_le
    have h2 := r.size_le
    show l.size + r.size ≤ 2 ^ (max l.deep r.deep + 1)
    have h3 : 2 ^ l.deep ≤ 2 ^ max l.deep r.deep := Nat.pow_le_pow_right (by decide) (Nat.le_max_left ..)
    have h4 : 2 ^ r.deep ≤ 2 ^ max l.deep r.deep := Nat.pow_le_pow_right (by decide) (Nat.le_max_right ..)
    rw [Nat.pow_succ]
    omega
theorem Ex.val_ok {kvs : List (Str × Int)} {xs : List Str} {a t : Int} (B : Bx kvs xs) (ha : 0 ≤ a ∧ a < 1024) (ht : 0 ≤ t ∧ t < 1024) : ∀ e : Ex, e.good xs → 0 ≤ e.val kvs a t ∧ e.val kvs a t < 2 ^ (10 * e.size)
  | .num n, h => h
  | .box x, h => by
    obtain ⟨n, e1, h1, h2⟩ := B.all x h
    show 0 ≤ (look kvs x).getD 0 ∧ (look kvs x).getD 0 < 2 ^ 10
    rw [e1]
    exact ⟨h1, h2⟩
  | .asked, _ => ha
  | .told, _ => ht
  | .op d l r, h => by
    obtain ⟨l1, l2⟩ := Ex.val_ok B ha ht l h.1
    obtain ⟨r1, r2⟩ := Ex.val_ok B ha ht r h.2
    refine ⟨d.fn_nn l1 r1, ?_⟩
    have q := d.fn_lt l1 r1 l2 r2 (by have := l.size_pos; omega) (by have := r.size_pos; omega)
    show d.fn _ _ < 2 ^ (10 * (l.size + r.size))
    rw [Nat.mul_add]
    exact q
/-- a number that all deeds take -/
def Nb (i : Int) : Prop := 0 ≤ i ∧ i < 2 ^ 640
theorem nb_of {i : Int} {n : Nat} (h0 : 0 ≤ i) (h : i < 2 ^ (10 * n)) (hn : n ≤ 64) : Nb i := by
  refine ⟨h0, Int.lt_of_lt_of_le h ?_⟩
  have : (2 : Nat) ^ (10 * n) ≤ 2 ^ 640 := Nat.pow_le_pow_right (by decide) (by omega)
  exact_mod_cast this
theorem Ex.nb {kvs : List (Str × Int)} {xs : List Str} {a t : Int} (B : Bx kvs xs) (ha : 0 ≤ a ∧ a < 1024) (ht : 0 ≤ t ∧ t < 1024) {e : Ex} (h : e.good xs) (hd : e.deep ≤ 6) : Nb (e.val kvs a t) := by
  obtain ⟨h0, h1⟩ := e.val_ok B ha ht h
  refine nb_of h0 h1 (Nat.le_trans e.size_le ?_)
  exact Nat.pow_le_pow_right (by decide) hd
theorem Nb.abs {i : Int} (h : Nb i) : i.natAbs < 2 ^ 640 := by
  have h1 := h.1
  have h2 := h.2
  have e : ((2 : Nat) ^ 640 : Nat) = ((2 : Int) ^ 640).toNat := by decide +kernel
  rw [e]
  generalize (2 : Int) ^ 640 = M at *
  omega
theorem Nb.log {i : Int} (h : Nb i) : i.natAbs.log2 < 1920 := by
  by_cases z : i.natAbs = 0
  · rw [z]; decide
  · have := (Nat.log2_lt z).mpr h.abs
    omega

/-! ### trees in the heap -/
inductive ExAt (H : Hp) : V → Ex → Prop
  | num {a : Addr} {n : Int} : H a = some (.tup [.str "number", .int n]) → ExAt H (.ref a) (.num n)
  | box {a : Addr} {x : Str} : H a = some (.tup [.str "box", .str x]) → ExAt H (.ref a) (.box x)
  | asked {a : Addr} : H a = some (.tup [.str "asked"]) → ExAt H (.ref a) .asked
  | told {a : Addr} : H a = some (.tup [.str "told"]) → ExAt H (.ref a) .told
  | op {a : Addr} {d : Dd} {v u : V} {l r : Ex} : H a = some (.tup [.str d.word, v, u]) → ExAt H v l → ExAt H u r → ExAt H (.ref a) (.op d l r)
/-- the tuples stay -/
def Tups (H H' : Hp) : Prop := ∀ a xs, H a = some (.tup xs) → H' a = some (.tup xs)
theorem ExAt.keep {H H' : Hp} (k : Tups H H') {v : V} {e : Ex} (h : ExAt H v e) : ExAt H' v e := by
  induction h with
  | num h => exact .num (k _ _ h)
  | box h => exact .box (k _ _ h)
  | asked h => exact .asked (k _ _ h)
  | told h => exact .told (k _ _ h)
  | op h _ _ i1 i2 => exact .op (k _ _ h) i1 i2
theorem Same.tups {H H' : Hp} (s : Same H H') : Tups H H' := fun a xs h => s a _ h
theorem same_new {H : Hp} {p : Addr} (h : H p = none) (o : HO) : Same H (upd H p o) := fun b u q => by rw [upd_ne (ne_of_none q h)]; exact q
theorem same_refl {H : Hp} : Same H H := fun _ _ q => q
/-- all but b stays -/
def Kept (b : Addr) (H H' : Hp) : Prop := ∀ a o, a ≠ b → H a = some o → H' a = some o
theorem Kept.refl {b : Addr} {H : Hp} : Kept b H H := fun _ _ _ q => q
theorem Kept.trans {b : Addr} {H H1 H2 : Hp} (h : Kept b H H1) (g : Kept b H1 H2) : Kept b H H2 := fun a o n q => g a o n (h a o n q)
theorem Kept.of {b : Addr} {H H' : Hp} (s : Same H H') : Kept b H H' := fun a o _ q => s a o q
theorem Kept.new {b p : Addr} {H : Hp} (h : H p = none) (o : HO) : Kept b H (upd H p o) := .of (same_new h o)
theorem Kept.put {b : Addr} {H : Hp} (o : HO) : Kept b H (upd H b o) := fun a u n q => by rw [upd_ne n]; exact q
theorem Kept.tups {b : Addr} {H H' : Hp} {xs : List V} (k : Kept b H H') (hb : H b = some (.lst xs)) : Tups H H' := fun a ys q => k a _ (ne_of q hb (by intro z; cases z)) q
end Any
namespace Any
open L2 PySem

/-! ### the text, by places -/
def top (i : Nat) : Stmt := PySem.Challenge.pw_anystore_k31_expressions_written.main.body.getD i (.Pass ⟨0, 0, 0, 0⟩)
abbrev sPlus : Stmt := top 5
abbrev sLess : Stmt := top 6
abbrev sTimes : Stmt := top 7
abbrev sOver : Stmt := top 8
abbrev sRest : Stmt := top 9
abbrev sReady : Stmt := top 13

theorem scPlus : FnScope ["left", "right"] ["left", "right"] (defScope sPlus) := ⟨rfl, rfl, rfl, by decide +kernel, rfl, by decide +kernel, by decide +kernel⟩
theorem scLess : FnScope ["left", "right"] ["left", "right"] (defScope sLess) := ⟨rfl, rfl, rfl, by decide +kernel, rfl, by decide +kernel, by decide +kernel⟩
theorem scTimes : FnScope ["left", "right"] ["left", "right"] (defScope sTimes) := ⟨rfl, rfl, rfl, by decide +kernel, rfl, by decide +kernel, by decide +kernel⟩
theorem scOver : FnScope ["left", "right"] ["left", "right"] (defScope sOver) := ⟨rfl, rfl, rfl, by decide +kernel, rfl, by decide +kernel, by decide +kernel⟩
theorem scRest : FnScope ["left", "right"] ["left", "right"] (defScope sRest) := ⟨rfl, rfl, rfl, by decide +kernel, rfl, by decide +kernel, by decide +kernel⟩
def spDeed (d : Dd) : Sp := fun vs H Q _ => ∃ i j, vs = [.int i, .int j] ∧ Nb i ∧ Nb j ∧ Q (.int (d.fn i j)) H
section
variable {P : Program} {w : World} {K : PySem.W.Frag} {mg : Str → Option Value} {base : Heap} {f : Addr} {fd : FuncData}
theorem wideMul {i j : Int} (hi : Nb i) (hj : Nb j) : CMulW i j := wide_mul hi.abs hj.abs (by decide) (by decide) (by decide)
theorem wideDiv {i j : Int} (hj : Nb j) (h : j ≠ 0) : CDivW i j := wide_div (by have := hj.1; omega) hj.abs (by decide) (by decide)
theorem ok_plus (F : Fun K "plus" "plus" sPlus f fd) : FnOk P w K mg base CX0 1 f fd ["left", "right"] (spDeed .plus) := by
  refine F.ok scPlus (fun vs H Q E h => ?_) (fun cdv A outer s H vs Q E hr h => ?_)
  · obtain ⟨i, j, rfl, _⟩ := h
    rfl
  obtain ⟨i, j, rfl, hi, hj, q⟩ := h
  exact ⟨_, pss_one (ps_ret (pe_op op_add (pv 0) (pv 1))), _, rfl, _, rfl, _, _, rfl, rfl, q⟩
theorem ok_less (F : Fun K "less" "less" sLess f fd) : FnOk P w K mg base CX0 1 f fd ["left", "right"] (spDeed .less) := by
  refine F.ok scLess (fun vs H Q E h => ?_) (fun cdv A outer s H vs Q E hr h => ?_)
  · obtain ⟨i, j, rfl, _⟩ := h
    rfl
  obtain ⟨i, j, rfl, hi, hj, q⟩ := h
  refine ⟨_, pss_cons (ps_if (pt_cmpR op_lt (pv 0) (pv 1) (nomark _)) (pss_one (ps_ret pe_int)) pss_nil) (pss_one (ps_ret (pe_op op_sub (pv 0) (pv 1)))), _, rfl, _, rfl, _, _, rfl, rfl, _, rfl, ?_⟩
  have q' : Q (.int (if i < j then 0 else i - j)) H := q
  refine ite2 (fun c => ?_) (fun c => ?_)
  · rw [if_pos (of_decide_eq_true c)] at q'
    exact q'
  · rw [if_neg (of_decide_eq_false (Bool.eq_false_iff.mpr c))] at q'
    exact ⟨_, rfl, _, rfl, _, _, rfl, rfl, q'⟩
theorem ok_times (F : Fun K "times" "times" sTimes f fd) : FnOk P w K mg base CX0 1 f fd ["left", "right"] (spDeed .times) := by
  refine F.ok scTimes (fun vs H Q E h => ?_) (fun cdv A outer s H vs Q E hr h => ?_)
  · obtain ⟨i, j, rfl, _⟩ := h
    rfl
  obtain ⟨i, j, rfl, hi, hj, q⟩ := h
  exact ⟨_, pss_one (ps_ret (pe_op op_mulW (pv 0) (pv 1))), _, rfl, _, rfl, _, _, rfl, rfl, wideMul hi hj, q⟩
theorem ok_over (F : Fun K "over" "over" sOver f fd) : FnOk P w K mg base CX0 1 f fd ["left", "right"] (spDeed .over) := by
  refine F.ok scOver (fun vs H Q E h => ?_) (fun cdv A outer s H vs Q E hr h => ?_)
  · obtain ⟨i, j, rfl, _⟩ := h
    rfl
  obtain ⟨i, j, rfl, hi, hj, q⟩ := h
  refine ⟨_, pss_cons (ps_if (pt_cmpR op_eq (pv 1) pe_int (nomark _)) (pss_one (ps_ret pe_int)) pss_nil) (pss_one (ps_ret (pe_op op_fdivW (pv 0) (pv 1)))), _, rfl, rfl, _, rfl, ?_⟩
  have q' : Q (.int (if j = 0 then 0 else i / j)) H := q
  refine ite2 (fun c => ?_) (fun c => ?_)
  · have c' : V.int j = V.int 0 := of_decide_eq_true c
    rw [if_pos (V.int.inj c')] at q'
    exact q'
  · have c' : ¬ V.int j = V.int 0 := of_decide_eq_false (Bool.eq_false_iff.mpr c)
    have nz : j ≠ 0 := fun z => c' (by rw [z])
    rw [if_neg nz] at q'
    exact ⟨_, rfl, _, rfl, _, _, rfl, rfl, wideDiv hj nz, q'⟩
theorem ok_rest (F : Fun K "rest" "rest" sRest f fd) : FnOk P w K mg base CX0 1 f fd ["left", "right"] (spDeed .rest) := by
  refine F.ok scRest (fun vs H Q E h => ?_) (fun cdv A outer s H vs Q E hr h => ?_)
  · obtain ⟨i, j, rfl, _⟩ := h
    rfl
  obtain ⟨i, j, rfl, hi, hj, q⟩ := h
  refine ⟨_, pss_cons (ps_if (pt_cmpR op_eq (pv 1) pe_int (nomark _)) (pss_one (ps_ret pe_int)) pss_nil) (pss_one (ps_ret (pe_op op_mod (pv 0) (pv 1)))), _, rfl, rfl, _, rfl, ?_⟩
  have q' : Q (.int (if j = 0 then 0 else i % j)) H := q
  refine ite2 (fun c => ?_) (fun c => ?_)
  · have c' : V.int j = V.int 0 := of_decide_eq_true c
    rw [if_pos (V.int.inj c')] at q'
    exact q'
  · have c' : ¬ V.int j = V.int 0 := of_decide_eq_false (Bool.eq_false_iff.mpr c)
    have nz : j ≠ 0 := fun z => c' (by rw [z])
    rw [if_neg nz] at q'
    exact ⟨_, rfl, _, rfl, _, _, rfl, rfl, (by have := hj.1; omega), q'⟩

/-- what the table of deeds holds -/
structure Deeds (P : Program) (w : World) (K : PySem.W.Frag) (mg : Str → Option Value) (base : Heap) : Prop where
  ex : ∃ D : Addr, mg "DEEDS" = some (.ref D) ∧ ∀ d : Dd, ∃ g : Addr, KDct K w D d.word (.ref g) ∧ PySem.W.keepIn K (.ref g) = true ∧ FnR P w K mg base CX0 1 g (spDeed d)
end
end Any
set_option maxHeartbeats 1000000
namespace Any
open L2 PySem PySem.Spec PyProof.Rows LamX NdefX
theorem itT {b : Bool} {A B : Prop} (h : b = true) (a : A) : if b = true then A else B := by
  rw [if_pos h]
  exact a
theorem itF {b : Bool} {A B : Prop} (h : b = false) (a : B) : if b = true then A else B := by
  rw [if_neg (by rw [h]; decide)]
  exact a
theorem ne_str {x y : Str} (h : x ≠ y) : decide (V.str x = V.str y) = false := decide_eq_false fun z => h (V.str.inj z)
theorem eq_str {x : Str} : decide (V.str x = V.str x) = true := decide_eq_true rfl
/-! ### the lambdas of the text -/
def ifB : Stmt → List Stmt
  | .If _ b _ _ => b
  | _ => []
def retE : Stmt → Expr
  | .Return (some e) _ => e
  | _ => .Constant .none 0 ⟨0, 0, 0, 0⟩
def stN (l : List Stmt) (i : Nat) : Stmt := l.getD i (.Pass ⟨0, 0, 0, 0⟩)
def lamP : Expr → Arguments
  | .Lambda p _ _ _ => p
  | _ => { posonlyargs := [], args := [], vararg := none, kwonlyargs := [], kw_defaults := [], kwarg := none, defaults := [] }
def lamB : Expr → Expr
  | .Lambda _ b _ _ => b
  | e => e
def lamS : Expr → Scope
  | .Lambda _ _ s _ => s
  | _ => { kind := .function, names := [], isGenerator := false, isCoroutine := false }
abbrev lamN : Expr := retE (stN (ifB (stN (defBody sReady) 1)) 1)
abbrev lamX : Expr := retE (stN (ifB (stN (defBody sReady) 2)) 1)
abbrev lamA : Expr := retE (stN (ifB (stN (defBody sReady) 3)) 0)
abbrev lamT : Expr := retE (stN (ifB (stN (defBody sReady) 4)) 0)
abbrev lamO : Expr := retE (stN (defBody sReady) 8)
abbrev psL : List Str := ["boxes", "asked", "told"]
theorem scN : NScope ["boxes", "asked", "told", "number"] psL ["number"] (lamS lamN) := nscope_by (by decide +kernel)
theorem scX : NScope ["boxes", "asked", "told", "at"] psL ["at"] (lamS lamX) := nscope_by (by decide +kernel)
theorem scA : NScope ["boxes", "asked", "told"] psL [] (lamS lamA) := nscope_by (by decide +kernel)
theorem scT : NScope ["boxes", "asked", "told"] psL [] (lamS lamT) := nscope_by (by decide +kernel)
theorem scO : NScope ["boxes", "asked", "told", "deed", "left", "right"] psL ["deed", "left", "right"] (lamS lamO) := nscope_by (by decide +kernel)
/-- F is made of the lambda L, its code object is known -/
structure Made (H : Hp) (f : Addr) (F : LF) (L : Expr) : Prop where
  at_ : H f = some (LamO f F)
  p : F.params = lamP L
  b : F.body = lamB L
  s : F.scope = lamS L
  code : H F.c = some (CodeO F.c F.qual)
theorem Made.ext {H H' : Hp} {f : Addr} {F : LF} {L : Expr} (m : Made H f F L) (e : ExtN H H') : Made H' f F L := ⟨e _ _ m.at_ lamO_ne, m.p, m.b, m.s, e _ _ m.code codeO_ne⟩
theorem CapsAt.ext {H H' : Hp} {F : LF} {fr : List Str} {ws : List V} (C : CapsAt H F fr ws) (e : ExtN H H') : CapsAt H' F fr ws := by
  refine ⟨C.len, fun y c h => ?_, C.inj, fun i y h => ?_⟩
  · obtain ⟨w, z⟩ := C.all y c h
    exact ⟨w, e _ _ z cellO_tbl⟩
  · obtain ⟨c, h1, h2⟩ := C.has i y h
    exact ⟨c, h1, fun v hv => e _ _ (h2 v hv) cellO_tbl⟩
theorem hid_ext {H H' : Hp} (e : ExtN H H') (cs : List Addr) : ExtN (hid H cs) (hid H' cs) := fun b o h n => by
  obtain ⟨nb, h⟩ := hid_some h
  rw [hid_out nb]
  exact e b o h n
theorem reT_hid (H : Hp) (cs : List Addr) : reT H (hid H cs) cs = H := by
  funext b
  by_cases h : b ∈ cs
  · exact reT_in h
  · rw [reT_out h, hid_out h]
theorem back {Q : VK} {v : V} {H : Hp} {cs : List Addr} (q : Q v H) : Q v (reT H (hid H cs) cs) := by
  rw [reT_hid]
  exact q
/-- the lambda at f tells the worth of e, by the numbers of the boxes xs; G: which def a deed's is -/
def CloE (G : Dd → Addr → Prop) (xs : List Str) : Ex → Hp → Addr → Prop
  | .num n, H, f => ∃ F, Made H f F lamN ∧ CapsAt H F ["number"] [.int n]
  | .box x, H, f => ∃ (F : LF) (i : Nat), Made H f F lamX ∧ CapsAt H F ["at"] [.int i] ∧ xs[i]? = some x ∧ ∀ j, j < i → xs[j]? ≠ some x
  | .asked, H, f => ∃ F, Made H f F lamA ∧ CapsAt H F [] []
  | .told, H, f => ∃ F, Made H f F lamT ∧ CapsAt H F [] []
  | .op d l r, H, f => ∃ (F : LF) (g fl fr : Addr), Made H f F lamO ∧ CapsAt H F ["deed", "left", "right"] [.ref g, .ref fl, .ref fr] ∧ G d g ∧ CloE G xs l (hid H F.cells) fl ∧ CloE G xs r (hid H F.cells) fr
theorem CloE.ext {G : Dd → Addr → Prop} {xs : List Str} : ∀ {e : Ex} {H H' : Hp} {f : Addr}, CloE G xs e H f → ExtN H H' → CloE G xs e H' f
  | .num n, _, _, _, ⟨F, m, c⟩, e => ⟨F, m.ext e, c.ext e⟩
  | .box x, _, _, _, ⟨F, i, m, c, h⟩, e => ⟨F, i, m.ext e, c.ext e, h⟩
  | .asked, _, _, _, ⟨F, m, c⟩, e => ⟨F, m.ext e, c.ext e⟩
  | .told, _, _, _, ⟨F, m, c⟩, e => ⟨F, m.ext e, c.ext e⟩
  | .op d l r, _, _, _, ⟨F, g, fl, fr, m, c, hg, h1, h2⟩, e => ⟨F, g, fl, fr, m.ext e, c.ext e, hg, h1.ext (hid_ext e _), h2.ext (hid_ext e _)⟩
theorem CloE.lm {G : Dd → Addr → Prop} {xs : List Str} : ∀ {e : Ex} {H : Hp} {f : Addr}, CloE G xs e H f → IsLm H f
  | .num _, _, _, ⟨F, m, _⟩ => ⟨F, m.at_⟩
  | .box _, _, _, ⟨F, _, m, _⟩ => ⟨F, m.at_⟩
  | .asked, _, _, ⟨F, m, _⟩ => ⟨F, m.at_⟩
  | .told, _, _, ⟨F, m, _⟩ => ⟨F, m.at_⟩
  | .op _ _ _, _, _, ⟨F, _, _, _, m, _⟩ => ⟨F, m.at_⟩
/-- the numbers of boxes, as they stand in a list -/
def numsV (kvs : List (Str × Int)) : List V := kvs.map fun p => .int p.2
abbrev namesOf (kvs : List (Str × Int)) : List Str := kvs.map (·.1)
theorem look_at : ∀ {kvs : List (Str × Int)} {i : Nat} {x : Str}, (namesOf kvs)[i]? = some x → (∀ j, j < i → (namesOf kvs)[j]? ≠ some x) → ∃ n, look kvs x = some n ∧ (numsV kvs)[i]? = some (.int n)
  | [], i, x, h, _ => by simp at h
  | p :: r, 0, x, h, _ => by
    have h : p.1 = x := Option.some.inj h
    refine ⟨p.2, ?_, rfl⟩
    unfold look
    rw [List.find?_cons, decide_eq_true h]
    rfl
  | p :: r, i + 1, x, h, n => by
    have h0 : p.1 ≠ x := fun z => n 0 (by omega) (by rw [← z]; rfl)
    obtain ⟨m, e1, e2⟩ := look_at (kvs := r) (i := i) h (fun j hj => n (j + 1) (by omega))
    refine ⟨m, ?_, e2⟩
    unfold look at e1 ⊢
    rw [List.find?_cons, decide_eq_false h0]
    exact e1
def DeedIs (P : Program) (w : World) (K : PySem.W.Frag) (mg : Str → Option Value) (base : Heap) (d : Dd) (g : Addr) : Prop := PySem.W.keepIn K (.ref g) = true ∧ FnR P w K mg base CX0 1 g (spDeed d)
def spClo (G : Dd → Addr → Prop) (n : Nat) (f : Addr) : Sp := fun vs H Q _ => ∃ (e : Ex) (kvs : List (Str × Int)) (xs : List Str) (b : Addr) (a t : Int), vs = [.ref b, .int a, .int t] ∧ e.deep ≤ n ∧ e.deep ≤ 6 ∧ H b = some (.lst (numsV kvs)) ∧ CloE G (namesOf kvs) e H f ∧ e.good xs ∧ Bx kvs xs ∧
  (0 ≤ a ∧ a < 1024) ∧ (0 ≤ t ∧ t < 1024) ∧ Q (.int (e.val kvs a t)) H
section
variable {P : Program} {w : World} {K : PySem.W.Frag} {mg : Str → Option Value} {base : Heap}
theorem lst_hid {H : Hp} {F : LF} {fr : List Str} {ws xs : List V} {b : Addr} (C : CapsAt H F fr ws) (h : H b = some (.lst xs)) : hid H F.cells b = some (.lst xs) := by
  rw [hid_out fun z => ?_]
  · exact h
  · obtain ⟨w, e⟩ := C.cell z
    rw [h] at e
    unfold CellO at e
    cases e
theorem no_clo : FnL P w K mg base 0 (spClo (DeedIs P w K mg base) 0) := fun f A outer s H us vs Q _ _ _ h => by
  obtain ⟨e, kvs, xs, b, a, t, _, hd, _⟩ := h
  cases e <;> exact absurd hd (by show ¬ _ ≤ 0; exact Nat.not_succ_le_zero _)
theorem ok_clo {n : Nat} (G : FnL P w K mg base (n + 1) (spClo (DeedIs P w K mg base) n)) : FnL P w K mg base (n + 2) (spClo (DeedIs P w K mg base) (n + 1)) := by
  intro f A outer s H us vs Q hr e0 rv h
  obtain ⟨e, kvs, xs, b, a, t, rfl, hd, hd6, hb, hc, hg, B, ha, ht, q⟩ := h
  cases e with
  | num m =>
    obtain ⟨⟨qu, pa, bo, sc, cl, co⟩, M, C⟩ := hc
    obtain ⟨m1, rfl, rfl, rfl, m5⟩ := M
    refine lam_run (k := n + 1) (N := ["boxes", "asked", "told", "number"]) (ws := [.int m]) scN (fun pm ctv us hl => match us, hl with | [_, _, _], _ => rfl) hr e0 m1 m5 C rv rfl fun hr => ⟨_, pv 3, _, rfl, ?_⟩
    exact back q
  | box x =>
    obtain ⟨⟨qu, pa, bo, sc, cl, co⟩, i, M, C, hi, hj⟩ := hc
    obtain ⟨m1, rfl, rfl, rfl, m5⟩ := M
    obtain ⟨m, e1, e2⟩ := look_at hi hj
    refine lam_run (k := n + 1) (N := ["boxes", "asked", "told", "at"]) (ws := [.int i]) scX (fun pm ctv us hl => match us, hl with | [_, _, _], _ => rfl) hr e0 m1 m5 C rv rfl fun hr => ⟨_, pe_ix ix_list (pv 0) (pv 3) (fun _ _ => rfl), _, rfl, _, rfl, b, _, _, _, rfl, rfl, SqL.of (lst_hid C hb), atI_nat e2, ?_⟩
    refine back ?_
    have q' : Q (.int ((look kvs x).getD 0)) H := q
    rw [e1] at q'
    exact q'
  | asked =>
    obtain ⟨⟨qu, pa, bo, sc, cl, co⟩, M, C⟩ := hc
    obtain ⟨m1, rfl, rfl, rfl, m5⟩ := M
    refine lam_run (k := n + 1) (N := ["boxes", "asked", "told"]) (ws := []) scA (fun pm ctv us hl => match us, hl with | [_, _, _], _ => rfl) hr e0 m1 m5 C rv rfl fun hr => ⟨_, pv 1, _, rfl, ?_⟩
    exact back q
  | told =>
    obtain ⟨⟨qu, pa, bo, sc, cl, co⟩, M, C⟩ := hc
    obtain ⟨m1, rfl, rfl, rfl, m5⟩ := M
    refine lam_run (k := n + 1) (N := ["boxes", "asked", "told"]) (ws := []) scT (fun pm ctv us hl => match us, hl with | [_, _, _], _ => rfl) hr e0 m1 m5 C rv rfl fun hr => ⟨_, pv 2, _, rfl, ?_⟩
    exact back q
  | op d l r =>
    obtain ⟨⟨qu, pa, bo, sc, cl, co⟩, g, fl, fr, M, C, ⟨kk, FR⟩, h1, h2⟩ := hc
    obtain ⟨m1, rfl, rfl, rfl, m5⟩ := M
    have dl : l.deep ≤ n := Nat.le_trans (Nat.le_max_left ..) (Nat.le_of_succ_le_succ hd)
    have dr : r.deep ≤ n := Nat.le_trans (Nat.le_max_right ..) (Nat.le_of_succ_le_succ hd)
    have dl6 : l.deep ≤ 6 := Nat.le_trans (Nat.le_max_left ..) (Nat.le_of_succ_le hd6)
    have dr6 : r.deep ≤ 6 := Nat.le_trans (Nat.le_max_right ..) (Nat.le_of_succ_le hd6)
    refine lam_run (k := n + 1) (N := ["boxes", "asked", "told", "deed", "left", "right"]) (ws := [.ref g, .ref fl, .ref fr]) scO (fun pm ctv us hl => match us, hl with | [_, _, _], _ => rfl) hr e0 m1 m5 C rv rfl fun hr =>
      ⟨_, pe_callS (k := 1) (i := 3) (hr.mono (by omega)) pass0 rfl (.inr (.inr rfl)) (pa_cons (pe_callL (i := 4) G hr rfl (.inr (.inr rfl)) (pa_cons (pv 0) (pa_cons (pv 1) (pa_cons (pv 2) pa_nil)))) (pa_cons (pe_callL (i := 5) G hr rfl (.inr (.inr rfl)) (pa_cons (pv 0) (pa_cons (pv 1) (pa_cons (pv 2) pa_nil)))) pa_nil)), ?_⟩
    refine ⟨g, spDeed d, FR, kk, rfl, fl, rfl, h1.lm, _, rfl, _, rfl, _, rfl, h1.lm, l, kvs, xs, b, a, t, rfl, dl, dl6, lst_hid C hb, h1, hg.1, B, ha, ht, ?_⟩
    refine ⟨fr, rfl, h2.lm, _, rfl, _, rfl, _, rfl, h2.lm, r, kvs, xs, b, a, t, rfl, dr, dr6, lst_hid C hb, h2, hg.2, B, ha, ht, ?_⟩
    refine ⟨_, _, rfl, Ex.nb B ha ht hg.1 dl6, Ex.nb B ha ht hg.2 dr6, ?_⟩
    exact back q
theorem all_clo : ∀ n : Nat, FnL P w K mg base (n + 1) (spClo (DeedIs P w K mg base) n)
  | 0 => no_clo.mono (by omega)
  | n + 1 => ok_clo (all_clo n)
end
end Any
set_option maxHeartbeats 1000000
namespace Any
open L2 PySem PySem.Spec PyProof.Rows LamX NdefX
/-! ### heaps that grow, tables aside -/
structure Gr (T : List NTab) (H H' : Hp) : Prop where
  ext : ExtN H H'
  no : ∀ b, H' b = none → H b = none
  tabs : TabsN T H'
theorem Gr.refl {T : List NTab} {H : Hp} (t : TabsN T H) : Gr T H H := ⟨ExtN.refl H, fun _ z => z, t⟩
theorem Gr.trans {T : List NTab} {H H1 H2 : Hp} (a : Gr T H H1) (b : Gr T H1 H2) : Gr T H H2 := ⟨a.ext.trans b.ext, fun c z => a.no c (b.no c z), b.tabs⟩
theorem same_no {H H' : Hp} (s : Same H H') : ∀ b, H' b = none → H b = none := fun b z => by
  cases e : H b with
  | none => rfl
  | some o => rw [s b o e] at z; cases z
theorem Gr.same {T : List NTab} {H H1 H2 : Hp} (a : Gr T H H1) (s : Same H1 H2) : Gr T H H2 := ⟨a.ext.trans (ExtN.of s), fun c z => a.no c (same_no s c z), a.tabs.ext s⟩
theorem Gr.of {T : List NTab} {H H' : Hp} (t : TabsN T H) (s : Same H H') : Gr T H H' := (Gr.refl t).same s
theorem Gr.tup {T : List NTab} {H H' : Hp} (g : Gr T H H') {a : Addr} {xs : List V} (h : H a = some (.tup xs)) : H' a = some (.tup xs) := g.ext _ _ h fun _ z => by cases z
theorem Gr.lst {T : List NTab} {H H' : Hp} (g : Gr T H H') {a : Addr} {xs : List V} (h : H a = some (.lst xs)) : H' a = some (.lst xs) := g.ext _ _ h fun _ z => by cases z
theorem Gr.dK {T : List NTab} {H H' : Hp} (g : Gr T H H') {a : Addr} {xs : List (Key × V)} (h : H a = some (.dK xs)) : H' a = some (.dK xs) := g.ext _ _ h fun _ z => by cases z
theorem Gr.tups {T : List NTab} {H H' : Hp} (g : Gr T H H') : Tups H H' := fun _ _ h => g.tup h
/-! ### a def that hands back a lambda -/
structure FunC (K : PySem.W.Frag) (x qual : Str) (st : Stmt) (f : Addr) (fd : FuncData) (c : Addr) : Prop where
  ex : ∃ (oc : Value) (od : Option Addr) (kV doc pm : Value) (an : Option Addr) (ct : Value) (osl : Array (Option Value)),
    fd = PySem.W.fnOf x qual (defArgs st) (defBody st) (defScope st) .none kV doc pm an (.ref c) ct ∧ K.lookup f = some ⟨oc, od, .func fd, osl⟩ ∧ PySem.W.codeIn K (.ref c) qual = true
  kp : PySem.W.keepIn K (.ref f) = true
section
variable {P : Program} {w : World} {K : PySem.W.Frag} {mg : Str → Option Value} {base : Heap} {f c : Addr} {fd : FuncData}
theorem fun_c {x ql : Str} {st : Stmt} {N ps : List Str} {k : Nat} {sp : Sp} (F : FunC K x ql st f fd c) (S : FnScope N ps (defScope st)) (ln : ∀ vs H Q E, sp vs H Q E → vs.length = ps.length)
    (hb : ∀ (A : Around) (out : List Env) (s : Shared) (H : Hp) (vs : List V) (Q : VK) (E : XK), Room k (A.deeper (envOfC ql (defScope st) s.heap.objs.size f (.ref c))) → sp vs H Q E →
      ∃ t, PRs (cxOf CX0 P w K mg base N ql (defScope st) f (.ref c) A out s H E) (defBody st) t ∧ t ⟨fun _ H' => Q .non H', RetC N (defScope st) s.heap.objs.size Q⟩ (L2.start N vs) H) : FnOk P w K mg base CX0 (k + 1) f fd ps sp := by
  obtain ⟨_, _, _, _, _, _, _, _, rfl, lk, hc⟩ := F.ex
  exact fn_c lk hc S ln hb
theorem FunC.binds {x ql : Str} {st : Stmt} {ps : List Str} (F : FunC K x ql st f fd c) (h : ∀ (kV doc pm : Value) (an : Option Addr) (ct : Value) (us : List Value), us.length = ps.length → bindArgs (PySem.W.fnOf x ql (defArgs st) (defBody st) (defScope st) .none kV doc pm an (.ref c) ct) ⟨us, []⟩ = pure (ps.zip us)) : Binds K fd ps [] := by
  obtain ⟨_, _, kV, doc, pm, an, ct, _, rfl, lk, hc⟩ := F.ex
  intro s us _ hl
  rw [List.append_nil] at hl ⊢
  exact .of_eq (h kV doc pm an ct us hl)
/-- the captured names are known at the end -/
theorem caps_ret {N N2 ps fr : List Str} {sc nsc : Scope} {L : Addr} {σ : L2.St} {H' H'' : Hp} {F : LF} {ws : List V}
    (R : ∀ (x : Str) (c : Addr) (i : Nat) (u : V), (cellsFrom (L + 1) sc.names []).lookup x = some c → N[i]? = some x → σ[i]? = some (some u) → sc.names.lookup x = some .cell → H' c = none ∧ H'' c = some (CellO c u))
    (inj : ∀ x y c, (cellsFrom (L + 1) sc.names []).lookup x = some c → (cellsFrom (L + 1) sc.names []).lookup y = some c → x = y)
    (hcl : F.cl = cloFrom (cellsFrom (L + 1) sc.names []) nsc.names []) (S : NScope N2 ps fr nsc) (cel : ∀ y ∈ fr, sc.names.lookup y = some .cell) (len : ws.length = fr.length)
    (at_ : ∀ (i : Nat) (y : Str), fr[i]? = some y → ∃ (j : Nat) (u : V), N[j]? = some y ∧ σ[j]? = some (some u) ∧ ws[i]? = some u) : CapsAt H'' F fr ws ∧ ∀ b ∈ F.cells, H' b = none := by
  have hfree : ∀ y ∈ nsc.names, y.2 = .free → ∃ c, (cellsFrom (L + 1) sc.names []).lookup y.1 = some c := fun y hy e => cell_has (cel _ (S.free y hy e))
  have sub : ∀ {y c}, F.cl.lookup y = some c → (cellsFrom (L + 1) sc.names []).lookup y = some c := fun {y c} e => by
    rw [hcl] at e
    exact clo_cm hfree e
  have infr : ∀ {y c}, F.cl.lookup y = some c → y ∈ fr := fun {y c} e => by
    rw [hcl] at e
    rcases cloFrom_mem (PySem.mem_of_lookup e) with hm | ⟨h1, _⟩
    · cases hm
    · exact S.free _ h1 rfl
  have one : ∀ {y c}, F.cl.lookup y = some c → ∃ u, H' c = none ∧ H'' c = some (CellO c u) := fun {y c} e => by
    have hy := infr e
    obtain ⟨i, hi⟩ := List.mem_iff_getElem?.mp hy
    obtain ⟨j, u, j1, j2, _⟩ := at_ i y hi
    exact ⟨u, R y c j u (sub e) j1 j2 (cel y hy)⟩
  refine ⟨⟨len, fun y c e => ?_, fun x y c e1 e2 => inj x y c (sub e1) (sub e2), fun i y e => ?_⟩, fun b hb => ?_⟩
  · obtain ⟨u, _, z⟩ := one e
    exact ⟨u, z⟩
  · have hy := List.mem_of_getElem? e
    obtain ⟨c, hc⟩ := cell_has (n := L + 1) (cel y hy)
    refine ⟨c, ?_, fun v hv => ?_⟩
    · rw [hcl]
      exact clo_has hfree (PySem.mem_of_lookup (S.frk y hy)) hc
    · obtain ⟨j, u, j1, j2, j3⟩ := at_ i y e
      rw [hv] at j3
      cases j3
      exact (R y c j v hc j1 j2 (cel y hy)).2
  · obtain ⟨y, e⟩ := F.of_cells hb
    obtain ⟨u, z, _⟩ := one e
    exact z
end
/-! ### ready_worth -/
abbrev nmReady : List Str := ["expression", "owns", "kind", "number", "at", "deed", "left", "right"]
abbrev psReady : List Str := ["expression", "owns"]
theorem scReady : FnScope nmReady psReady (defScope sReady) := ⟨rfl, rfl, rfl, by decide +kernel, rfl, by decide +kernel, by decide +kernel⟩
/-- the lambdas' own name -/
def qReady : Str := (envOfC "ready_worth" (defScope sReady) 0 0 .none).qual ++ "<lambda>"
/-- a lambda that ready_worth made, its frame at L0 -/
abbrev mkReady (L : Expr) (L0 c' : Addr) : LF := ⟨qReady, lamP L, lamB L, lamS L, cloFrom (cellsFrom (L0 + 1) (defScope sReady).names []) (lamS L).names [], c'⟩
def spReady (T : List NTab) (G : Dd → Addr → Prop) (n : Nat) : Sp := fun vs H Q _ => ∃ (v : V) (o : Addr) (e : Ex) (xs : List Str), vs = [v, .ref o] ∧ ExAt H v e ∧ e.deep ≤ n ∧ e.good xs ∧ H o = some (.lst (xs.map V.str)) ∧ TabsN T H ∧
  ∀ f H', Gr T H H' → CloE G xs e H' f → Q (.ref f) H'
/-- the first place of a name -/
theorem first_at {x : Str} : ∀ {xs : List Str}, x ∈ xs → ∃ i : Nat, xs[i]? = some x ∧ ∀ j, j < i → xs[j]? ≠ some x
  | y :: r, h => by
    by_cases e : y = x
    · exact ⟨0, by rw [e]; rfl, fun j hj => absurd hj (Nat.not_lt_zero _)⟩
    · rcases List.mem_cons.mp h with z | z
      · exact absurd z.symm e
      · obtain ⟨i, h1, h2⟩ := first_at z
        refine ⟨i + 1, h1, fun j hj => ?_⟩
        cases j with
        | zero => exact fun z => e (Option.some.inj z)
        | succ j => exact h2 j (by omega)
theorem strs_flat : ∀ xs : List Str, (xs.map V.str).all flatV = true
  | [] => rfl
  | x :: r => by
    rw [List.map_cons, List.all_cons, strs_flat r]
    rfl
/-- the table of deeds, each a def that keeps its promise -/
structure DeedsT (P : Program) (w : World) (K : PySem.W.Frag) (mg : Str → Option Value) (base : Heap) : Prop where
  ex : ∃ D : Addr, mg "DEEDS" = some (.ref D) ∧ ∀ d : Dd, ∃ g : Addr, KDct K w D d.word (.ref g) ∧ DeedIs P w K mg base d g
section
variable {P : Program} {w : World} {K : PySem.W.Frag} {mg : Str → Option Value} {base : Heap} {f c Pt : Addr} {fd : FuncData} {T : List NTab}
theorem no_ready : FnOk P w K mg base CX0 0 f fd psReady (spReady T (DeedIs P w K mg base) 0) := by
  have no : ∀ vs H Q E, ¬ spReady T (DeedIs P w K mg base) 0 vs H Q E := fun vs H Q E h => by
    obtain ⟨v, o, e, xs, _, _, hd, _⟩ := h
    cases e <;> exact absurd hd (by show ¬ _ ≤ 0; exact Nat.not_succ_le_zero _)
  exact ⟨fun vs H Q E h => absurd h (no vs H Q E), fun A outer s H args us vs Q E _ _ _ _ h => absurd h (no vs H Q E)⟩
theorem ok_ready {n : Nat} (F : FunC K "ready_worth" "ready_worth" sReady f fd c) (TB : TabB base mg c Pt) (hm : (Pt, fun _ _ => qReady) ∈ T) (hu : ∀ p ∈ T, p.1 = Pt → p.2 = fun _ _ => qReady) (G : FnOk P w K mg base CX0 (n + 1) f fd psReady (spReady T (DeedIs P w K mg base) n))
    (D : DeedsT P w K mg base) (mR : mg "ready_worth" = some (.ref f)) (bR : Binds K fd psReady []) : FnOk P w K mg base CX0 (n + 2) f fd psReady (spReady T (DeedIs P w K mg base) (n + 1)) := by
  refine fun_c F scReady (fun vs H Q E h => ?_) (fun A outer s H vs Q E hr h => ?_)
  · obtain ⟨v, o, e, xs, rfl, _⟩ := h
    rfl
  obtain ⟨v, o, e, xs, rfl, hv, hd, hg, ho, hT, q⟩ := h
  obtain ⟨DA, mD, hD⟩ := D.ex
  let X := cxOf CX0 P w K mg base nmReady "ready_worth" (defScope sReady) f (.ref c) A outer s H E
  have TBx : TabB X.base X.mg c Pt := TB
  refine ⟨_, prs_cons (pr_go (ps_set (i := 2) scReady.nd rfl (Or.inl rfl) (pe_ix ix_tup (pv 0) pe_int (fun _ _ => rfl))))
    (prs_cons (pr_if (pt_cmpR op_eq (pv 2) pe_str (nomark _)) (prs_cons (pr_go (ps_set (i := 3) scReady.nd rfl (Or.inr rfl) (pe_ix ix_tup (pv 0) pe_int (fun _ _ => rfl)))) (prs_one (pr_ret (pe_lamb TBx rfl hm rfl hu rfl (ndef_free (sc := defScope sReady) (fr := []) (by decide +kernel)))))) prs_nil)
    (prs_cons (pr_if (pt_cmpR op_eq (pv 2) pe_str (nomark _)) (prs_cons (pr_go (ps_set (i := 4) scReady.nd rfl (Or.inr rfl) (pe_bm PySem.F.plainAttrs_list PySem.F.slot_list_index PySem.F.type_list_index mt_index (pv 1) (pa_cons (pe_ix ix_tup (pv 0) pe_int (fun _ _ => rfl)) pa_nil)))) (prs_one (pr_ret (pe_lamb TBx rfl hm rfl hu rfl (ndef_free (sc := defScope sReady) (fr := []) (by decide +kernel)))))) prs_nil)
    (prs_cons (pr_if (pt_cmpR op_eq (pv 2) pe_str (nomark _)) (prs_one (pr_ret (pe_lamb TBx rfl hm rfl hu rfl (ndef_free (sc := defScope sReady) (fr := []) (by decide +kernel))))) prs_nil)
    (prs_cons (pr_if (pt_cmpR op_eq (pv 2) pe_str (nomark _)) (prs_one (pr_ret (pe_lamb TBx rfl hm rfl hu rfl (ndef_free (sc := defScope sReady) (fr := []) (by decide +kernel))))) prs_nil)
    (prs_cons (pr_go (ps_set (i := 5) scReady.nd rfl (Or.inr rfl) (pe_ix ix_kdict (pe_glob (v := .ref DA) rfl mD rfl) (pv 2) (fun _ _ => rfl))))
    (prs_cons (pr_go (ps_set (i := 6) scReady.nd rfl (Or.inr rfl) (pe_call G hr rfl mR F.kp bR .nil pass0 (pa_cons (pe_ix ix_tup (pv 0) pe_int (fun _ _ => rfl)) (pa_cons (pv 1) pa_nil)))))
    (prs_cons (pr_go (ps_set (i := 7) scReady.nd rfl (Or.inr rfl) (pe_call G hr rfl mR F.kp bR .nil pass0 (pa_cons (pe_ix ix_tup (pv 0) pe_int (fun _ _ => rfl)) (pa_cons (pv 1) pa_nil)))))
    (prs_one (pr_ret (pe_lamb TBx rfl hm rfl hu rfl (ndef_free (sc := defScope sReady) (fr := []) (by decide +kernel)))))))))))), ?_⟩
  cases hv with
  | num h =>
    rename_i a m
    refine ⟨_, rfl, _, _, _, _, rfl, rfl, SqT.of h, atI_nat (j := 0) rfl, ?_⟩
    refine ⟨_, rfl, rfl, _, rfl, itT eq_str ?_⟩
    refine ⟨_, rfl, _, _, _, _, rfl, rfl, SqT.of h, atI_nat (j := 1) rfl, hT, fun g c' H1 eN nn T1 f0 f1 c1 H2 sm R _ inj => ?_⟩
    obtain ⟨C, _⟩ := caps_ret (F := mkReady lamN s.heap.objs.size c') (ws := [.int m]) R inj rfl scN (by decide +kernel) rfl fun i y e => match i, e with | 0, e => by cases e; exact ⟨3, _, rfl, rfl, rfl⟩ | _ + 1, e => by cases e
    exact q g H2 ⟨eN.trans (ExtN.of sm), fun b z => nn b (same_no sm b z), T1.ext sm⟩ ⟨_, ⟨sm _ _ f1, rfl, rfl, rfl, sm _ _ c1⟩, C⟩
  | box h =>
    rename_i a x
    obtain ⟨i, i1, i2⟩ := first_at hg
    refine ⟨_, rfl, _, _, _, _, rfl, rfl, SqT.of h, atI_nat (j := 0) rfl, ?_⟩
    refine ⟨_, rfl, rfl, _, rfl, itF (ne_str (by decide)) ?_⟩
    refine ⟨_, rfl, rfl, _, rfl, itT eq_str ?_⟩
    refine ⟨_, rfl, .inl ⟨rfl, _, SqL.of ho⟩, _, rfl, _, _, _, _, rfl, rfl, SqT.of h, atI_nat (j := 1) rfl, o, _, _, i, .str x, rfl, rfl, SqL.of ho, rfl, strs_flat xs, by rw [List.getElem?_map, i1]; rfl, by simp [eqV], fun j z hj hz => ?_, ?_⟩
    · rw [List.getElem?_map] at hz
      cases ez : xs[j]? with
      | none => rw [ez] at hz; cases hz
      | some y =>
        rw [ez] at hz
        cases hz
        have : y ≠ x := fun e => i2 j hj (by rw [ez, e])
        simp [eqV, this]
    · refine ⟨hT, fun g c' H1 eN nn T1 f0 f1 c1 H2 sm R _ inj => ?_⟩
      obtain ⟨C, _⟩ := caps_ret (F := mkReady lamX s.heap.objs.size c') (ws := [.int i]) R inj rfl scX (by decide +kernel) rfl fun i y e => match i, e with | 0, e => by cases e; exact ⟨4, _, rfl, rfl, rfl⟩ | _ + 1, e => by cases e
      exact q g H2 ⟨eN.trans (ExtN.of sm), fun b z => nn b (same_no sm b z), T1.ext sm⟩ ⟨_, i, ⟨sm _ _ f1, rfl, rfl, rfl, sm _ _ c1⟩, C, i1, i2⟩
  | asked h =>
    refine ⟨_, rfl, _, _, _, _, rfl, rfl, SqT.of h, atI_nat (j := 0) rfl, ?_⟩
    refine ⟨_, rfl, rfl, _, rfl, itF (ne_str (by decide)) ?_⟩
    refine ⟨_, rfl, rfl, _, rfl, itF (ne_str (by decide)) ?_⟩
    refine ⟨_, rfl, rfl, _, rfl, itT eq_str ?_⟩
    refine ⟨hT, fun g c' H1 eN nn T1 f0 f1 c1 H2 sm R _ inj => ?_⟩
    obtain ⟨C, _⟩ := caps_ret (F := mkReady lamA s.heap.objs.size c') (ws := []) R inj rfl scA (by decide +kernel) rfl fun i y e => by cases e
    exact q g H2 ⟨eN.trans (ExtN.of sm), fun b z => nn b (same_no sm b z), T1.ext sm⟩ ⟨_, ⟨sm _ _ f1, rfl, rfl, rfl, sm _ _ c1⟩, C⟩
  | told h =>
    refine ⟨_, rfl, _, _, _, _, rfl, rfl, SqT.of h, atI_nat (j := 0) rfl, ?_⟩
    refine ⟨_, rfl, rfl, _, rfl, itF (ne_str (by decide)) ?_⟩
    refine ⟨_, rfl, rfl, _, rfl, itF (ne_str (by decide)) ?_⟩
    refine ⟨_, rfl, rfl, _, rfl, itF (ne_str (by decide)) ?_⟩
    refine ⟨_, rfl, rfl, _, rfl, itT eq_str ?_⟩
    refine ⟨hT, fun g c' H1 eN nn T1 f0 f1 c1 H2 sm R _ inj => ?_⟩
    obtain ⟨C, _⟩ := caps_ret (F := mkReady lamT s.heap.objs.size c') (ws := []) R inj rfl scT (by decide +kernel) rfl fun i y e => by cases e
    exact q g H2 ⟨eN.trans (ExtN.of sm), fun b z => nn b (same_no sm b z), T1.ext sm⟩ ⟨_, ⟨sm _ _ f1, rfl, rfl, rfl, sm _ _ c1⟩, C⟩
  | op h h1 h2 =>
    rename_i p d x y l r
    have w1 : d.word ≠ "number" ∧ d.word ≠ "box" ∧ d.word ≠ "asked" ∧ d.word ≠ "told" := by cases d <;> decide
    obtain ⟨g, kd, gd⟩ := hD d
    have dl : l.deep ≤ n := Nat.le_trans (Nat.le_max_left ..) (Nat.le_of_succ_le_succ hd)
    have dr : r.deep ≤ n := Nat.le_trans (Nat.le_max_right ..) (Nat.le_of_succ_le_succ hd)
    refine ⟨_, rfl, _, _, _, _, rfl, rfl, SqT.of h, atI_nat (j := 0) rfl, ?_⟩
    refine ⟨_, rfl, rfl, _, rfl, itF (ne_str w1.1) ?_⟩
    refine ⟨_, rfl, rfl, _, rfl, itF (ne_str w1.2.1) ?_⟩
    refine ⟨_, rfl, rfl, _, rfl, itF (ne_str w1.2.2.1) ?_⟩
    refine ⟨_, rfl, rfl, _, rfl, itF (ne_str w1.2.2.2) ?_⟩
    refine ⟨_, rfl, DA, d.word, .ref g, rfl, rfl, kd, ?_⟩
    refine ⟨_, rfl, _, _, _, _, rfl, rfl, SqT.of h, atI_nat (j := 1) rfl, _, rfl, x, o, l, xs, rfl, h1, dl, hg.1, ho, hT, fun fl H1 g1 cl1 => ?_⟩
    refine ⟨_, rfl, _, _, _, _, rfl, rfl, SqT.of (g1.tup h), atI_nat (j := 2) rfl, _, rfl, y, o, r, xs, rfl, h2.keep g1.tups, dr, hg.2, g1.lst ho, g1.tabs, fun fr H2 g2 cl2 => ?_⟩
    refine ⟨g2.tabs, fun fo c' H3 eN nn T3 f0 f1 c1 H4 sm R _ inj => ?_⟩
    obtain ⟨C, cn⟩ := caps_ret (F := mkReady lamO s.heap.objs.size c') (ws := [.ref g, .ref fl, .ref fr]) R inj rfl scO (by decide +kernel) rfl fun i y e => match i, e with | 0, e => by cases e; exact ⟨5, _, rfl, rfl, rfl⟩ | 1, e => by cases e; exact ⟨6, _, rfl, rfl, rfl⟩ | 2, e => by cases e; exact ⟨7, _, rfl, rfl, rfl⟩ | _ + 3, e => by cases e
    have g12 := g1.trans g2
    have ex : ∀ cs : List Addr, (∀ b ∈ cs, H3 b = none) → ExtN H3 (hid H4 cs) := fun cs hc b o hb _ => by
      rw [hid_out (fun z => by rw [hc b z] at hb; cases hb)]
      exact sm _ _ hb
    refine q fo H4 ⟨(g12.ext.trans eN).trans (ExtN.of sm), fun b z => g12.no b (nn b (same_no sm b z)), T3.ext sm⟩ ⟨_, g, fl, fr, ⟨sm _ _ f1, rfl, rfl, rfl, sm _ _ c1⟩, C, gd, ?_, ?_⟩
    · exact ((cl1.ext g2.ext).ext eN).ext (ex _ cn)
    · exact (cl2.ext eN).ext (ex _ cn)
theorem all_ready (F : FunC K "ready_worth" "ready_worth" sReady f fd c) (TB : TabB base mg c Pt) (hm : (Pt, fun _ _ => qReady) ∈ T) (hu : ∀ p ∈ T, p.1 = Pt → p.2 = fun _ _ => qReady) (D : DeedsT P w K mg base) (mR : mg "ready_worth" = some (.ref f)) (bR : Binds K fd psReady []) :
    ∀ n : Nat, FnOk P w K mg base CX0 (n + 1) f fd psReady (spReady T (DeedIs P w K mg base) n)
  | 0 => no_ready.mono (by omega)
  | n + 1 => ok_ready F TB hm hu (all_ready F TB hm hu D mR bR n) D mR bR
end
theorem bx_names : ∀ kvs : List (Str × Int), (bx kvs).map (fun kv => kV kv.1) = (namesOf kvs).map V.str
  | [] => rfl
  | p :: r => by
    have ih := bx_names r
    unfold bx namesOf at ih ⊢
    rw [List.map_cons, List.map_cons, List.map_cons, List.map_cons, ih]
    rfl
theorem bx_nums : ∀ kvs : List (Str × Int), (bx kvs).map (·.2) = numsV kvs
  | [] => rfl
  | p :: r => by
    have ih := bx_nums r
    unfold bx numsV at ih ⊢
    rw [List.map_cons, List.map_cons, List.map_cons, ih]
theorem look_in : ∀ {kvs : List (Str × Int)} {x : Str} {n : Int}, look kvs x = some n → x ∈ namesOf kvs
  | [], x, n, h => by cases h
  | p :: r, x, n, h => by
    by_cases e : p.1 = x
    · rw [← e]
      exact List.mem_cons_self ..
    · refine List.mem_cons_of_mem _ (look_in (n := n) ?_)
      unfold look at h ⊢
      rw [List.find?_cons, decide_eq_false e] at h
      exact h
theorem Ex.good_of {kvs : List (Str × Int)} {xs : List Str} (B : Bx kvs xs) : ∀ {e : Ex}, e.good xs → e.good (namesOf kvs)
  | .num _, h => h
  | .box x, h => by
    obtain ⟨n, e, _⟩ := B.all x h
    exact look_in e
  | .asked, _ => trivial
  | .told, _ => trivial
  | .op _ l r, h => ⟨Ex.good_of B h.1, Ex.good_of B h.2⟩
end Any
set_option maxHeartbeats 1000000
namespace Any
open L2 PySem PySem.Spec PyProof.Rows LamX NdefX
abbrev sWorth : Stmt := top 11
abbrev nmWorth : List Str := ["expression", "boxes", "asked", "told", "worth_by"]
abbrev psWorth : List Str := ["expression", "boxes", "asked", "told"]
theorem scWorth : FnScope nmWorth psWorth (defScope sWorth) := ⟨rfl, rfl, rfl, by decide +kernel, rfl, by decide +kernel, by decide +kernel⟩
def spWorth (T : List NTab) (n : Nat) : Sp := fun vs H Q _ => ∃ (v : V) (c : Addr) (e : Ex) (kvs : List (Str × Int)) (xs : List Str) (a t : Int), vs = [v, .ref c, .int a, .int t] ∧ ExAt H v e ∧ e.deep ≤ n ∧ e.deep ≤ 6 ∧ e.good xs ∧ Bx kvs xs ∧
  H c = some (.dK (bx kvs)) ∧ (0 ≤ a ∧ a < 1024) ∧ (0 ≤ t ∧ t < 1024) ∧ TabsN T H ∧ ∀ H', Gr T H H' → Q (.int (e.val kvs a t)) H'
section
variable {P : Program} {w : World} {K : PySem.W.Frag} {mg : Str → Option Value} {base : Heap} {f rf : Addr} {fd rd : FuncData} {T : List NTab}
theorem ok_worth {n : Nat} {kws : List (Str × V)} (F : FunD K "worth" "worth" (defArgs sWorth) (defBody sWorth) (defScope sWorth) [] kws f fd) (G : FnOk P w K mg base CX0 (n + 1) rf rd psReady (spReady T (DeedIs P w K mg base) n)) (mR : mg "ready_worth" = some (.ref rf)) (kR : PySem.W.keepIn K (.ref rf) = true) (bR : Binds K rd psReady [])
    (ml : mg "list" = none) : FnOk P w K mg base CX0 (n + 2) f fd psWorth (spWorth T n) := by
  refine F.ok scWorth (fun vs H Q E h => ?_) (fun cdv A outer s H vs Q E hr h => ?_)
  · obtain ⟨v, c, e, kvs, xs, a, t, rfl, _⟩ := h
    rfl
  obtain ⟨v, c, e, kvs, xs, a, t, rfl, hv, hd, hd6, hg, B, hc, ha, ht, hT, q⟩ := h
  refine ⟨_, PSs.nox (pss_cons (ps_set (i := 4) scWorth.nd rfl (Or.inl rfl) (pe_call G hr rfl mR kR bR .nil pass0 (pa_cons (pv 0) (pa_cons (pe_callTy (call_listD rfl) rfl ml (by decide +kernel) (pa_cons (pv 1) pa_nil)) pa_nil))))
    (pss_one (ps_ret (pe_callL (i := 4) (all_clo n) hr rfl (.inl rfl) (pa_cons (pe_listVals rfl (pv 1) rfl ml (by decide +kernel)) (pa_cons (pv 2) (pa_cons (pv 3) pa_nil))))))), ?_⟩
  refine ⟨_, rfl, _, rfl, c, _, rfl, .inl hc, fun p1 hp1 => ?_⟩
  rw [bx_names]
  have s1 := same_new hp1 (.lst ((namesOf kvs).map V.str))
  refine ⟨v, p1, e, namesOf kvs, rfl, hv.keep (Same.tups s1), hd, Ex.good_of B hg, upd_same, hT.ext s1, fun g H2 g2 cl => ?_⟩
  have gr := (Gr.of hT s1).trans g2
  refine ⟨g, rfl, cl.lm, _, rfl, c, _, rfl, gr.dK hc, fun p3 hp3 => ?_⟩
  rw [bx_nums]
  have s3 := same_new hp3 (.lst (numsV kvs))
  have cl3 := cl.ext (ExtN.of s3)
  exact ⟨_, rfl, _, rfl, cl3.lm, e, kvs, xs, p3, a, t, rfl, hd, hd6, upd_same, cl3, hg, B, ha, ht, q _ (gr.same s3)⟩
theorem kb_worth {kws : List (Str × V)} (F : FunD K "worth" "worth" (defArgs sWorth) (defBody sWorth) (defScope sWorth) [] kws f fd) : KBn K fd psWorth 2 ["asked", "told"] (fun us ws => us ++ ws) (fun us ws => us ++ ws) := by
  obtain ⟨oc, od, dV, kV, doc, pm, an, cdv, ct, osl, rfl, lk, hcd, hD, hK⟩ := F.ex
  have hd : dV = .none := hD.elim (fun z => z.2) (fun z => absurd rfl z.1)
  subst hd
  refine ⟨fun s us ws _ l1 l2 => ?_, fun r1 r2 => r1.append r2⟩
  match us, ws, l1, l2 with
  | [u1, u2], [w1, w2], _, _ => exact .of_eq rfl
end
end Any
set_option maxHeartbeats 1000000
namespace Any
open L2 PySem PySem.Spec PyProof.Rows LamX NdefX
/-! ### tests as trees -/
inductive Ts
  | is (l r : Ex) | bel (l r : Ex) | nt (t : Ts) | both (t u : Ts) | either (t u : Ts)
def Ts.deep : Ts → Nat
  | .is _ _ => 1
  | .bel _ _ => 1
  | .nt t => t.deep + 1
  | .both t u => max t.deep u.deep + 1
  | .either t u => max t.deep u.deep + 1
/-- of these boxes, its expressions not too deep -/
def Ts.good (xs : List Str) : Ts → Prop
  | .is l r => (l.good xs ∧ l.deep ≤ 6) ∧ (r.good xs ∧ r.deep ≤ 6)
  | .bel l r => (l.good xs ∧ l.deep ≤ 6) ∧ (r.good xs ∧ r.deep ≤ 6)
  | .nt t => t.good xs
  | .both t u => t.good xs ∧ u.good xs
  | .either t u => t.good xs ∧ u.good xs
def Ts.val (kvs : List (Str × Int)) (a t : Int) : Ts → Bool
  | .is l r => decide (l.val kvs a t = r.val kvs a t)
  | .bel l r => decide (l.val kvs a t < r.val kvs a t)
  | .nt x => !x.val kvs a t
  | .both x y => x.val kvs a t && y.val kvs a t
  | .either x y => x.val kvs a t || y.val kvs a t
inductive TsAt (H : Hp) : V → Ts → Prop
  | is {a : Addr} {v u : V} {l r : Ex} : H a = some (.tup [.str "is", v, u]) → ExAt H v l → ExAt H u r → TsAt H (.ref a) (.is l r)
  | bel {a : Addr} {v u : V} {l r : Ex} : H a = some (.tup [.str "below", v, u]) → ExAt H v l → ExAt H u r → TsAt H (.ref a) (.bel l r)
  | nt {a : Addr} {v : V} {t : Ts} : H a = some (.tup [.str "not", v]) → TsAt H v t → TsAt H (.ref a) (.nt t)
  | both {a : Addr} {v u : V} {l r : Ts} : H a = some (.tup [.str "both", v, u]) → TsAt H v l → TsAt H u r → TsAt H (.ref a) (.both l r)
  | either {a : Addr} {v u : V} {l r : Ts} : H a = some (.tup [.str "either", v, u]) → TsAt H v l → TsAt H u r → TsAt H (.ref a) (.either l r)
theorem TsAt.keep {H H' : Hp} (k : Tups H H') {v : V} {e : Ts} (h : TsAt H v e) : TsAt H' v e := by
  induction h with
  | is h h1 h2 => exact .is (k _ _ h) (h1.keep k) (h2.keep k)
  | bel h h1 h2 => exact .bel (k _ _ h) (h1.keep k) (h2.keep k)
  | nt h _ i1 => exact .nt (k _ _ h) i1
  | both h _ _ i1 i2 => exact .both (k _ _ h) i1 i2
  | either h _ _ i1 i2 => exact .either (k _ _ h) i1 i2


abbrev sRT : Stmt := top 14
abbrev sRC : Stmt := top 15
abbrev lamNt : Expr := retE (stN (ifB (stN (defBody sRT) 1)) 1)
abbrev lamBo : Expr := retE (stN (ifB (stN (defBody sRT) 5)) 0)
abbrev lamEi : Expr := retE (stN (defBody sRT) 6)
abbrev lamIs : Expr := retE (stN (ifB (stN (defBody sRC) 0)) 0)
abbrev lamBe : Expr := retE (stN (defBody sRC) 1)
theorem scNt : NScope ["boxes", "asked", "told", "inner"] psL ["inner"] (lamS lamNt) := nscope_by (by decide +kernel)
theorem scBo : NScope ["boxes", "asked", "told", "first", "second"] psL ["first", "second"] (lamS lamBo) := nscope_by (by decide +kernel)
theorem scEi : NScope ["boxes", "asked", "told", "first", "second"] psL ["first", "second"] (lamS lamEi) := nscope_by (by decide +kernel)
theorem scIs : NScope ["boxes", "asked", "told", "left", "right"] psL ["left", "right"] (lamS lamIs) := nscope_by (by decide +kernel)
theorem scBe : NScope ["boxes", "asked", "told", "left", "right"] psL ["left", "right"] (lamS lamBe) := nscope_by (by decide +kernel)
/-- the lambda at f tells whether e holds -/
def CloT (G : Dd → Addr → Prop) (xs : List Str) : Ts → Hp → Addr → Prop
  | .is l r, H, f => ∃ (F : LF) (fl fr : Addr), Made H f F lamIs ∧ CapsAt H F ["left", "right"] [.ref fl, .ref fr] ∧ CloE G xs l (hid H F.cells) fl ∧ CloE G xs r (hid H F.cells) fr
  | .bel l r, H, f => ∃ (F : LF) (fl fr : Addr), Made H f F lamBe ∧ CapsAt H F ["left", "right"] [.ref fl, .ref fr] ∧ CloE G xs l (hid H F.cells) fl ∧ CloE G xs r (hid H F.cells) fr
  | .nt t, H, f => ∃ (F : LF) (fi : Addr), Made H f F lamNt ∧ CapsAt H F ["inner"] [.ref fi] ∧ CloT G xs t (hid H F.cells) fi
  | .both t u, H, f => ∃ (F : LF) (fl fr : Addr), Made H f F lamBo ∧ CapsAt H F ["first", "second"] [.ref fl, .ref fr] ∧ CloT G xs t (hid H F.cells) fl ∧ CloT G xs u (hid H F.cells) fr
  | .either t u, H, f => ∃ (F : LF) (fl fr : Addr), Made H f F lamEi ∧ CapsAt H F ["first", "second"] [.ref fl, .ref fr] ∧ CloT G xs t (hid H F.cells) fl ∧ CloT G xs u (hid H F.cells) fr
theorem CloT.ext {G : Dd → Addr → Prop} {xs : List Str} : ∀ {e : Ts} {H H' : Hp} {f : Addr}, CloT G xs e H f → ExtN H H' → CloT G xs e H' f
  | .is _ _, _, _, _, ⟨F, a, b, m, c, h1, h2⟩, e => ⟨F, a, b, m.ext e, c.ext e, h1.ext (hid_ext e _), h2.ext (hid_ext e _)⟩
  | .bel _ _, _, _, _, ⟨F, a, b, m, c, h1, h2⟩, e => ⟨F, a, b, m.ext e, c.ext e, h1.ext (hid_ext e _), h2.ext (hid_ext e _)⟩
  | .nt _, _, _, _, ⟨F, a, m, c, h1⟩, e => ⟨F, a, m.ext e, c.ext e, CloT.ext h1 (hid_ext e _)⟩
  | .both _ _, _, _, _, ⟨F, a, b, m, c, h1, h2⟩, e => ⟨F, a, b, m.ext e, c.ext e, CloT.ext h1 (hid_ext e _), CloT.ext h2 (hid_ext e _)⟩
  | .either _ _, _, _, _, ⟨F, a, b, m, c, h1, h2⟩, e => ⟨F, a, b, m.ext e, c.ext e, CloT.ext h1 (hid_ext e _), CloT.ext h2 (hid_ext e _)⟩
theorem CloT.lm {G : Dd → Addr → Prop} {xs : List Str} : ∀ {e : Ts} {H : Hp} {f : Addr}, CloT G xs e H f → IsLm H f
  | .is _ _, _, _, ⟨F, _, _, m, _⟩ => ⟨F, m.at_⟩
  | .bel _ _, _, _, ⟨F, _, _, m, _⟩ => ⟨F, m.at_⟩
  | .nt _, _, _, ⟨F, _, m, _⟩ => ⟨F, m.at_⟩
  | .both _ _, _, _, ⟨F, _, _, m, _⟩ => ⟨F, m.at_⟩
  | .either _ _, _, _, ⟨F, _, _, m, _⟩ => ⟨F, m.at_⟩
def spCloT (G : Dd → Addr → Prop) (n : Nat) (f : Addr) : Sp := fun vs H Q _ => ∃ (e : Ts) (kvs : List (Str × Int)) (xs : List Str) (b : Addr) (a t : Int), vs = [.ref b, .int a, .int t] ∧ e.deep ≤ n ∧ H b = some (.lst (numsV kvs)) ∧ CloT G (namesOf kvs) e H f ∧ e.good xs ∧ Bx kvs xs ∧
  (0 ≤ a ∧ a < 1024) ∧ (0 ≤ t ∧ t < 1024) ∧ Q (.bl (e.val kvs a t)) H
section
variable {P : Program} {w : World} {K : PySem.W.Frag} {mg : Str → Option Value} {base : Heap}
theorem no_cloT {k : Nat} : FnL P w K mg base k (spCloT (DeedIs P w K mg base) 0) := fun f A outer s H us vs Q _ _ _ h => by
  obtain ⟨e, kvs, xs, b, a, t, _, hd, _⟩ := h
  cases e <;> exact absurd hd (by show ¬ _ ≤ 0; exact Nat.not_succ_le_zero _)
theorem ok_cloT {n : Nat} (G : FnL P w K mg base (n + 7) (spCloT (DeedIs P w K mg base) n)) : FnL P w K mg base (n + 8) (spCloT (DeedIs P w K mg base) (n + 1)) := by
  intro f A outer s H us vs Q hr e0 rv h
  obtain ⟨e, kvs, xs, b, a, t, rfl, hd, hb, hc, hg, B, ha, ht, q⟩ := h
  have G6 : FnL P w K mg base 7 (spClo (DeedIs P w K mg base) 6) := all_clo 6
  cases e with
  | is l r =>
    obtain ⟨⟨qu, pa, bo, sc, cl, co⟩, fl, fr, M, C, h1, h2⟩ := hc
    obtain ⟨m1, rfl, rfl, rfl, m5⟩ := M
    refine lam_run (k := n + 7) (N := ["boxes", "asked", "told", "left", "right"]) (ws := [.ref fl, .ref fr]) scIs (fun pm ctv us hl => match us, hl with | [_, _, _], _ => rfl) hr e0 m1 m5 C rv rfl fun hr =>
      ⟨_, pe_cmpR op_eq (pe_callL (i := 3) G6 (hr.mono (by omega)) rfl (.inr (.inr rfl)) (pa_cons (pv 0) (pa_cons (pv 1) (pa_cons (pv 2) pa_nil)))) (pe_callL (i := 4) G6 (hr.mono (by omega)) rfl (.inr (.inr rfl)) (pa_cons (pv 0) (pa_cons (pv 1) (pa_cons (pv 2) pa_nil)))) (nomark _), ?_⟩
    refine ⟨fl, rfl, h1.lm, _, rfl, _, rfl, _, rfl, h1.lm, l, kvs, xs, b, a, t, rfl, hg.1.2, hg.1.2, lst_hid C hb, h1, hg.1.1, B, ha, ht, ?_⟩
    refine ⟨fr, rfl, h2.lm, _, rfl, _, rfl, _, rfl, h2.lm, r, kvs, xs, b, a, t, rfl, hg.2.2, hg.2.2, lst_hid C hb, h2, hg.2.1, B, ha, ht, rfl, ?_⟩
    rw [show decide (V.int (l.val kvs a t) = V.int (r.val kvs a t)) = decide (l.val kvs a t = r.val kvs a t) from decide_eq_decide.mpr ⟨fun z => V.int.inj z, fun z => by rw [z]⟩]
    exact back q
  | bel l r =>
    obtain ⟨⟨qu, pa, bo, sc, cl, co⟩, fl, fr, M, C, h1, h2⟩ := hc
    obtain ⟨m1, rfl, rfl, rfl, m5⟩ := M
    refine lam_run (k := n + 7) (N := ["boxes", "asked", "told", "left", "right"]) (ws := [.ref fl, .ref fr]) scBe (fun pm ctv us hl => match us, hl with | [_, _, _], _ => rfl) hr e0 m1 m5 C rv rfl fun hr =>
      ⟨_, pe_cmpR op_lt (pe_callL (i := 3) G6 (hr.mono (by omega)) rfl (.inr (.inr rfl)) (pa_cons (pv 0) (pa_cons (pv 1) (pa_cons (pv 2) pa_nil)))) (pe_callL (i := 4) G6 (hr.mono (by omega)) rfl (.inr (.inr rfl)) (pa_cons (pv 0) (pa_cons (pv 1) (pa_cons (pv 2) pa_nil)))) (nomark _), ?_⟩
    refine ⟨fl, rfl, h1.lm, _, rfl, _, rfl, _, rfl, h1.lm, l, kvs, xs, b, a, t, rfl, hg.1.2, hg.1.2, lst_hid C hb, h1, hg.1.1, B, ha, ht, ?_⟩
    exact ⟨fr, rfl, h2.lm, _, rfl, _, rfl, _, rfl, h2.lm, r, kvs, xs, b, a, t, rfl, hg.2.2, hg.2.2, lst_hid C hb, h2, hg.2.1, B, ha, ht, _, _, rfl, rfl, back q⟩
  | nt x =>
    obtain ⟨⟨qu, pa, bo, sc, cl, co⟩, fi, M, C, h1⟩ := hc
    obtain ⟨m1, rfl, rfl, rfl, m5⟩ := M
    refine lam_run (k := n + 7) (N := ["boxes", "asked", "told", "inner"]) (ws := [.ref fi]) scNt (fun pm ctv us hl => match us, hl with | [_, _, _], _ => rfl) hr e0 m1 m5 C rv rfl fun hr =>
      ⟨_, pe_not (pe_callL (i := 3) G hr rfl (.inr (.inr rfl)) (pa_cons (pv 0) (pa_cons (pv 1) (pa_cons (pv 2) pa_nil)))), ?_⟩
    exact ⟨fi, rfl, h1.lm, _, rfl, _, rfl, _, rfl, h1.lm, x, kvs, xs, b, a, t, rfl, Nat.le_of_succ_le_succ hd, lst_hid C hb, h1, hg, B, ha, ht, _, rfl, back q⟩
  | both x y =>
    obtain ⟨⟨qu, pa, bo, sc, cl, co⟩, fl, fr, M, C, h1, h2⟩ := hc
    obtain ⟨m1, rfl, rfl, rfl, m5⟩ := M
    have dl : x.deep ≤ n := Nat.le_trans (Nat.le_max_left ..) (Nat.le_of_succ_le_succ hd)
    have dr : y.deep ≤ n := Nat.le_trans (Nat.le_max_right ..) (Nat.le_of_succ_le_succ hd)
    refine lam_run (k := n + 7) (N := ["boxes", "asked", "told", "first", "second"]) (ws := [.ref fl, .ref fr]) scBo (fun pm ctv us hl => match us, hl with | [_, _, _], _ => rfl) hr e0 m1 m5 C rv rfl fun hr =>
      ⟨_, pe_and (pe_callL (i := 3) G hr rfl (.inr (.inr rfl)) (pa_cons (pv 0) (pa_cons (pv 1) (pa_cons (pv 2) pa_nil)))) (pe_one (pe_callL (i := 4) G hr rfl (.inr (.inr rfl)) (pa_cons (pv 0) (pa_cons (pv 1) (pa_cons (pv 2) pa_nil))))), ?_⟩
    have z : Q (.bl (x.val kvs a t && y.val kvs a t)) H := q
    refine ⟨fl, rfl, h1.lm, _, rfl, _, rfl, _, rfl, h1.lm, x, kvs, xs, b, a, t, rfl, dl, lst_hid C hb, h1, hg.1, B, ha, ht, _, rfl, ?_⟩
    cases e1 : x.val kvs a t with
    | false => rw [e1] at z; exact itF rfl (back z)
    | true => rw [e1] at z; exact itT rfl ⟨fr, rfl, h2.lm, _, rfl, _, rfl, _, rfl, h2.lm, y, kvs, xs, b, a, t, rfl, dr, lst_hid C hb, h2, hg.2, B, ha, ht, back z⟩
  | either x y =>
    obtain ⟨⟨qu, pa, bo, sc, cl, co⟩, fl, fr, M, C, h1, h2⟩ := hc
    obtain ⟨m1, rfl, rfl, rfl, m5⟩ := M
    have dl : x.deep ≤ n := Nat.le_trans (Nat.le_max_left ..) (Nat.le_of_succ_le_succ hd)
    have dr : y.deep ≤ n := Nat.le_trans (Nat.le_max_right ..) (Nat.le_of_succ_le_succ hd)
    refine lam_run (k := n + 7) (N := ["boxes", "asked", "told", "first", "second"]) (ws := [.ref fl, .ref fr]) scEi (fun pm ctv us hl => match us, hl with | [_, _, _], _ => rfl) hr e0 m1 m5 C rv rfl fun hr =>
      ⟨_, pe_or (pe_callL (i := 3) G hr rfl (.inr (.inr rfl)) (pa_cons (pv 0) (pa_cons (pv 1) (pa_cons (pv 2) pa_nil)))) (pe_one (pe_callL (i := 4) G hr rfl (.inr (.inr rfl)) (pa_cons (pv 0) (pa_cons (pv 1) (pa_cons (pv 2) pa_nil))))), ?_⟩
    have z : Q (.bl (x.val kvs a t || y.val kvs a t)) H := q
    refine ⟨fl, rfl, h1.lm, _, rfl, _, rfl, _, rfl, h1.lm, x, kvs, xs, b, a, t, rfl, dl, lst_hid C hb, h1, hg.1, B, ha, ht, _, rfl, ?_⟩
    cases e1 : x.val kvs a t with
    | true => rw [e1] at z; exact itT rfl (back z)
    | false => rw [e1] at z; exact itF rfl ⟨fr, rfl, h2.lm, _, rfl, _, rfl, _, rfl, h2.lm, y, kvs, xs, b, a, t, rfl, dr, lst_hid C hb, h2, hg.2, B, ha, ht, back z⟩
theorem all_cloT : ∀ n : Nat, FnL P w K mg base (n + 7) (spCloT (DeedIs P w K mg base) n)
  | 0 => no_cloT
  | n + 1 => ok_cloT (all_cloT n)
end
end Any
set_option maxHeartbeats 1000000
namespace Any
open L2 PySem PySem.Spec PyProof.Rows LamX NdefX
/-! ### ready_comparison, ready_test -/
abbrev nmRC : List Str := ["kind", "left", "right"]
theorem scRC : FnScope nmRC nmRC (defScope sRC) := ⟨rfl, rfl, rfl, by decide +kernel, rfl, by decide +kernel, by decide +kernel⟩
abbrev nmRT : List Str := ["test", "owns", "kind", "inner", "first", "second"]
abbrev psRT : List Str := ["test", "owns"]
theorem scRT : FnScope nmRT psRT (defScope sRT) := ⟨rfl, rfl, rfl, by decide +kernel, rfl, by decide +kernel, by decide +kernel⟩
def qRC : Str := (envOfC "ready_comparison" (defScope sRC) 0 0 .none).qual ++ "<lambda>"
def qRT : Str := (envOfC "ready_test" (defScope sRT) 0 0 .none).qual ++ "<lambda>"
abbrev mkRC (L : Expr) (L0 c' : Addr) : LF := ⟨qRC, lamP L, lamB L, lamS L, cloFrom (cellsFrom (L0 + 1) (defScope sRC).names []) (lamS L).names [], c'⟩
abbrev mkRT (L : Expr) (L0 c' : Addr) : LF := ⟨qRT, lamP L, lamB L, lamS L, cloFrom (cellsFrom (L0 + 1) (defScope sRT).names []) (lamS L).names [], c'⟩
def spRC (T : List NTab) (G : Dd → Addr → Prop) : Sp := fun vs H Q _ => ∃ (k : Str) (fl fr : Addr) (l r : Ex) (xs : List Str), vs = [.str k, .ref fl, .ref fr] ∧ (k = "is" ∨ k = "below") ∧ CloE G xs l H fl ∧ CloE G xs r H fr ∧ TabsN T H ∧
  ∀ f H', Gr T H H' → (k = "is" → CloT G xs (.is l r) H' f) → (k = "below" → CloT G xs (.bel l r) H' f) → Q (.ref f) H'
def spRT (T : List NTab) (G : Dd → Addr → Prop) (n : Nat) : Sp := fun vs H Q _ => ∃ (v : V) (o : Addr) (e : Ts) (xs : List Str), vs = [v, .ref o] ∧ TsAt H v e ∧ e.deep ≤ n ∧ e.good xs ∧ H o = some (.lst (xs.map V.str)) ∧ TabsN T H ∧
  ∀ f H', Gr T H H' → CloT G xs e H' f → Q (.ref f) H'
theorem ext_hid {H3 H4 : Hp} (sm : Same H3 H4) {cs : List Addr} (hc : ∀ b ∈ cs, H3 b = none) : ExtN H3 (hid H4 cs) := fun b o hb _ => by
  rw [hid_out (fun z => by rw [hc b z] at hb; cases hb)]
  exact sm _ _ hb
section
variable {P : Program} {w : World} {K : PySem.W.Frag} {mg : Str → Option Value} {base : Heap} {f c Pt rw_ rc : Addr} {fd rwd rcd : FuncData} {T : List NTab}
theorem ok_rc (F : FunC K "ready_comparison" "ready_comparison" sRC f fd c) (TB : TabB base mg c Pt) (hm : (Pt, fun _ _ => qRC) ∈ T) (hu : ∀ p ∈ T, p.1 = Pt → p.2 = fun _ _ => qRC) : FnOk P w K mg base CX0 1 f fd nmRC (spRC T (DeedIs P w K mg base)) := by
  refine fun_c F scRC (fun vs H Q E h => ?_) (fun A outer s H vs Q E hr h => ?_)
  · obtain ⟨k, fl, fr, l, r, xs, rfl, _⟩ := h
    rfl
  obtain ⟨k, fl, fr, l, r, xs, rfl, hk, h1, h2, hT, q⟩ := h
  let X := cxOf CX0 P w K mg base nmRC "ready_comparison" (defScope sRC) f (.ref c) A outer s H E
  have TBx : TabB X.base X.mg c Pt := TB
  refine ⟨_, prs_cons (pr_if (pt_cmpR op_eq (pv 0) pe_str (nomark _)) (prs_one (pr_ret (pe_lamb TBx rfl hm rfl hu rfl (ndef_free (sc := defScope sRC) (fr := []) (by decide +kernel))))) prs_nil)
    (prs_one (pr_ret (pe_lamb TBx rfl hm rfl hu rfl (ndef_free (sc := defScope sRC) (fr := []) (by decide +kernel))))), ?_⟩
  rcases hk with rfl | rfl
  · refine ⟨_, rfl, rfl, _, rfl, itT eq_str ⟨hT, fun g c' H1 eN nn T1 f0 f1 c1 H2 sm R _ inj => ?_⟩⟩
    obtain ⟨C, cn⟩ := caps_ret (F := mkRC lamIs s.heap.objs.size c') (ws := [.ref fl, .ref fr]) R inj rfl scIs (by decide +kernel) rfl fun i y e => match i, e with | 0, e => by cases e; exact ⟨1, _, rfl, rfl, rfl⟩ | 1, e => by cases e; exact ⟨2, _, rfl, rfl, rfl⟩ | _ + 2, e => by cases e
    exact q g H2 ⟨eN.trans (ExtN.of sm), fun b z => nn b (same_no sm b z), T1.ext sm⟩ (fun _ => ⟨_, fl, fr, ⟨sm _ _ f1, rfl, rfl, rfl, sm _ _ c1⟩, C, (h1.ext eN).ext (ext_hid sm cn), (h2.ext eN).ext (ext_hid sm cn)⟩) fun z => absurd z (by decide)
  · refine ⟨_, rfl, rfl, _, rfl, itF (ne_str (by decide)) ⟨hT, fun g c' H1 eN nn T1 f0 f1 c1 H2 sm R _ inj => ?_⟩⟩
    obtain ⟨C, cn⟩ := caps_ret (F := mkRC lamBe s.heap.objs.size c') (ws := [.ref fl, .ref fr]) R inj rfl scBe (by decide +kernel) rfl fun i y e => match i, e with | 0, e => by cases e; exact ⟨1, _, rfl, rfl, rfl⟩ | 1, e => by cases e; exact ⟨2, _, rfl, rfl, rfl⟩ | _ + 2, e => by cases e
    exact q g H2 ⟨eN.trans (ExtN.of sm), fun b z => nn b (same_no sm b z), T1.ext sm⟩ (fun z => absurd z (by decide)) fun _ => ⟨_, fl, fr, ⟨sm _ _ f1, rfl, rfl, rfl, sm _ _ c1⟩, C, (h1.ext eN).ext (ext_hid sm cn), (h2.ext eN).ext (ext_hid sm cn)⟩
theorem no_rt {k : Nat} : FnOk P w K mg base CX0 k f fd psRT (spRT T (DeedIs P w K mg base) 0) := by
  have no : ∀ vs H Q E, ¬ spRT T (DeedIs P w K mg base) 0 vs H Q E := fun vs H Q E h => by
    obtain ⟨v, o, e, xs, _, _, hd, _⟩ := h
    cases e <;> exact absurd hd (by show ¬ _ ≤ 0; exact Nat.not_succ_le_zero _)
  exact ⟨fun vs H Q E h => absurd h (no vs H Q E), fun A outer s H args us vs Q E _ _ _ _ h => absurd h (no vs H Q E)⟩
theorem ok_rt {n : Nat} (F : FunC K "ready_test" "ready_test" sRT f fd c) (TB : TabB base mg c Pt) (hm : (Pt, fun _ _ => qRT) ∈ T) (hu : ∀ p ∈ T, p.1 = Pt → p.2 = fun _ _ => qRT) (G : FnOk P w K mg base CX0 (n + 7) f fd psRT (spRT T (DeedIs P w K mg base) n)) (mG : mg "ready_test" = some (.ref f)) (bG : Binds K fd psRT [])
    (GW : FnOk P w K mg base CX0 7 rw_ rwd psReady (spReady T (DeedIs P w K mg base) 6)) (mW : mg "ready_worth" = some (.ref rw_)) (kW : PySem.W.keepIn K (.ref rw_) = true) (bW : Binds K rwd psReady [])
    (GC : FnOk P w K mg base CX0 1 rc rcd nmRC (spRC T (DeedIs P w K mg base))) (mC : mg "ready_comparison" = some (.ref rc)) (kC : PySem.W.keepIn K (.ref rc) = true) (bC : Binds K rcd nmRC []) : FnOk P w K mg base CX0 (n + 8) f fd psRT (spRT T (DeedIs P w K mg base) (n + 1)) := by
  refine fun_c F scRT (fun vs H Q E h => ?_) (fun A outer s H vs Q E hr h => ?_)
  · obtain ⟨v, o, e, xs, rfl, _⟩ := h
    rfl
  obtain ⟨v, o, e, xs, rfl, hv, hd, hg, ho, hT, q⟩ := h
  let X := cxOf CX0 P w K mg base nmRT "ready_test" (defScope sRT) f (.ref c) A outer s H E
  have TBx : TabB X.base X.mg c Pt := TB
  have hr7 : Room 7 (A.deeper (envOfC "ready_test" (defScope sRT) s.heap.objs.size f (.ref c))) := hr.mono (by omega)
  have hr1 : Room 1 (A.deeper (envOfC "ready_test" (defScope sRT) s.heap.objs.size f (.ref c))) := hr.mono (by omega)
  have two : 2 ≤ sizeLine := by decide
  refine ⟨_, prs_cons (pr_go (ps_set (i := 2) scRT.nd rfl (Or.inl rfl) (pe_ix ix_tup (pv 0) pe_int (fun _ _ => rfl))))
    (prs_cons (pr_if (pt_cmpR op_eq (pv 2) pe_str (nomark _)) (prs_cons (pr_go (ps_set (i := 3) scRT.nd rfl (Or.inr rfl) (pe_call G hr rfl mG F.kp bG .nil pass0 (pa_cons (pe_ix ix_tup (pv 0) pe_int (fun _ _ => rfl)) (pa_cons (pv 1) pa_nil))))) (prs_one (pr_ret (pe_lamb TBx rfl hm rfl hu rfl (ndef_free (sc := defScope sRT) (fr := []) (by decide +kernel)))))) prs_nil)
    (prs_cons (pr_if (pt_cmpR op_in_seq (pv 2) (pe_tup (pa_cons pe_str (pa_cons pe_str pa_nil))) (by rfl)) (prs_one (pr_ret (pe_call GC hr1 rfl mC kC bC .nil pass0 (pa_cons (pv 2) (pa_cons (pe_call GW hr7 rfl mW kW bW .nil pass0 (pa_cons (pe_ix ix_tup (pv 0) pe_int (fun _ _ => rfl)) (pa_cons (pv 1) pa_nil))) (pa_cons (pe_call GW hr7 rfl mW kW bW .nil pass0 (pa_cons (pe_ix ix_tup (pv 0) pe_int (fun _ _ => rfl)) (pa_cons (pv 1) pa_nil))) pa_nil)))))) prs_nil)
    (prs_cons (pr_go (ps_set (i := 4) scRT.nd rfl (Or.inr rfl) (pe_call G hr rfl mG F.kp bG .nil pass0 (pa_cons (pe_ix ix_tup (pv 0) pe_int (fun _ _ => rfl)) (pa_cons (pv 1) pa_nil)))))
    (prs_cons (pr_go (ps_set (i := 5) scRT.nd rfl (Or.inr rfl) (pe_call G hr rfl mG F.kp bG .nil pass0 (pa_cons (pe_ix ix_tup (pv 0) pe_int (fun _ _ => rfl)) (pa_cons (pv 1) pa_nil)))))
    (prs_cons (pr_if (pt_cmpR op_eq (pv 2) pe_str (nomark _)) (prs_one (pr_ret (pe_lamb TBx rfl hm rfl hu rfl (ndef_free (sc := defScope sRT) (fr := []) (by decide +kernel))))) prs_nil)
    (prs_one (pr_ret (pe_lamb TBx rfl hm rfl hu rfl (ndef_free (sc := defScope sRT) (fr := []) (by decide +kernel)))))))))), ?_⟩
  cases hv with
  | nt h h1 =>
    rename_i p0 x l
    refine ⟨_, rfl, _, _, _, _, rfl, rfl, SqT.of h, atI_nat (j := 0) rfl, ?_⟩
    refine ⟨_, rfl, rfl, _, rfl, itT eq_str ?_⟩
    refine ⟨_, rfl, _, _, _, _, rfl, rfl, SqT.of h, atI_nat (j := 1) rfl, _, rfl, x, o, l, xs, rfl, h1, Nat.le_of_succ_le_succ hd, hg, ho, hT, fun fi H1 g1 cl1 => ?_⟩
    refine ⟨g1.tabs, fun g c' H2 eN nn T2 f0 f1 c1 H3 sm R _ inj => ?_⟩
    obtain ⟨C, cn⟩ := caps_ret (F := mkRT lamNt s.heap.objs.size c') (ws := [.ref fi]) R inj rfl scNt (by decide +kernel) rfl fun i y e => match i, e with | 0, e => by cases e; exact ⟨3, _, rfl, rfl, rfl⟩ | _ + 1, e => by cases e
    exact q g H3 ⟨(g1.ext.trans eN).trans (ExtN.of sm), fun b z => g1.no b (nn b (same_no sm b z)), T2.ext sm⟩ ⟨_, fi, ⟨sm _ _ f1, rfl, rfl, rfl, sm _ _ c1⟩, C, (cl1.ext eN).ext (ext_hid sm cn)⟩
  | both h h1 h2 =>
    rename_i p0 x y l r
    have dl : l.deep ≤ n := Nat.le_trans (Nat.le_max_left ..) (Nat.le_of_succ_le_succ hd)
    have dr : r.deep ≤ n := Nat.le_trans (Nat.le_max_right ..) (Nat.le_of_succ_le_succ hd)
    refine ⟨_, rfl, _, _, _, _, rfl, rfl, SqT.of h, atI_nat (j := 0) rfl, ?_⟩
    refine ⟨_, rfl, rfl, _, rfl, itF (ne_str (by decide)) ?_⟩
    refine ⟨_, rfl, two, fun p hp => ⟨p, _, rfl, .inr (SqT.of upd_same), rfl, rfl, _, rfl, itF rfl ?_⟩⟩
    have g0 := Gr.of hT (same_new hp (.tup [.str "is", .str "below"]))
    refine ⟨_, rfl, _, _, _, _, rfl, rfl, SqT.of (g0.tup h), atI_nat (j := 1) rfl, _, rfl, x, o, l, xs, rfl, h1.keep g0.tups, dl, hg.1, g0.lst ho, g0.tabs, fun fl H1 g1 cl1 => ?_⟩
    have g01 := g0.trans g1
    refine ⟨_, rfl, _, _, _, _, rfl, rfl, SqT.of (g01.tup h), atI_nat (j := 2) rfl, _, rfl, y, o, r, xs, rfl, h2.keep g01.tups, dr, hg.2, g01.lst ho, g01.tabs, fun fr H2 g2 cl2 => ?_⟩
    have g02 := g01.trans g2
    refine ⟨_, rfl, rfl, _, rfl, itT eq_str ⟨g02.tabs, fun g c' H3 eN nn T3 f0 f1 c1 H4 sm R _ inj => ?_⟩⟩
    obtain ⟨C, cn⟩ := caps_ret (F := mkRT lamBo s.heap.objs.size c') (ws := [.ref fl, .ref fr]) R inj rfl scBo (by decide +kernel) rfl fun i y e => match i, e with | 0, e => by cases e; exact ⟨4, _, rfl, rfl, rfl⟩ | 1, e => by cases e; exact ⟨5, _, rfl, rfl, rfl⟩ | _ + 2, e => by cases e
    exact q g H4 ⟨(g02.ext.trans eN).trans (ExtN.of sm), fun b z => g02.no b (nn b (same_no sm b z)), T3.ext sm⟩ ⟨_, fl, fr, ⟨sm _ _ f1, rfl, rfl, rfl, sm _ _ c1⟩, C, ((cl1.ext g2.ext).ext eN).ext (ext_hid sm cn), (cl2.ext eN).ext (ext_hid sm cn)⟩
  | either h h1 h2 =>
    rename_i p0 x y l r
    have dl : l.deep ≤ n := Nat.le_trans (Nat.le_max_left ..) (Nat.le_of_succ_le_succ hd)
    have dr : r.deep ≤ n := Nat.le_trans (Nat.le_max_right ..) (Nat.le_of_succ_le_succ hd)
    refine ⟨_, rfl, _, _, _, _, rfl, rfl, SqT.of h, atI_nat (j := 0) rfl, ?_⟩
    refine ⟨_, rfl, rfl, _, rfl, itF (ne_str (by decide)) ?_⟩
    refine ⟨_, rfl, two, fun p hp => ⟨p, _, rfl, .inr (SqT.of upd_same), rfl, rfl, _, rfl, itF rfl ?_⟩⟩
    have g0 := Gr.of hT (same_new hp (.tup [.str "is", .str "below"]))
    refine ⟨_, rfl, _, _, _, _, rfl, rfl, SqT.of (g0.tup h), atI_nat (j := 1) rfl, _, rfl, x, o, l, xs, rfl, h1.keep g0.tups, dl, hg.1, g0.lst ho, g0.tabs, fun fl H1 g1 cl1 => ?_⟩
    have g01 := g0.trans g1
    refine ⟨_, rfl, _, _, _, _, rfl, rfl, SqT.of (g01.tup h), atI_nat (j := 2) rfl, _, rfl, y, o, r, xs, rfl, h2.keep g01.tups, dr, hg.2, g01.lst ho, g01.tabs, fun fr H2 g2 cl2 => ?_⟩
    have g02 := g01.trans g2
    refine ⟨_, rfl, rfl, _, rfl, itF (ne_str (by decide)) ⟨g02.tabs, fun g c' H3 eN nn T3 f0 f1 c1 H4 sm R _ inj => ?_⟩⟩
    obtain ⟨C, cn⟩ := caps_ret (F := mkRT lamEi s.heap.objs.size c') (ws := [.ref fl, .ref fr]) R inj rfl scEi (by decide +kernel) rfl fun i y e => match i, e with | 0, e => by cases e; exact ⟨4, _, rfl, rfl, rfl⟩ | 1, e => by cases e; exact ⟨5, _, rfl, rfl, rfl⟩ | _ + 2, e => by cases e
    exact q g H4 ⟨(g02.ext.trans eN).trans (ExtN.of sm), fun b z => g02.no b (nn b (same_no sm b z)), T3.ext sm⟩ ⟨_, fl, fr, ⟨sm _ _ f1, rfl, rfl, rfl, sm _ _ c1⟩, C, ((cl1.ext g2.ext).ext eN).ext (ext_hid sm cn), (cl2.ext eN).ext (ext_hid sm cn)⟩
  | is h h1 h2 =>
    rename_i p0 x y l r
    refine ⟨_, rfl, _, _, _, _, rfl, rfl, SqT.of h, atI_nat (j := 0) rfl, ?_⟩
    refine ⟨_, rfl, rfl, _, rfl, itF (ne_str (by decide)) ?_⟩
    refine ⟨_, rfl, two, fun p hp => ⟨p, _, rfl, .inr (SqT.of upd_same), rfl, rfl, _, rfl, itT rfl ?_⟩⟩
    have g0 := Gr.of hT (same_new hp (.tup [.str "is", .str "below"]))
    refine ⟨_, rfl, _, rfl, _, _, _, _, rfl, rfl, SqT.of (g0.tup h), atI_nat (j := 1) rfl, _, rfl, x, o, l, xs, rfl, h1.keep g0.tups, hg.1.2, hg.1.1, g0.lst ho, g0.tabs, fun fl H1 g1 cl1 => ?_⟩
    have g01 := g0.trans g1
    refine ⟨_, rfl, _, _, _, _, rfl, rfl, SqT.of (g01.tup h), atI_nat (j := 2) rfl, _, rfl, y, o, r, xs, rfl, h2.keep g01.tups, hg.2.2, hg.2.1, g01.lst ho, g01.tabs, fun fr H2 g2 cl2 => ?_⟩
    have g02 := g01.trans g2
    refine ⟨"is", fl, fr, l, r, xs, rfl, .inl rfl, cl1.ext g2.ext, cl2, g02.tabs, fun g H3 g3 c3 _ H4 sm _ _ _ => ?_⟩
    exact q g H4 ((g02.trans g3).same sm) ((c3 rfl).ext (ExtN.of sm))
  | bel h h1 h2 =>
    rename_i p0 x y l r
    refine ⟨_, rfl, _, _, _, _, rfl, rfl, SqT.of h, atI_nat (j := 0) rfl, ?_⟩
    refine ⟨_, rfl, rfl, _, rfl, itF (ne_str (by decide)) ?_⟩
    refine ⟨_, rfl, two, fun p hp => ⟨p, _, rfl, .inr (SqT.of upd_same), rfl, rfl, _, rfl, itT rfl ?_⟩⟩
    have g0 := Gr.of hT (same_new hp (.tup [.str "is", .str "below"]))
    refine ⟨_, rfl, _, rfl, _, _, _, _, rfl, rfl, SqT.of (g0.tup h), atI_nat (j := 1) rfl, _, rfl, x, o, l, xs, rfl, h1.keep g0.tups, hg.1.2, hg.1.1, g0.lst ho, g0.tabs, fun fl H1 g1 cl1 => ?_⟩
    have g01 := g0.trans g1
    refine ⟨_, rfl, _, _, _, _, rfl, rfl, SqT.of (g01.tup h), atI_nat (j := 2) rfl, _, rfl, y, o, r, xs, rfl, h2.keep g01.tups, hg.2.2, hg.2.1, g01.lst ho, g01.tabs, fun fr H2 g2 cl2 => ?_⟩
    have g02 := g01.trans g2
    refine ⟨"below", fl, fr, l, r, xs, rfl, .inr rfl, cl1.ext g2.ext, cl2, g02.tabs, fun g H3 g3 _ c3 H4 sm _ _ _ => ?_⟩
    exact q g H4 ((g02.trans g3).same sm) ((c3 rfl).ext (ExtN.of sm))
theorem all_rt (F : FunC K "ready_test" "ready_test" sRT f fd c) (TB : TabB base mg c Pt) (hm : (Pt, fun _ _ => qRT) ∈ T) (hu : ∀ p ∈ T, p.1 = Pt → p.2 = fun _ _ => qRT) (mG : mg "ready_test" = some (.ref f)) (bG : Binds K fd psRT [])
    (GW : FnOk P w K mg base CX0 7 rw_ rwd psReady (spReady T (DeedIs P w K mg base) 6)) (mW : mg "ready_worth" = some (.ref rw_)) (kW : PySem.W.keepIn K (.ref rw_) = true) (bW : Binds K rwd psReady [])
    (GC : FnOk P w K mg base CX0 1 rc rcd nmRC (spRC T (DeedIs P w K mg base))) (mC : mg "ready_comparison" = some (.ref rc)) (kC : PySem.W.keepIn K (.ref rc) = true) (bC : Binds K rcd nmRC []) : ∀ n : Nat, FnOk P w K mg base CX0 (n + 7) f fd psRT (spRT T (DeedIs P w K mg base) n)
  | 0 => no_rt
  | n + 1 => ok_rt F TB hm hu (all_rt F TB hm hu mG bG GW mW kW bW GC mC kC bC n) mG bG GW mW kW bW GC mC kC bC
end
/-! ### holds -/
abbrev sHolds : Stmt := top 12
abbrev nmHolds : List Str := ["test", "boxes", "asked", "told", "holds_by"]
abbrev psH : List Str := ["test", "boxes", "asked", "told"]
theorem scHolds : FnScope nmHolds psH (defScope sHolds) := ⟨rfl, rfl, rfl, by decide +kernel, rfl, by decide +kernel, by decide +kernel⟩
def spHolds (T : List NTab) (n : Nat) : Sp := fun vs H Q _ => ∃ (v : V) (c : Addr) (e : Ts) (kvs : List (Str × Int)) (xs : List Str) (a t : Int), vs = [v, .ref c, .int a, .int t] ∧ TsAt H v e ∧ e.deep ≤ n ∧ e.good xs ∧ Bx kvs xs ∧
  H c = some (.dK (bx kvs)) ∧ (0 ≤ a ∧ a < 1024) ∧ (0 ≤ t ∧ t < 1024) ∧ TabsN T H ∧ ∀ H', Gr T H H' → Q (.bl (e.val kvs a t)) H'
theorem Ts.good_of {kvs : List (Str × Int)} {xs : List Str} (B : Bx kvs xs) : ∀ {e : Ts}, e.good xs → e.good (namesOf kvs)
  | .is _ _, h => ⟨⟨Ex.good_of B h.1.1, h.1.2⟩, Ex.good_of B h.2.1, h.2.2⟩
  | .bel _ _, h => ⟨⟨Ex.good_of B h.1.1, h.1.2⟩, Ex.good_of B h.2.1, h.2.2⟩
  | .nt t, h => Ts.good_of (e := t) B h
  | .both _ _, h => ⟨Ts.good_of B h.1, Ts.good_of B h.2⟩
  | .either _ _, h => ⟨Ts.good_of B h.1, Ts.good_of B h.2⟩
section
variable {P : Program} {w : World} {K : PySem.W.Frag} {mg : Str → Option Value} {base : Heap} {f rf : Addr} {fd rd : FuncData} {T : List NTab}
theorem ok_holds {n : Nat} {kws : List (Str × V)} (F : FunD K "holds" "holds" (defArgs sHolds) (defBody sHolds) (defScope sHolds) [] kws f fd) (G : FnOk P w K mg base CX0 (n + 7) rf rd psRT (spRT T (DeedIs P w K mg base) n)) (mR : mg "ready_test" = some (.ref rf)) (kR : PySem.W.keepIn K (.ref rf) = true) (bR : Binds K rd psRT [])
    (ml : mg "list" = none) : FnOk P w K mg base CX0 (n + 8) f fd psH (spHolds T n) := by
  refine F.ok scHolds (fun vs H Q E h => ?_) (fun cdv A outer s H vs Q E hr h => ?_)
  · obtain ⟨v, c, e, kvs, xs, a, t, rfl, _⟩ := h
    rfl
  obtain ⟨v, c, e, kvs, xs, a, t, rfl, hv, hd, hg, B, hc, ha, ht, hT, q⟩ := h
  refine ⟨_, PSs.nox (pss_cons (ps_set (i := 4) scHolds.nd rfl (Or.inl rfl) (pe_call G hr rfl mR kR bR .nil pass0 (pa_cons (pv 0) (pa_cons (pe_callTy (call_listD rfl) rfl ml (by decide +kernel) (pa_cons (pv 1) pa_nil)) pa_nil))))
    (pss_one (ps_ret (pe_callL (i := 4) (all_cloT n) hr rfl (.inl rfl) (pa_cons (pe_listVals rfl (pv 1) rfl ml (by decide +kernel)) (pa_cons (pv 2) (pa_cons (pv 3) pa_nil))))))), ?_⟩
  refine ⟨_, rfl, _, rfl, c, _, rfl, .inl hc, fun p1 hp1 => ?_⟩
  rw [bx_names]
  have s1 := same_new hp1 (.lst ((namesOf kvs).map V.str))
  refine ⟨v, p1, e, namesOf kvs, rfl, hv.keep (Same.tups s1), hd, Ts.good_of B hg, upd_same, hT.ext s1, fun g H2 g2 cl => ?_⟩
  have gr := (Gr.of hT s1).trans g2
  refine ⟨g, rfl, cl.lm, _, rfl, c, _, rfl, gr.dK hc, fun p3 hp3 => ?_⟩
  rw [bx_nums]
  have s3 := same_new hp3 (.lst (numsV kvs))
  have cl3 := cl.ext (ExtN.of s3)
  exact ⟨_, rfl, _, rfl, cl3.lm, e, kvs, xs, p3, a, t, rfl, hd, upd_same, cl3, hg, B, ha, ht, q _ (gr.same s3)⟩
theorem kb_holds {kws : List (Str × V)} (F : FunD K "holds" "holds" (defArgs sHolds) (defBody sHolds) (defScope sHolds) [] kws f fd) : KBn K fd psH 2 ["asked", "told"] (fun us ws => us ++ ws) (fun us ws => us ++ ws) := by
  obtain ⟨oc, od, dV, kV, doc, pm, an, cdv, ct, osl, rfl, lk, hcd, hD, hK⟩ := F.ex
  have hd : dV = .none := hD.elim (fun z => z.2) (fun z => absurd rfl z.1)
  subst hd
  refine ⟨fun s us ws _ l1 l2 => ?_, fun r1 r2 => r1.append r2⟩
  match us, ws, l1, l2 with
  | [u1, u2], [w1, w2], _, _ => exact .of_eq rfl
end
end Any
namespace Any
open L2 PySem PySem.Spec PyProof.Rows LamX NdefX
/-! ### tests as trees -/
def cs (x : String) : List Nat := x.toList.map (·.toNat)
def Dd.sign : Dd → List Nat
  | .plus => cs "+" | .less => cs "-" | .times => cs "*" | .over => cs "//" | .rest => cs "rest"
def numL (n : Int) : List Nat := (Str.ofString (toString n)).cps.toList
def exL : Ex → List Nat
  | .num n => numL n
  | .box x => x.cps.toList
  | .asked => cs "asked"
  | .told => cs "told"
  | .op d l r => 40 :: (exL l ++ 32 :: (d.sign ++ 32 :: (exL r ++ [41])))
def tsL : Ts → List Nat
  | .is l r => 40 :: (exL l ++ 32 :: (cs "==" ++ 32 :: (exL r ++ [41])))
  | .bel l r => 40 :: (exL l ++ 32 :: (cs "<" ++ 32 :: (exL r ++ [41])))
  | .nt t => 40 :: (cs "not" ++ 32 :: (tsL t ++ [41]))
  | .both t u => 40 :: (tsL t ++ 32 :: (cs "and" ++ 32 :: (tsL u ++ [41])))
  | .either t u => 40 :: (tsL t ++ 32 :: (cs "or" ++ 32 :: (tsL u ++ [41])))
/-- a letter or a figure -/
def wc (c : Nat) : Bool := decide (48 ≤ c ∧ c ≤ 57) || decide (97 ≤ c ∧ c ≤ 122)
def lc (c : Nat) : Bool := decide (97 ≤ c ∧ c ≤ 122)
def dc (c : Nat) : Bool := decide (48 ≤ c ∧ c ≤ 57)
/-- a name of a box -/
structure Nam (x : Str) : Prop where
  ne : x.cps.toList ≠ []
  ltr : ∀ c ∈ x.cps.toList, lc c = true
  a : x.cps.toList ≠ cs "asked"
  t : x.cps.toList ≠ cs "told"
  n : x.cps.toList ≠ cs "not"
  len : x.cps.size ≤ 8
def Ex.fine : Ex → Prop
  | .num n => 0 ≤ n ∧ n < 1024
  | .box x => Nam x
  | .op _ l r => l.fine ∧ r.fine
  | _ => True
def Ts.fine : Ts → Prop
  | .is l r => l.fine ∧ r.fine
  | .bel l r => l.fine ∧ r.fine
  | .nt t => t.fine
  | .both t u => t.fine ∧ u.fine
  | .either t u => t.fine ∧ u.fine
theorem num_all : ∀ n : Fin 1024, (numL ((n.val : Nat) : Int)).all dc = true ∧ (numL ((n.val : Nat) : Int)).isEmpty = false ∧ (numL ((n.val : Nat) : Int)).length ≤ 4 ∧ (numL ((n.val : Nat) : Int)).foldl (fun a c => 10 * a + (c - 48)) 0 = n.val := by decide +kernel
theorem num_ok {n : Int} (h0 : 0 ≤ n) (h1 : n < 1024) : (∀ c ∈ numL n, dc c = true) ∧ numL n ≠ [] ∧ (numL n).length ≤ 4 ∧ (((numL n).foldl (fun a c => 10 * a + (c - 48)) 0 : Nat) : Int) = n := by
  have h := num_all ⟨n.toNat, by omega⟩
  have e : (((⟨n.toNat, by omega⟩ : Fin 1024).val : Nat) : Int) = n := by show ((n.toNat : Nat) : Int) = n; omega
  rw [e] at h
  obtain ⟨a, b, c, d⟩ := h
  refine ⟨fun x hx => List.all_eq_true.mp a x hx, ?_, c, ?_⟩
  · intro z; rw [z] at b; cases b
  · rw [d]; exact e
theorem num_inj {m n : Int} (m0 : 0 ≤ m) (m1 : m < 1024) (n0 : 0 ≤ n) (n1 : n < 1024) (h : numL m = numL n) : m = n := by
  have a := (num_ok m0 m1).2.2.2
  have b := (num_ok n0 n1).2.2.2
  rw [← a, ← b, h]
/-- what may stand behind a word -/
def Dl : List Nat → Prop
  | [] => True
  | c :: _ => wc c = false
theorem word_split : ∀ {u v r s : List Nat}, (∀ c ∈ u, wc c = true) → (∀ c ∈ v, wc c = true) → Dl r → Dl s → u ++ r = v ++ s → u = v ∧ r = s
  | [], [], r, s, _, _, _, _, h => ⟨rfl, h⟩
  | [], c :: v, r, s, _, hv, hr, _, h => by
    have h' : r = c :: (v ++ s) := h
    rw [h'] at hr
    have := hv c List.mem_cons_self
    rw [show wc c = false from hr] at this
    cases this
  | c :: u, [], r, s, hu, _, _, hs, h => by
    have h' : c :: (u ++ r) = s := h
    rw [← h'] at hs
    have := hu c List.mem_cons_self
    rw [show wc c = false from hs] at this
    cases this
  | c :: u, d :: v, r, s, hu, hv, hr, hs, h => by
    have h' : c :: (u ++ r) = d :: (v ++ s) := h
    injection h' with h1 h2
    obtain ⟨a, b⟩ := word_split (fun x hx => hu x (List.mem_cons_of_mem _ hx)) (fun x hx => hv x (List.mem_cons_of_mem _ hx)) hr hs h2
    exact ⟨by rw [h1, a], b⟩
theorem sign_split : ∀ {u v r s : List Nat}, (∀ c ∈ u, c ≠ 32) → (∀ c ∈ v, c ≠ 32) → u ++ 32 :: r = v ++ 32 :: s → u = v ∧ r = s
  | [], [], r, s, _, _, h => by injection h with _ h; exact ⟨rfl, h⟩
  | [], c :: v, r, s, _, hv, h => by
    have h' : 32 :: r = c :: (v ++ 32 :: s) := h
    injection h' with h1 _
    exact absurd h1.symm (hv c List.mem_cons_self)
  | c :: u, [], r, s, hu, _, h => by
    have h' : c :: (u ++ 32 :: r) = 32 :: s := h
    injection h' with h1 _
    exact absurd h1 (hu c List.mem_cons_self)
  | c :: u, d :: v, r, s, hu, hv, h => by
    have h' : c :: (u ++ 32 :: r) = d :: (v ++ 32 :: s) := h
    injection h' with h1 h2
    obtain ⟨a, b⟩ := sign_split (fun x hx => hu x (List.mem_cons_of_mem _ hx)) (fun x hx => hv x (List.mem_cons_of_mem _ hx)) h2
    exact ⟨by rw [h1, a], b⟩
theorem wc_of_lc {c : Nat} (h : lc c = true) : wc c = true := by unfold wc lc at *; rw [h, Bool.or_true]
theorem wc_of_dc {c : Nat} (h : dc c = true) : wc c = true := by unfold wc dc at *; rw [h, Bool.true_or]
theorem not_both {c : Nat} (h : dc c = true) (g : lc c = true) : False := by
  have h := of_decide_eq_true h
  have g := of_decide_eq_true g
  omega
/-- an expression without parts -/
def Ex.atom : Ex → Bool
  | .op _ _ _ => false
  | _ => true
theorem atom_word : ∀ {e : Ex}, e.atom = true → e.fine → (∀ c ∈ exL e, wc c = true) ∧ exL e ≠ []
  | .num n, _, h => ⟨fun c hc => wc_of_dc ((num_ok h.1 h.2).1 c hc), (num_ok h.1 h.2).2.1⟩
  | .box x, _, h => ⟨fun c hc => wc_of_lc (h.ltr c hc), h.ne⟩
  | .asked, _, _ => ⟨by decide, by decide⟩
  | .told, _, _ => ⟨by decide, by decide⟩
  | .op _ _ _, h, _ => by cases h
theorem asked_lc : ∀ c ∈ cs "asked", lc c = true := by decide
theorem told_lc : ∀ c ∈ cs "told", lc c = true := by decide
theorem num_not_letters {n : Int} (h0 : 0 ≤ n) (h1 : n < 1024) {l : List Nat} (hl : ∀ c ∈ l, lc c = true) : numL n ≠ l := by
  intro e
  obtain ⟨a, b, _⟩ := num_ok h0 h1
  cases z : numL n with
  | nil => exact b z
  | cons c r =>
    have h1 : c ∈ numL n := by rw [z]; exact List.mem_cons_self
    exact not_both (a c h1) (hl c (by rw [← e]; exact h1))
theorem str_ext {x y : Str} (h : x.cps.toList = y.cps.toList) : x = y := by
  cases x; cases y
  congr
  exact Array.toList_inj.mp h
theorem atom_inj : ∀ {e f : Ex}, e.atom = true → f.atom = true → e.fine → f.fine → exL e = exL f → e = f
  | .num m, .num n, _, _, h, g, e => by rw [num_inj h.1 h.2 g.1 g.2 e]
  | .num m, .box x, _, _, h, g, e => absurd e (num_not_letters h.1 h.2 g.ltr)
  | .num m, .asked, _, _, h, g, e => absurd e (num_not_letters h.1 h.2 asked_lc)
  | .num m, .told, _, _, h, g, e => absurd e (num_not_letters h.1 h.2 told_lc)
  | .box x, .num n, _, _, h, g, e => absurd e.symm (num_not_letters g.1 g.2 h.ltr)
  | .box x, .box y, _, _, h, g, e => by rw [str_ext e]
  | .box x, .asked, _, _, h, g, e => absurd e h.a
  | .box x, .told, _, _, h, g, e => absurd e h.t
  | .asked, .num n, _, _, h, g, e => absurd e.symm (num_not_letters g.1 g.2 asked_lc)
  | .asked, .box y, _, _, h, g, e => absurd e.symm g.a
  | .asked, .asked, _, _, _, _, _ => rfl
  | .asked, .told, _, _, _, _, e => absurd e (by decide)
  | .told, .num n, _, _, h, g, e => absurd e.symm (num_not_letters g.1 g.2 told_lc)
  | .told, .box y, _, _, h, g, e => absurd e.symm g.t
  | .told, .asked, _, _, _, _, e => absurd e (by decide)
  | .told, .told, _, _, _, _, _ => rfl
  | .op _ _ _, _, h, _, _, _, _ => by cases h
  | .num _, .op _ _ _, _, h, _, _, _ => by cases h
  | .box _, .op _ _ _, _, h, _, _, _ => by cases h
  | .asked, .op _ _ _, _, h, _, _, _ => by cases h
  | .told, .op _ _ _, _, h, _, _, _ => by cases h
theorem sign_no32 (d : Dd) : ∀ c ∈ d.sign, c ≠ 32 := by cases d <;> decide
theorem sign_inj {d e : Dd} (h : d.sign = e.sign) : d = e := by cases d <;> cases e <;> first | rfl | (exact absurd h (by decide))
theorem dl32 {r : List Nat} : Dl (32 :: r) := by show wc 32 = false; decide
theorem dl41 {r : List Nat} : Dl (41 :: r) := by show wc 41 = false; decide
theorem head40 {e : Ex} {r s : List Nat} (ha : e.atom = true) (hf : e.fine) (h : exL e ++ r = 40 :: s) : False := by
  obtain ⟨a, b⟩ := atom_word ha hf
  cases z : exL e with
  | nil => exact b z
  | cons c t =>
    rw [z] at h
    have h' : c :: (t ++ r) = 40 :: s := h
    injection h' with h1 _
    have := a c (by rw [z]; exact List.mem_cons_self)
    rw [h1] at this
    revert this
    decide
theorem ap3 (l r : List Nat) (s t : List Nat) : (40 :: (l ++ 32 :: (s ++ 32 :: (r ++ [41])))) ++ t = 40 :: (l ++ 32 :: (s ++ 32 :: (r ++ 41 :: t))) := by simp [List.append_assoc]
theorem ex_inj : ∀ {e f : Ex} {r s : List Nat}, e.fine → f.fine → Dl r → Dl s → exL e ++ r = exL f ++ s → e = f ∧ r = s
  | .op d l r', .op d' l' r'', r, s, h, g, hr, hs, q => by
    have q1 : 40 :: (exL l ++ 32 :: (d.sign ++ 32 :: (exL r' ++ 41 :: r))) = 40 :: (exL l' ++ 32 :: (d'.sign ++ 32 :: (exL r'' ++ 41 :: s))) := (ap3 _ _ _ _).symm.trans (q.trans (ap3 _ _ _ _))
    injection q1 with _ q2
    obtain ⟨e1, q3⟩ := ex_inj h.1 g.1 dl32 dl32 q2
    injection q3 with _ q4
    obtain ⟨e2, q5⟩ := sign_split (sign_no32 d) (sign_no32 d') q4
    obtain ⟨e3, q6⟩ := ex_inj h.2 g.2 dl41 dl41 q5
    injection q6 with _ q7
    exact ⟨by rw [e1, sign_inj e2, e3], q7⟩
  | .op d l r', .num n, r, s, h, g, hr, hs, q => (head40 (e := .num n) rfl g q.symm).elim
  | .op d l r', .box n, r, s, h, g, hr, hs, q => (head40 (e := .box n) rfl g q.symm).elim
  | .op d l r', .asked, r, s, h, g, hr, hs, q => (head40 (e := .asked) rfl g q.symm).elim
  | .op d l r', .told, r, s, h, g, hr, hs, q => (head40 (e := .told) rfl g q.symm).elim
  | .num n, .op d l r', r, s, h, g, hr, hs, q => (head40 (e := .num n) rfl h q).elim
  | .box n, .op d l r', r, s, h, g, hr, hs, q => (head40 (e := .box n) rfl h q).elim
  | .asked, .op d l r', r, s, h, g, hr, hs, q => (head40 (e := .asked) rfl h q).elim
  | .told, .op d l r', r, s, h, g, hr, hs, q => (head40 (e := .told) rfl h q).elim
  | .num n, .num m, r, s, h, g, hr, hs, q => by
    obtain ⟨a, b⟩ := word_split (atom_word (e := .num n) rfl h).1 (atom_word (e := .num m) rfl g).1 hr hs q
    exact ⟨atom_inj rfl rfl h g a, b⟩
  | .num n, .box m, r, s, h, g, hr, hs, q => by
    obtain ⟨a, b⟩ := word_split (atom_word (e := .num n) rfl h).1 (atom_word (e := .box m) rfl g).1 hr hs q
    exact ⟨atom_inj rfl rfl h g a, b⟩
  | .num n, .asked, r, s, h, g, hr, hs, q => by
    obtain ⟨a, b⟩ := word_split (atom_word (e := .num n) rfl h).1 (atom_word (e := .asked) rfl g).1 hr hs q
    exact ⟨atom_inj rfl rfl h g a, b⟩
  | .num n, .told, r, s, h, g, hr, hs, q => by
    obtain ⟨a, b⟩ := word_split (atom_word (e := .num n) rfl h).1 (atom_word (e := .told) rfl g).1 hr hs q
    exact ⟨atom_inj rfl rfl h g a, b⟩
  | .box n, .num m, r, s, h, g, hr, hs, q => by
    obtain ⟨a, b⟩ := word_split (atom_word (e := .box n) rfl h).1 (atom_word (e := .num m) rfl g).1 hr hs q
    exact ⟨atom_inj rfl rfl h g a, b⟩
  | .box n, .box m, r, s, h, g, hr, hs, q => by
    obtain ⟨a, b⟩ := word_split (atom_word (e := .box n) rfl h).1 (atom_word (e := .box m) rfl g).1 hr hs q
    exact ⟨atom_inj rfl rfl h g a, b⟩
  | .box n, .asked, r, s, h, g, hr, hs, q => by
    obtain ⟨a, b⟩ := word_split (atom_word (e := .box n) rfl h).1 (atom_word (e := .asked) rfl g).1 hr hs q
    exact ⟨atom_inj rfl rfl h g a, b⟩
  | .box n, .told, r, s, h, g, hr, hs, q => by
    obtain ⟨a, b⟩ := word_split (atom_word (e := .box n) rfl h).1 (atom_word (e := .told) rfl g).1 hr hs q
    exact ⟨atom_inj rfl rfl h g a, b⟩
  | .asked, .num m, r, s, h, g, hr, hs, q => by
    obtain ⟨a, b⟩ := word_split (atom_word (e := .asked) rfl h).1 (atom_word (e := .num m) rfl g).1 hr hs q
    exact ⟨atom_inj rfl rfl h g a, b⟩
  | .asked, .box m, r, s, h, g, hr, hs, q => by
    obtain ⟨a, b⟩ := word_split (atom_word (e := .asked) rfl h).1 (atom_word (e := .box m) rfl g).1 hr hs q
    exact ⟨atom_inj rfl rfl h g a, b⟩
  | .asked, .asked, r, s, h, g, hr, hs, q => by
    obtain ⟨a, b⟩ := word_split (atom_word (e := .asked) rfl h).1 (atom_word (e := .asked) rfl g).1 hr hs q
    exact ⟨rfl, b⟩
  | .asked, .told, r, s, h, g, hr, hs, q => by
    obtain ⟨a, b⟩ := word_split (atom_word (e := .asked) rfl h).1 (atom_word (e := .told) rfl g).1 hr hs q
    exact ⟨atom_inj rfl rfl h g a, b⟩
  | .told, .num m, r, s, h, g, hr, hs, q => by
    obtain ⟨a, b⟩ := word_split (atom_word (e := .told) rfl h).1 (atom_word (e := .num m) rfl g).1 hr hs q
    exact ⟨atom_inj rfl rfl h g a, b⟩
  | .told, .box m, r, s, h, g, hr, hs, q => by
    obtain ⟨a, b⟩ := word_split (atom_word (e := .told) rfl h).1 (atom_word (e := .box m) rfl g).1 hr hs q
    exact ⟨atom_inj rfl rfl h g a, b⟩
  | .told, .asked, r, s, h, g, hr, hs, q => by
    obtain ⟨a, b⟩ := word_split (atom_word (e := .told) rfl h).1 (atom_word (e := .asked) rfl g).1 hr hs q
    exact ⟨atom_inj rfl rfl h g a, b⟩
  | .told, .told, r, s, h, g, hr, hs, q => by
    obtain ⟨a, b⟩ := word_split (atom_word (e := .told) rfl h).1 (atom_word (e := .told) rfl g).1 hr hs q
    exact ⟨rfl, b⟩
theorem not_word : ∀ c ∈ cs "not", wc c = true := by decide
/-- no expression is written as the word not -/
theorem ex_not {e : Ex} {r s : List Nat} (h : e.fine) (hr : Dl r) (q : exL e ++ r = cs "not" ++ 32 :: s) : False := by
  have key : ∀ {e : Ex}, e.atom = true → e.fine → exL e ≠ cs "not" → exL e ++ r = cs "not" ++ 32 :: s → False := fun ha hf hn hq => hn (word_split (atom_word ha hf).1 not_word hr dl32 hq).1
  cases e with
  | num n => exact key rfl h (num_not_letters h.1 h.2 (by decide)) q
  | box x => exact key rfl h h.n q
  | asked => exact key rfl h (by decide) q
  | told => exact key rfl h (by decide) q
  | op d l r' =>
    have q1 : 40 :: _ = 110 :: _ := q
    injection q1 with q2 _
    cases q2
/-- no expression is written as a test -/
theorem ex_ts : ∀ {t : Ts} {e : Ex} {r s : List Nat}, e.fine → t.fine → exL e ++ r = tsL t ++ s → False := by
  intro t
  have atoms : ∀ {t : Ts} {e : Ex} {r s : List Nat}, e.atom = true → e.fine → exL e ++ r = tsL t ++ s → False := by
    intro t e r s ha hf q
    cases t <;> exact head40 ha hf q
  induction t with
  | is x y =>
    intro e r s h g q
    cases ha : e.atom with
    | true => exact atoms ha h q
    | false =>
      cases e with
      | op d l r' =>
        have q1 := (ap3 _ _ _ _).symm.trans (q.trans (ap3 _ _ _ _))
        injection q1 with _ q2
        obtain ⟨_, q3⟩ := ex_inj h.1 g.1 dl32 dl32 q2
        injection q3 with _ q4
        have := (sign_split (sign_no32 d) (by decide) q4).1
        cases d <;> revert this <;> decide
      | _ => cases ha
  | bel x y =>
    intro e r s h g q
    cases ha : e.atom with
    | true => exact atoms ha h q
    | false =>
      cases e with
      | op d l r' =>
        have q1 := (ap3 _ _ _ _).symm.trans (q.trans (ap3 _ _ _ _))
        injection q1 with _ q2
        obtain ⟨_, q3⟩ := ex_inj h.1 g.1 dl32 dl32 q2
        injection q3 with _ q4
        have := (sign_split (sign_no32 d) (by decide) q4).1
        cases d <;> revert this <;> decide
      | _ => cases ha
  | nt t ih =>
    intro e r s h g q
    cases ha : e.atom with
    | true => exact atoms ha h q
    | false =>
      cases e with
      | op d l r' =>
        have q1 : 40 :: (exL l ++ 32 :: (d.sign ++ 32 :: (exL r' ++ 41 :: r))) = 40 :: (cs "not" ++ 32 :: (tsL t ++ 41 :: s)) := (ap3 _ _ _ _).symm.trans (q.trans (by simp [tsL, List.append_assoc]))
        injection q1 with _ q2
        exact ex_not h.1 dl32 q2
      | _ => cases ha
  | both t u i1 i2 =>
    intro e r s h g q
    cases ha : e.atom with
    | true => exact atoms ha h q
    | false =>
      cases e with
      | op d l r' =>
        have q1 := (ap3 _ _ _ _).symm.trans (q.trans (ap3 _ _ _ _))
        injection q1 with _ q2
        exact i1 h.1 g.1 q2
      | _ => cases ha
  | either t u i1 i2 =>
    intro e r s h g q
    cases ha : e.atom with
    | true => exact atoms ha h q
    | false =>
      cases e with
      | op d l r' =>
        have q1 := (ap3 _ _ _ _).symm.trans (q.trans (ap3 _ _ _ _))
        injection q1 with _ q2
        exact i1 h.1 g.1 q2
      | _ => cases ha
theorem ap_not (l t : List Nat) : (40 :: (cs "not" ++ 32 :: (l ++ [41]))) ++ t = 40 :: (cs "not" ++ 32 :: (l ++ 41 :: t)) := by simp [List.append_assoc]
theorem not_ts {t : Ts} {r s : List Nat} (q : cs "not" ++ r = tsL t ++ s) : False := by
  cases t <;> (have q1 : 110 :: _ = 40 :: _ := q; injection q1 with q2 _; cases q2)
theorem pair_ex {l r l' r' : Ex} {sg sg' : List Nat} {x y : List Nat} (hl : l.fine) (hr : r.fine) (gl : l'.fine) (gr : r'.fine) (n1 : ∀ c ∈ sg, c ≠ 32) (n2 : ∀ c ∈ sg', c ≠ 32)
    (q : (40 :: (exL l ++ 32 :: (sg ++ 32 :: (exL r ++ [41])))) ++ x = (40 :: (exL l' ++ 32 :: (sg' ++ 32 :: (exL r' ++ [41])))) ++ y) : l = l' ∧ sg = sg' ∧ r = r' ∧ x = y := by
  have q1 := (ap3 _ _ _ _).symm.trans (q.trans (ap3 _ _ _ _))
  injection q1 with _ q2
  obtain ⟨e1, q3⟩ := ex_inj hl gl dl32 dl32 q2
  injection q3 with _ q4
  obtain ⟨e2, q5⟩ := sign_split n1 n2 q4
  obtain ⟨e3, q6⟩ := ex_inj hr gr dl41 dl41 q5
  injection q6 with _ q7
  exact ⟨e1, e2, e3, q7⟩
theorem ts_inj : ∀ {t u : Ts} {r s : List Nat}, t.fine → u.fine → tsL t ++ r = tsL u ++ s → t = u ∧ r = s := by
  intro t
  induction t with
  | is l r' =>
    intro u r s h g q
    cases u with
    | is l' r'' =>
      obtain ⟨a, b, c, d⟩ := pair_ex h.1 h.2 g.1 g.2 (by decide) (by decide) q
      exact ⟨by rw [a, c], d⟩
    | bel l' r'' =>
      obtain ⟨a, b, c, d⟩ := pair_ex h.1 h.2 g.1 g.2 (by decide) (by decide) q
      exact absurd b (by decide)
    | nt t =>
      have q1 := (ap3 _ _ _ _).symm.trans (q.trans (ap_not _ _))
      injection q1 with _ q2
      exact (ex_not h.1 dl32 q2).elim
    | both t u =>
      have q1 := (ap3 _ _ _ _).symm.trans (q.trans (ap3 _ _ _ _))
      injection q1 with _ q2
      exact (ex_ts h.1 g.1 q2).elim
    | either t u =>
      have q1 := (ap3 _ _ _ _).symm.trans (q.trans (ap3 _ _ _ _))
      injection q1 with _ q2
      exact (ex_ts h.1 g.1 q2).elim
  | bel l r' =>
    intro u r s h g q
    cases u with
    | is l' r'' =>
      obtain ⟨a, b, c, d⟩ := pair_ex h.1 h.2 g.1 g.2 (by decide) (by decide) q
      exact absurd b (by decide)
    | bel l' r'' =>
      obtain ⟨a, b, c, d⟩ := pair_ex h.1 h.2 g.1 g.2 (by decide) (by decide) q
      exact ⟨by rw [a, c], d⟩
    | nt t =>
      have q1 := (ap3 _ _ _ _).symm.trans (q.trans (ap_not _ _))
      injection q1 with _ q2
      exact (ex_not h.1 dl32 q2).elim
    | both t u =>
      have q1 := (ap3 _ _ _ _).symm.trans (q.trans (ap3 _ _ _ _))
      injection q1 with _ q2
      exact (ex_ts h.1 g.1 q2).elim
    | either t u =>
      have q1 := (ap3 _ _ _ _).symm.trans (q.trans (ap3 _ _ _ _))
      injection q1 with _ q2
      exact (ex_ts h.1 g.1 q2).elim
  | nt t ih =>
    intro u r s h g q
    cases u with
    | is l' r'' =>
      have q1 := (ap_not _ _).symm.trans (q.trans (ap3 _ _ _ _))
      injection q1 with _ q2
      exact (ex_not g.1 dl32 q2.symm).elim
    | bel l' r'' =>
      have q1 := (ap_not _ _).symm.trans (q.trans (ap3 _ _ _ _))
      injection q1 with _ q2
      exact (ex_not g.1 dl32 q2.symm).elim
    | nt t' =>
      have q1 := (ap_not _ _).symm.trans (q.trans (ap_not _ _))
      injection q1 with _ q2
      have q3 := (sign_split (u := cs "not") (v := cs "not") (by decide) (by decide) q2).2
      obtain ⟨a, b⟩ := ih (u := t') h g q3
      injection b with _ b
      exact ⟨by rw [a], b⟩
    | both t u =>
      have q1 := (ap_not _ _).symm.trans (q.trans (ap3 _ _ _ _))
      injection q1 with _ q2
      exact (not_ts q2).elim
    | either t u =>
      have q1 := (ap_not _ _).symm.trans (q.trans (ap3 _ _ _ _))
      injection q1 with _ q2
      exact (not_ts q2).elim
  | both t u i1 i2 =>
    intro v r s h g q
    cases v with
    | is l' r'' =>
      have q1 := (ap3 _ _ _ _).symm.trans (q.trans (ap3 _ _ _ _))
      injection q1 with _ q2
      exact (ex_ts g.1 h.1 q2.symm).elim
    | bel l' r'' =>
      have q1 := (ap3 _ _ _ _).symm.trans (q.trans (ap3 _ _ _ _))
      injection q1 with _ q2
      exact (ex_ts g.1 h.1 q2.symm).elim
    | nt t' =>
      have q1 := (ap3 _ _ _ _).symm.trans (q.trans (ap_not _ _))
      injection q1 with _ q2
      exact (not_ts q2.symm).elim
    | both t' u' =>
      have q1 := (ap3 _ _ _ _).symm.trans (q.trans (ap3 _ _ _ _))
      injection q1 with _ q2
      obtain ⟨a, b⟩ := i1 h.1 g.1 q2
      injection b with _ b
      have b2 := (sign_split (u := cs "and") (v := cs "and") (by decide) (by decide) b).2
      obtain ⟨c, d⟩ := i2 h.2 g.2 b2
      injection d with _ d
      exact ⟨by rw [a, c], d⟩
    | either t' u' =>
      have q1 := (ap3 _ _ _ _).symm.trans (q.trans (ap3 _ _ _ _))
      injection q1 with _ q2
      obtain ⟨a, b⟩ := i1 h.1 g.1 q2
      injection b with _ b
      exact absurd (sign_split (u := cs "and") (v := cs "or") (by decide) (by decide) b).1 (by decide)
  | either t u i1 i2 =>
    intro v r s h g q
    cases v with
    | is l' r'' =>
      have q1 := (ap3 _ _ _ _).symm.trans (q.trans (ap3 _ _ _ _))
      injection q1 with _ q2
      exact (ex_ts g.1 h.1 q2.symm).elim
    | bel l' r'' =>
      have q1 := (ap3 _ _ _ _).symm.trans (q.trans (ap3 _ _ _ _))
      injection q1 with _ q2
      exact (ex_ts g.1 h.1 q2.symm).elim
    | nt t' =>
      have q1 := (ap3 _ _ _ _).symm.trans (q.trans (ap_not _ _))
      injection q1 with _ q2
      exact (not_ts q2.symm).elim
    | both t' u' =>
      have q1 := (ap3 _ _ _ _).symm.trans (q.trans (ap3 _ _ _ _))
      injection q1 with _ q2
      obtain ⟨a, b⟩ := i1 h.1 g.1 q2
      injection b with _ b
      exact absurd (sign_split (u := cs "or") (v := cs "and") (by decide) (by decide) b).1 (by decide)
    | either t' u' =>
      have q1 := (ap3 _ _ _ _).symm.trans (q.trans (ap3 _ _ _ _))
      injection q1 with _ q2
      obtain ⟨a, b⟩ := i1 h.1 g.1 q2
      injection b with _ b
      have b2 := (sign_split (u := cs "or") (v := cs "or") (by decide) (by decide) b).2
      obtain ⟨c, d⟩ := i2 h.2 g.2 b2
      injection d with _ d
      exact ⟨by rw [a, c], d⟩
end Any
namespace Any
open L2 PySem PySem.Spec PyProof.Rows LamX NdefX
/-! ### the texts -/
def Ex.text (e : Ex) : Str := ⟨(exL e).toArray⟩
def Ts.text (e : Ts) : Str := ⟨(tsL e).toArray⟩
def Dd.sg (d : Dd) : Str := ⟨d.sign.toArray⟩
theorem Ex.text_list (e : Ex) : e.text.cps.toList = exL e := rfl
theorem Ts.text_list (e : Ts) : e.text.cps.toList = tsL e := rfl
theorem app_l (a b : Str) : (a ++ b).cps.toList = a.cps.toList ++ b.cps.toList := cps_toList_append a b
theorem len_l (a : Str) : a.length = a.cps.toList.length := by show a.cps.size = _; simp
theorem len_app (a b : Str) : (a ++ b).length = a.length + b.length := by rw [len_l, len_l, len_l, app_l, List.length_append]
theorem num_text (n : Int) : (Ex.num n).text = Str.ofString (toString n) := str_ext rfl
theorem box_text (x : Str) : (Ex.box x).text = x := str_ext rfl
theorem asked_text : Ex.asked.text = ("asked" : Str) := by decide
theorem told_text : Ex.told.text = ("told" : Str) := by decide
theorem empty_l : Str.empty.cps.toList = [] := rfl
theorem op_text (d : Dd) (l r : Ex) : ((((((Str.empty ++ ("(" : Str)) ++ l.text) ++ (" " : Str)) ++ d.sg) ++ (" " : Str)) ++ r.text) ++ (")" : Str) = (Ex.op d l r).text := by
  apply str_ext
  simp only [app_l, empty_l, Ex.text_list]
  show (((((([] ++ [40]) ++ exL l) ++ [32]) ++ d.sign) ++ [32]) ++ exL r) ++ [41] = 40 :: (exL l ++ 32 :: (d.sign ++ 32 :: (exL r ++ [41])))
  simp [List.append_assoc]
theorem bin_text {l r sg : Str} {L R S : List Nat} (hl : l.cps.toList = L) (hr : r.cps.toList = R) (hs : sg.cps.toList = S) {t : Str} (ht : t.cps.toList = 40 :: (L ++ 32 :: (S ++ 32 :: (R ++ [41])))) :
    ((((((Str.empty ++ ("(" : Str)) ++ l) ++ (" " : Str)) ++ sg) ++ (" " : Str)) ++ r) ++ (")" : Str) = t := by
  apply str_ext
  rw [ht]
  simp only [app_l, empty_l, hl, hr, hs]
  show (((((([] ++ [40]) ++ L) ++ [32]) ++ S) ++ [32]) ++ R) ++ [41] = _
  simp [List.append_assoc]
theorem not_text {l : Str} {L : List Nat} (hl : l.cps.toList = L) {t : Str} (ht : t.cps.toList = 40 :: (cs "not" ++ 32 :: (L ++ [41]))) : ((Str.empty ++ ("(not " : Str)) ++ l) ++ (")" : Str) = t := by
  apply str_ext
  rw [ht]
  simp only [app_l, empty_l, hl]
  show (([] ++ [40, 110, 111, 116, 32]) ++ L) ++ [41] = 40 :: ([110, 111, 116] ++ 32 :: (L ++ [41]))
  simp
/-- its expressions are not too deep -/
def Ts.low : Ts → Prop
  | .is l r => l.deep ≤ 6 ∧ r.deep ≤ 6
  | .bel l r => l.deep ≤ 6 ∧ r.deep ≤ 6
  | .nt t => t.low
  | .both t u => t.low ∧ u.low
  | .either t u => t.low ∧ u.low
/-- a text that may be glued -/
def Sz (l : List Nat) : Prop := l.length ≤ 1000000
theorem sz_fit {x : Str} {l : List Nat} (h : Sz l) (e : x.length ≤ l.length + 100) : x.length ≤ sizeLine := by
  rw [sizeLine_eq]
  unfold Sz at h
  omega
abbrev sXt : Stmt := top 2
abbrev sTt : Stmt := top 3
theorem scXt : FnScope ["expression", "kind"] ["expression"] (defScope sXt) := ⟨rfl, rfl, rfl, by decide +kernel, rfl, by decide +kernel, by decide +kernel⟩
theorem scTt : FnScope ["test", "kind"] ["test"] (defScope sTt) := ⟨rfl, rfl, rfl, by decide +kernel, rfl, by decide +kernel, by decide +kernel⟩
def spXt (n : Nat) : Sp := fun vs H Q _ => ∃ (v : V) (e : Ex), vs = [v] ∧ ExAt H v e ∧ e.deep ≤ n ∧ e.fine ∧ Sz (exL e) ∧ ∀ H', Same H H' → Q (.str e.text) H'
def spTt (n : Nat) : Sp := fun vs H Q _ => ∃ (v : V) (e : Ts), vs = [v] ∧ TsAt H v e ∧ e.deep ≤ n ∧ e.fine ∧ Sz (tsL e) ∧ e.low ∧ ∀ H', Same H H' → Q (.str e.text) H'
/-- what the table of signs holds -/
structure Signs (w : World) (K : PySem.W.Frag) (mg : Str → Option Value) : Prop where
  ex : ∃ D : Addr, mg "SIGNS" = some (.ref D) ∧ (∀ d : Dd, KDct K w D d.word (.str d.sg)) ∧ KDct K w D "is" (.str "==") ∧ KDct K w D "below" (.str "<") ∧ KDct K w D "both" (.str "and") ∧ KDct K w D "either" (.str "or")
theorem Sz.sub {l L : List Nat} (h : Sz L) (e : l.length ≤ L.length) : Sz l := Nat.le_trans e h
theorem sg_len (d : Dd) : d.sg.length ≤ 4 := by cases d <;> decide
theorem op_len (d : Dd) (l r : Ex) : (exL (.op d l r)).length = (exL l).length + (exL r).length + d.sign.length + 4 := by
  show (40 :: (exL l ++ 32 :: (d.sign ++ 32 :: (exL r ++ [41])))).length = _
  simp only [List.length_cons, List.length_append, List.length_nil]
  omega
section
variable {P : Program} {w : World} {K : PySem.W.Frag} {mg : Str → Option Value} {base : Heap} {f xt : Addr} {fd xtd : FuncData}
theorem no_xt {k : Nat} : FnOk P w K mg base CX0 k f fd ["expression"] (spXt 0) := by
  have no : ∀ vs H Q E, ¬ spXt 0 vs H Q E := fun vs H Q E h => by
    obtain ⟨v, e, _, _, hd, _⟩ := h
    cases e <;> exact absurd hd (by show ¬ _ ≤ 0; exact Nat.not_succ_le_zero _)
  exact ⟨fun vs H Q E h => absurd h (no vs H Q E), fun A outer s H args us vs Q E _ _ _ _ h => absurd h (no vs H Q E)⟩
theorem ok_xt {n : Nat} (F : Fun K "expression_text" "expression_text" sXt f fd) (G : FnOk P w K mg base CX0 n f fd ["expression"] (spXt n)) (bG : Binds K fd ["expression"] []) (mG : mg "expression_text" = some (.ref f)) (S : Signs w K mg) (ms : mg "str" = none) :
    FnOk P w K mg base CX0 (n + 1) f fd ["expression"] (spXt (n + 1)) := by
  refine F.ok scXt (fun vs H Q E h => ?_) (fun cdv A outer s H vs Q E hr h => ?_)
  · obtain ⟨v, e, rfl, _⟩ := h
    rfl
  obtain ⟨v, e, rfl, hv, hd, hf, hz, q⟩ := h
  obtain ⟨DA, mD, hD, _⟩ := S.ex
  have kG := F.kp
  refine ⟨_, pss_cons (ps_set (i := 1) scXt.nd rfl (Or.inl rfl) (pe_ix ix_tup (pv 0) pe_int (fun _ _ => rfl)))
    (pss_cons (ps_if (pt_cmpR op_eq (pv 1) pe_str (nomark _)) (pss_one (ps_ret (pe_callTy call_str_int rfl ms (by decide +kernel) (pa_cons (pe_ix ix_tup (pv 0) pe_int (fun _ _ => rfl)) pa_nil)))) pss_nil)
    (pss_cons (ps_if (pt_cmpR op_eq (pv 1) pe_str (nomark _)) (pss_one (ps_ret (pe_ix ix_tup (pv 0) pe_int (fun _ _ => rfl)))) pss_nil)
    (pss_cons (ps_if (pt_cmpR op_in_seq (pv 1) (pe_tup (pa_cons pe_str (pa_cons pe_str pa_nil))) (by rfl)) (pss_one (ps_ret (pv 1))) pss_nil)
    (pss_one (ps_ret (pe_joined (.cons pe_str (.cons (pe_fmt (pe_call G hr rfl mG kG bG .nil pass0 (pa_cons (pe_ix ix_tup (pv 0) pe_int (fun _ _ => rfl)) pa_nil))) (.cons pe_str (.cons (pe_fmt (pe_ix ix_kdict (pe_glob (v := .ref DA) rfl mD rfl) (pv 1) (fun _ _ => rfl))) (.cons pe_str
      (.cons (pe_fmt (pe_call G hr rfl mG kG bG .nil pass0 (pa_cons (pe_ix ix_tup (pv 0) pe_int (fun _ _ => rfl)) pa_nil))) (.cons pe_str .nil))))))))))))), ?_⟩
  have two : 2 ≤ sizeLine := by decide
  cases hv with
  | num h =>
    refine ⟨_, rfl, _, _, _, _, rfl, rfl, SqT.of h, atI_nat (j := 0) rfl, ?_⟩
    refine ⟨_, rfl, rfl, _, rfl, itT eq_str ?_⟩
    have z := q H same_refl
    rw [num_text] at z
    exact ⟨_, rfl, _, _, _, _, rfl, rfl, SqT.of h, atI_nat (j := 1) rfl, _, rfl, (nb_of (n := 1) hf.1 hf.2 (by decide)).log, z⟩
  | box h =>
    refine ⟨_, rfl, _, _, _, _, rfl, rfl, SqT.of h, atI_nat (j := 0) rfl, ?_⟩
    refine ⟨_, rfl, rfl, _, rfl, itF (ne_str (by decide)) ?_⟩
    refine ⟨_, rfl, rfl, _, rfl, itT eq_str ?_⟩
    have z := q H same_refl
    rw [box_text] at z
    exact ⟨_, rfl, _, _, _, _, rfl, rfl, SqT.of h, atI_nat (j := 1) rfl, z⟩
  | asked h =>
    refine ⟨_, rfl, _, _, _, _, rfl, rfl, SqT.of h, atI_nat (j := 0) rfl, ?_⟩
    refine ⟨_, rfl, rfl, _, rfl, itF (ne_str (by decide)) ?_⟩
    refine ⟨_, rfl, rfl, _, rfl, itF (ne_str (by decide)) ?_⟩
    refine ⟨_, rfl, two, fun p hp => ⟨p, _, rfl, .inr (SqT.of upd_same), rfl, rfl, _, rfl, itT rfl ?_⟩⟩
    have z := q _ (same_new hp (.tup [.str "asked", .str "told"]))
    rw [asked_text] at z
    exact ⟨_, rfl, z⟩
  | told h =>
    refine ⟨_, rfl, _, _, _, _, rfl, rfl, SqT.of h, atI_nat (j := 0) rfl, ?_⟩
    refine ⟨_, rfl, rfl, _, rfl, itF (ne_str (by decide)) ?_⟩
    refine ⟨_, rfl, rfl, _, rfl, itF (ne_str (by decide)) ?_⟩
    refine ⟨_, rfl, two, fun p hp => ⟨p, _, rfl, .inr (SqT.of upd_same), rfl, rfl, _, rfl, itT rfl ?_⟩⟩
    have z := q _ (same_new hp (.tup [.str "asked", .str "told"]))
    rw [told_text] at z
    exact ⟨_, rfl, z⟩
  | op h h1 h2 =>
    rename_i p0 d x y l r
    have w1 : d.word ≠ "number" ∧ d.word ≠ "box" := by cases d <;> decide
    have i2 : inV (.str d.word) [.str "asked", .str "told"] = false := by cases d <;> rfl
    have dl : l.deep ≤ n := Nat.le_trans (Nat.le_max_left ..) (Nat.le_of_succ_le_succ hd)
    have dr : r.deep ≤ n := Nat.le_trans (Nat.le_max_right ..) (Nat.le_of_succ_le_succ hd)
    have ol := op_len d l r
    have zl : Sz (exL l) := hz.sub (by omega)
    have zr : Sz (exL r) := hz.sub (by omega)
    have hz' : (exL l).length + (exL r).length + d.sign.length + 4 ≤ 1000000 := by rw [← ol]; exact hz
    have ll : l.text.length = (exL l).length := by rw [len_l]; rfl
    have lr : r.text.length = (exL r).length := by rw [len_l]; rfl
    have lg : d.sg.length = d.sign.length := by rw [len_l]; rfl
    have sl : sizeLine = 16777216 := sizeLine_eq
    have lp : ("(" : Str).length = 1 := rfl
    have lq : (")" : Str).length = 1 := rfl
    have lb : (" " : Str).length = 1 := rfl
    have le : Str.empty.length = 0 := rfl
    refine ⟨_, rfl, _, _, _, _, rfl, rfl, SqT.of h, atI_nat (j := 0) rfl, ?_⟩
    refine ⟨_, rfl, rfl, _, rfl, itF (ne_str w1.1) ?_⟩
    refine ⟨_, rfl, rfl, _, rfl, itF (ne_str w1.2) ?_⟩
    refine ⟨_, rfl, two, fun p hp => ⟨p, _, rfl, .inr (SqT.of upd_same), rfl, rfl, _, rfl, itF i2 ?_⟩⟩
    have s1 := same_new hp (.tup [.str "asked", .str "told"])
    refine ⟨_, rfl, by rw [len_app]; omega, ?_⟩
    refine ⟨_, rfl, _, _, _, _, rfl, rfl, SqT.of (s1 _ _ h), atI_nat (j := 1) rfl, x, l, rfl, h1.keep (Same.tups s1), dl, hf.1, zl, fun H2 s2 => .inl ⟨_, rfl, by omega, _, rfl, by rw [len_app, len_app]; omega, ?_⟩⟩
    have s2 := s1.trans s2
    refine ⟨_, rfl, by rw [len_app, len_app, len_app]; omega, ?_⟩
    refine ⟨_, rfl, DA, d.word, .str d.sg, rfl, rfl, hD d, .inl ⟨_, rfl, by omega, _, rfl, by rw [len_app, len_app, len_app, len_app]; omega, ?_⟩⟩
    refine ⟨_, rfl, by rw [len_app, len_app, len_app, len_app, len_app]; omega, ?_⟩
    refine ⟨_, rfl, _, _, _, _, rfl, rfl, SqT.of (s2 _ _ h), atI_nat (j := 2) rfl, y, r, rfl, h2.keep (Same.tups s2), dr, hf.2, zr, fun H3 s3 => .inl ⟨_, rfl, by omega, _, rfl, by rw [len_app, len_app, len_app, len_app, len_app, len_app]; omega, ?_⟩⟩
    refine ⟨_, rfl, by rw [len_app, len_app, len_app, len_app, len_app, len_app, len_app]; omega, ?_⟩
    have z := q H3 (s2.trans s3)
    rw [← op_text] at z
    exact z
theorem all_xt (F : Fun K "expression_text" "expression_text" sXt f fd) (bG : Binds K fd ["expression"] []) (mG : mg "expression_text" = some (.ref f)) (S : Signs w K mg) (ms : mg "str" = none) : ∀ n : Nat, FnOk P w K mg base CX0 n f fd ["expression"] (spXt n)
  | 0 => no_xt
  | n + 1 => ok_xt F (all_xt F bG mG S ms n) bG mG S ms
end
end Any
namespace Any
open L2 PySem PySem.Spec PyProof.Rows LamX NdefX
section
variable {P : Program} {w : World} {K : PySem.W.Frag} {mg : Str → Option Value} {base : Heap} {f xt : Addr} {fd xtd : FuncData}
theorem no_tt {k : Nat} {ps : List Str} : FnOk P w K mg base CX0 k f fd ps (spTt 0) := by
  have no : ∀ vs H Q E, ¬ spTt 0 vs H Q E := fun vs H Q E h => by
    obtain ⟨v, e, _, _, hd, _⟩ := h
    cases e <;> exact absurd hd (by show ¬ _ ≤ 0; exact Nat.not_succ_le_zero _)
  exact ⟨fun vs H Q E h => absurd h (no vs H Q E), fun A outer s H args us vs Q E _ _ _ _ h => absurd h (no vs H Q E)⟩
theorem ok_tt {n : Nat} (F : Fun K "test_text" "test_text" sTt f fd) (G : FnOk P w K mg base CX0 (n + 6) f fd ["test"] (spTt n)) (bG : Binds K fd ["test"] []) (mG : mg "test_text" = some (.ref f))
    (GX : FnOk P w K mg base CX0 6 xt xtd ["expression"] (spXt 6)) (bX : Binds K xtd ["expression"] []) (kX : PySem.W.keepIn K (.ref xt) = true) (mX : mg "expression_text" = some (.ref xt)) (S : Signs w K mg) :
    FnOk P w K mg base CX0 (n + 7) f fd ["test"] (spTt (n + 1)) := by
  refine F.ok scTt (fun vs H Q E h => ?_) (fun cdv A outer s H vs Q E hr h => ?_)
  · obtain ⟨v, e, rfl, _⟩ := h
    rfl
  obtain ⟨v, e, rfl, hv, hd, hf, hz, hlo, q⟩ := h
  obtain ⟨DA, mD, _, hS⟩ := S.ex
  have kG := F.kp
  have hr6 := hr.mono (show 6 ≤ n + 6 by omega)
  refine ⟨_, pss_cons (ps_set (i := 1) scTt.nd rfl (Or.inl rfl) (pe_ix ix_tup (pv 0) pe_int (fun _ _ => rfl)))
    (pss_cons (ps_if (pt_cmpR op_in_seq (pv 1) (pe_tup (pa_cons pe_str (pa_cons pe_str pa_nil))) (by rfl))
      (pss_one (ps_ret (pe_joined (.cons pe_str (.cons (pe_fmt (pe_call GX hr6 rfl mX kX bX .nil pass0 (pa_cons (pe_ix ix_tup (pv 0) pe_int (fun _ _ => rfl)) pa_nil))) (.cons pe_str (.cons (pe_fmt (pe_ix ix_kdict (pe_glob (v := .ref DA) rfl mD rfl) (pv 1) (fun _ _ => rfl))) (.cons pe_str
        (.cons (pe_fmt (pe_call GX hr6 rfl mX kX bX .nil pass0 (pa_cons (pe_ix ix_tup (pv 0) pe_int (fun _ _ => rfl)) pa_nil))) (.cons pe_str .nil)))))))))) pss_nil)
    (pss_cons (ps_if (pt_cmpR op_eq (pv 1) pe_str (nomark _)) (pss_one (ps_ret (pe_joined (.cons pe_str (.cons (pe_fmt (pe_call G hr rfl mG kG bG .nil pass0 (pa_cons (pe_ix ix_tup (pv 0) pe_int (fun _ _ => rfl)) pa_nil))) (.cons pe_str .nil)))))) pss_nil)
    (pss_one (ps_ret (pe_joined (.cons pe_str (.cons (pe_fmt (pe_call G hr rfl mG kG bG .nil pass0 (pa_cons (pe_ix ix_tup (pv 0) pe_int (fun _ _ => rfl)) pa_nil))) (.cons pe_str (.cons (pe_fmt (pe_ix ix_kdict (pe_glob (v := .ref DA) rfl mD rfl) (pv 1) (fun _ _ => rfl))) (.cons pe_str
        (.cons (pe_fmt (pe_call G hr rfl mG kG bG .nil pass0 (pa_cons (pe_ix ix_tup (pv 0) pe_int (fun _ _ => rfl)) pa_nil))) (.cons pe_str .nil)))))))))))), ?_⟩
  have two : 2 ≤ sizeLine := by decide
  have sl : sizeLine = 16777216 := sizeLine_eq
  have lp : ("(" : Str).length = 1 := rfl
  have lq : (")" : Str).length = 1 := rfl
  have lb : (" " : Str).length = 1 := rfl
  have le : Str.empty.length = 0 := rfl
  cases hv with
  | nt h h1 =>
    rename_i p0 x l
    have ol : (tsL (.nt l)).length = (tsL l).length + 6 := by
      show (40 :: (cs "not" ++ 32 :: (tsL l ++ [41]))).length = _
      simp only [List.length_cons, List.length_append, List.length_nil]
      have : (cs "not").length = 3 := rfl
      omega
    have zl : Sz (tsL l) := hz.sub (by omega)
    have hz' : (tsL l).length + 6 ≤ 1000000 := by rw [← ol]; exact hz
    have ll : l.text.length = (tsL l).length := by rw [len_l]; rfl
    have ln : ("(not " : Str).length = 5 := rfl
    refine ⟨_, rfl, _, _, _, _, rfl, rfl, SqT.of h, atI_nat (j := 0) rfl, ?_⟩
    refine ⟨_, rfl, two, fun p hp => ⟨p, _, rfl, .inr (SqT.of upd_same), rfl, rfl, _, rfl, itF rfl ?_⟩⟩
    have s1 := same_new hp (.tup [.str "is", .str "below"])
    refine ⟨_, rfl, rfl, _, rfl, itT eq_str ?_⟩
    refine ⟨_, rfl, by rw [len_app]; omega, ?_⟩
    refine ⟨_, rfl, _, _, _, _, rfl, rfl, SqT.of (s1 _ _ h), atI_nat (j := 1) rfl, x, l, rfl, h1.keep (Same.tups s1), Nat.le_of_succ_le_succ hd, hf, zl, hlo, fun H2 s2 => .inl ⟨_, rfl, by omega, _, rfl, by rw [len_app, len_app]; omega, ?_⟩⟩
    refine ⟨_, rfl, by rw [len_app, len_app, len_app]; omega, ?_⟩
    have z := q H2 (s1.trans s2)
    rw [← not_text (l := l.text) (t := (Ts.nt l).text) rfl rfl] at z
    exact z
  | is h h1 h2 =>
    rename_i p0 x y l r
    have ol : (tsL (.is l r)).length = (exL l).length + (exL r).length + (cs "==").length + 4 := by
      show (40 :: (exL l ++ 32 :: (cs "==" ++ 32 :: (exL r ++ [41])))).length = _
      simp only [List.length_cons, List.length_append, List.length_nil]
      omega
    have zl : Sz (exL l) := hz.sub (by omega)
    have zr : Sz (exL r) := hz.sub (by omega)
    have hz' : (exL l).length + (exL r).length + (cs "==").length + 4 ≤ 1000000 := by rw [← ol]; exact hz
    have ll : l.text.length = (exL l).length := by rw [len_l]; rfl
    have lr : r.text.length = (exL r).length := by rw [len_l]; rfl
    have lg : ("==" : Str).length ≤ 3 := by decide
    refine ⟨_, rfl, _, _, _, _, rfl, rfl, SqT.of h, atI_nat (j := 0) rfl, ?_⟩
    refine ⟨_, rfl, two, fun p hp => ⟨p, _, rfl, .inr (SqT.of upd_same), rfl, rfl, _, rfl, itT rfl ?_⟩⟩
    have s1 := same_new hp (.tup [.str "is", .str "below"])
    refine ⟨_, rfl, by rw [len_app]; omega, ?_⟩
    refine ⟨_, rfl, _, _, _, _, rfl, rfl, SqT.of (s1 _ _ h), atI_nat (j := 1) rfl, x, l, rfl, h1.keep (Same.tups s1), hlo.1, hf.1, zl, fun H2 s2 => .inl ⟨_, rfl, by omega, _, rfl, by rw [len_app, len_app]; omega, ?_⟩⟩
    have s2 := s1.trans s2
    refine ⟨_, rfl, by rw [len_app, len_app, len_app]; omega, ?_⟩
    refine ⟨_, rfl, DA, _, .str "==", rfl, rfl, hS.1, .inl ⟨_, rfl, by omega, _, rfl, by rw [len_app, len_app, len_app, len_app]; omega, ?_⟩⟩
    refine ⟨_, rfl, by rw [len_app, len_app, len_app, len_app, len_app]; omega, ?_⟩
    refine ⟨_, rfl, _, _, _, _, rfl, rfl, SqT.of (s2 _ _ h), atI_nat (j := 2) rfl, y, r, rfl, h2.keep (Same.tups s2), hlo.2, hf.2, zr, fun H3 s3 => .inl ⟨_, rfl, by omega, _, rfl, by rw [len_app, len_app, len_app, len_app, len_app, len_app]; omega, ?_⟩⟩
    refine ⟨_, rfl, by rw [len_app, len_app, len_app, len_app, len_app, len_app, len_app]; omega, ?_⟩
    have z := q H3 (s2.trans s3)
    rw [← bin_text (l := l.text) (r := r.text) (sg := ("==" : Str)) (t := (Ts.is l r).text) (S := cs "==") rfl rfl rfl rfl] at z
    exact z
  | bel h h1 h2 =>
    rename_i p0 x y l r
    have ol : (tsL (.bel l r)).length = (exL l).length + (exL r).length + (cs "<").length + 4 := by
      show (40 :: (exL l ++ 32 :: (cs "<" ++ 32 :: (exL r ++ [41])))).length = _
      simp only [List.length_cons, List.length_append, List.length_nil]
      omega
    have zl : Sz (exL l) := hz.sub (by omega)
    have zr : Sz (exL r) := hz.sub (by omega)
    have hz' : (exL l).length + (exL r).length + (cs "<").length + 4 ≤ 1000000 := by rw [← ol]; exact hz
    have ll : l.text.length = (exL l).length := by rw [len_l]; rfl
    have lr : r.text.length = (exL r).length := by rw [len_l]; rfl
    have lg : ("<" : Str).length ≤ 3 := by decide
    refine ⟨_, rfl, _, _, _, _, rfl, rfl, SqT.of h, atI_nat (j := 0) rfl, ?_⟩
    refine ⟨_, rfl, two, fun p hp => ⟨p, _, rfl, .inr (SqT.of upd_same), rfl, rfl, _, rfl, itT rfl ?_⟩⟩
    have s1 := same_new hp (.tup [.str "is", .str "below"])
    refine ⟨_, rfl, by rw [len_app]; omega, ?_⟩
    refine ⟨_, rfl, _, _, _, _, rfl, rfl, SqT.of (s1 _ _ h), atI_nat (j := 1) rfl, x, l, rfl, h1.keep (Same.tups s1), hlo.1, hf.1, zl, fun H2 s2 => .inl ⟨_, rfl, by omega, _, rfl, by rw [len_app, len_app]; omega, ?_⟩⟩
    have s2 := s1.trans s2
    refine ⟨_, rfl, by rw [len_app, len_app, len_app]; omega, ?_⟩
    refine ⟨_, rfl, DA, _, .str "<", rfl, rfl, hS.2.1, .inl ⟨_, rfl, by omega, _, rfl, by rw [len_app, len_app, len_app, len_app]; omega, ?_⟩⟩
    refine ⟨_, rfl, by rw [len_app, len_app, len_app, len_app, len_app]; omega, ?_⟩
    refine ⟨_, rfl, _, _, _, _, rfl, rfl, SqT.of (s2 _ _ h), atI_nat (j := 2) rfl, y, r, rfl, h2.keep (Same.tups s2), hlo.2, hf.2, zr, fun H3 s3 => .inl ⟨_, rfl, by omega, _, rfl, by rw [len_app, len_app, len_app, len_app, len_app, len_app]; omega, ?_⟩⟩
    refine ⟨_, rfl, by rw [len_app, len_app, len_app, len_app, len_app, len_app, len_app]; omega, ?_⟩
    have z := q H3 (s2.trans s3)
    rw [← bin_text (l := l.text) (r := r.text) (sg := ("<" : Str)) (t := (Ts.bel l r).text) (S := cs "<") rfl rfl rfl rfl] at z
    exact z
  | both h h1 h2 =>
    rename_i p0 x y l r
    have dl : l.deep ≤ n := Nat.le_trans (Nat.le_max_left ..) (Nat.le_of_succ_le_succ hd)
    have dr : r.deep ≤ n := Nat.le_trans (Nat.le_max_right ..) (Nat.le_of_succ_le_succ hd)
    have ol : (tsL (.both l r)).length = (tsL l).length + (tsL r).length + (cs "and").length + 4 := by
      show (40 :: (tsL l ++ 32 :: (cs "and" ++ 32 :: (tsL r ++ [41])))).length = _
      simp only [List.length_cons, List.length_append, List.length_nil]
      omega
    have zl : Sz (tsL l) := hz.sub (by omega)
    have zr : Sz (tsL r) := hz.sub (by omega)
    have hz' : (tsL l).length + (tsL r).length + (cs "and").length + 4 ≤ 1000000 := by rw [← ol]; exact hz
    have ll : l.text.length = (tsL l).length := by rw [len_l]; rfl
    have lr : r.text.length = (tsL r).length := by rw [len_l]; rfl
    have lg : ("and" : Str).length ≤ 3 := by decide
    refine ⟨_, rfl, _, _, _, _, rfl, rfl, SqT.of h, atI_nat (j := 0) rfl, ?_⟩
    refine ⟨_, rfl, two, fun p hp => ⟨p, _, rfl, .inr (SqT.of upd_same), rfl, rfl, _, rfl, itF rfl ?_⟩⟩
    have s1 := same_new hp (.tup [.str "is", .str "below"])
    refine ⟨_, rfl, rfl, _, rfl, itF (ne_str (by decide)) ?_⟩
    refine ⟨_, rfl, by rw [len_app]; omega, ?_⟩
    refine ⟨_, rfl, _, _, _, _, rfl, rfl, SqT.of (s1 _ _ h), atI_nat (j := 1) rfl, x, l, rfl, h1.keep (Same.tups s1), dl, hf.1, zl, hlo.1, fun H2 s2 => .inl ⟨_, rfl, by omega, _, rfl, by rw [len_app, len_app]; omega, ?_⟩⟩
    have s2 := s1.trans s2
    refine ⟨_, rfl, by rw [len_app, len_app, len_app]; omega, ?_⟩
    refine ⟨_, rfl, DA, _, .str "and", rfl, rfl, hS.2.2.1, .inl ⟨_, rfl, by omega, _, rfl, by rw [len_app, len_app, len_app, len_app]; omega, ?_⟩⟩
    refine ⟨_, rfl, by rw [len_app, len_app, len_app, len_app, len_app]; omega, ?_⟩
    refine ⟨_, rfl, _, _, _, _, rfl, rfl, SqT.of (s2 _ _ h), atI_nat (j := 2) rfl, y, r, rfl, h2.keep (Same.tups s2), dr, hf.2, zr, hlo.2, fun H3 s3 => .inl ⟨_, rfl, by omega, _, rfl, by rw [len_app, len_app, len_app, len_app, len_app, len_app]; omega, ?_⟩⟩
    refine ⟨_, rfl, by rw [len_app, len_app, len_app, len_app, len_app, len_app, len_app]; omega, ?_⟩
    have z := q H3 (s2.trans s3)
    rw [← bin_text (l := l.text) (r := r.text) (sg := ("and" : Str)) (t := (Ts.both l r).text) (S := cs "and") rfl rfl rfl rfl] at z
    exact z
  | either h h1 h2 =>
    rename_i p0 x y l r
    have dl : l.deep ≤ n := Nat.le_trans (Nat.le_max_left ..) (Nat.le_of_succ_le_succ hd)
    have dr : r.deep ≤ n := Nat.le_trans (Nat.le_max_right ..) (Nat.le_of_succ_le_succ hd)
    have ol : (tsL (.either l r)).length = (tsL l).length + (tsL r).length + (cs "or").length + 4 := by
      show (40 :: (tsL l ++ 32 :: (cs "or" ++ 32 :: (tsL r ++ [41])))).length = _
      simp only [List.length_cons, List.length_append, List.length_nil]
      omega
    have zl : Sz (tsL l) := hz.sub (by omega)
    have zr : Sz (tsL r) := hz.sub (by omega)
    have hz' : (tsL l).length + (tsL r).length + (cs "or").length + 4 ≤ 1000000 := by rw [← ol]; exact hz
    have ll : l.text.length = (tsL l).length := by rw [len_l]; rfl
    have lr : r.text.length = (tsL r).length := by rw [len_l]; rfl
    have lg : ("or" : Str).length ≤ 3 := by decide
    refine ⟨_, rfl, _, _, _, _, rfl, rfl, SqT.of h, atI_nat (j := 0) rfl, ?_⟩
    refine ⟨_, rfl, two, fun p hp => ⟨p, _, rfl, .inr (SqT.of upd_same), rfl, rfl, _, rfl, itF rfl ?_⟩⟩
    have s1 := same_new hp (.tup [.str "is", .str "below"])
    refine ⟨_, rfl, rfl, _, rfl, itF (ne_str (by decide)) ?_⟩
    refine ⟨_, rfl, by rw [len_app]; omega, ?_⟩
    refine ⟨_, rfl, _, _, _, _, rfl, rfl, SqT.of (s1 _ _ h), atI_nat (j := 1) rfl, x, l, rfl, h1.keep (Same.tups s1), dl, hf.1, zl, hlo.1, fun H2 s2 => .inl ⟨_, rfl, by omega, _, rfl, by rw [len_app, len_app]; omega, ?_⟩⟩
    have s2 := s1.trans s2
    refine ⟨_, rfl, by rw [len_app, len_app, len_app]; omega, ?_⟩
    refine ⟨_, rfl, DA, _, .str "or", rfl, rfl, hS.2.2.2, .inl ⟨_, rfl, by omega, _, rfl, by rw [len_app, len_app, len_app, len_app]; omega, ?_⟩⟩
    refine ⟨_, rfl, by rw [len_app, len_app, len_app, len_app, len_app]; omega, ?_⟩
    refine ⟨_, rfl, _, _, _, _, rfl, rfl, SqT.of (s2 _ _ h), atI_nat (j := 2) rfl, y, r, rfl, h2.keep (Same.tups s2), dr, hf.2, zr, hlo.2, fun H3 s3 => .inl ⟨_, rfl, by omega, _, rfl, by rw [len_app, len_app, len_app, len_app, len_app, len_app]; omega, ?_⟩⟩
    refine ⟨_, rfl, by rw [len_app, len_app, len_app, len_app, len_app, len_app, len_app]; omega, ?_⟩
    have z := q H3 (s2.trans s3)
    rw [← bin_text (l := l.text) (r := r.text) (sg := ("or" : Str)) (t := (Ts.either l r).text) (S := cs "or") rfl rfl rfl rfl] at z
    exact z
theorem all_tt (F : Fun K "test_text" "test_text" sTt f fd) (bG : Binds K fd ["test"] []) (mG : mg "test_text" = some (.ref f))
    (GX : FnOk P w K mg base CX0 6 xt xtd ["expression"] (spXt 6)) (bX : Binds K xtd ["expression"] []) (kX : PySem.W.keepIn K (.ref xt) = true) (mX : mg "expression_text" = some (.ref xt)) (S : Signs w K mg) : ∀ n : Nat, FnOk P w K mg base CX0 (n + 6) f fd ["test"] (spTt n)
  | 0 => no_tt
  | n + 1 => ok_tt F (all_tt F bG mG GX bX kX mX S n) bG mG GX bX kX mX S
end
end Any
namespace Any
open L2 PySem PySem.Spec PyProof.Rows LamX NdefX
abbrev sXs : Stmt := top 24
abbrev sTs : Stmt := top 25
theorem scXs : FnScope ["_law_term", "_law_signs", "_law_sign"] ["_law_term"] (defScope sXs) := ⟨rfl, rfl, rfl, by decide +kernel, rfl, by decide +kernel, by decide +kernel⟩
theorem scTs : FnScope ["_law_test", "_law_signs", "_law_sign"] ["_law_test"] (defScope sTs) := ⟨rfl, rfl, rfl, by decide +kernel, rfl, by decide +kernel, by decide +kernel⟩
theorem bin_text2 {l r sg : Str} {L R S : List Nat} (hl : l.cps.toList = L) (hr : r.cps.toList = R) (hs : sg.cps.toList = S) {t : Str} (ht : t.cps.toList = 40 :: (L ++ 32 :: (S ++ 32 :: (R ++ [41])))) :
    (((("(" : Str) ++ l) ++ (((" " : Str) ++ sg) ++ (" " : Str))) ++ r) ++ (")" : Str) = t := by
  apply str_ext
  rw [ht]
  simp only [app_l, hl, hr, hs]
  show ((([40] ++ L) ++ (([32] ++ S) ++ [32])) ++ R) ++ [41] = _
  simp [List.append_assoc]
theorem not_text2 {l : Str} {L : List Nat} (hl : l.cps.toList = L) {t : Str} (ht : t.cps.toList = 40 :: (cs "not" ++ 32 :: (L ++ [41]))) : (("(not " : Str) ++ l) ++ (")" : Str) = t := by
  apply str_ext
  rw [ht]
  simp only [app_l, hl]
  show ([40, 110, 111, 116, 32] ++ L) ++ [41] = 40 :: ([110, 111, 116] ++ 32 :: (L ++ [41]))
  simp
abbrev sgX : List (Key × V) := [(Sum.inr "plus", .str "+"), (Sum.inr "less", .str "-"), (Sum.inr "times", .str "*"), (Sum.inr "over", .str "//"), (Sum.inr "rest", .str "rest")]
abbrev sgT : List (Key × V) := [(Sum.inr "is", .str "=="), (Sum.inr "below", .str "<"), (Sum.inr "both", .str "and"), (Sum.inr "either", .str "or")]
theorem sgX_at (d : Dd) : valV (mergeK [] sgX) (Sum.inr d.word) = some (.str d.sg) := by cases d <;> decide
theorem same_new2 {H : Hp} {p : Addr} (h : H p = none) (o o' : HO) : Same H (upd (upd H p o) p o') := fun b u q => by rw [upd_ne (ne_of_none q h), upd_ne (ne_of_none q h)]; exact q
section
variable {X : Cx}
theorem call_str_any : CallR X (.type "str") (fun xs H Q => (∃ i, xs = [.int i] ∧ i.natAbs.log2 < 1920 ∧ Q (.str (toString i)) H) ∨ (∃ a, xs = [.str a] ∧ Q (.str a) H)) := by
  intro pins s σ H xs us Q I r h
  rcases h with h | h
  · exact call_str_int pins s σ H xs us Q I r h
  · exact SkE.call_str_str pins s σ H xs us Q I r h
end
section
variable {P : Program} {w : World} {K : PySem.W.Frag} {mg : Str → Option Value} {base : Heap} {f xt : Addr} {fd xtd : FuncData}
theorem no_xs {k : Nat} {ps : List Str} : FnOk P w K mg base CX0 k f fd ps (spXt 0) := by
  have no : ∀ vs H Q E, ¬ spXt 0 vs H Q E := fun vs H Q E h => by
    obtain ⟨v, e, _, _, hd, _⟩ := h
    cases e <;> exact absurd hd (by show ¬ _ ≤ 0; exact Nat.not_succ_le_zero _)
  exact ⟨fun vs H Q E h => absurd h (no vs H Q E), fun A outer s H args us vs Q E _ _ _ _ h => absurd h (no vs H Q E)⟩
theorem ok_xs {n : Nat} (F : Fun K "_law_term_shown" "_law_term_shown" sXs f fd) (G : FnOk P w K mg base CX0 n f fd ["_law_term"] (spXt n)) (bG : Binds K fd ["_law_term"] []) (mG : mg "_law_term_shown" = some (.ref f)) (ms : mg "str" = none) :
    FnOk P w K mg base CX0 (n + 1) f fd ["_law_term"] (spXt (n + 1)) := by
  refine F.ok scXs (fun vs H Q E h => ?_) (fun cdv A outer s H vs Q E hr h => ?_)
  · obtain ⟨v, e, rfl, _⟩ := h
    rfl
  obtain ⟨v, e, rfl, hv, hd, hf, hz, q⟩ := h
  have kG := F.kp
  have hu := hu_of hr
  refine ⟨_, pss_cons (ps_set (i := 1) scXs.nd rfl (Or.inl rfl) (pe_disp (pps_cons pe_str pe_str (pps_cons pe_str pe_str (pps_cons pe_str pe_str (pps_cons pe_str pe_str (pps_cons pe_str pe_str pps_nil))))) (by rfl) (by rfl) (fun z => by cases z) (by decide)))
    (pss_cons (ps_if (pt_cmp (pc_din hu (pe_ix ix_tup (pv 0) pe_int (fun _ _ => rfl)) (pv 1)))
      (pss_cons (ps_set (i := 2) scXs.nd rfl (Or.inl rfl) (pe_op op_add_str (pe_op op_add_str pe_str (pe_dget hu (pv 1) (pe_ix ix_tup (pv 0) pe_int (fun _ _ => rfl)) (fun _ _ => rfl))) pe_str))
      (pss_one (ps_ret (pe_op op_add_str (pe_op op_add_str (pe_op op_add_str (pe_op op_add_str pe_str (pe_call G hr rfl mG kG bG .nil pass0 (pa_cons (pe_ix ix_tup (pv 0) pe_int (fun _ _ => rfl)) pa_nil))) (pv 2)) (pe_call G hr rfl mG kG bG .nil pass0 (pa_cons (pe_ix ix_tup (pv 0) pe_int (fun _ _ => rfl)) pa_nil))) pe_str)))) pss_nil)
    (pss_one (ps_ret (pe_callTy call_str_any rfl ms (by decide +kernel) (pa_cons (pe_ix ix_tup (pv 0) (pe_un un_neg pe_int) (fun _ _ => rfl)) pa_nil))))), ?_⟩
  refine fun p hp => ⟨upd_same, sgX, rfl, by decide, ?_⟩
  have s1 := same_new2 hp (.dK []) (.dK (mergeK [] sgX))
  have hp1 : upd (upd H p (.dK [])) p (.dK (mergeK [] sgX)) p = some (.dK (mergeK [] sgX)) := upd_same
  cases hv with
  | num h =>
    refine ⟨_, rfl, _, _, _, _, rfl, rfl, SqT.of (s1 _ _ h), atI_nat (j := 0) rfl, _, rfl, p, _, rfl, DGet.k (k := Sum.inr "number") hp1, _, rfl, itF (by decide) ?_⟩
    have z := q _ s1
    rw [num_text] at z
    exact ⟨_, rfl, 1, rfl, _, _, _, _, rfl, rfl, SqT.of (s1 _ _ h), rfl, .inl ⟨_, rfl, (nb_of (n := 1) hf.1 hf.2 (by decide)).log, z⟩⟩
  | box h =>
    refine ⟨_, rfl, _, _, _, _, rfl, rfl, SqT.of (s1 _ _ h), atI_nat (j := 0) rfl, _, rfl, p, _, rfl, DGet.k (k := Sum.inr "box") hp1, _, rfl, itF (by decide) ?_⟩
    have z := q _ s1
    rw [box_text] at z
    exact ⟨_, rfl, 1, rfl, _, _, _, _, rfl, rfl, SqT.of (s1 _ _ h), rfl, .inr ⟨_, rfl, z⟩⟩
  | asked h =>
    refine ⟨_, rfl, _, _, _, _, rfl, rfl, SqT.of (s1 _ _ h), atI_nat (j := 0) rfl, _, rfl, p, _, rfl, DGet.k (k := Sum.inr "asked") hp1, _, rfl, itF (by decide) ?_⟩
    have z := q _ s1
    rw [asked_text] at z
    exact ⟨_, rfl, 1, rfl, _, _, _, _, rfl, rfl, SqT.of (s1 _ _ h), rfl, .inr ⟨_, rfl, z⟩⟩
  | told h =>
    refine ⟨_, rfl, _, _, _, _, rfl, rfl, SqT.of (s1 _ _ h), atI_nat (j := 0) rfl, _, rfl, p, _, rfl, DGet.k (k := Sum.inr "told") hp1, _, rfl, itF (by decide) ?_⟩
    have z := q _ s1
    rw [told_text] at z
    exact ⟨_, rfl, 1, rfl, _, _, _, _, rfl, rfl, SqT.of (s1 _ _ h), rfl, .inr ⟨_, rfl, z⟩⟩
  | op h h1 h2 =>
    rename_i p0 d x y l r
    have dl : l.deep ≤ n := Nat.le_trans (Nat.le_max_left ..) (Nat.le_of_succ_le_succ hd)
    have dr : r.deep ≤ n := Nat.le_trans (Nat.le_max_right ..) (Nat.le_of_succ_le_succ hd)
    have ol := op_len d l r
    have zl : Sz (exL l) := hz.sub (by omega)
    have zr : Sz (exL r) := hz.sub (by omega)
    have hz' : (exL l).length + (exL r).length + d.sign.length + 4 ≤ 1000000 := by rw [← ol]; exact hz
    have ll : l.text.length = (exL l).length := by rw [len_l]; rfl
    have lr : r.text.length = (exL r).length := by rw [len_l]; rfl
    have lg : d.sg.length = d.sign.length := by rw [len_l]; rfl
    have sl : sizeLine = 16777216 := sizeLine_eq
    have lp : ("(" : Str).length = 1 := rfl
    have lq : (")" : Str).length = 1 := rfl
    have lb : (" " : Str).length = 1 := rfl
    have g := DGet.k (k := Sum.inr d.word) hp1
    rw [sgX_at] at g
    refine ⟨_, rfl, _, _, _, _, rfl, rfl, SqT.of (s1 _ _ h), atI_nat (j := 0) rfl, _, rfl, p, _, rfl, g, _, rfl, itT rfl ?_⟩
    refine ⟨_, rfl, _, rfl, _, _, _, _, rfl, rfl, SqT.of (s1 _ _ h), atI_nat (j := 0) rfl, p, _, rfl, g, _, _, rfl, rfl, by omega, _, _, rfl, rfl, by rw [len_app]; omega, ?_⟩
    refine ⟨_, rfl, _, _, _, _, rfl, rfl, SqT.of (s1 _ _ h), atI_nat (j := 1) rfl, x, l, rfl, h1.keep (Same.tups s1), dl, hf.1, zl, fun H2 s2 => ⟨_, _, rfl, rfl, by omega, ?_⟩⟩
    have s2 := s1.trans s2
    refine ⟨_, rfl, _, _, rfl, rfl, by rw [len_app, len_app, len_app]; omega, ?_⟩
    refine ⟨_, rfl, _, _, _, _, rfl, rfl, SqT.of (s2 _ _ h), atI_nat (j := 2) rfl, y, r, rfl, h2.keep (Same.tups s2), dr, hf.2, zr, fun H3 s3 => ⟨_, _, rfl, rfl, by rw [len_app, len_app, len_app, len_app]; omega, ?_⟩⟩
    refine ⟨_, _, rfl, rfl, by rw [len_app, len_app, len_app, len_app, len_app]; omega, ?_⟩
    have z := q H3 (s2.trans s3)
    rw [← bin_text2 (l := l.text) (r := r.text) (sg := d.sg) (t := (Ex.op d l r).text) rfl rfl rfl rfl] at z
    exact z
theorem all_xs (F : Fun K "_law_term_shown" "_law_term_shown" sXs f fd) (bG : Binds K fd ["_law_term"] []) (mG : mg "_law_term_shown" = some (.ref f)) (ms : mg "str" = none) : ∀ n : Nat, FnOk P w K mg base CX0 n f fd ["_law_term"] (spXt n)
  | 0 => no_xs
  | n + 1 => ok_xs F (all_xs F bG mG ms n) bG mG ms
end
end Any
namespace Any
open L2 PySem PySem.Spec PyProof.Rows LamX NdefX
section
variable {P : Program} {w : World} {K : PySem.W.Frag} {mg : Str → Option Value} {base : Heap} {f xt : Addr} {fd xtd : FuncData}
theorem ok_ts {n : Nat} (F : Fun K "_law_test_shown" "_law_test_shown" sTs f fd) (G : FnOk P w K mg base CX0 (n + 6) f fd ["_law_test"] (spTt n)) (bG : Binds K fd ["_law_test"] []) (mG : mg "_law_test_shown" = some (.ref f))
    (GX : FnOk P w K mg base CX0 6 xt xtd ["_law_term"] (spXt 6)) (bX : Binds K xtd ["_law_term"] []) (kX : PySem.W.keepIn K (.ref xt) = true) (mX : mg "_law_term_shown" = some (.ref xt)) :
    FnOk P w K mg base CX0 (n + 7) f fd ["_law_test"] (spTt (n + 1)) := by
  refine F.ok scTs (fun vs H Q E h => ?_) (fun cdv A outer s H vs Q E hr h => ?_)
  · obtain ⟨v, e, rfl, _⟩ := h
    rfl
  obtain ⟨v, e, rfl, hv, hd, hf, hz, hlo, q⟩ := h
  have kG := F.kp
  have hu := hu_of hr
  have hr6 := hr.mono (show 6 ≤ n + 6 by omega)
  refine ⟨_, pss_cons (ps_set (i := 1) scTs.nd rfl (Or.inl rfl) (pe_disp (pps_cons pe_str pe_str (pps_cons pe_str pe_str (pps_cons pe_str pe_str (pps_cons pe_str pe_str pps_nil)))) (by rfl) (by rfl) (fun z => by cases z) (by decide)))
    (pss_cons (ps_if (pt_cmpR op_eq (pe_ix ix_tup (pv 0) pe_int (fun _ _ => rfl)) pe_str (nomark _)) (pss_one (ps_ret (pe_op op_add_str (pe_op op_add_str pe_str (pe_call G hr rfl mG kG bG .nil pass0 (pa_cons (pe_ix ix_tup (pv 0) pe_int (fun _ _ => rfl)) pa_nil))) pe_str))) pss_nil)
    (pss_cons (ps_set (i := 2) scTs.nd rfl (Or.inl rfl) (pe_op op_add_str (pe_op op_add_str pe_str (pe_dget hu (pv 1) (pe_ix ix_tup (pv 0) pe_int (fun _ _ => rfl)) (fun _ _ => rfl))) pe_str))
    (pss_cons (ps_if (pt_cmpR op_in_seq (pe_ix ix_tup (pv 0) pe_int (fun _ _ => rfl)) (pe_tup (pa_cons pe_str (pa_cons pe_str pa_nil))) (by rfl)) (pss_one (ps_ret (pe_op op_add_str (pe_op op_add_str (pe_op op_add_str (pe_op op_add_str pe_str (pe_call G hr rfl mG kG bG .nil pass0 (pa_cons (pe_ix ix_tup (pv 0) pe_int (fun _ _ => rfl)) pa_nil))) (pv 2)) (pe_call G hr rfl mG kG bG .nil pass0 (pa_cons (pe_ix ix_tup (pv 0) pe_int (fun _ _ => rfl)) pa_nil))) pe_str))) pss_nil)
    (pss_one (ps_ret (pe_op op_add_str (pe_op op_add_str (pe_op op_add_str (pe_op op_add_str pe_str (pe_call GX hr6 rfl mX kX bX .nil pass0 (pa_cons (pe_ix ix_tup (pv 0) pe_int (fun _ _ => rfl)) pa_nil))) (pv 2)) (pe_call GX hr6 rfl mX kX bX .nil pass0 (pa_cons (pe_ix ix_tup (pv 0) pe_int (fun _ _ => rfl)) pa_nil))) pe_str)))))), ?_⟩
  have two : 2 ≤ sizeLine := by decide
  have sl : sizeLine = 16777216 := sizeLine_eq
  have lp : ("(" : Str).length = 1 := rfl
  have lq : (")" : Str).length = 1 := rfl
  have lb : (" " : Str).length = 1 := rfl
  refine fun p hp => ⟨upd_same, sgT, rfl, by decide, ?_⟩
  have s1 := same_new2 hp (.dK []) (.dK (mergeK [] sgT))
  have hp1 : upd (upd H p (.dK [])) p (.dK (mergeK [] sgT)) p = some (.dK (mergeK [] sgT)) := upd_same
  cases hv with
  | nt h h1 =>
    rename_i p0 x l
    have ol : (tsL (.nt l)).length = (tsL l).length + 6 := by
      show (40 :: (cs "not" ++ 32 :: (tsL l ++ [41]))).length = _
      simp only [List.length_cons, List.length_append, List.length_nil]
      have : (cs "not").length = 3 := rfl
      omega
    have zl : Sz (tsL l) := hz.sub (by omega)
    have hz' : (tsL l).length + 6 ≤ 1000000 := by rw [← ol]; exact hz
    have ll : l.text.length = (tsL l).length := by rw [len_l]; rfl
    have ln : ("(not " : Str).length = 5 := rfl
    refine ⟨_, rfl, _, _, _, _, rfl, rfl, SqT.of (s1 _ _ h), atI_nat (j := 0) rfl, rfl, _, rfl, itT eq_str ?_⟩
    refine ⟨_, rfl, _, _, _, _, rfl, rfl, SqT.of (s1 _ _ h), atI_nat (j := 1) rfl, x, l, rfl, h1.keep (Same.tups s1), Nat.le_of_succ_le_succ hd, hf, zl, hlo, fun H2 s2 => ⟨_, _, rfl, rfl, by omega, ?_⟩⟩
    refine ⟨_, _, rfl, rfl, by rw [len_app]; omega, ?_⟩
    have z := q H2 (s1.trans s2)
    rw [← not_text2 (l := l.text) (t := (Ts.nt l).text) rfl rfl] at z
    exact z
  | is h h1 h2 =>
    rename_i p0 x y l r
    have ol : (tsL (.is l r)).length = (exL l).length + (exL r).length + (cs "==").length + 4 := by
      show (40 :: (exL l ++ 32 :: (cs "==" ++ 32 :: (exL r ++ [41])))).length = _
      simp only [List.length_cons, List.length_append, List.length_nil]
      omega
    have zl : Sz (exL l) := hz.sub (by omega)
    have zr : Sz (exL r) := hz.sub (by omega)
    have hz' : (exL l).length + (exL r).length + (cs "==").length + 4 ≤ 1000000 := by rw [← ol]; exact hz
    have ll : l.text.length = (exL l).length := by rw [len_l]; rfl
    have lr : r.text.length = (exL r).length := by rw [len_l]; rfl
    have lg : ("==" : Str).length ≤ 3 := by decide
    have g := DGet.k (k := Sum.inr "is") hp1
    rw [show valV (mergeK [] sgT) (Sum.inr "is") = some (.str "==") by decide] at g
    refine ⟨_, rfl, _, _, _, _, rfl, rfl, SqT.of (s1 _ _ h), atI_nat (j := 0) rfl, rfl, _, rfl, itF (ne_str (by decide)) ?_⟩
    refine ⟨_, rfl, _, rfl, _, _, _, _, rfl, rfl, SqT.of (s1 _ _ h), atI_nat (j := 0) rfl, p, _, rfl, g, _, _, rfl, rfl, by omega, _, _, rfl, rfl, by rw [len_app]; omega, ?_⟩
    refine ⟨_, rfl, _, _, _, _, rfl, rfl, SqT.of (s1 _ _ h), atI_nat (j := 0) rfl, two, fun p2 hp2 => ⟨p2, _, rfl, .inr (SqT.of upd_same), rfl, rfl, _, rfl, itF rfl ?_⟩⟩
    have s2 := s1.trans (same_new hp2 (.tup [.str "both", .str "either"]))
    refine ⟨_, rfl, _, _, _, _, rfl, rfl, SqT.of (s2 _ _ h), atI_nat (j := 1) rfl, x, l, rfl, h1.keep (Same.tups s2), hlo.1, hf.1, zl, fun H3 s3 => ⟨_, _, rfl, rfl, by omega, ?_⟩⟩
    have s3 := s2.trans s3
    refine ⟨_, rfl, _, _, rfl, rfl, by rw [len_app, len_app, len_app]; omega, ?_⟩
    refine ⟨_, rfl, _, _, _, _, rfl, rfl, SqT.of (s3 _ _ h), atI_nat (j := 2) rfl, y, r, rfl, h2.keep (Same.tups s3), hlo.2, hf.2, zr, fun H4 s4 => ⟨_, _, rfl, rfl, by rw [len_app, len_app, len_app, len_app]; omega, ?_⟩⟩
    refine ⟨_, _, rfl, rfl, by rw [len_app, len_app, len_app, len_app, len_app]; omega, ?_⟩
    have z := q H4 (s3.trans s4)
    rw [← bin_text2 (l := l.text) (r := r.text) (sg := ("==" : Str)) (t := (Ts.is l r).text) (S := cs "==") rfl rfl rfl rfl] at z
    exact z
  | bel h h1 h2 =>
    rename_i p0 x y l r
    have ol : (tsL (.bel l r)).length = (exL l).length + (exL r).length + (cs "<").length + 4 := by
      show (40 :: (exL l ++ 32 :: (cs "<" ++ 32 :: (exL r ++ [41])))).length = _
      simp only [List.length_cons, List.length_append, List.length_nil]
      omega
    have zl : Sz (exL l) := hz.sub (by omega)
    have zr : Sz (exL r) := hz.sub (by omega)
    have hz' : (exL l).length + (exL r).length + (cs "<").length + 4 ≤ 1000000 := by rw [← ol]; exact hz
    have ll : l.text.length = (exL l).length := by rw [len_l]; rfl
    have lr : r.text.length = (exL r).length := by rw [len_l]; rfl
    have lg : ("<" : Str).length ≤ 3 := by decide
    have g := DGet.k (k := Sum.inr "below") hp1
    rw [show valV (mergeK [] sgT) (Sum.inr "below") = some (.str "<") by decide] at g
    refine ⟨_, rfl, _, _, _, _, rfl, rfl, SqT.of (s1 _ _ h), atI_nat (j := 0) rfl, rfl, _, rfl, itF (ne_str (by decide)) ?_⟩
    refine ⟨_, rfl, _, rfl, _, _, _, _, rfl, rfl, SqT.of (s1 _ _ h), atI_nat (j := 0) rfl, p, _, rfl, g, _, _, rfl, rfl, by omega, _, _, rfl, rfl, by rw [len_app]; omega, ?_⟩
    refine ⟨_, rfl, _, _, _, _, rfl, rfl, SqT.of (s1 _ _ h), atI_nat (j := 0) rfl, two, fun p2 hp2 => ⟨p2, _, rfl, .inr (SqT.of upd_same), rfl, rfl, _, rfl, itF rfl ?_⟩⟩
    have s2 := s1.trans (same_new hp2 (.tup [.str "both", .str "either"]))
    refine ⟨_, rfl, _, _, _, _, rfl, rfl, SqT.of (s2 _ _ h), atI_nat (j := 1) rfl, x, l, rfl, h1.keep (Same.tups s2), hlo.1, hf.1, zl, fun H3 s3 => ⟨_, _, rfl, rfl, by omega, ?_⟩⟩
    have s3 := s2.trans s3
    refine ⟨_, rfl, _, _, rfl, rfl, by rw [len_app, len_app, len_app]; omega, ?_⟩
    refine ⟨_, rfl, _, _, _, _, rfl, rfl, SqT.of (s3 _ _ h), atI_nat (j := 2) rfl, y, r, rfl, h2.keep (Same.tups s3), hlo.2, hf.2, zr, fun H4 s4 => ⟨_, _, rfl, rfl, by rw [len_app, len_app, len_app, len_app]; omega, ?_⟩⟩
    refine ⟨_, _, rfl, rfl, by rw [len_app, len_app, len_app, len_app, len_app]; omega, ?_⟩
    have z := q H4 (s3.trans s4)
    rw [← bin_text2 (l := l.text) (r := r.text) (sg := ("<" : Str)) (t := (Ts.bel l r).text) (S := cs "<") rfl rfl rfl rfl] at z
    exact z
  | both h h1 h2 =>
    rename_i p0 x y l r
    have dl : l.deep ≤ n := Nat.le_trans (Nat.le_max_left ..) (Nat.le_of_succ_le_succ hd)
    have dr : r.deep ≤ n := Nat.le_trans (Nat.le_max_right ..) (Nat.le_of_succ_le_succ hd)
    have ol : (tsL (.both l r)).length = (tsL l).length + (tsL r).length + (cs "and").length + 4 := by
      show (40 :: (tsL l ++ 32 :: (cs "and" ++ 32 :: (tsL r ++ [41])))).length = _
      simp only [List.length_cons, List.length_append, List.length_nil]
      omega
    have zl : Sz (tsL l) := hz.sub (by omega)
    have zr : Sz (tsL r) := hz.sub (by omega)
    have hz' : (tsL l).length + (tsL r).length + (cs "and").length + 4 ≤ 1000000 := by rw [← ol]; exact hz
    have ll : l.text.length = (tsL l).length := by rw [len_l]; rfl
    have lr : r.text.length = (tsL r).length := by rw [len_l]; rfl
    have lg : ("and" : Str).length ≤ 3 := by decide
    have g := DGet.k (k := Sum.inr "both") hp1
    rw [show valV (mergeK [] sgT) (Sum.inr "both") = some (.str "and") by decide] at g
    refine ⟨_, rfl, _, _, _, _, rfl, rfl, SqT.of (s1 _ _ h), atI_nat (j := 0) rfl, rfl, _, rfl, itF (ne_str (by decide)) ?_⟩
    refine ⟨_, rfl, _, rfl, _, _, _, _, rfl, rfl, SqT.of (s1 _ _ h), atI_nat (j := 0) rfl, p, _, rfl, g, _, _, rfl, rfl, by omega, _, _, rfl, rfl, by rw [len_app]; omega, ?_⟩
    refine ⟨_, rfl, _, _, _, _, rfl, rfl, SqT.of (s1 _ _ h), atI_nat (j := 0) rfl, two, fun p2 hp2 => ⟨p2, _, rfl, .inr (SqT.of upd_same), rfl, rfl, _, rfl, itT rfl ?_⟩⟩
    have s2 := s1.trans (same_new hp2 (.tup [.str "both", .str "either"]))
    refine ⟨_, rfl, _, _, _, _, rfl, rfl, SqT.of (s2 _ _ h), atI_nat (j := 1) rfl, x, l, rfl, h1.keep (Same.tups s2), dl, hf.1, zl, hlo.1, fun H3 s3 => ⟨_, _, rfl, rfl, by omega, ?_⟩⟩
    have s3 := s2.trans s3
    refine ⟨_, rfl, _, _, rfl, rfl, by rw [len_app, len_app, len_app]; omega, ?_⟩
    refine ⟨_, rfl, _, _, _, _, rfl, rfl, SqT.of (s3 _ _ h), atI_nat (j := 2) rfl, y, r, rfl, h2.keep (Same.tups s3), dr, hf.2, zr, hlo.2, fun H4 s4 => ⟨_, _, rfl, rfl, by rw [len_app, len_app, len_app, len_app]; omega, ?_⟩⟩
    refine ⟨_, _, rfl, rfl, by rw [len_app, len_app, len_app, len_app, len_app]; omega, ?_⟩
    have z := q H4 (s3.trans s4)
    rw [← bin_text2 (l := l.text) (r := r.text) (sg := ("and" : Str)) (t := (Ts.both l r).text) (S := cs "and") rfl rfl rfl rfl] at z
    exact z
  | either h h1 h2 =>
    rename_i p0 x y l r
    have dl : l.deep ≤ n := Nat.le_trans (Nat.le_max_left ..) (Nat.le_of_succ_le_succ hd)
    have dr : r.deep ≤ n := Nat.le_trans (Nat.le_max_right ..) (Nat.le_of_succ_le_succ hd)
    have ol : (tsL (.either l r)).length = (tsL l).length + (tsL r).length + (cs "or").length + 4 := by
      show (40 :: (tsL l ++ 32 :: (cs "or" ++ 32 :: (tsL r ++ [41])))).length = _
      simp only [List.length_cons, List.length_append, List.length_nil]
      omega
    have zl : Sz (tsL l) := hz.sub (by omega)
    have zr : Sz (tsL r) := hz.sub (by omega)
    have hz' : (tsL l).length + (tsL r).length + (cs "or").length + 4 ≤ 1000000 := by rw [← ol]; exact hz
    have ll : l.text.length = (tsL l).length := by rw [len_l]; rfl
    have lr : r.text.length = (tsL r).length := by rw [len_l]; rfl
    have lg : ("or" : Str).length ≤ 3 := by decide
    have g := DGet.k (k := Sum.inr "either") hp1
    rw [show valV (mergeK [] sgT) (Sum.inr "either") = some (.str "or") by decide] at g
    refine ⟨_, rfl, _, _, _, _, rfl, rfl, SqT.of (s1 _ _ h), atI_nat (j := 0) rfl, rfl, _, rfl, itF (ne_str (by decide)) ?_⟩
    refine ⟨_, rfl, _, rfl, _, _, _, _, rfl, rfl, SqT.of (s1 _ _ h), atI_nat (j := 0) rfl, p, _, rfl, g, _, _, rfl, rfl, by omega, _, _, rfl, rfl, by rw [len_app]; omega, ?_⟩
    refine ⟨_, rfl, _, _, _, _, rfl, rfl, SqT.of (s1 _ _ h), atI_nat (j := 0) rfl, two, fun p2 hp2 => ⟨p2, _, rfl, .inr (SqT.of upd_same), rfl, rfl, _, rfl, itT rfl ?_⟩⟩
    have s2 := s1.trans (same_new hp2 (.tup [.str "both", .str "either"]))
    refine ⟨_, rfl, _, _, _, _, rfl, rfl, SqT.of (s2 _ _ h), atI_nat (j := 1) rfl, x, l, rfl, h1.keep (Same.tups s2), dl, hf.1, zl, hlo.1, fun H3 s3 => ⟨_, _, rfl, rfl, by omega, ?_⟩⟩
    have s3 := s2.trans s3
    refine ⟨_, rfl, _, _, rfl, rfl, by rw [len_app, len_app, len_app]; omega, ?_⟩
    refine ⟨_, rfl, _, _, _, _, rfl, rfl, SqT.of (s3 _ _ h), atI_nat (j := 2) rfl, y, r, rfl, h2.keep (Same.tups s3), dr, hf.2, zr, hlo.2, fun H4 s4 => ⟨_, _, rfl, rfl, by rw [len_app, len_app, len_app, len_app]; omega, ?_⟩⟩
    refine ⟨_, _, rfl, rfl, by rw [len_app, len_app, len_app, len_app, len_app]; omega, ?_⟩
    have z := q H4 (s3.trans s4)
    rw [← bin_text2 (l := l.text) (r := r.text) (sg := ("or" : Str)) (t := (Ts.either l r).text) (S := cs "or") rfl rfl rfl rfl] at z
    exact z
theorem all_ts (F : Fun K "_law_test_shown" "_law_test_shown" sTs f fd) (bG : Binds K fd ["_law_test"] []) (mG : mg "_law_test_shown" = some (.ref f))
    (GX : FnOk P w K mg base CX0 6 xt xtd ["_law_term"] (spXt 6)) (bX : Binds K xtd ["_law_term"] []) (kX : PySem.W.keepIn K (.ref xt) = true) (mX : mg "_law_term_shown" = some (.ref xt)) : ∀ n : Nat, FnOk P w K mg base CX0 (n + 6) f fd ["_law_test"] (spTt n)
  | 0 => no_tt
  | n + 1 => ok_ts F (all_ts F bG mG GX bX kX mX n) bG mG GX bX kX mX
end
end Any
namespace Any
open L2 PySem PySem.Spec PyProof.Rows LamX NdefX
abbrev sBag : Stmt := top 17
abbrev sTake : Stmt := top 18
abbrev sOf : Stmt := top 19
/-- a bag: what is left, its seed, how often it was asked -/
def Bag (H : Hp) (b : Addr) (n : Nat) : Prop := ∃ g s c : Int, H b = some (.lst [.int g, .int s, .int c]) ∧ 0 ≤ g ∧ 0 ≤ s ∧ s < 2 ^ 62 ∧ 0 ≤ c ∧ c ≤ n
theorem Bag.more {H : Hp} {b : Addr} {m n : Nat} (h : Bag H b m) (k : m ≤ n) : Bag H b n := by
  obtain ⟨g, s, c, h1, h2, h3, h4, h5, h6⟩ := h
  exact ⟨g, s, c, h1, h2, h3, h4, h5, by omega⟩
theorem Bag.keep {H H' : Hp} {b : Addr} {n : Nat} (h : Bag H b n) (k : Same H H') : Bag H' b n := by
  obtain ⟨g, s, c, h1, h2⟩ := h
  exact ⟨g, s, c, k _ _ h1, h2⟩
theorem Bag.lst {H : Hp} {b : Addr} {n : Nat} (h : Bag H b n) : ∃ xs, H b = some (.lst xs) := by
  obtain ⟨g, s, c, h1, h2⟩ := h
  exact ⟨_, h1⟩
theorem Bag.tups {H H' : Hp} {b : Addr} {n : Nat} (h : Bag H b n) (k : Kept b H H') : Tups H H' := by
  obtain ⟨xs, h⟩ := h.lst
  exact k.tups h
theorem Bag.ne {H : Hp} {b p : Addr} {n : Nat} (h : Bag H b n) (k : H p = none) : p ≠ b := by
  obtain ⟨xs, h⟩ := h.lst
  intro e
  rw [e, h] at k
  cases k
def spBag (K : PySem.W.Frag) : Sp := fun vs H Q _ => ∃ (a : Addr) (ns : List Int) (k : Int), vs = [.ref a, .int k] ∧ SqL K H a (ns.map V.int) ∧ 0 ≤ k ∧ k < 64 ∧ ∀ (b : Addr) (H' : Hp), H b = none → Same H H' → Bag H' b 0 → Q (.ref b) H'
def spTake : Sp := fun vs H Q _ => ∃ (b : Addr) (m : Int) (n : Nat), vs = [.ref b, .int m] ∧ Bag H b n ∧ n + 1 < 2 ^ 40 ∧ 1 ≤ m ∧ m ≤ 1000 ∧
  ∀ (d : Int) (H' : Hp), Kept b H H' → Bag H' b (n + 1) → 0 ≤ d → d < m → Q (.int d) H'
def spOf : Sp := fun vs H Q _ => ∃ (b l : Addr) (xs : List V) (n : Nat), vs = [.ref b, .ref l] ∧ Bag H b n ∧ n + 1 < 2 ^ 40 ∧ H l = some (.lst xs) ∧ l ≠ b ∧ 1 ≤ xs.length ∧ xs.length ≤ 1000 ∧
  ∀ (v : V) (H' : Hp), Kept b H H' → Bag H' b (n + 1) → v ∈ xs → Q v H'
def spOfS : Sp := fun vs H Q _ => ∃ (b : Addr) (x : Str) (n : Nat), vs = [.ref b, .str x] ∧ Bag H b n ∧ n + 1 < 2 ^ 40 ∧ 1 ≤ x.length ∧ x.length ≤ 1000 ∧
  ∀ (c : Nat) (H' : Hp), Kept b H H' → Bag H' b (n + 1) → c ∈ x.cps.toList → Q (.str ⟨#[c]⟩) H'
def spOf2 : Sp := fun vs H Q E => spOf vs H Q E ∨ spOfS vs H Q E
theorem scBag : FnScope ["_law_script", "_law_at", "_law_cell", "_law_far"] ["_law_script", "_law_at"] (defScope sBag) := ⟨rfl, rfl, rfl, by decide +kernel, rfl, by decide +kernel, by decide +kernel⟩
theorem scTake : FnScope ["_law_bag_here", "_law_often", "_law_digit", "_law_primes", "_law_turn", "_law_basis", "_law_found"] ["_law_bag_here", "_law_often"] (defScope sTake) :=
  ⟨rfl, rfl, rfl, by decide +kernel, rfl, by decide +kernel, by decide +kernel⟩
theorem scOf : FnScope ["_law_bag_here", "_law_some"] ["_law_bag_here", "_law_some"] (defScope sOf) := ⟨rfl, rfl, rfl, by decide +kernel, rfl, by decide +kernel, by decide +kernel⟩
theorem small {n : Nat} (h : n ≤ 1000) : n ≤ sizeLine := Nat.le_of_lt (small1000 h)
section
variable {P : Program} {w : World} {K : PySem.W.Frag} {mg : Str → Option Value} {base : Heap} {f : Addr} {fd : FuncData}
theorem ok_bag (F : Fun K "_law_bag" "_law_bag" sBag f fd) (ml : mg "len" = none) (ma : mg "abs" = none) (mi : mg "int" = none) : FnOk P w K mg base CX0 1 f fd ["_law_script", "_law_at"] (spBag K) := by
  refine F.ok scBag (fun vs H Q E h => ?_) (fun cdv A outer s H vs Q E hr h => ?_)
  · obtain ⟨a, ns, k, rfl, _⟩ := h
    rfl
  obtain ⟨a, ns, k, rfl, hS, h0, h1, q⟩ := h
  refine ⟨_, pss_cons (ps_set (i := 2) scBag.nd rfl (Or.inl rfl) (pe_op op_add (pe_op op_mul pe_int (pv 1)) pe_int))
    (pss_cons (ps_if (pt_cmpR op_lt (pv 1) (pe_callB call_len_seq rfl ml PySem.boot_len (pa_cons (pv 0) pa_nil)) (nomark _)) (pss_one (ps_set (i := 2) scBag.nd rfl (Or.inl rfl) (pe_ix ix_list (pv 0) (pv 1) (fun _ _ => rfl)))) pss_nil)
    (pss_cons (ps_set (i := 3) scBag.nd rfl (Or.inl rfl) (pe_callB call_abs rfl ma (by decide +kernel) (pa_cons (pv 2) pa_nil)))
    (pss_one (ps_ret (pe_lst (pa_cons (pe_op op_mul (pv 3) (pe_callTy call_int1 rfl mi (by decide +kernel) (pa_cons (pe_cmpR op_ge (pv 3) (pe_op op_pow pe_int pe_int) (nomark _)) pa_nil)))
      (pa_cons (pe_op op_add (pe_op op_add (pe_op op_mod (pv 2) pe_int) (pe_op op_mul (pe_op op_mul pe_int (pv 1)) (pv 1))) (pe_op op_mul pe_int (pv 1))) (pa_cons pe_int pa_nil)))))))), ?_⟩
  have fin : ∀ cell : Int, ∀ (b : Addr), H b = none → Q (.ref b) (upd H b (.lst [.int ((if cell < 0 then -cell else cell) * (if decide ((10 : Int) ^ (18 : Int).toNat ≤ (if cell < 0 then -cell else cell)) = true then 1 else 0)), .int (cell % 1000000000000000003 + 7727 * k * k + 31 * k), .int 0])) := fun cell b hb => by
    refine q b _ hb (same_new hb _) ⟨_, _, _, upd_same, ?_, ?_, ?_, Int.le_refl 0, Int.le_refl 0⟩
    · refine Int.mul_nonneg (by split <;> omega) (by split <;> omega)
    · have z := Int.emod_nonneg cell (show (1000000000000000003 : Int) ≠ 0 by decide)
      have z2 : 0 ≤ 7727 * k * k := Int.mul_nonneg (Int.mul_nonneg (by decide) h0) h0
      omega
    · have z := Int.emod_lt_of_pos cell (show (0 : Int) < 1000000000000000003 by decide)
      have z2 : 7727 * k * k ≤ 7727 * 64 * 64 := by
        have a1 : 7727 * k ≤ 7727 * 64 := by omega
        have a2 : 7727 * k * k ≤ 7727 * 64 * k := Int.mul_le_mul_of_nonneg_right a1 h0
        have a3 : 7727 * 64 * k ≤ 7727 * 64 * 64 := by omega
        omega
      omega
  have one : ∀ c : Bool, -(2 ^ 64) < (if c = true then (1 : Int) else 0) ∧ (if c = true then (1 : Int) else 0) < 2 ^ 64 := fun c => by cases c <;> decide
  refine ⟨_, rfl, _, _, rfl, rfl, .inl ⟨by decide, by decide⟩, _, _, rfl, rfl, ?_⟩
  refine ⟨_, rfl, _, rfl, a, _, rfl, .inl hS, _, _, rfl, rfl, _, rfl, ?_⟩
  refine ite2 (fun c => ?_) (fun c => ?_)
  · have c' : k < (((ns.map V.int).length : Nat) : Int) := of_decide_eq_true c
    rw [List.length_map] at c'
    have hk : k.toNat < ns.length := by omega
    have ek : k = ((k.toNat : Nat) : Int) := by omega
    have q2 : atI (ns.map V.int) ((k.toNat : Nat) : Int) = some (.int ns[k.toNat]) := atI_nat (by rw [List.getElem?_map, List.getElem?_eq_getElem hk]; rfl)
    rw [← ek] at q2
    refine ⟨_, rfl, _, rfl, a, _, _, _, rfl, rfl, hS, q2, ?_⟩
    refine ⟨_, rfl, _, rfl, ?_⟩
    refine ⟨_, rfl, _, rfl, _, _, rfl, rfl, ⟨by decide, by decide, by decide⟩, _, _, rfl, rfl, .inr ⟨_, rfl, _, _, rfl, rfl, .inr (one _), ?_⟩⟩
    refine ⟨_, rfl, _, _, rfl, rfl, (by show (0 : Int) < 1000000000000000003; decide), _, rfl, _, _, rfl, rfl, .inl ⟨by decide, by decide⟩, _, rfl, _, _, rfl, rfl, .inl ⟨by omega, by omega⟩, _, _, rfl, rfl, ?_⟩
    refine ⟨_, rfl, _, _, rfl, rfl, .inl ⟨by decide, by decide⟩, _, _, rfl, rfl, (by show 3 ≤ sizeLine; decide), fun p hp => fin _ p hp⟩
  · refine ⟨_, rfl, _, rfl, ?_⟩
    refine ⟨_, rfl, _, rfl, _, _, rfl, rfl, ⟨by decide, by decide, by decide⟩, _, _, rfl, rfl, .inr ⟨_, rfl, _, _, rfl, rfl, .inr (one _), ?_⟩⟩
    refine ⟨_, rfl, _, _, rfl, rfl, (by show (0 : Int) < 1000000000000000003; decide), _, rfl, _, _, rfl, rfl, .inl ⟨by decide, by decide⟩, _, rfl, _, _, rfl, rfl, .inl ⟨by omega, by omega⟩, _, _, rfl, rfl, ?_⟩
    refine ⟨_, rfl, _, _, rfl, rfl, .inl ⟨by decide, by decide⟩, _, _, rfl, rfl, (by show 3 ≤ sizeLine; decide), fun p hp => fin _ p hp⟩
def primes : List Int := [2147483647, 2147483629, 2147483587, 2147483579, 2147483563, 2147483549, 2147483543]
theorem prime_at {r : Int} (h0 : 0 ≤ r) (h1 : r < 7) : ∃ p : Int, atI (primes.map V.int) r = some (.int p) ∧ 0 < p ∧ p < 2 ^ 31 := by
  have : r = 0 ∨ r = 1 ∨ r = 2 ∨ r = 3 ∨ r = 4 ∨ r = 5 ∨ r = 6 := by omega
  rcases this with rfl | rfl | rfl | rfl | rfl | rfl | rfl <;> exact ⟨_, rfl, by decide, by decide⟩
theorem base_bits {s c : Int} (h1 : 0 ≤ s) (h2 : s < 2 ^ 62) (h3 : 0 ≤ c) (h4 : c < 2 ^ 40) : CPowW (s * (3 * c + 2) + 7433 * c * c + 53) 3 := by
  refine ⟨by decide, ?_⟩
  have a1 : 0 ≤ s * (3 * c + 2) := Int.mul_nonneg h1 (by omega)
  have a2 : s * (3 * c + 2) ≤ 2 ^ 62 * 2 ^ 42 := Int.mul_le_mul (by omega) (by omega) (by omega) (by decide)
  have a3 : 0 ≤ 7433 * c * c := Int.mul_nonneg (by omega) h3
  have a4 : 7433 * c * c ≤ 2 ^ 53 * 2 ^ 40 := Int.mul_le_mul (by omega) (by omega) h3 (by decide)
  have b : (s * (3 * c + 2) + 7433 * c * c + 53).natAbs < 2 ^ 110 := by
    generalize s * (3 * c + 2) = x at *
    generalize 7433 * c * c = y at *
    omega
  have c1 := intBits_le b
  omega
theorem ok_take (F : Fun K "_law_take" "_law_take" sTake f fd) : FnOk P w K mg base CX0 1 f fd ["_law_bag_here", "_law_often"] spTake := by
  refine F.ok scTake (fun vs H Q E h => ?_) (fun cdv A outer s H vs Q E hr h => ?_)
  · obtain ⟨b, m, n, rfl, _⟩ := h
    rfl
  obtain ⟨b, m, n, rfl, ⟨g, sd, c, hb, hg, hs0, hs1, hc0, hc1⟩, hn, hm0, hm1, q⟩ := h
  refine ⟨_, pss_cons (ps_if (pt_cmpR op_gt (pe_ix ix_list (pv 0) pe_int (fun _ _ => rfl)) pe_int (nomark _))
      (pss_cons (ps_set (i := 2) scTake.nd rfl (Or.inl rfl) (pe_op op_mod (pe_ix ix_list (pv 0) pe_int (fun _ _ => rfl)) (pv 1)))
      (pss_cons (ps_asg (pe_op op_fdiv (pe_ix ix_list (pv 0) pe_int (fun _ _ => rfl)) (pv 1)) (pg_sub (pv 0) pe_int set_list))
      (pss_one (ps_ret (pv 2))))) pss_nil)
    (pss_cons (ps_set (i := 3) scTake.nd rfl (Or.inl rfl) (pe_tup (pa_cons pe_int (pa_cons pe_int (pa_cons pe_int (pa_cons pe_int (pa_cons pe_int (pa_cons pe_int (pa_cons pe_int pa_nil)))))))))
    (pss_cons (ps_asg (pe_op op_add (pe_ix ix_list (pv 0) pe_int (fun _ _ => rfl)) pe_int) (pg_sub (pv 0) pe_int set_list))
    (pss_cons (ps_set (i := 4) scTake.nd rfl (Or.inl rfl) (pe_ix ix_list (pv 0) pe_int (fun _ _ => rfl)))
    (pss_cons (ps_set (i := 5) scTake.nd rfl (Or.inl rfl) (pe_op op_add (pe_op op_add (pe_op op_mul (pe_ix ix_list (pv 0) pe_int (fun _ _ => rfl)) (pe_op op_add (pe_op op_mul pe_int (pv 4)) pe_int)) (pe_op op_mul (pe_op op_mul pe_int (pv 4)) (pv 4))) pe_int))
    (pss_cons (ps_set (i := 6) scTake.nd rfl (Or.inl rfl) (pe_op op_mod (pe_op op_powW (pv 5) pe_int) (pe_ix ix_tup (pv 3) (pe_op op_mod (pv 4) pe_int) (fun _ _ => rfl))))
    (pss_one (ps_ret (pe_op op_mod (pe_op op_fdiv (pe_op op_mod (pe_op op_mul (pv 6) (pe_op op_add (pe_op op_fdiv (pv 6) pe_int) pe_int)) (pe_ix ix_tup (pv 3) (pe_op op_mod (pe_op op_add (pv 4) pe_int) pe_int) (fun _ _ => rfl))) pe_int) (pv 1))))))))), ?_⟩
  refine ⟨_, rfl, b, _, _, _, rfl, rfl, SqL.of hb, atI_nat (j := 0) rfl, _, _, rfl, rfl, _, rfl, ?_⟩
  refine ite2 (fun c' => ?_) (fun c' => ?_)
  · refine ⟨_, rfl, b, _, _, _, rfl, rfl, SqL.of hb, atI_nat (j := 0) rfl, _, rfl, _, _, rfl, rfl, (by omega), ?_⟩
    refine ⟨_, rfl, b, _, _, _, rfl, rfl, SqL.of hb, atI_nat (j := 0) rfl, _, rfl, _, _, rfl, rfl, ⟨by omega, by omega⟩, ?_⟩
    refine ⟨_, rfl, b, _, _, 0, rfl, rfl, hb, rfl, ?_⟩
    refine ⟨_, rfl, q _ _ (Kept.put _) ⟨_, _, _, upd_same, ?_, hs0, hs1, hc0, by omega⟩ (Int.emod_nonneg _ (by omega)) (Int.emod_lt_of_pos _ (by omega))⟩
    exact Int.ediv_nonneg hg (by omega)
  · refine ⟨(by show 7 ≤ sizeLine; decide), fun p hp => ?_⟩
    have bp : b ≠ p := ne_of_none hb hp
    have hb1 : upd H p (.tup (primes.map V.int)) b = some (.lst [.int g, .int sd, .int c]) := by rw [upd_ne bp]; exact hb
    refine ⟨_, rfl, b, _, _, _, rfl, rfl, SqL.of hb1, atI_nat (j := 2) rfl, _, _, rfl, rfl, ?_⟩
    refine ⟨_, rfl, b, _, _, 2, rfl, rfl, hb1, rfl, ?_⟩
    have hb2 : upd (upd H p (.tup (primes.map V.int))) b (.lst [.int g, .int sd, .int (c + 1)]) b = some (.lst [.int g, .int sd, .int (c + 1)]) := upd_same
    have hp2 : upd (upd H p (.tup (primes.map V.int))) b (.lst [.int g, .int sd, .int (c + 1)]) p = some (.tup (primes.map V.int)) := by rw [upd_ne bp.symm]; exact upd_same
    have kept : Kept b H (upd (upd H p (.tup (primes.map V.int))) b (.lst [.int g, .int sd, .int (c + 1)])) := (Kept.new hp _).trans (Kept.put _)
    have bag : Bag (upd (upd H p (.tup (primes.map V.int))) b (.lst [.int g, .int sd, .int (c + 1)])) b (n + 1) := ⟨_, _, _, hb2, hg, hs0, hs1, by omega, by omega⟩
    have c0 : 0 ≤ c + 1 := by omega
    have c1 : c + 1 < 2 ^ 40 := by omega
    refine ⟨_, rfl, b, _, _, _, rfl, rfl, SqL.of hb2, atI_nat (j := 2) rfl, ?_⟩
    refine ⟨_, rfl, b, _, _, _, rfl, rfl, SqL.of hb2, atI_nat (j := 1) rfl, _, rfl, _, _, rfl, rfl, .inl ⟨by decide, by decide⟩, _, _, rfl, rfl, _, _, rfl, rfl, .inl ⟨by omega, by omega⟩, ?_⟩
    refine ⟨_, rfl, _, _, rfl, rfl, .inl ⟨by decide, by decide⟩, _, rfl, _, _, rfl, rfl, .inl ⟨by omega, by omega⟩, _, _, rfl, rfl, _, _, rfl, rfl, ?_⟩
    obtain ⟨p1, e1, p10, p11⟩ := prime_at (r := (c + 1) % 7) (by omega) (by omega)
    refine ⟨_, rfl, _, _, rfl, rfl, base_bits hs0 hs1 c0 c1, _, rfl, _, rfl, _, _, rfl, rfl, (by show (0 : Int) < 7; decide), p, _, _, _, rfl, rfl, SqT.of hp2, e1, _, _, rfl, rfl, p10, ?_⟩
    have m0 := Int.emod_nonneg ((sd * (3 * (c + 1) + 2) + 7433 * (c + 1) * (c + 1) + 53) ^ Int.toNat 3) (show p1 ≠ 0 by omega)
    have m1 := Int.emod_lt_of_pos ((sd * (3 * (c + 1) + 2) + 7433 * (c + 1) * (c + 1) + 53) ^ Int.toNat 3) p10
    have m2 : -(2 ^ 64) < (sd * (3 * (c + 1) + 2) + 7433 * (c + 1) * (c + 1) + 53) ^ Int.toNat 3 % p1 ∧ (sd * (3 * (c + 1) + 2) + 7433 * (c + 1) * (c + 1) + 53) ^ Int.toNat 3 % p1 < 2 ^ 64 := by
      generalize (sd * (3 * (c + 1) + 2) + 7433 * (c + 1) * (c + 1) + 53) ^ Int.toNat 3 % p1 = mx at *
      omega
    obtain ⟨p2, e2, p20, p21⟩ := prime_at (r := (c + 1 + 2) % 7) (by omega) (by omega)
    refine ⟨_, rfl, _, rfl, _, _, rfl, rfl, ⟨by decide, by decide⟩, _, _, rfl, rfl, _, _, rfl, rfl, .inl m2, ?_⟩
    refine ⟨_, rfl, _, rfl, _, _, rfl, rfl, _, _, rfl, rfl, (by show (0 : Int) < 7; decide), p, _, _, _, rfl, rfl, SqT.of hp2, e2, _, _, rfl, rfl, p20, _, _, rfl, rfl, ⟨by decide, by decide⟩, _, rfl, _, _, rfl, rfl, (by omega), ?_⟩
    exact q _ _ kept bag (Int.emod_nonneg _ (by omega)) (Int.emod_lt_of_pos _ (by omega))
theorem ok_of {t : Addr} {td : FuncData} (F : Fun K "_law_of" "_law_of" sOf f fd) (G : FnOk P w K mg base CX0 1 t td ["_law_bag_here", "_law_often"] spTake) (bG : Binds K td ["_law_bag_here", "_law_often"] []) (kG : PySem.W.keepIn K (.ref t) = true) (mG : mg "_law_take" = some (.ref t)) (ml : mg "len" = none) :
    FnOk P w K mg base CX0 2 f fd ["_law_bag_here", "_law_some"] spOf2 := by
  refine F.ok scOf (fun vs H Q E h => ?_) (fun cdv A outer s H vs Q E hr h => ?_)
  · rcases h with ⟨b, l, xs, n, rfl, _⟩ | ⟨b, x, n, rfl, _⟩ <;> rfl
  refine ⟨_, pss_one (ps_ret (pe_ix ix_seq (pv 1) (pe_call G hr rfl mG kG bG .nil pass0 (pa_cons (pv 0) (pa_cons (pe_callB call_len rfl ml PySem.boot_len (pa_cons (pv 1) pa_nil)) pa_nil))) (fun _ _ => rfl))), ?_⟩
  rcases h with ⟨b, l, xs, n, rfl, hB, hn, hl, hne, h1, h2, q⟩ | ⟨b, x, n, rfl, hB, hn, h1, h2, q⟩
  · refine ⟨_, rfl, _, rfl, _, rfl, _, xs.length, rfl, .inl ⟨_, SqL.of hl, rfl⟩, b, _, n, rfl, hB, hn, by omega, by omega, fun d H' k B' d0 d1 => ?_⟩
    have hd : d.toNat < xs.length := by omega
    have e : atI xs d = some xs[d.toNat] := by
      have z : atI xs ((d.toNat : Nat) : Int) = some xs[d.toNat] := atI_nat (List.getElem?_eq_getElem hd)
      rwa [show ((d.toNat : Nat) : Int) = d by omega] at z
    exact .inl ⟨l, _, _, _, rfl, rfl, SqL.of (k _ _ hne hl), e, q _ _ k B' (List.getElem_mem hd)⟩
  · have hz : x.length ≤ sizeLine := small h2
    refine ⟨_, rfl, _, rfl, _, rfl, _, x.length, rfl, ⟨hz, rfl⟩, b, _, n, rfl, hB, hn, by omega, by omega, fun d H' k B' d0 d1 => ?_⟩
    have lx : x.length = x.cps.toList.length := len_l x
    have hd : d.toNat < x.cps.toList.length := by omega
    have e : atI x.cps.toList d = some x.cps.toList[d.toNat] := by
      have z : atI x.cps.toList ((d.toNat : Nat) : Int) = some x.cps.toList[d.toNat] := atI_nat (List.getElem?_eq_getElem hd)
      rwa [show ((d.toNat : Nat) : Int) = d by omega] at z
    exact .inr (.inr ⟨_, _, _, rfl, rfl, hz, e, q _ _ k B' (List.getElem_mem hd)⟩)
end
end Any
namespace Any
open L2 PySem PySem.Spec PyProof.Rows LamX NdefX
section
variable {X : Cx}
theorem count_vals {y : V} : ∀ {ys : List V} {us : List Value}, Vals ys us → ys.all flatV = true → us.countP (eqU y) = ys.countP (fun z => eqV z y)
  | _, _, .nil, _ => rfl
  | _, _, .cons (a := a) r t, h => by
    rw [List.all_cons, Bool.and_eq_true] at h
    rw [List.countP_cons, List.countP_cons, count_vals t h.2, eqU_of r h.1]
/-- xs.count(y), all flat -/
def rCountF (K : PySem.W.Frag) : V → List V → Hp → VK → Prop := fun x xs H Q => ∃ (p : Addr) (ys : List V) (y : V), x = .ref p ∧ xs = [y] ∧ SqL K H p ys ∧ flatV y = true ∧ ys.all flatV = true ∧ Q (.int (ys.countP (fun z => eqV z y) : Nat)) H
theorem mt_countF : MtR X "list.count" (rCountF X.K) := by
  intro pins s σ H x xs v us Q I rx rxs h
  obtain ⟨p, ys, y, rfl, rfl, hs, fy, fys, q⟩ := h
  cases rx
  obtain ⟨u, rfl, ru⟩ := rxs.one
  obtain ⟨its, rv, ⟨⟨cl, dd, dt, sl⟩, n, ho, hc, hdn, hd⟩, hlen⟩ := I.list hs
  simp only at hc hd
  subst hc hd
  refine call_meets PySem.F.slot_list_count ⟨_, ho, rfl⟩ PySem.F.entry_list_count (PySem.F.args_list_count_2 _ _)
    (SeqAt.list_countAt p its.toArray n dd sl u (eqU y)) ⟨ho, fun u' hu' => mem_eqAt ru fy rv fys u' (by simpa using hu'), ?_⟩
  refine ⟨.int (ys.countP (fun z => eqV z y) : Nat), H, I.tok _, ⟨s.toks, ?_⟩, q⟩
  show Value.int ((its.countP (eqU y) : Nat) : Int) s.toks = _
  rw [count_vals rv fys]
end
abbrev sLw : Stmt := top 22
abbrev sLh : Stmt := top 23
abbrev psLW : List Str := ["_law_term", "_law_jars", "_law_wanted", "_law_said"]
theorem scLw : FnScope ["_law_term", "_law_jars", "_law_wanted", "_law_said", "_law_word", "_law_one", "_law_other"] psLW (defScope sLw) := ⟨rfl, rfl, rfl, by decide +kernel, rfl, by decide +kernel, by decide +kernel⟩
def spLw (n : Nat) : Sp := fun vs H Q _ => ∃ (v : V) (c : Addr) (e : Ex) (kvs : List (Str × Int)) (xs : List Str) (a t : Int), vs = [v, .ref c, .int a, .int t] ∧ ExAt H v e ∧ e.deep ≤ n ∧ e.deep ≤ 6 ∧ e.good xs ∧ Bx kvs xs ∧
  H c = some (.dK (bx kvs)) ∧ (0 ≤ a ∧ a < 1024) ∧ (0 ≤ t ∧ t < 1024) ∧ ∀ H', Same H H' → Q (.int (e.val kvs a t)) H'
section
variable {P : Program} {w : World} {K : PySem.W.Frag} {mg : Str → Option Value} {base : Heap} {f lw : Addr} {fd ld : FuncData}
theorem no_lw {k : Nat} : FnOk P w K mg base CX0 k f fd psLW (spLw 0) := by
  have no : ∀ vs H Q E, ¬ spLw 0 vs H Q E := fun vs H Q E h => by
    obtain ⟨v, c, e, kvs, xs, a, t, _, _, hd, _⟩ := h
    cases e <;> exact absurd hd (by show ¬ _ ≤ 0; exact Nat.not_succ_le_zero _)
  exact ⟨fun vs H Q E h => absurd h (no vs H Q E), fun A outer s H args us vs Q E _ _ _ _ h => absurd h (no vs H Q E)⟩
theorem nb_div {i j : Int} (hi : Nb i) (hj : Nb j) : Nb (i / j) := ⟨Int.ediv_nonneg hi.1 hj.1, Int.lt_of_le_of_lt (Int.ediv_le_self _ hi.1) hi.2⟩
theorem ok_lw {n : Nat} (F : Fun K "_law_worth" "_law_worth" sLw f fd) (G : FnOk P w K mg base CX0 n f fd psLW (spLw n)) (bG : Binds K fd psLW [])
    (mG : mg "_law_worth" = some (.ref f)) (mm : mg "min" = none) : FnOk P w K mg base CX0 (n + 1) f fd psLW (spLw (n + 1)) := by
  refine F.ok scLw (fun vs H Q E h => ?_) (fun cdv A outer s H vs Q E hr h => ?_)
  · obtain ⟨v, c, e, kvs, xs, a, t, rfl, _⟩ := h
    rfl
  obtain ⟨v, c, e, kvs, xs, a, t, rfl, hv, hd, hd6, hg, B, hc, ha, ht, q⟩ := h
  have hu := hu_of hr
  have kG := F.kp
  refine ⟨_, pss_cons (ps_set (i := 4) scLw.nd rfl (Or.inl rfl) (pe_ix ix_tup (pv 0) pe_int (fun _ _ => rfl)))
    (pss_cons (ps_if (pt_cmpR op_in_seq (pv 4) (pe_tup (pa_cons pe_str (pa_cons pe_str pa_nil))) (by rfl))
      (pss_one (ps_ret (pe_ifExp (pt_cmpR op_eq (pv 4) pe_str (nomark _)) (pe_ix ix_tup (pv 0) pe_int (fun _ _ => rfl)) (pe_dget hu (pv 1) (pe_ix ix_tup (pv 0) pe_int (fun _ _ => rfl)) (fun _ _ => rfl))))) pss_nil)
    (pss_cons (ps_if (pt_cmpR op_in_seq (pv 4) (pe_tup (pa_cons pe_str (pa_cons pe_str pa_nil))) (by rfl))
      (pss_one (ps_ret (pe_ifExp (pt_cmpR op_eq (pv 4) pe_str (nomark _)) (pv 2) (pv 3)))) pss_nil)
    (pss_cons (ps_par (i := 5) (j := 6) (by rfl) scLw.nd rfl rfl (by decide) rfl rfl (pa_cons (pe_call G hr rfl mG kG bG .nil pass0 (pa_cons (pe_ix ix_tup (pv 0) pe_int (fun _ _ => rfl)) (pa_cons (pv 1) (pa_cons (pv 2) (pa_cons (pv 3) pa_nil)))))
        (pa_cons (pe_call G hr rfl mG kG bG .nil pass0 (pa_cons (pe_ix ix_tup (pv 0) pe_int (fun _ _ => rfl)) (pa_cons (pv 1) (pa_cons (pv 2) (pa_cons (pv 3) pa_nil))))) pa_nil)) (by rfl))
    (pss_cons (ps_if (pt_cmpR op_eq (pv 4) pe_str (nomark _)) (pss_one (ps_ret (pe_op op_sub (pv 5) (pe_callB (call_min2 rfl) rfl mm (by decide +kernel) (pa_cons (pv 5) (pa_cons (pv 6) pa_nil)))))) pss_nil)
    (pss_cons (ps_if (pt_cmpR op_in_seq (pv 4) (pe_tup (pa_cons pe_str (pa_cons pe_str pa_nil))) (by rfl))
      (pss_one (ps_ret (pe_ifExp (pt_cmpR op_eq (pv 4) pe_str (nomark _)) (pe_op op_add (pv 5) (pv 6)) (pe_op op_mulW (pv 5) (pv 6))))) pss_nil)
    (pss_cons (ps_if (pt_cmpR op_eq (pv 6) pe_int (nomark _)) (pss_one (ps_ret pe_int)) pss_nil)
    (pss_one (ps_ret (pe_ifExp (pt_cmpR op_eq (pv 4) pe_str (nomark _)) (pe_op op_fdivW (pv 5) (pv 6)) (pe_op op_sub (pv 5) (pe_op op_mulW (pe_op op_fdivW (pv 5) (pv 6)) (pv 6)))))))))))), ?_⟩
  have two : 2 ≤ sizeLine := by decide
  cases hv with
  | num h =>
    refine ⟨_, rfl, _, _, _, _, rfl, rfl, SqT.of h, atI_nat (j := 0) rfl, ?_⟩
    refine ⟨_, rfl, two, fun p hp => ⟨p, _, rfl, .inr (SqT.of upd_same), rfl, rfl, _, rfl, itT rfl ?_⟩⟩
    have s1 := same_new hp (.tup [.str "number", .str "box"])
    refine ⟨_, rfl, rfl, _, rfl, itT eq_str ⟨_, rfl, _, _, _, _, rfl, rfl, SqT.of (s1 _ _ h), atI_nat (j := 1) rfl, q _ s1⟩⟩
  | box h =>
    rename_i bp bn
    obtain ⟨n, e1, _, _⟩ := B.all _ hg
    refine ⟨_, rfl, _, _, _, _, rfl, rfl, SqT.of h, atI_nat (j := 0) rfl, ?_⟩
    refine ⟨_, rfl, two, fun p hp => ⟨p, _, rfl, .inr (SqT.of upd_same), rfl, rfl, _, rfl, itT rfl ?_⟩⟩
    have s1 := same_new hp (.tup [.str "number", .str "box"])
    have g := DGet.k (k := Sum.inr bn) (s1 _ _ hc)
    rw [bx_val, e1] at g
    refine ⟨_, rfl, rfl, _, rfl, itF (ne_str (by decide)) ⟨_, rfl, _, rfl, _, _, _, _, rfl, rfl, SqT.of (s1 _ _ h), atI_nat (j := 1) rfl, c, .int n, rfl, g, ?_⟩⟩
    have q' : ∀ H', Same H H' → Q (.int ((look kvs bn).getD 0)) H' := q
    rw [e1] at q'
    exact q' _ s1
  | asked h =>
    refine ⟨_, rfl, _, _, _, _, rfl, rfl, SqT.of h, atI_nat (j := 0) rfl, ?_⟩
    refine ⟨_, rfl, two, fun p hp => ⟨p, _, rfl, .inr (SqT.of upd_same), rfl, rfl, _, rfl, itF rfl ?_⟩⟩
    have s1 := same_new hp (.tup [.str "number", .str "box"])
    refine ⟨_, rfl, two, fun p2 hp2 => ⟨p2, _, rfl, .inr (SqT.of upd_same), rfl, rfl, _, rfl, itT rfl ?_⟩⟩
    have s2 := s1.trans (same_new hp2 (.tup [.str "asked", .str "told"]))
    exact ⟨_, rfl, rfl, _, rfl, itT eq_str ⟨_, rfl, q _ s2⟩⟩
  | told h =>
    refine ⟨_, rfl, _, _, _, _, rfl, rfl, SqT.of h, atI_nat (j := 0) rfl, ?_⟩
    refine ⟨_, rfl, two, fun p hp => ⟨p, _, rfl, .inr (SqT.of upd_same), rfl, rfl, _, rfl, itF rfl ?_⟩⟩
    have s1 := same_new hp (.tup [.str "number", .str "box"])
    refine ⟨_, rfl, two, fun p2 hp2 => ⟨p2, _, rfl, .inr (SqT.of upd_same), rfl, rfl, _, rfl, itT rfl ?_⟩⟩
    have s2 := s1.trans (same_new hp2 (.tup [.str "asked", .str "told"]))
    exact ⟨_, rfl, rfl, _, rfl, itF (ne_str (by decide)) ⟨_, rfl, q _ s2⟩⟩
  | op h h1 h2 =>
    rename_i p0 d x y l r
    have dl : l.deep ≤ n := Nat.le_trans (Nat.le_max_left ..) (Nat.le_of_succ_le_succ hd)
    have dr : r.deep ≤ n := Nat.le_trans (Nat.le_max_right ..) (Nat.le_of_succ_le_succ hd)
    have dl6 : l.deep ≤ 6 := Nat.le_trans (Nat.le_max_left ..) (Nat.le_of_succ_le hd6)
    have dr6 : r.deep ≤ 6 := Nat.le_trans (Nat.le_max_right ..) (Nat.le_of_succ_le hd6)
    have i1 : inV (.str d.word) [.str "number", .str "box"] = false := by cases d <;> rfl
    have i2 : inV (.str d.word) [.str "asked", .str "told"] = false := by cases d <;> rfl
    refine ⟨_, rfl, _, _, _, _, rfl, rfl, SqT.of h, atI_nat (j := 0) rfl, ?_⟩
    refine ⟨_, rfl, two, fun p hp => ⟨p, _, rfl, .inr (SqT.of upd_same), rfl, rfl, _, rfl, itF i1 ?_⟩⟩
    have s1 := same_new hp (.tup [.str "number", .str "box"])
    refine ⟨_, rfl, two, fun p2 hp2 => ⟨p2, _, rfl, .inr (SqT.of upd_same), rfl, rfl, _, rfl, itF i2 ?_⟩⟩
    have s2 := s1.trans (same_new hp2 (.tup [.str "asked", .str "told"]))
    refine ⟨_, rfl, _, _, _, _, rfl, rfl, SqT.of (s2 _ _ h), atI_nat (j := 1) rfl, _, rfl, _, rfl, _, rfl, x, c, l, kvs, xs, a, t, rfl, h1.keep (Same.tups s2), dl, dl6, hg.1, B, s2 _ _ hc, ha, ht, fun H3 s3 => ?_⟩
    have s3 := s2.trans s3
    refine ⟨_, rfl, _, _, _, _, rfl, rfl, SqT.of (s3 _ _ h), atI_nat (j := 2) rfl, _, rfl, _, rfl, _, rfl, y, c, r, kvs, xs, a, t, rfl, h2.keep (Same.tups s3), dr, dr6, hg.2, B, s3 _ _ hc, ha, ht, fun H4 s4 => ?_⟩
    have s4 := s3.trans s4
    have n1 := Ex.nb B ha ht hg.1 dl6
    have n2 := Ex.nb B ha ht hg.2 dr6
    have q' : ∀ H', Same H H' → Q (.int (d.fn (l.val kvs a t) (r.val kvs a t))) H' := q
    generalize l.val kvs a t = i at *
    generalize r.val kvs a t = j at *
    refine ⟨_, _, rfl, ?_⟩
    cases d with
    | less =>
      refine ⟨_, rfl, rfl, _, rfl, itT eq_str ⟨_, rfl, _, rfl, _, rfl, _, _, rfl, _, _, rfl, rfl, ?_⟩⟩
      have z := q' _ s4
      have e : Dd.fn .less i j = i - (if j < i then j else i) := by
        show (if i < j then 0 else i - j) = _
        by_cases c : i < j
        · rw [if_pos c, if_neg (by omega)]; omega
        · rw [if_neg c]
          by_cases c2 : j < i
          · rw [if_pos c2]
          · rw [if_neg c2]; omega
      rw [e] at z
      exact z
    | plus =>
      refine ⟨_, rfl, rfl, _, rfl, itF (ne_str (by decide)) ?_⟩
      refine ⟨_, rfl, two, fun p5 hp5 => ⟨p5, _, rfl, .inr (SqT.of upd_same), rfl, rfl, _, rfl, itT rfl ?_⟩⟩
      exact ⟨_, rfl, rfl, _, rfl, itT eq_str ⟨_, rfl, _, rfl, _, _, rfl, rfl, q' _ (s4.trans (same_new hp5 _))⟩⟩
    | times =>
      refine ⟨_, rfl, rfl, _, rfl, itF (ne_str (by decide)) ?_⟩
      refine ⟨_, rfl, two, fun p5 hp5 => ⟨p5, _, rfl, .inr (SqT.of upd_same), rfl, rfl, _, rfl, itT rfl ?_⟩⟩
      exact ⟨_, rfl, rfl, _, rfl, itF (ne_str (by decide)) ⟨_, rfl, _, rfl, _, _, rfl, rfl, wideMul n1 n2, q' _ (s4.trans (same_new hp5 _))⟩⟩
    | over =>
      refine ⟨_, rfl, rfl, _, rfl, itF (ne_str (by decide)) ?_⟩
      refine ⟨_, rfl, two, fun p5 hp5 => ⟨p5, _, rfl, .inr (SqT.of upd_same), rfl, rfl, _, rfl, itF rfl ?_⟩⟩
      have s5 := s4.trans (same_new hp5 (.tup [.str "plus", .str "times"]))
      refine ⟨_, rfl, rfl, _, rfl, ?_⟩
      refine ite2 (fun cc => ?_) (fun cc => ?_)
      · have c' : V.int j = V.int 0 := of_decide_eq_true cc
        have z := q' _ s5
        rw [show Dd.fn .over i j = 0 from if_pos (V.int.inj c')] at z
        exact z
      · have c' : ¬ V.int j = V.int 0 := of_decide_eq_false (Bool.eq_false_iff.mpr cc)
        have nz : j ≠ 0 := fun z => c' (by rw [z])
        have z := q' _ s5
        rw [show Dd.fn .over i j = i / j from if_neg nz] at z
        exact ⟨_, rfl, rfl, _, rfl, itT eq_str ⟨_, rfl, _, rfl, _, _, rfl, rfl, wideDiv n2 nz, z⟩⟩
    | rest =>
      refine ⟨_, rfl, rfl, _, rfl, itF (ne_str (by decide)) ?_⟩
      refine ⟨_, rfl, two, fun p5 hp5 => ⟨p5, _, rfl, .inr (SqT.of upd_same), rfl, rfl, _, rfl, itF rfl ?_⟩⟩
      have s5 := s4.trans (same_new hp5 (.tup [.str "plus", .str "times"]))
      refine ⟨_, rfl, rfl, _, rfl, ?_⟩
      refine ite2 (fun cc => ?_) (fun cc => ?_)
      · have c' : V.int j = V.int 0 := of_decide_eq_true cc
        have z := q' _ s5
        rw [show Dd.fn .rest i j = 0 from if_pos (V.int.inj c')] at z
        exact z
      · have c' : ¬ V.int j = V.int 0 := of_decide_eq_false (Bool.eq_false_iff.mpr cc)
        have nz : j ≠ 0 := fun z => c' (by rw [z])
        have z := q' _ s5
        rw [show Dd.fn .rest i j = i % j from if_neg nz, Int.emod_def, Int.mul_comm] at z
        exact ⟨_, rfl, rfl, _, rfl, itF (ne_str (by decide)) ⟨_, rfl, _, rfl, _, rfl, _, _, rfl, rfl, wideDiv n2 nz, _, rfl, _, _, rfl, rfl, wideMul (nb_div n1 n2) n2, _, _, rfl, rfl, z⟩⟩
theorem all_lw (F : Fun K "_law_worth" "_law_worth" sLw f fd) (bG : Binds K fd psLW []) (mG : mg "_law_worth" = some (.ref f)) (mm : mg "min" = none) : ∀ n : Nat, FnOk P w K mg base CX0 n f fd psLW (spLw n)
  | 0 => no_lw
  | n + 1 => ok_lw F (all_lw F bG mG mm n) bG mG mm
end
end Any
namespace Any
open L2 PySem PySem.Spec PyProof.Rows LamX NdefX
abbrev nmLh : List Str := ["_law_test", "_law_jars", "_law_wanted", "_law_said", "_law_found", "_law_one", "_law_other", "_law_part"]
abbrev psT : List Str := ["_law_test", "_law_jars", "_law_wanted", "_law_said"]
theorem scLh : FnScope nmLh psT (defScope sLh) := ⟨rfl, rfl, rfl, by decide +kernel, rfl, by decide +kernel, by decide +kernel⟩
def spLh (n : Nat) : Sp := fun vs H Q _ => ∃ (v : V) (c : Addr) (e : Ts) (kvs : List (Str × Int)) (xs : List Str) (a t : Int), vs = [v, .ref c, .int a, .int t] ∧ TsAt H v e ∧ e.deep ≤ n ∧ e.good xs ∧ Bx kvs xs ∧
  H c = some (.dK (bx kvs)) ∧ (0 ≤ a ∧ a < 1024) ∧ (0 ≤ t ∧ t < 1024) ∧ ∀ H', Same H H' → Q (.bl (e.val kvs a t)) H'
section
variable {P : Program} {w : World} {K : PySem.W.Frag} {mg : Str → Option Value} {base : Heap} {f lw : Addr} {fd ld : FuncData}
theorem no_lh {ps : List Str} {k : Nat} : FnOk P w K mg base CX0 k f fd ps (spLh 0) := by
  have no : ∀ vs H Q E, ¬ spLh 0 vs H Q E := fun vs H Q E h => by
    obtain ⟨v, c, e, kvs, xs, a, t, _, _, hd, _⟩ := h
    cases e <;> exact absurd hd (by show ¬ _ ≤ 0; exact Nat.not_succ_le_zero _)
  exact ⟨fun vs H Q E h => absurd h (no vs H Q E), fun A outer s H args us vs Q E _ _ _ _ h => absurd h (no vs H Q E)⟩
end
section
variable {P : Program} {w : World} {K : PySem.W.Frag} {mg : Str → Option Value} {base : Heap} {f lw : Addr} {fd ld : FuncData}
theorem ok_lh {n : Nat} (F : Fun K "_law_holds" "_law_holds" sLh f fd) (G : FnOk P w K mg base CX0 (n + 6) f fd psT (spLh n)) (bG : Binds K fd psT []) (mG : mg "_law_holds" = some (.ref f))
    (GL : FnOk P w K mg base CX0 6 lw ld psLW (spLw 6)) (bL : Binds K ld psLW []) (kL : PySem.W.keepIn K (.ref lw) = true) (mL : mg "_law_worth" = some (.ref lw)) (mi : mg "int" = none) :
    FnOk P w K mg base CX0 (n + 7) f fd psT (spLh (n + 1)) := by
  refine F.ok scLh (fun vs H Q E h => ?_) (fun cdv A outer s H vs Q E hr h => ?_)
  · obtain ⟨v, c, e, kvs, xs, a, t, rfl, _⟩ := h
    rfl
  obtain ⟨v, c, e, kvs, xs, a, t, rfl, hv, hd, hg, B, hc, ha, ht, q⟩ := h
  have kG := F.kp
  have hr6 := hr.mono (show 6 ≤ n + 6 by omega)
  refine ⟨_, pss_cons (ps_if (pt_cmpR op_eq (pe_ix ix_tup (pv 0) pe_int (fun _ _ => rfl)) pe_str (nomark _)) (pss_one (ps_ret (pe_not (pe_call G hr rfl mG kG bG .nil pass0 (pa_cons (pe_ix ix_tup (pv 0) pe_int (fun _ _ => rfl)) (pa_cons (pv 1) (pa_cons (pv 2) (pa_cons (pv 3) pa_nil)))))))) pss_nil)
    (pss_cons (ps_if (pt_cmpR op_in_seq (pe_ix ix_tup (pv 0) pe_int (fun _ _ => rfl)) (pe_tup (pa_cons pe_str (pa_cons pe_str pa_nil))) (by rfl))
      (pss_cons (ps_setLc (i := 4) (own := [("_law_part", 7)]) (g := gName 7) (tt := tYes) (by rfl) scLh.nd rfl rfl (sw_true rfl rfl rfl (by decide +kernel)) (pi_tup (pe_slice sl_tup (pv 0) (po_some pe_int) po_none)) (blkOk_by (N := nmLh) (sc := defScope sLh) (by decide +kernel))
          (fun _ _ _ _ _ => pg_name (i := 7) scLh.nd rfl (Or.inl rfl)) (fun _ _ _ _ _ => pts_nil) (fun _ _ _ _ _ => pe_call G hr rfl mG kG bG .nil pass0 (pa_cons (pv 7) (pa_cons (pv 1) (pa_cons (pv 2) (pa_cons (pv 3) pa_nil))))))
      (pss_one (ps_ret (pe_cmpR op_gt (pe_bm PySem.F.plainAttrs_list PySem.F.slot_list_count PySem.F.type_list_count mt_countF (pv 4) (pa_cons pe_bl pa_nil)) (pe_callTy call_int1 rfl mi (by decide +kernel) (pa_cons (pe_cmpR op_eq (pe_ix ix_tup (pv 0) pe_int (fun _ _ => rfl)) pe_str (nomark _)) pa_nil)) (nomark _))))) pss_nil)
    (pss_cons (ps_asg (pe_lc (own := [("_law_part", 7)]) (g := gName 7) (tt := tYes) (by rfl) scLh.nd (pi_tup (pe_slice sl_tup (pv 0) (po_some pe_int) po_none)) (blkOk_by (N := nmLh) (sc := defScope sLh) (by decide +kernel))
          (fun _ _ _ _ _ => pg_name (i := 7) scLh.nd rfl (Or.inl rfl)) (fun _ _ _ _ _ => pts_nil) (fun _ _ _ _ _ => pe_call GL hr6 rfl mL kL bL .nil pass0 (pa_cons (pv 7) (pa_cons (pv 1) (pa_cons (pv 2) (pa_cons (pv 3) pa_nil))))))
        (pg_unl rfl (pgs_cons (pg_name (i := 5) scLh.nd rfl (Or.inl rfl)) (pgs_cons (pg_name (i := 6) scLh.nd rfl (Or.inl rfl)) pgs_nil))))
    (pss_one (ps_ret (pe_ifExp (pt_cmpR op_eq (pe_ix ix_tup (pv 0) pe_int (fun _ _ => rfl)) pe_str (nomark _)) (pe_cmpR op_eq (pv 5) (pv 6) (nomark _)) (pe_cmpR op_lt (pv 5) (pv 6) (nomark _))))))), ?_⟩
  have two : 2 ≤ sizeLine := by decide
  cases hv with
  | nt h h1 =>
    rename_i p0 x l
    refine ⟨_, rfl, _, _, _, _, rfl, rfl, SqT.of h, atI_nat (j := 0) rfl, rfl, _, rfl, itT eq_str ?_⟩
    refine ⟨_, rfl, _, _, _, _, rfl, rfl, SqT.of h, atI_nat (j := 1) rfl, _, rfl, _, rfl, _, rfl, ?_⟩
    exact ⟨x, c, l, kvs, xs, a, t, rfl, h1, Nat.le_of_succ_le_succ hd, hg, B, hc, ha, ht, fun H2 s2 => ⟨_, rfl, q H2 s2⟩⟩
  | both h h1 h2 =>
    rename_i p0 x y l r
    have dl : l.deep ≤ n := Nat.le_trans (Nat.le_max_left ..) (Nat.le_of_succ_le_succ hd)
    have dr : r.deep ≤ n := Nat.le_trans (Nat.le_max_right ..) (Nat.le_of_succ_le_succ hd)
    refine ⟨_, rfl, _, _, _, _, rfl, rfl, SqT.of h, atI_nat (j := 0) rfl, rfl, _, rfl, itF (ne_str (by decide)) ?_⟩
    refine ⟨_, rfl, _, _, _, _, rfl, rfl, SqT.of h, atI_nat (j := 0) rfl, two, fun p hp => ⟨p, _, rfl, .inr (SqT.of upd_same), rfl, rfl, _, rfl, itT rfl ?_⟩⟩
    have s1 := same_new hp (.tup [.str "both", .str "either"])
    refine ⟨_, rfl, 1, rfl, p0, _, rfl, SqT.of (s1 _ _ h), (by show ¬ (1 = 0 ∧ _); omega), fun p2 hp2 => ⟨p2, rfl, ⟨_, SqT.of upd_same⟩, fun C hC => ?_⟩⟩
    have s2 := s1.trans (same_new hp2 (.tup [x, y]))
    have e2 := @upd_same (upd H p (.tup [.str "both", .str "either"])) p2 (.tup [x, y])
    refine lc_tup (K := K) (a := p2) (xs := [x, y]) (fun i Hc => Hc C = some (.lst (([l.val kvs a t, r.val kvs a t].take i).map V.bl)) ∧ Same (upd (upd H p (.tup [.str "both", .str "either"])) p2 (.tup [x, y])) Hc)
      ⟨upd_same, same_new hC _⟩ (fun i Hc _ z => SqT.of (z.2 _ _ e2)) ?_ ?_
    · rintro i x' Hc hx ⟨hC1, sm⟩
      have s3 := s2.trans sm
      match i, hx with
      | 0, hx =>
        cases hx
        refine ⟨rfl, _, rfl, _, rfl, _, rfl, _, rfl, x, c, l, kvs, xs, a, t, rfl, h1.keep (Same.tups s3), dl, hg.1, B, s3 _ _ hc, ha, ht, fun H4 s4 => ?_⟩
        refine ⟨_, s4 _ _ hC1, (by show 0 < sizeLine; decide), upd_same, fun b o hb => ?_⟩
        rw [upd_ne (ne_of_none hb hC)]
        exact s4 _ _ (sm _ _ hb)
      | 1, hx =>
        cases hx
        refine ⟨rfl, _, rfl, _, rfl, _, rfl, _, rfl, y, c, r, kvs, xs, a, t, rfl, h2.keep (Same.tups s3), dr, hg.2, B, s3 _ _ hc, ha, ht, fun H4 s4 => ?_⟩
        refine ⟨_, s4 _ _ hC1, (by show 1 < sizeLine; decide), upd_same, fun b o hb => ?_⟩
        rw [upd_ne (ne_of_none hb hC)]
        exact s4 _ _ (sm _ _ hb)
    · rintro Hc ⟨hC1, sm⟩
      have s3 := s2.trans sm
      have z := q Hc s3
      refine ⟨_, rfl, .inl ⟨rfl, _, SqL.of hC1⟩, C, _, _, rfl, rfl, SqL.of hC1, rfl, rfl, ?_⟩
      refine ⟨_, rfl, _, _, _, _, rfl, rfl, SqT.of (s3 _ _ h), atI_nat (j := 0) rfl, rfl, .inr ⟨_, rfl, _, _, rfl, rfl, ?_⟩⟩
      have z : Q (.bl (l.val kvs a t && r.val kvs a t)) Hc := z
      cases e1 : l.val kvs a t <;> cases e2 : r.val kvs a t <;> (rw [e1, e2] at z; exact z)
  | either h h1 h2 =>
    rename_i p0 x y l r
    have dl : l.deep ≤ n := Nat.le_trans (Nat.le_max_left ..) (Nat.le_of_succ_le_succ hd)
    have dr : r.deep ≤ n := Nat.le_trans (Nat.le_max_right ..) (Nat.le_of_succ_le_succ hd)
    refine ⟨_, rfl, _, _, _, _, rfl, rfl, SqT.of h, atI_nat (j := 0) rfl, rfl, _, rfl, itF (ne_str (by decide)) ?_⟩
    refine ⟨_, rfl, _, _, _, _, rfl, rfl, SqT.of h, atI_nat (j := 0) rfl, two, fun p hp => ⟨p, _, rfl, .inr (SqT.of upd_same), rfl, rfl, _, rfl, itT rfl ?_⟩⟩
    have s1 := same_new hp (.tup [.str "both", .str "either"])
    refine ⟨_, rfl, 1, rfl, p0, _, rfl, SqT.of (s1 _ _ h), (by show ¬ (1 = 0 ∧ _); omega), fun p2 hp2 => ⟨p2, rfl, ⟨_, SqT.of upd_same⟩, fun C hC => ?_⟩⟩
    have s2 := s1.trans (same_new hp2 (.tup [x, y]))
    have e2 := @upd_same (upd H p (.tup [.str "both", .str "either"])) p2 (.tup [x, y])
    refine lc_tup (K := K) (a := p2) (xs := [x, y]) (fun i Hc => Hc C = some (.lst (([l.val kvs a t, r.val kvs a t].take i).map V.bl)) ∧ Same (upd (upd H p (.tup [.str "both", .str "either"])) p2 (.tup [x, y])) Hc)
      ⟨upd_same, same_new hC _⟩ (fun i Hc _ z => SqT.of (z.2 _ _ e2)) ?_ ?_
    · rintro i x' Hc hx ⟨hC1, sm⟩
      have s3 := s2.trans sm
      match i, hx with
      | 0, hx =>
        cases hx
        refine ⟨rfl, _, rfl, _, rfl, _, rfl, _, rfl, x, c, l, kvs, xs, a, t, rfl, h1.keep (Same.tups s3), dl, hg.1, B, s3 _ _ hc, ha, ht, fun H4 s4 => ?_⟩
        refine ⟨_, s4 _ _ hC1, (by show 0 < sizeLine; decide), upd_same, fun b o hb => ?_⟩
        rw [upd_ne (ne_of_none hb hC)]
        exact s4 _ _ (sm _ _ hb)
      | 1, hx =>
        cases hx
        refine ⟨rfl, _, rfl, _, rfl, _, rfl, _, rfl, y, c, r, kvs, xs, a, t, rfl, h2.keep (Same.tups s3), dr, hg.2, B, s3 _ _ hc, ha, ht, fun H4 s4 => ?_⟩
        refine ⟨_, s4 _ _ hC1, (by show 1 < sizeLine; decide), upd_same, fun b o hb => ?_⟩
        rw [upd_ne (ne_of_none hb hC)]
        exact s4 _ _ (sm _ _ hb)
    · rintro Hc ⟨hC1, sm⟩
      have s3 := s2.trans sm
      have z := q Hc s3
      refine ⟨_, rfl, .inl ⟨rfl, _, SqL.of hC1⟩, C, _, _, rfl, rfl, SqL.of hC1, rfl, rfl, ?_⟩
      refine ⟨_, rfl, _, _, _, _, rfl, rfl, SqT.of (s3 _ _ h), atI_nat (j := 0) rfl, rfl, .inr ⟨_, rfl, _, _, rfl, rfl, ?_⟩⟩
      have z : Q (.bl (l.val kvs a t || r.val kvs a t)) Hc := z
      cases e1 : l.val kvs a t <;> cases e2 : r.val kvs a t <;> (rw [e1, e2] at z; exact z)
  | is h h1 h2 =>
    rename_i p0 x y l r
    refine ⟨_, rfl, _, _, _, _, rfl, rfl, SqT.of h, atI_nat (j := 0) rfl, rfl, _, rfl, itF (ne_str (by decide)) ?_⟩
    refine ⟨_, rfl, _, _, _, _, rfl, rfl, SqT.of h, atI_nat (j := 0) rfl, two, fun p hp => ⟨p, _, rfl, .inr (SqT.of upd_same), rfl, rfl, _, rfl, itF rfl ?_⟩⟩
    have s1 := same_new hp (.tup [.str "both", .str "either"])
    refine ⟨_, rfl, 1, rfl, p0, _, rfl, SqT.of (s1 _ _ h), (by show ¬ (1 = 0 ∧ _); omega), fun p2 hp2 => ⟨p2, rfl, ⟨_, SqT.of upd_same⟩, fun C hC => ?_⟩⟩
    have s2 := s1.trans (same_new hp2 (.tup [x, y]))
    have e2 := @upd_same (upd H p (.tup [.str "both", .str "either"])) p2 (.tup [x, y])
    refine lc_tup (K := K) (a := p2) (xs := [x, y]) (fun i Hc => Hc C = some (.lst (([l.val kvs a t, r.val kvs a t].take i).map V.int)) ∧ Same (upd (upd H p (.tup [.str "both", .str "either"])) p2 (.tup [x, y])) Hc)
      ⟨upd_same, same_new hC _⟩ (fun i Hc _ z => SqT.of (z.2 _ _ e2)) ?_ ?_
    · rintro i x' Hc hx ⟨hC1, sm⟩
      have s3 := s2.trans sm
      match i, hx with
      | 0, hx =>
        cases hx
        refine ⟨rfl, _, rfl, _, rfl, _, rfl, _, rfl, x, c, l, kvs, xs, a, t, rfl, h1.keep (Same.tups s3), hg.1.2, hg.1.2, hg.1.1, B, s3 _ _ hc, ha, ht, fun H4 s4 => ?_⟩
        refine ⟨_, s4 _ _ hC1, (by show 0 < sizeLine; decide), upd_same, fun b o hb => ?_⟩
        rw [upd_ne (ne_of_none hb hC)]
        exact s4 _ _ (sm _ _ hb)
      | 1, hx =>
        cases hx
        refine ⟨rfl, _, rfl, _, rfl, _, rfl, _, rfl, y, c, r, kvs, xs, a, t, rfl, h2.keep (Same.tups s3), hg.2.2, hg.2.2, hg.2.1, B, s3 _ _ hc, ha, ht, fun H4 s4 => ?_⟩
        refine ⟨_, s4 _ _ hC1, (by show 1 < sizeLine; decide), upd_same, fun b o hb => ?_⟩
        rw [upd_ne (ne_of_none hb hC)]
        exact s4 _ _ (sm _ _ hb)
    · rintro Hc ⟨hC1, sm⟩
      have s3 := s2.trans sm
      have z := q Hc s3
      refine ⟨C, _, rfl, SqL.of hC1, rfl, _, _, rfl, _, _, rfl, rfl, ?_⟩
      have z : Q (.bl (decide (l.val kvs a t = r.val kvs a t))) Hc := z
      refine ⟨_, rfl, _, _, _, _, rfl, rfl, SqT.of (s3 _ _ h), atI_nat (j := 0) rfl, rfl, _, rfl, itT eq_str ⟨_, rfl, _, rfl, rfl, ?_⟩⟩
      rw [show decide (V.int (l.val kvs a t) = V.int (r.val kvs a t)) = decide (l.val kvs a t = r.val kvs a t) from decide_eq_decide.mpr ⟨fun z => V.int.inj z, fun z => by rw [z]⟩]
      exact z
  | bel h h1 h2 =>
    rename_i p0 x y l r
    refine ⟨_, rfl, _, _, _, _, rfl, rfl, SqT.of h, atI_nat (j := 0) rfl, rfl, _, rfl, itF (ne_str (by decide)) ?_⟩
    refine ⟨_, rfl, _, _, _, _, rfl, rfl, SqT.of h, atI_nat (j := 0) rfl, two, fun p hp => ⟨p, _, rfl, .inr (SqT.of upd_same), rfl, rfl, _, rfl, itF rfl ?_⟩⟩
    have s1 := same_new hp (.tup [.str "both", .str "either"])
    refine ⟨_, rfl, 1, rfl, p0, _, rfl, SqT.of (s1 _ _ h), (by show ¬ (1 = 0 ∧ _); omega), fun p2 hp2 => ⟨p2, rfl, ⟨_, SqT.of upd_same⟩, fun C hC => ?_⟩⟩
    have s2 := s1.trans (same_new hp2 (.tup [x, y]))
    have e2 := @upd_same (upd H p (.tup [.str "both", .str "either"])) p2 (.tup [x, y])
    refine lc_tup (K := K) (a := p2) (xs := [x, y]) (fun i Hc => Hc C = some (.lst (([l.val kvs a t, r.val kvs a t].take i).map V.int)) ∧ Same (upd (upd H p (.tup [.str "both", .str "either"])) p2 (.tup [x, y])) Hc)
      ⟨upd_same, same_new hC _⟩ (fun i Hc _ z => SqT.of (z.2 _ _ e2)) ?_ ?_
    · rintro i x' Hc hx ⟨hC1, sm⟩
      have s3 := s2.trans sm
      match i, hx with
      | 0, hx =>
        cases hx
        refine ⟨rfl, _, rfl, _, rfl, _, rfl, _, rfl, x, c, l, kvs, xs, a, t, rfl, h1.keep (Same.tups s3), hg.1.2, hg.1.2, hg.1.1, B, s3 _ _ hc, ha, ht, fun H4 s4 => ?_⟩
        refine ⟨_, s4 _ _ hC1, (by show 0 < sizeLine; decide), upd_same, fun b o hb => ?_⟩
        rw [upd_ne (ne_of_none hb hC)]
        exact s4 _ _ (sm _ _ hb)
      | 1, hx =>
        cases hx
        refine ⟨rfl, _, rfl, _, rfl, _, rfl, _, rfl, y, c, r, kvs, xs, a, t, rfl, h2.keep (Same.tups s3), hg.2.2, hg.2.2, hg.2.1, B, s3 _ _ hc, ha, ht, fun H4 s4 => ?_⟩
        refine ⟨_, s4 _ _ hC1, (by show 1 < sizeLine; decide), upd_same, fun b o hb => ?_⟩
        rw [upd_ne (ne_of_none hb hC)]
        exact s4 _ _ (sm _ _ hb)
    · rintro Hc ⟨hC1, sm⟩
      have s3 := s2.trans sm
      have z := q Hc s3
      refine ⟨C, _, rfl, SqL.of hC1, rfl, _, _, rfl, _, _, rfl, rfl, ?_⟩
      exact ⟨_, rfl, _, _, _, _, rfl, rfl, SqT.of (s3 _ _ h), atI_nat (j := 0) rfl, rfl, _, rfl, itF (ne_str (by decide)) ⟨_, rfl, _, rfl, _, _, rfl, rfl, z⟩⟩
theorem all_lh (F : Fun K "_law_holds" "_law_holds" sLh f fd) (bG : Binds K fd psT []) (mG : mg "_law_holds" = some (.ref f))
    (GL : FnOk P w K mg base CX0 6 lw ld psLW (spLw 6)) (bL : Binds K ld psLW []) (kL : PySem.W.keepIn K (.ref lw) = true) (mL : mg "_law_worth" = some (.ref lw)) (mi : mg "int" = none) : ∀ n : Nat, FnOk P w K mg base CX0 (n + 6) f fd psT (spLh n)
  | 0 => no_lh
  | n + 1 => ok_lh F (all_lh F bG mG GL bL kL mL mi n) bG mG GL bL kL mL mi
end
end Any
namespace Any
open L2 PySem PySem.Spec PyProof.Rows LamX NdefX
section
variable {X : Cx}
theorem op_mul_str : OpR X (binaryOp .Mult) (fun x y H Q => ∃ (z : Str) (n : Int), x = .str z ∧ y = .int n ∧ MulOk z n ∧ Q (.str (Txt.mul z n)) H) := by
  intro pins s σ H x y v u Q I rx ry h
  obtain ⟨z, n, rfl, rfl, hk, q⟩ := h
  obtain ⟨t, rfl⟩ := rx
  obtain ⟨t', rfl⟩ := ry
  exact SB.mul hk fun t2 k => ⟨.str _, H, I.tok _, ⟨_, rfl⟩, q⟩
end
theorem mulok (b : Bool) : MulOk ("x" : Str) (if b then 1 else 0) := by
  cases b
  · exact ⟨by decide, (fun h => absurd (by decide) h), (fun h => absurd (by decide) h)⟩
  · exact ⟨by decide, (fun _ h => by cases h), (fun _ h => by cases h)⟩
/-- at most so many small letters -/
def Lt (n : Nat) (x : Str) : Prop := (∀ c ∈ x.cps.toList, lc c = true) ∧ x.cps.toList.length ≤ n
theorem sum_one : ∀ (l : List Str), (∀ y ∈ l, ∃ c, y = ⟨#[c]⟩ ∧ lc c = true) → (l.map (·.length)).sum = l.length := by
  intro l
  induction l with
  | nil => intro _; rfl
  | cons a r ih =>
    intro hh
    obtain ⟨c, rfl, _⟩ := hh a List.mem_cons_self
    rw [List.map_cons, List.sum_cons, ih (fun y hy => hh y (List.mem_cons_of_mem _ hy)), List.length_cons]
    show 1 + r.length = r.length + 1
    omega
theorem glue_lt {ys : List Str} (h : ∀ y ∈ ys, ∃ c, y = ⟨#[c]⟩ ∧ lc c = true) (hl : ys.length ≤ 3) : Lt 3 (Txt.join "" ys) := by
  have e : Txt.join "" ys = Str.join "" ys := StrLaws.glued_eq_join "" ys
  refine ⟨fun c hc => ?_, ?_⟩
  · rw [e] at hc
    rcases (mem_join "" c ys).mp hc with ⟨t, ht, hc⟩ | ⟨_, hc⟩
    · obtain ⟨d, rfl, hd⟩ := h t ht
      have : c = d := by simpa using hc
      rw [this]; exact hd
    · cases hc
  · have z := size_glued "" ys
    have z2 : (Txt.join "" ys).cps.toList.length = (ys.map (·.length)).sum + (ys.length - 1) * ("" : Str).length := by rw [← z, ← len_l]; rfl
    have z3 : ("" : Str).length = 0 := rfl
    rw [z2, z3, Nat.mul_zero, Nat.add_zero]
    rw [sum_one ys h]
    exact hl
abbrev abc : Str := "abcdefghijklmnopqrstuvwxyz"
theorem abc_lc : ∀ c ∈ abc.cps.toList, lc c = true := by decide
theorem abc_len : abc.cps.toList.length = 26 := by decide
/-- the words that no box may be called -/
abbrev kept5 : List V := [.str "asked", .str "told", .str "not", .str "and", .str "or"]
theorem name_ok {x : Str} (h : Lt 7 x) (hn : x.cps.toList ≠ []) : Nam (x ++ Txt.mul "x" (if inV (.str x) kept5 then 1 else 0)) := by
  have e : inV (.str x) kept5 = true ∨ inV (.str x) kept5 = false := by cases inV (.str x) kept5 <;> simp
  have ev : inV (.str x) kept5 = (("asked" : Str) == x || (("told" : Str) == x || (("not" : Str) == x || (("and" : Str) == x || (("or" : Str) == x || false))))) := rfl
  rcases e with e | e
  · have t : Txt.mul "x" (if inV (.str x) kept5 = true then (1 : Int) else 0) = ("x" : Str) := by rw [if_pos e]; rfl
    rw [t]
    rw [ev] at e
    simp only [Bool.or_eq_true, Bool.or_false, beq_iff_eq] at e
    rcases e with rfl | rfl | rfl | rfl | rfl <;> exact ⟨by decide, by decide, by decide, by decide, by decide, by decide⟩
  · have t : Txt.mul "x" (if inV (.str x) kept5 = true then (1 : Int) else 0) = Str.empty := by rw [e]; rfl
    have t2 : x ++ Str.empty = x := str_ext (by rw [app_l]; simp [empty_l])
    rw [t, t2]
    rw [ev] at e
    simp only [Bool.or_eq_false_iff, Bool.or_false, beq_eq_false_iff_ne] at e
    obtain ⟨e1, e2, e3, e4, e5⟩ := e
    refine ⟨hn, h.1, fun z => e1 (str_ext (by rw [z]; rfl)), fun z => e2 (str_ext (by rw [z]; rfl)), fun z => e3 (str_ext (by rw [z]; rfl)), ?_⟩
    have := h.2
    simp at this
    omega
theorem Bag.put' {H : Hp} {b p : Addr} {n : Nat} {o : HO} (h : Bag H b n) (ne : p ≠ b) : Bag (upd H p o) b n := by
  obtain ⟨g, s, c, h1, h2⟩ := h
  exact ⟨g, s, c, by rw [upd_ne ne.symm]; exact h1, h2⟩
abbrev sNames : Stmt := top 21
abbrev nmNames : List Str := ["_law_bag_here", "_law_often", "_law_letters", "_law_front", "_law_behind", "_law_first", "_law_some", "_law_k", "_law_one"]
abbrev psTk : List Str := ["_law_bag_here", "_law_often"]
theorem scNames : FnScope nmNames psTk (defScope sNames) := ⟨rfl, rfl, rfl, by decide +kernel, rfl, by decide +kernel, by decide +kernel⟩
def spNames : Sp := fun vs H Q _ => ∃ (b : Addr) (m : Nat), vs = [.ref b, .int 4] ∧ Bag H b m ∧ m + 20 < 2 ^ 40 ∧
  ∀ (p : Addr) (ys : List Str) (H' : Hp), Kept b H H' → Bag H' b (m + 20) → H' p = some (.lst (ys.map V.str)) → p ≠ b → ys.length = 4 → (∀ y ∈ ys, Nam y) → Q (.ref p) H'
section
variable {P : Program} {w : World} {K : PySem.W.Frag} {mg : Str → Option Value} {base : Heap} {f t o : Addr} {fd td od : FuncData}
theorem ok_names (F : Fun K "_law_names" "_law_names" sNames f fd) (T : FnOk P w K mg base CX0 1 t td psTk spTake) (bT : Binds K td psTk []) (kT : PySem.W.keepIn K (.ref t) = true) (mT : mg "_law_take" = some (.ref t))
    (O : FnOk P w K mg base CX0 2 o od ["_law_bag_here", "_law_some"] spOf2) (bO : Binds K od ["_law_bag_here", "_law_some"] []) (kO : PySem.W.keepIn K (.ref o) = true) (mO : mg "_law_of" = some (.ref o))
    (mr : mg "range" = none) (ms : mg "sorted" = none) (mi : mg "int" = none) : FnOk P w K mg base CX0 3 f fd psTk spNames := by
  refine F.ok scNames (fun vs H Q E h => ?_) (fun cdv A outer s H vs Q E hr h => ?_)
  · obtain ⟨b, m, rfl, _⟩ := h
    rfl
  obtain ⟨b, m, rfl, hB, hm, q⟩ := h
  have hr1 := hr.mono (show 1 ≤ 2 by decide)
  refine ⟨_, pss_cons (ps_set (i := 2) scNames.nd rfl (Or.inr rfl) pe_str)
    (pss_cons (ps_set (i := 3) scNames.nd rfl (Or.inr rfl) (pe_join pe_str (pe_lc (own := [("_law_k", 7)]) (g := gName 7) (tt := tYes) rfl scNames.nd (pi_range1 rfl mr (pa_cons (pe_call T hr1 rfl mT kT bT .nil pass0 (pa_cons (pv 0) (pa_cons pe_int pa_nil))) pa_nil)) (blkOk_by (N := nmNames) (sc := defScope sNames) (by decide +kernel))
        (fun _ _ _ _ _ => pg_name (i := 7) scNames.nd rfl (Or.inl rfl)) (fun _ _ _ _ _ => pts_nil) (fun _ _ _ _ _ => pe_call O hr rfl mO kO bO .nil pass0 (pa_cons (pv 0) (pa_cons (pv 2) pa_nil))))))
    (pss_cons (ps_set (i := 4) scNames.nd rfl (Or.inr rfl) (pe_join pe_str (pe_lc (own := [("_law_k", 7)]) (g := gName 7) (tt := tYes) rfl scNames.nd (pi_range1 rfl mr (pa_cons (pe_call T hr1 rfl mT kT bT .nil pass0 (pa_cons (pv 0) (pa_cons pe_int pa_nil))) pa_nil)) (blkOk_by (N := nmNames) (sc := defScope sNames) (by decide +kernel))
        (fun _ _ _ _ _ => pg_name (i := 7) scNames.nd rfl (Or.inl rfl)) (fun _ _ _ _ _ => pts_nil) (fun _ _ _ _ _ => pe_call O hr rfl mO kO bO .nil pass0 (pa_cons (pv 0) (pa_cons (pv 2) pa_nil))))))
    (pss_cons (ps_set (i := 5) scNames.nd rfl (Or.inr rfl) (pe_call T hr1 rfl mT kT bT .nil pass0 (pa_cons (pv 0) (pa_cons pe_int pa_nil))))
    (pss_cons (ps_setLc (i := 6) (own := [("_law_k", 7)]) (g := gName 7) (tt := tYes) (by rfl) scNames.nd rfl rfl (sw_true rfl rfl rfl (by decide +kernel)) (pi_range1 rfl mr (pa_cons (pv 1) pa_nil)) (blkOk_by (N := nmNames) (sc := defScope sNames) (by decide +kernel))
        (fun _ _ _ _ _ => pg_name (i := 7) scNames.nd rfl (Or.inl rfl)) (fun _ _ _ _ _ => pts_nil) (fun _ _ _ _ _ => pe_op op_add_str (pe_op op_add_str (pv 3) (pe_ix ix_str (pv 2) (pe_op op_mod (pe_op op_add (pv 5) (pe_op op_mul pe_int (pv 7))) pe_int) (fun _ _ => rfl))) (pv 4)))
    (pss_one (ps_ret (pe_callB cr_sortedS rfl ms (by decide +kernel) (pa_cons (pe_lc (own := [("_law_one", 8)]) (g := gName 8) (tt := tYes) rfl scNames.nd (pi_list (pv 6)) (blkOk_by (N := nmNames) (sc := defScope sNames) (by decide +kernel))
        (fun _ _ _ _ _ => pg_name (i := 8) scNames.nd rfl (Or.inl rfl)) (fun _ _ _ _ _ => pts_nil) (fun _ _ _ _ _ => pe_op op_add_str (pv 8) (pe_op op_mul_str pe_str (pe_callTy call_int1 rfl mi (by decide +kernel) (pa_cons (pe_cmpR (show OpR _ (compareOp .In) (rIn K false) from op_in_seq) (pv 8) (pe_tup (pa_cons pe_str (pa_cons pe_str (pa_cons pe_str (pa_cons pe_str (pa_cons pe_str pa_nil)))))) (by rfl)) pa_nil))))) pa_nil)))))))), ?_⟩
  refine ⟨⟨_, rfl⟩, _, rfl, b, 4, m, rfl, hB, by omega, by decide, by decide, fun d1 H1 k1 B1 d10 d11 => ⟨d1, rfl, by omega, by omega, fun C1 hC1 => ?_⟩⟩
  refine lc_range (lo := 0) (n := d1.toNat) (fun i Hc => ∃ ys : List Str, Hc C1 = some (.lst (ys.map V.str)) ∧ ys.length = i ∧ (∀ y ∈ ys, ∃ c, y = ⟨#[c]⟩ ∧ lc c = true) ∧ Bag Hc b (m + 1 + i) ∧ Kept b H1 Hc)
    ⟨[], upd_same, rfl, (fun y hy => by cases hy), B1.keep (same_new hC1 _), Kept.new hC1 _⟩ ?_ ?_
  · rintro i Hc hi ⟨ys, y1, y2, y3, y4, y5⟩
    have nC := B1.ne hC1
    refine ⟨rfl, _, rfl, _, rfl, .inr ⟨b, abc, _, rfl, y4, by omega, by decide, by decide, fun c H' k' B' hc => ?_⟩⟩
    refine ⟨_, k' _ _ nC y1, by rw [List.length_map]; exact small1000 (by omega), ys ++ [⟨#[c]⟩], by rw [upd_same, List.map_append]; rfl, by rw [List.length_append, y2]; rfl, fun y hy => ?_, (B'.put' nC).more (by omega), fun a u na ha => ?_⟩
    · rcases List.mem_append.mp hy with hy | hy
      · exact y3 y hy
      · rw [List.mem_singleton.mp hy]
        exact ⟨c, rfl, abc_lc c hc⟩
    · rw [upd_ne (ne_of_none ha hC1)]
      exact k' _ _ na (y5 _ _ na ha)
  rintro HHa ⟨ys1, y11, y21, y31, y41, y51⟩
  have g1 := glue_lt y31 (by omega)
  refine ⟨_, C1, ys1, rfl, rfl, .inl (SqL.of y11), by rw [sum_one _ y31]; show ys1.length + ys1.length * 0 ≤ _; omega, ?_⟩
  have B1' := y41.more (show m + 1 + d1.toNat ≤ m + 4 by omega)
  refine ⟨⟨_, rfl⟩, _, rfl, b, 4, (m + 4), rfl, B1', by omega, by decide, by decide, fun d2 H2 k2 B2 d20 d21 => ⟨d2, rfl, by omega, by omega, fun C2 hC2 => ?_⟩⟩
  refine lc_range (lo := 0) (n := d2.toNat) (fun i Hc => ∃ ys : List Str, Hc C2 = some (.lst (ys.map V.str)) ∧ ys.length = i ∧ (∀ y ∈ ys, ∃ c, y = ⟨#[c]⟩ ∧ lc c = true) ∧ Bag Hc b ((m + 4) + 1 + i) ∧ Kept b H2 Hc)
    ⟨[], upd_same, rfl, (fun y hy => by cases hy), B2.keep (same_new hC2 _), Kept.new hC2 _⟩ ?_ ?_
  · rintro i Hc hi ⟨ys, y1, y2, y3, y4, y5⟩
    have nC := B2.ne hC2
    refine ⟨rfl, _, rfl, _, rfl, .inr ⟨b, abc, _, rfl, y4, by omega, by decide, by decide, fun c H' k' B' hc => ?_⟩⟩
    refine ⟨_, k' _ _ nC y1, by rw [List.length_map]; exact small1000 (by omega), ys ++ [⟨#[c]⟩], by rw [upd_same, List.map_append]; rfl, by rw [List.length_append, y2]; rfl, fun y hy => ?_, (B'.put' nC).more (by omega), fun a u na ha => ?_⟩
    · rcases List.mem_append.mp hy with hy | hy
      · exact y3 y hy
      · rw [List.mem_singleton.mp hy]
        exact ⟨c, rfl, abc_lc c hc⟩
    · rw [upd_ne (ne_of_none ha hC2)]
      exact k' _ _ na (y5 _ _ na ha)
  rintro HHb ⟨ys2, y12, y22, y32, y42, y52⟩
  have g2 := glue_lt y32 (by omega)
  refine ⟨_, C2, ys2, rfl, rfl, .inl (SqL.of y12), by rw [sum_one _ y32]; show ys2.length + ys2.length * 0 ≤ _; omega, ?_⟩
  have B2' := y42.more (show m + 4 + 1 + d2.toNat ≤ m + 8 by omega)
  refine ⟨_, rfl, b, 26, m + 8, rfl, B2', by omega, by decide, by decide, fun d3 H3 k3 B3 d30 d31 => ?_⟩
  have kk3 : Kept b H H3 := k1.trans (y51.trans (k2.trans (y52.trans k3)))
  generalize Txt.join "" ys1 = fr at *
  generalize Txt.join "" ys2 = bh at *
  refine ⟨_, rfl, 4, rfl, by decide, by decide, fun C4 hC4 => ?_⟩
  refine lc_range (lo := 0) (n := 4) (fun i Hc => ∃ ys : List Str, Hc C4 = some (.lst (ys.map V.str)) ∧ ys.length = i ∧ (∀ y ∈ ys, Lt 7 y ∧ y.cps.toList ≠ []) ∧ Same H3 Hc)
    ⟨[], upd_same, rfl, (fun y hy => by cases hy), same_new hC4 _⟩ ?_ ?_
  · rintro i Hc hi ⟨ys, y1, y2, y3, y4⟩
    have e26 : ∃ c, atI abc.cps.toList ((d3 + 7 * (0 + (i : Int))) % 26) = some c ∧ lc c = true := by
      have r0 := Int.emod_nonneg (d3 + 7 * (0 + (i : Int))) (show (26 : Int) ≠ 0 by decide)
      have r1 := Int.emod_lt_of_pos (d3 + 7 * (0 + (i : Int))) (show (0 : Int) < 26 by decide)
      generalize (d3 + 7 * (0 + (i : Int))) % 26 = r at *
      have hk : r.toNat < abc.cps.toList.length := by rw [abc_len]; omega
      have z : atI abc.cps.toList ((r.toNat : Nat) : Int) = some abc.cps.toList[r.toNat] := atI_nat (List.getElem?_eq_getElem hk)
      rw [show ((r.toNat : Nat) : Int) = r by omega] at z
      exact ⟨_, z, abc_lc _ (List.getElem_mem hk)⟩
    obtain ⟨c, ec, hc⟩ := e26
    have lf : fr.length ≤ 3 := by rw [len_l]; exact g1.2
    have lb : bh.length ≤ 3 := by rw [len_l]; exact g2.2
    have sl : sizeLine = 16777216 := sizeLine_eq
    have l1 : (⟨#[c]⟩ : Str).length = 1 := rfl
    refine ⟨rfl, _, rfl, _, rfl, _, rfl, _, rfl, _, _, rfl, rfl, .inl ⟨by decide, by decide⟩, _, _, rfl, rfl, _, _, rfl, rfl, (by show (0 : Int) < 26; decide), abc, _, c, rfl, rfl, by decide, ec, ?_⟩
    refine ⟨_, _, rfl, rfl, by omega, _, rfl, _, _, rfl, rfl, by rw [len_app]; omega, ?_⟩
    refine ⟨_, y1, by rw [List.length_map]; exact small1000 (by omega), ys ++ [(fr ++ ⟨#[c]⟩) ++ bh], by rw [upd_same, List.map_append]; rfl, by rw [List.length_append, y2]; rfl, fun y hy => ?_, fun a u ha => ?_⟩
    · rcases List.mem_append.mp hy with hy | hy
      · exact y3 y hy
      · rw [List.mem_singleton.mp hy]
        refine ⟨⟨fun d hd => ?_, ?_⟩, ?_⟩
        · rw [app_l, app_l] at hd
          rcases List.mem_append.mp hd with hd | hd
          · rcases List.mem_append.mp hd with hd | hd
            · exact g1.1 d hd
            · have : d = c := by simpa using hd
              rw [this]; exact hc
          · exact g2.1 d hd
        · rw [← len_l, len_app, len_app]; omega
        · intro z
          have := congrArg List.length z
          rw [← len_l, len_app, len_app] at this
          simp at this
          omega
    · rw [upd_ne (ne_of_none ha hC4)]
      exact y4 _ _ ha
  rintro H5 ⟨ys5, u1, u2, u3, u4⟩
  refine ⟨_, rfl, C4, rfl, ⟨_, SqL.of u1⟩, fun C6 hC6 => ?_⟩
  refine lc_list (K := K) (a := C4) (xs := ys5.map V.str) (fun i Hc => ∃ ys : List Str, Hc C6 = some (.lst (ys.map V.str)) ∧ ys.length = i ∧ (∀ y ∈ ys, Nam y) ∧ Same H5 Hc)
    ⟨[], upd_same, rfl, (fun y hy => by cases hy), same_new hC6 _⟩ (fun i Hc _ ⟨ys, _, _, _, sm⟩ => SqL.of (sm _ _ u1)) ?_ ?_
  · rintro i x Hc hx ⟨ys, y1, y2, y3, y4⟩
    rw [List.getElem?_map] at hx
    obtain ⟨z, hz, rfl⟩ := Option.map_eq_some_iff.mp hx
    have iz : i < ys5.length := (List.getElem?_eq_some_iff.mp hz).1
    obtain ⟨zl, zn⟩ := u3 z (List.mem_of_getElem? hz)
    have nm := name_ok zl zn
    refine ⟨rfl, _, rfl, _, rfl, (by show 5 ≤ sizeLine; decide), fun p hp => ⟨p, _, rfl, .inr (SqT.of upd_same), rfl, rfl, .inr ⟨_, rfl, _, _, rfl, rfl, mulok _, ?_⟩⟩⟩
    have lz : z.length ≤ 7 := by rw [len_l]; exact zl.2
    have lm : (Txt.mul "x" (if inV (.str z) kept5 = true then (1 : Int) else 0)).length ≤ 1 := by
      cases inV (.str z) kept5 <;> decide
    refine ⟨_, _, rfl, rfl, Nat.le_trans (Nat.add_le_add lz lm) (by decide), ?_⟩
    refine ⟨_, (same_new hp _) _ _ y1, by rw [List.length_map]; exact small1000 (by omega), ys ++ [z ++ Txt.mul "x" (if inV (.str z) kept5 = true then (1 : Int) else 0)], by rw [upd_same, List.map_append]; rfl, by rw [List.length_append, y2]; rfl, fun y hy => ?_, fun a u ha => ?_⟩
    · rcases List.mem_append.mp hy with hy | hy
      · exact y3 y hy
      · rw [List.mem_singleton.mp hy]
        exact nm
    · rw [upd_ne (ne_of_none ha hC6)]
      exact (same_new hp _) _ _ (y4 _ _ ha)
  rintro H7 ⟨ys7, v1, v2, v3, v4⟩
  rw [List.length_map, u2] at v2
  refine ⟨C6, ys7, rfl, SqL.of v1, by omega, fun ys8 p8 pm _ hp8 => ?_⟩
  have sm := (u4.trans v4).trans (same_new hp8 (.lst (ys8.map V.str)))
  refine q p8 ys8 _ (kk3.trans (.of sm)) ((B3.keep sm).more (by omega)) upd_same ((B3.keep (u4.trans v4)).ne hp8) (by rw [pm.length_eq, v2]) (fun y hy => v3 y (pm.mem_iff.mp hy))
end
end Any
namespace Any
open L2 PySem PySem.Spec PyProof.Rows LamX NdefX
abbrev sDt : Stmt := top 26
abbrev nmDt : List Str := ["_law_bag_here", "_law_names_here", "_law_most", "_law_deep", "_law_leaf", "_law_edge", "_law_less", "_law_word", "_law_first", "_law_other"]
abbrev psD : List Str := ["_law_bag_here", "_law_names_here", "_law_most", "_law_deep"]
theorem scDt : FnScope nmDt psD (defScope sDt) := ⟨rfl, rfl, rfl, by decide +kernel, rfl, by decide +kernel, by decide +kernel⟩
def cd : Nat → Nat
  | 0 => 6
  | n + 1 => 2 * cd n + 6
theorem cd_pos (n : Nat) : 6 ≤ cd n := by
  cases n with
  | zero => exact Nat.le_refl _
  | succ n => show 6 ≤ 2 * cd n + 6; omega
def spDt (n : Nat) : Sp := fun vs H Q _ => ∃ (b l : Addr) (mo : Int) (d m : Nat) (xs : List Str), vs = [.ref b, .ref l, .int mo, .int d] ∧ d < n ∧ 1 ≤ mo ∧ mo ≤ 16 ∧ Bag H b m ∧ m + cd d < 2 ^ 40 ∧ H l = some (.lst (xs.map V.str)) ∧ l ≠ b ∧ 1 ≤ xs.length ∧ xs.length ≤ 8 ∧
  ∀ (v : V) (e : Ex) (H' : Hp), Kept b H H' → Bag H' b (m + cd d) → ExAt H' v e → e.deep ≤ max d 1 → e.good xs → Q v H'
def ifBody : Stmt → List Stmt
  | .If _ b _ _ => b
  | _ => []
abbrev leafBody : List Stmt := ifBody ((defBody sDt).getD 0 (.Pass ⟨0, 0, 0, 0⟩))
theorem two_ix {x y : V} {r : Int} (h0 : 0 ≤ r) (h1 : r < 2) : (atI [x, y] r = some x) ∨ (atI [x, y] r = some y) := by
  have : r = 0 ∨ r = 1 := by omega
  rcases this with rfl | rfl
  · exact .inl rfl
  · exact .inr rfl
theorem edge_at {r : Int} (h0 : 0 ≤ r) (h1 : r < 6) : ∃ n : Int, atI [V.int 0, V.int 1, V.int 9, V.int 10, V.int 99, V.int 999] r = some (.int n) ∧ 0 ≤ n ∧ n < 1024 := by
  have : r = 0 ∨ r = 1 ∨ r = 2 ∨ r = 3 ∨ r = 4 ∨ r = 5 := by omega
  rcases this with rfl | rfl | rfl | rfl | rfl | rfl
  · exact ⟨0, rfl, by decide, by decide⟩
  · exact ⟨1, rfl, by decide, by decide⟩
  · exact ⟨9, rfl, by decide, by decide⟩
  · exact ⟨10, rfl, by decide, by decide⟩
  · exact ⟨99, rfl, by decide, by decide⟩
  · exact ⟨999, rfl, by decide, by decide⟩
theorem word_in {v : V} (h : v ∈ ([.str "plus", .str "less", .str "times", .str "over", .str "rest"] : List V)) : ∃ d : Dd, v = .str d.word := by
  simp only [List.mem_cons, List.not_mem_nil, or_false] at h
  rcases h with rfl | rfl | rfl | rfl | rfl
  · exact ⟨.plus, rfl⟩
  · exact ⟨.less, rfl⟩
  · exact ⟨.times, rfl⟩
  · exact ⟨.over, rfl⟩
  · exact ⟨.rest, rfl⟩
section
variable {P : Program} {w : World} {K : PySem.W.Frag} {mg : Str → Option Value} {base : Heap} {f t o : Addr} {fd td od : FuncData}
theorem no_dt {k : Nat} : FnOk P w K mg base CX0 k f fd psD (spDt 0) := by
  have no : ∀ vs H Q E, ¬ spDt 0 vs H Q E := fun vs H Q E h => by
    obtain ⟨b, l, mo, d, m, xs, _, hd, _⟩ := h
    omega
  exact ⟨fun vs H Q E h => absurd h (no vs H Q E), fun A outer s H args us vs Q E _ _ _ _ h => absurd h (no vs H Q E)⟩
theorem ok_dt {n : Nat} (F : Fun K "_law_deep_term" "_law_deep_term" sDt f fd) (T : FnOk P w K mg base CX0 1 t td psTk spTake) (bT : Binds K td psTk []) (kT : PySem.W.keepIn K (.ref t) = true) (mT : mg "_law_take" = some (.ref t))
    (O : FnOk P w K mg base CX0 2 o od ["_law_bag_here", "_law_some"] spOf2) (bO : Binds K od ["_law_bag_here", "_law_some"] []) (kO : PySem.W.keepIn K (.ref o) = true) (mO : mg "_law_of" = some (.ref o))
    (G : FnOk P w K mg base CX0 (n + 2) f fd psD (spDt n)) (bG : Binds K fd psD []) (mG : mg "_law_deep_term" = some (.ref f)) : FnOk P w K mg base CX0 (n + 3) f fd psD (spDt (n + 1)) := by
  refine F.ok scDt (fun vs H Q E h => ?_) (fun cdv A outer s H vs Q E hr h => ?_)
  · obtain ⟨b, l, mo, d, m, xs, rfl, _⟩ := h
    rfl
  obtain ⟨b, l, mo, d, m, xs, rfl, hd, hm1, hm16, hB, hm, hl, hne, hx1, hx8, q⟩ := h
  have hr1 := hr.mono (show 1 ≤ n + 2 by omega)
  have hr2 := hr.mono (show 2 ≤ n + 2 by omega)
  have kG := F.kp
  have cp := cd_pos d
  obtain ⟨t1, ht1, leaf⟩ : ∃ t1, PSs (cxOf CX0 P w K mg base nmDt "_law_deep_term" (defScope sDt) f cdv A outer s H E).nox leafBody t1 ∧
      ∀ (D : Ends) (H0 : Hp) (m0 : Nat), D.rt = Q → Kept b H H0 → Bag H0 b m0 → m0 ≤ m + 1 → t1 D (start nmDt [.ref b, .ref l, .int mo, .int d]) H0 := by
    refine ⟨_, pss_cons (ps_set (i := 4) scDt.nd rfl (Or.inl rfl) (pe_call T hr1 rfl mT kT bT .nil pass0 (pa_cons (pv 0) (pa_cons pe_int pa_nil))))
      (pss_cons (ps_if (pt_cmpR op_lt (pv 4) pe_int (nomark _)) (pss_one (ps_ret (pe_tup (pa_cons pe_str (pa_cons (pe_call O hr2 rfl mO kO bO .nil pass0 (pa_cons (pv 0) (pa_cons (pv 1) pa_nil))) pa_nil))))) pss_nil)
      (pss_cons (ps_if (pt_cmpR op_lt (pv 4) pe_int (nomark _)) (pss_one (ps_ret (pe_tup (pa_cons (pe_ix ix_list (pe_lst (pa_cons pe_str (pa_cons pe_str pa_nil))) (pe_op op_sub (pv 4) pe_int) (fun _ _ => rfl)) pa_nil)))) pss_nil)
      (pss_cons (ps_set (i := 5) scDt.nd rfl (Or.inl rfl) (pe_ix ix_list (pe_lst (pa_cons pe_int (pa_cons pe_int (pa_cons pe_int (pa_cons pe_int (pa_cons pe_int (pa_cons pe_int pa_nil))))))) (pe_call T hr1 rfl mT kT bT .nil pass0 (pa_cons (pv 0) (pa_cons pe_int pa_nil))) (fun _ _ => rfl)))
      (pss_one (ps_ret (pe_tup (pa_cons pe_str (pa_cons (pe_ix ix_list (pe_lst (pa_cons (pe_call T hr1 rfl mT kT bT .nil pass0 (pa_cons (pv 0) (pa_cons pe_int pa_nil))) (pa_cons (pv 5) pa_nil))) (pe_op op_sub (pv 4) pe_int) (fun _ _ => rfl)) pa_nil)))))))), ?_⟩
    intro D H0 m0 eD k0 B0 hm0
    have one : 1 ≤ max d 1 := Nat.le_max_right ..
    refine ⟨_, rfl, b, 8, m0, rfl, B0, by omega, by decide, by decide, fun d1 H1 k1 B1 d10 d11 => ?_⟩
    have kk1 := k0.trans k1
    refine ⟨_, rfl, _, _, rfl, rfl, _, rfl, ?_⟩
    refine ite2 (fun c1 => ?_) (fun c1 => ?_)
    · refine ⟨_, rfl, _, rfl, .inl ⟨b, l, xs.map V.str, _, rfl, B1, by omega, kk1 _ _ hne hl, hne, by rw [List.length_map]; exact hx1, by rw [List.length_map]; omega, fun v H2 k2 B2 hv => ?_⟩⟩
      obtain ⟨x, hx, rfl⟩ := List.mem_map.mp hv
      refine ⟨(by show 2 ≤ sizeLine; decide), fun p hp => ?_⟩
      rw [eD]
      have s := same_new hp (.tup [.str "box", .str x])
      exact q _ (.box x) _ ((kk1.trans k2).trans (.of s)) ((B2.keep s).more (by omega)) (.box upd_same) one hx
    · have c1' : ¬ d1 < 4 := of_decide_eq_false (Bool.eq_false_iff.mpr c1)
      refine ⟨_, rfl, _, _, rfl, rfl, _, rfl, ?_⟩
      refine ite2 (fun c2 => ?_) (fun c2 => ?_)
      · have c2' : d1 < 6 := of_decide_eq_true c2
        refine ⟨(by show 2 ≤ sizeLine; decide), fun p hp => ?_⟩
        have s := same_new hp (.lst [.str "asked", .str "told"])
        refine ⟨_, rfl, _, _, rfl, rfl, ?_⟩
        rcases two_ix (x := V.str "asked") (y := V.str "told") (r := d1 - 4) (by omega) (by omega) with ei | ei
        · refine ⟨p, _, _, _, rfl, rfl, SqL.of upd_same, ei, (by show 1 ≤ sizeLine; decide), fun p2 hp2 => ?_⟩
          rw [eD]
          have s2 := s.trans (same_new hp2 (.tup [.str "asked"]))
          exact q _ .asked _ (kk1.trans (.of s2)) ((B1.keep s2).more (by omega)) (.asked upd_same) one trivial
        · refine ⟨p, _, _, _, rfl, rfl, SqL.of upd_same, ei, (by show 1 ≤ sizeLine; decide), fun p2 hp2 => ?_⟩
          rw [eD]
          have s2 := s.trans (same_new hp2 (.tup [.str "told"]))
          exact q _ .told _ (kk1.trans (.of s2)) ((B1.keep s2).more (by omega)) (.told upd_same) one trivial
      · have c2' : ¬ d1 < 6 := of_decide_eq_false (Bool.eq_false_iff.mpr c2)
        refine ⟨(by show 6 ≤ sizeLine; decide), fun p hp => ?_⟩
        have s := same_new hp (.lst [.int 0, .int 1, .int 9, .int 10, .int 99, .int 999])
        refine ⟨_, rfl, b, 6, _, rfl, B1.keep s, by omega, by decide, by decide, fun d3 H3 k3 B3 d30 d31 => ?_⟩
        obtain ⟨ev, ee, ev0, ev1⟩ := edge_at d30 d31
        refine ⟨p, _, _, _, rfl, rfl, SqL.of (k3 _ _ (B1.ne hp) upd_same), ee, ?_⟩
        refine ⟨_, rfl, b, 1000, _, rfl, B3, by omega, by decide, by decide, fun d4 H4 k4 B4 d40 d41 => ?_⟩
        refine ⟨_, rfl, (by show 2 ≤ sizeLine; decide), fun p5 hp5 => ⟨_, rfl, _, _, rfl, rfl, ?_⟩⟩
        have s5 := same_new hp5 (.lst [.int d4, .int ev])
        have kk5 := kk1.trans ((Kept.of s).trans (k3.trans (k4.trans (.of s5))))
        obtain ⟨nv, en, nv0, nv1⟩ : ∃ nv : Int, atI [V.int d4, V.int ev] (d1 - 6) = some (.int nv) ∧ 0 ≤ nv ∧ nv < 1024 := by
          rcases two_ix (x := V.int d4) (y := V.int ev) (r := d1 - 6) (by omega) (by omega) with e | e
          · exact ⟨_, e, d40, by omega⟩
          · exact ⟨_, e, ev0, ev1⟩
        refine ⟨p5, _, _, _, rfl, rfl, SqL.of upd_same, en, (by show 2 ≤ sizeLine; decide), fun p6 hp6 => ?_⟩
        rw [eD]
        have s6 := same_new hp6 (.tup [.str "number", .int nv])
        exact q _ (.num nv) _ (kk5.trans (.of s6)) (((B4.keep s5).keep s6).more (by omega)) (.num upd_same) one ⟨nv0, nv1⟩
  refine ⟨_, pss_cons (ps_if (PW.pt (pw_or (pt_cmpR op_lt (pv 3) pe_int (nomark _)) (pw_or (pt_cmpR op_lt (pv 2) pe_int (nomark _)) (pw_or1 (pt_cmpR op_eq (pe_call T hr1 rfl mT kT bT .nil pass0 (pa_cons (pv 0) (pa_cons pe_int pa_nil))) pe_int (nomark _)))))) ht1 pss_nil)
    (pss_cons (ps_set (i := 6) scDt.nd rfl (Or.inl rfl) (pe_op op_add pe_int (pe_call T hr1 rfl mT kT bT .nil pass0 (pa_cons (pv 0) (pa_cons (pe_op op_sub (pv 2) pe_int) pa_nil)))))
    (pss_cons (ps_set (i := 7) scDt.nd rfl (Or.inl rfl) (pe_call O hr2 rfl mO kO bO .nil pass0 (pa_cons (pv 0) (pa_cons (pe_lst (pa_cons pe_str (pa_cons pe_str (pa_cons pe_str (pa_cons pe_str (pa_cons pe_str pa_nil)))))) pa_nil))))
    (pss_cons (ps_set (i := 8) scDt.nd rfl (Or.inl rfl) (pe_call G hr rfl mG kG bG .nil pass0 (pa_cons (pv 0) (pa_cons (pv 1) (pa_cons (pv 6) (pa_cons (pe_op op_sub (pv 3) pe_int) pa_nil))))))
    (pss_cons (ps_set (i := 9) scDt.nd rfl (Or.inl rfl) (pe_call G hr rfl mG kG bG .nil pass0 (pa_cons (pv 0) (pa_cons (pv 1) (pa_cons (pe_op op_sub (pe_op op_sub (pv 2) pe_int) (pv 6)) (pa_cons (pe_op op_sub (pv 3) pe_int) pa_nil))))))
    (pss_one (ps_ret (pe_tup (pa_cons (pv 7) (pa_cons (pv 8) (pa_cons (pv 9) pa_nil)))))))))), ?_⟩
  refine ⟨_, rfl, _, _, rfl, rfl, _, rfl, ?_⟩
  refine ite2 (fun c => ?_) (fun c => ?_)
  · exact leaf _ H m rfl .refl hB (by omega)
  have c' : ¬ (d : Int) < 2 := of_decide_eq_false (Bool.eq_false_iff.mpr c)
  refine ⟨_, rfl, _, _, rfl, rfl, _, rfl, ?_⟩
  refine ite2 (fun c2 => ?_) (fun c2 => ?_)
  · exact leaf _ H m rfl .refl hB (by omega)
  have c2' : ¬ mo < 3 := of_decide_eq_false (Bool.eq_false_iff.mpr c2)
  refine ⟨_, rfl, b, 4, m, rfl, hB, by omega, by decide, by decide, fun d1 H1 k1 B1 d10 d11 => ⟨rfl, _, rfl, ?_⟩⟩
  refine ite2 (fun c3 => ?_) (fun c3 => ?_)
  · exact leaf _ H1 (m + 1) rfl k1 B1 (Nat.le_refl _)
  obtain ⟨e, rfl⟩ : ∃ e, d = e + 1 := ⟨d - 1, by omega⟩
  have cee : cd (e + 1) = 2 * cd e + 6 := rfl
  have i1 : (((e + 1 : Nat) : Int)) - 1 = ((e : Nat) : Int) := by omega
  refine ⟨_, rfl, _, rfl, _, _, rfl, rfl, b, mo - 2, m + 1, rfl, B1, by omega, by omega, by omega, fun d2 H2 k2 B2 d20 d21 => ⟨_, _, rfl, rfl, ?_⟩⟩
  refine ⟨_, rfl, (by show 5 ≤ sizeLine; decide), fun p3 hp3 => .inl ⟨b, p3, _, _, rfl, B2.keep (same_new hp3 _), by omega, upd_same, B2.ne hp3, by decide, by decide, fun wv H4 k4 B4 hw => ?_⟩⟩
  obtain ⟨dd, rfl⟩ := word_in hw
  have kk4 : Kept b H H4 := k1.trans (k2.trans ((Kept.new hp3 _).trans k4))
  refine ⟨_, rfl, _, rfl, _, rfl, _, rfl, _, _, rfl, rfl, b, l, 1 + d2, e, _, xs, (by rw [← i1]; rfl), by omega, by omega, by omega, B4, by omega, kk4 _ _ hne hl, hne, hx1, hx8, fun v1 x1 H5 k5 B5 a1 a2 a3 => ?_⟩
  have kk5 := kk4.trans k5
  refine ⟨_, rfl, _, rfl, _, rfl, _, _, rfl, rfl, _, rfl, _, _, rfl, rfl, _, rfl, _, _, rfl, rfl, b, l, mo - 1 - (1 + d2), e, _, xs, (by rw [← i1]; rfl), by omega, by omega, by omega, B5, by omega, kk5 _ _ hne hl, hne, hx1, hx8, fun v2 x2 H6 k6 B6 b1 b2 b3 => ?_⟩
  have a1 := a1.keep (B5.tups k6)
  refine ⟨_, rfl, _, rfl, _, rfl, (by show 3 ≤ sizeLine; decide), fun p7 hp7 => ?_⟩
  have s7 := same_new hp7 (.tup [.str dd.word, v1, v2])
  refine q _ (.op dd x1 x2) _ ((kk5.trans k6).trans (.of s7)) ((B6.keep s7).more (by omega)) (.op upd_same (a1.keep (Same.tups s7)) (b1.keep (Same.tups s7))) ?_ ⟨a3, b3⟩
  show max x1.deep x2.deep + 1 ≤ max (e + 1) 1
  omega
theorem all_dt (F : Fun K "_law_deep_term" "_law_deep_term" sDt f fd) (T : FnOk P w K mg base CX0 1 t td psTk spTake) (bT : Binds K td psTk []) (kT : PySem.W.keepIn K (.ref t) = true) (mT : mg "_law_take" = some (.ref t))
    (O : FnOk P w K mg base CX0 2 o od ["_law_bag_here", "_law_some"] spOf2) (bO : Binds K od ["_law_bag_here", "_law_some"] []) (kO : PySem.W.keepIn K (.ref o) = true) (mO : mg "_law_of" = some (.ref o))
    (bG : Binds K fd psD []) (mG : mg "_law_deep_term" = some (.ref f)) : ∀ n : Nat, FnOk P w K mg base CX0 (n + 2) f fd psD (spDt n)
  | 0 => no_dt
  | n + 1 => ok_dt F T bT kT mT O bO kO mO (all_dt F T bT kT mT O bO kO mO bG mG n) bG mG
end
end Any
namespace Any
open L2 PySem PySem.Spec PyProof.Rows LamX NdefX
abbrev sDs : Stmt := top 27
abbrev nmDs : List Str := ["_law_bag_here", "_law_names_here", "_law_most", "_law_deep", "_law_way", "_law_less", "_law_first", "_law_other"]
theorem scDs : FnScope nmDs psD (defScope sDs) := ⟨rfl, rfl, rfl, by decide +kernel, rfl, by decide +kernel, by decide +kernel⟩
def ct : Nat → Nat
  | 0 => 20
  | n + 1 => 2 * ct n + 2 * cd n + 6
def spDs (n : Nat) : Sp := fun vs H Q _ => ∃ (b l : Addr) (mo : Int) (d m : Nat) (xs : List Str), vs = [.ref b, .ref l, .int mo, .int d] ∧ 1 ≤ d ∧ d < n ∧ d ≤ 6 ∧ 3 ≤ mo ∧ mo ≤ 16 ∧ Bag H b m ∧ m + ct d < 2 ^ 40 ∧ H l = some (.lst (xs.map V.str)) ∧ l ≠ b ∧ 1 ≤ xs.length ∧ xs.length ≤ 8 ∧
  ∀ (v : V) (e : Ts) (H' : Hp), Kept b H H' → Bag H' b (m + ct d) → TsAt H' v e → e.deep ≤ d → e.good xs → Q v H'
section
variable {P : Program} {w : World} {K : PySem.W.Frag} {mg : Str → Option Value} {base : Heap} {f t ex : Addr} {fd td exd : FuncData}
theorem no_ds {k : Nat} : FnOk P w K mg base CX0 k f fd psD (spDs 0) := by
  have no : ∀ vs H Q E, ¬ spDs 0 vs H Q E := fun vs H Q E h => by
    obtain ⟨b, l, mo, d, m, xs, _, _, hd, _⟩ := h
    omega
  exact ⟨fun vs H Q E h => absurd h (no vs H Q E), fun A outer s H args us vs Q E _ _ _ _ h => absurd h (no vs H Q E)⟩
theorem ok_ds {n : Nat} (F : Fun K "_law_deep_test" "_law_deep_test" sDs f fd) (T : FnOk P w K mg base CX0 1 t td psTk spTake) (bT : Binds K td psTk []) (kT : PySem.W.keepIn K (.ref t) = true) (mT : mg "_law_take" = some (.ref t))
    (X : FnOk P w K mg base CX0 9 ex exd psD (spDt 7)) (bX : Binds K exd psD []) (kX : PySem.W.keepIn K (.ref ex) = true) (mX : mg "_law_deep_term" = some (.ref ex))
    (G : FnOk P w K mg base CX0 (n + 9) f fd psD (spDs n)) (bG : Binds K fd psD []) (mG : mg "_law_deep_test" = some (.ref f)) : FnOk P w K mg base CX0 (n + 10) f fd psD (spDs (n + 1)) := by
  refine F.ok scDs (fun vs H Q E h => ?_) (fun cdv A outer s H vs Q E hr h => ?_)
  · obtain ⟨b, l, mo, d, m, xs, rfl, _⟩ := h
    rfl
  obtain ⟨b, l, mo, d, m, xs, rfl, hd1, hd, hd6, hm3, hm16, hB, hm, hl, hne, hx1, hx8, q⟩ := h
  have hr1 := hr.mono (show 1 ≤ n + 9 by omega)
  have hr9 := hr.mono (show 9 ≤ n + 9 by omega)
  have kG := F.kp
  obtain ⟨e, rfl⟩ : ∃ e, d = e + 1 := ⟨d - 1, by omega⟩
  have cee : ct (e + 1) = 2 * ct e + 2 * cd e + 6 := rfl
  have i1 : (((e + 1 : Nat) : Int)) - 1 = ((e : Nat) : Int) := by omega
  obtain ⟨t2, ht2, tail⟩ : ∃ t2, PSs (cxOf CX0 P w K mg base nmDs "_law_deep_test" (defScope sDs) f cdv A outer s H E).nox ((defBody sDs).drop 3) t2 ∧
      ∀ (D : Ends) (H1 : Hp) (way : Int), D.rt = Q → Kept b H H1 → Bag H1 b (m + 1) → 0 ≤ way → t2 D [some (.ref b), some (.ref l), some (.int mo), some (.int ((e + 1 : Nat) : Int)), some (.int way), none, none, none] H1 := by
    refine ⟨_, pss_cons (ps_set (i := 5) scDs.nd rfl (Or.inl rfl) (pe_op op_add pe_int (pe_call T hr1 rfl mT kT bT .nil pass0 (pa_cons (pv 0) (pa_cons (pe_op op_sub (pv 2) pe_int) pa_nil)))))
      (pss_cons (ps_set (i := 6) scDs.nd rfl (Or.inl rfl) (pe_call X hr9 rfl mX kX bX .nil pass0 (pa_cons (pv 0) (pa_cons (pv 1) (pa_cons (pv 5) (pa_cons (pe_op op_sub (pv 3) pe_int) pa_nil))))))
      (pss_cons (ps_set (i := 7) scDs.nd rfl (Or.inl rfl) (pe_call X hr9 rfl mX kX bX .nil pass0 (pa_cons (pv 0) (pa_cons (pv 1) (pa_cons (pe_op op_sub (pe_op op_sub (pv 2) pe_int) (pv 5)) (pa_cons (pe_op op_sub (pv 3) pe_int) pa_nil))))))
      (pss_one (ps_ret (pe_tup (pa_cons (pe_ix ix_list (pe_lst (pa_cons pe_str (pa_cons pe_str pa_nil))) (pe_op op_mod (pv 4) pe_int) (fun _ _ => rfl)) (pa_cons (pv 6) (pa_cons (pv 7) pa_nil)))))))), ?_⟩
    intro D H1 way eD k1 B1 hw
    refine ⟨_, rfl, _, rfl, _, _, rfl, rfl, b, mo - 2, m + 1, rfl, B1, by omega, by omega, by omega, fun d2 H2 k2 B2 d20 d21 => ⟨_, _, rfl, rfl, ?_⟩⟩
    have kk2 := k1.trans k2
    refine ⟨_, rfl, _, rfl, _, rfl, _, rfl, _, _, rfl, rfl, b, l, 1 + d2, e, _, xs, (by rw [← i1]; rfl), by omega, by omega, by omega, B2, by omega, kk2 _ _ hne hl, hne, hx1, hx8, fun v1 x1 H3 k3 B3 a1 a2 a3 => ?_⟩
    have kk3 := kk2.trans k3
    refine ⟨_, rfl, _, rfl, _, rfl, _, _, rfl, rfl, _, rfl, _, _, rfl, rfl, _, rfl, _, _, rfl, rfl, b, l, mo - 1 - (1 + d2), e, _, xs, (by rw [← i1]; rfl), by omega, by omega, by omega, B3, by omega, kk3 _ _ hne hl, hne, hx1, hx8, fun v2 x2 H4 k4 B4 b1 b2 b3 => ?_⟩
    have kk4 := kk3.trans k4
    have a1 := a1.keep (B3.tups k4)
    refine ⟨(by show 2 ≤ sizeLine; decide), fun p6 hp6 => ⟨_, rfl, _, _, rfl, rfl, (by show (0 : Int) < 2; decide), ?_⟩⟩
    have s6 := same_new hp6 (.lst [.str "is", .str "below"])
    rcases two_ix (x := V.str "is") (y := V.str "below") (r := way % 2) (by omega) (by omega) with ei | ei
    · refine ⟨p6, _, _, _, rfl, rfl, SqL.of upd_same, ei, _, rfl, _, rfl, (by show 3 ≤ sizeLine; decide), fun p7 hp7 => ?_⟩
      rw [eD]
      have s7 := same_new hp7 (.tup [.str "is", v1, v2])
      exact q _ (.is x1 x2) _ ((kk4.trans (.of s6)).trans (.of s7)) (((B4.keep s6).keep s7).more (by omega)) (.is upd_same ((a1.keep (Same.tups s6)).keep (Same.tups s7)) ((b1.keep (Same.tups s6)).keep (Same.tups s7))) (by show 1 ≤ e + 1; omega) ⟨⟨a3, by omega⟩, ⟨b3, by omega⟩⟩
    · refine ⟨p6, _, _, _, rfl, rfl, SqL.of upd_same, ei, _, rfl, _, rfl, (by show 3 ≤ sizeLine; decide), fun p7 hp7 => ?_⟩
      rw [eD]
      have s7 := same_new hp7 (.tup [.str "below", v1, v2])
      exact q _ (.bel x1 x2) _ ((kk4.trans (.of s6)).trans (.of s7)) (((B4.keep s6).keep s7).more (by omega)) (.bel upd_same ((a1.keep (Same.tups s6)).keep (Same.tups s7)) ((b1.keep (Same.tups s6)).keep (Same.tups s7))) (by show 1 ≤ e + 1; omega) ⟨⟨a3, by omega⟩, ⟨b3, by omega⟩⟩
  obtain ⟨t3, ht3, tail3⟩ : ∃ t3, PSs (cxOf CX0 P w K mg base nmDs "_law_deep_test" (defScope sDs) f cdv A outer s H E).nox ((defBody sDs).drop 2) t3 ∧
      ∀ (D : Ends) (H1 : Hp) (way : Int), D.rt = Q → Kept b H H1 → Bag H1 b (m + 1) → 0 ≤ way → t3 D [some (.ref b), some (.ref l), some (.int mo), some (.int ((e + 1 : Nat) : Int)), some (.int way), none, none, none] H1 := by
    refine ⟨_, pss_cons (ps_if (PW.pt (pw_and (pt_cmpR op_lt (pv 4) pe_int (nomark _)) (pw_and (pt_cmpR op_gt (pv 3) pe_int (nomark _)) (pw_and1 (pt_cmpR op_gt (pv 2) pe_int (nomark _))))))
        (pss_cons (ps_set (i := 5) scDs.nd rfl (Or.inl rfl) (pe_op op_add pe_int (pe_call T hr1 rfl mT kT bT .nil pass0 (pa_cons (pv 0) (pa_cons (pe_op op_sub (pv 2) pe_int) pa_nil)))))
        (pss_cons (ps_set (i := 6) scDs.nd rfl (Or.inl rfl) (pe_call G hr rfl mG kG bG .nil pass0 (pa_cons (pv 0) (pa_cons (pv 1) (pa_cons (pv 5) (pa_cons (pe_op op_sub (pv 3) pe_int) pa_nil))))))
        (pss_cons (ps_set (i := 7) scDs.nd rfl (Or.inl rfl) (pe_call G hr rfl mG kG bG .nil pass0 (pa_cons (pv 0) (pa_cons (pv 1) (pa_cons (pe_op op_sub (pe_op op_sub (pv 2) pe_int) (pv 5)) (pa_cons (pe_op op_sub (pv 3) pe_int) pa_nil))))))
        (pss_one (ps_ret (pe_tup (pa_cons (pe_ix ix_list (pe_lst (pa_cons pe_str (pa_cons pe_str pa_nil))) (pe_op op_mod (pv 4) pe_int) (fun _ _ => rfl)) (pa_cons (pv 6) (pa_cons (pv 7) pa_nil)))))))))
        pss_nil) ht2, ?_⟩
    intro D H1 way eD k1 B1 hw
    refine ⟨_, rfl, _, _, rfl, rfl, _, rfl, ?_⟩
    refine ite2 (fun c1 => ?_) (fun c1 => tail _ H1 way eD k1 B1 hw)
    refine ⟨_, rfl, _, _, rfl, rfl, _, rfl, ?_⟩
    refine ite2 (fun c2 => ?_) (fun c2 => tail _ H1 way eD k1 B1 hw)
    refine ⟨_, rfl, _, _, rfl, rfl, _, rfl, ?_⟩
    refine ite2 (fun c3 => ?_) (fun c3 => tail _ H1 way eD k1 B1 hw)
    have c2' : (2 : Int) < ((e + 1 : Nat) : Int) := of_decide_eq_true c2
    have c3' : (6 : Int) < mo := of_decide_eq_true c3
    refine ⟨_, rfl, _, rfl, _, _, rfl, rfl, b, mo - 6, m + 1, rfl, B1, by omega, by omega, by omega, fun d2 H2 k2 B2 d20 d21 => ⟨_, _, rfl, rfl, ?_⟩⟩
    have kk2 := k1.trans k2
    refine ⟨_, rfl, _, rfl, _, rfl, _, rfl, _, _, rfl, rfl, b, l, 3 + d2, e, _, xs, (by rw [← i1]; rfl), by omega, by omega, by omega, by omega, by omega, B2, by omega, kk2 _ _ hne hl, hne, hx1, hx8, fun v1 x1 H3 k3 B3 a1 a2 a3 => ?_⟩
    have kk3 := kk2.trans k3
    refine ⟨_, rfl, _, rfl, _, rfl, _, _, rfl, rfl, _, rfl, _, _, rfl, rfl, _, rfl, _, _, rfl, rfl, b, l, mo - 1 - (3 + d2), e, _, xs, (by rw [← i1]; rfl), by omega, by omega, by omega, by omega, by omega, B3, by omega, kk3 _ _ hne hl, hne, hx1, hx8, fun v2 x2 H4 k4 B4 b1 b2 b3 => ?_⟩
    have kk4 := kk3.trans k4
    have a1 := a1.keep (B3.tups k4)
    refine ⟨(by show 2 ≤ sizeLine; decide), fun p6 hp6 => ⟨_, rfl, _, _, rfl, rfl, (by show (0 : Int) < 2; decide), ?_⟩⟩
    have s6 := same_new hp6 (.lst [.str "both", .str "either"])
    rcases two_ix (x := V.str "both") (y := V.str "either") (r := way % 2) (by omega) (by omega) with ei | ei
    · refine ⟨p6, _, _, _, rfl, rfl, SqL.of upd_same, ei, _, rfl, _, rfl, (by show 3 ≤ sizeLine; decide), fun p7 hp7 => ?_⟩
      rw [eD]
      have s7 := same_new hp7 (.tup [.str "both", v1, v2])
      exact q _ (.both x1 x2) _ ((kk4.trans (.of s6)).trans (.of s7)) (((B4.keep s6).keep s7).more (by omega)) (.both upd_same ((a1.keep (Same.tups s6)).keep (Same.tups s7)) ((b1.keep (Same.tups s6)).keep (Same.tups s7))) (by show max x1.deep x2.deep + 1 ≤ e + 1; omega) ⟨a3, b3⟩
    · refine ⟨p6, _, _, _, rfl, rfl, SqL.of upd_same, ei, _, rfl, _, rfl, (by show 3 ≤ sizeLine; decide), fun p7 hp7 => ?_⟩
      rw [eD]
      have s7 := same_new hp7 (.tup [.str "either", v1, v2])
      exact q _ (.either x1 x2) _ ((kk4.trans (.of s6)).trans (.of s7)) (((B4.keep s6).keep s7).more (by omega)) (.either upd_same ((a1.keep (Same.tups s6)).keep (Same.tups s7)) ((b1.keep (Same.tups s6)).keep (Same.tups s7))) (by show max x1.deep x2.deep + 1 ≤ e + 1; omega) ⟨a3, b3⟩
  refine ⟨_, pss_cons (ps_set (i := 4) scDs.nd rfl (Or.inl rfl) (pe_call T hr1 rfl mT kT bT .nil pass0 (pa_cons (pv 0) (pa_cons pe_int pa_nil))))
    (pss_cons (ps_if (PW.pt (pw_and (pt_cmpR op_eq (pv 4) pe_int (nomark _)) (pw_and (pt_cmpR op_gt (pv 3) pe_int (nomark _)) (pw_and1 (pt_cmpR op_gt (pv 2) pe_int (nomark _))))))
      (pss_one (ps_ret (pe_tup (pa_cons pe_str (pa_cons (pe_call G hr rfl mG kG bG .nil pass0 (pa_cons (pv 0) (pa_cons (pv 1) (pa_cons (pe_op op_sub (pv 2) pe_int) (pa_cons (pe_op op_sub (pv 3) pe_int) pa_nil))))) pa_nil))))) pss_nil) ht3), ?_⟩
  refine ⟨_, rfl, b, 6, m, rfl, hB, by omega, by decide, by decide, fun d1 H1 k1 B1 d10 d11 => ?_⟩
  refine ⟨_, rfl, rfl, _, rfl, ?_⟩
  refine ite2 (fun c1 => ?_) (fun c1 => tail3 _ H1 d1 rfl k1 B1 d10)
  refine ⟨_, rfl, _, _, rfl, rfl, _, rfl, ?_⟩
  refine ite2 (fun c2 => ?_) (fun c2 => tail3 _ H1 d1 rfl k1 B1 d10)
  refine ⟨_, rfl, _, _, rfl, rfl, _, rfl, ?_⟩
  refine ite2 (fun c3 => ?_) (fun c3 => tail3 _ H1 d1 rfl k1 B1 d10)
  have c2' : (2 : Int) < ((e + 1 : Nat) : Int) := of_decide_eq_true c2
  have c3' : (3 : Int) < mo := of_decide_eq_true c3
  refine ⟨_, rfl, _, rfl, _, rfl, _, _, rfl, rfl, _, rfl, _, _, rfl, rfl, b, l, mo - 1, e, _, xs, (by rw [← i1]; rfl), by omega, by omega, by omega, by omega, by omega, B1, by omega, k1 _ _ hne hl, hne, hx1, hx8, fun v1 x1 H3 k3 B3 a1 a2 a3 => ?_⟩
  refine ⟨(by show 2 ≤ sizeLine; decide), fun p5 hp5 => ?_⟩
  have s5 := same_new hp5 (.tup [.str "not", v1])
  exact q _ (.nt x1) _ ((k1.trans k3).trans (.of s5)) ((B3.keep s5).more (by omega)) (.nt upd_same (a1.keep (Same.tups s5))) (by show x1.deep + 1 ≤ e + 1; omega) a3
theorem all_ds (F : Fun K "_law_deep_test" "_law_deep_test" sDs f fd) (T : FnOk P w K mg base CX0 1 t td psTk spTake) (bT : Binds K td psTk []) (kT : PySem.W.keepIn K (.ref t) = true) (mT : mg "_law_take" = some (.ref t))
    (X : FnOk P w K mg base CX0 9 ex exd psD (spDt 7)) (bX : Binds K exd psD []) (kX : PySem.W.keepIn K (.ref ex) = true) (mX : mg "_law_deep_term" = some (.ref ex)) (bG : Binds K fd psD []) (mG : mg "_law_deep_test" = some (.ref f)) :
    ∀ n : Nat, FnOk P w K mg base CX0 (n + 9) f fd psD (spDs n)
  | 0 => no_ds
  | n + 1 => ok_ds F T bT kT mT X bX kX mX (all_ds F T bT kT mT X bX kX mX bG mG n) bG mG
end
end Any
namespace Any
open L2 PySem PySem.Spec PyProof.Rows LamX NdefX
/-! ### dicts of names, a name perhaps twice -/
theorem put_bx (a : List (Str × Int)) (k : Str) (v : Int) : ∃ a' : List (Str × Int), putK (bx a) (Sum.inr k) (.int v) = bx a' ∧ (∀ x ∈ a.map (·.1), x ∈ a'.map (·.1)) ∧ k ∈ a'.map (·.1) ∧ ∀ p ∈ a', p.2 = v ∨ p ∈ a := by
  by_cases h : ((bx a).any fun kv => decide (kv.1 = (Sum.inr k : Key))) = true
  · refine ⟨a.map fun p => if p.1 = k then (p.1, v) else p, ?_, ?_, ?_, ?_⟩
    · unfold putK
      rw [if_pos h]
      unfold bx
      rw [List.map_map, List.map_map]
      apply List.map_congr_left
      intro p _
      show (if (Sum.inr p.1 : Key) = Sum.inr k then ((Sum.inr p.1 : Key), V.int v) else (Sum.inr p.1, V.int p.2)) = _
      by_cases e : p.1 = k
      · rw [if_pos (by rw [e])]
        show _ = ((Sum.inr (if p.1 = k then (p.1, v) else p).1 : Key), V.int (if p.1 = k then (p.1, v) else p).2)
        rw [if_pos e]
      · rw [if_neg (fun z => e (Sum.inr.inj z))]
        show _ = ((Sum.inr (if p.1 = k then (p.1, v) else p).1 : Key), V.int (if p.1 = k then (p.1, v) else p).2)
        rw [if_neg e]
    · intro x hx
      obtain ⟨p, hp, rfl⟩ := List.mem_map.mp hx
      refine List.mem_map.mpr ⟨_, List.mem_map.mpr ⟨p, hp, rfl⟩, ?_⟩
      split <;> rfl
    · obtain ⟨q, hq, e⟩ := List.any_eq_true.mp h
      obtain ⟨p, hp, rfl⟩ := List.mem_map.mp hq
      have e' : p.1 = k := Sum.inr.inj (of_decide_eq_true e)
      refine List.mem_map.mpr ⟨_, List.mem_map.mpr ⟨p, hp, rfl⟩, ?_⟩
      rw [if_pos e']
      exact e'
    · intro p hp
      obtain ⟨p', hp', rfl⟩ := List.mem_map.mp hp
      split
      · exact .inl rfl
      · exact .inr hp'
  · refine ⟨a ++ [(k, v)], ?_, ?_, ?_, ?_⟩
    · unfold putK
      rw [if_neg h]
      unfold bx
      rw [List.map_append]
      rfl
    · intro x hx
      rw [List.map_append]
      exact List.mem_append_left _ hx
    · rw [List.map_append]
      exact List.mem_append_right _ (List.mem_singleton.mpr rfl)
    · intro p hp
      rcases List.mem_append.mp hp with hp | hp
      · exact .inr hp
      · rw [List.mem_singleton.mp hp]
        exact .inl rfl
theorem merge_bx2 : ∀ (b a : List (Str × Int)), (∀ p ∈ a, 0 ≤ p.2 ∧ p.2 < 1024) → (∀ p ∈ b, 0 ≤ p.2 ∧ p.2 < 1024) → ∃ c : List (Str × Int), mergeK (bx a) (bx b) = bx c ∧ (∀ x ∈ a.map (·.1), x ∈ c.map (·.1)) ∧ (∀ x ∈ b.map (·.1), x ∈ c.map (·.1)) ∧ ∀ p ∈ c, 0 ≤ p.2 ∧ p.2 < 1024
  | [], a, ha, _ => ⟨a, rfl, (fun _ h => h), (fun _ h => by cases h), ha⟩
  | p :: r, a, ha, hb => by
    obtain ⟨a', e1, k1, k2, k3⟩ := put_bx a p.1 p.2
    have ha' : ∀ q ∈ a', 0 ≤ q.2 ∧ q.2 < 1024 := fun q hq => by
      rcases k3 q hq with e | e
      · rw [e]; exact hb p List.mem_cons_self
      · exact ha q e
    obtain ⟨c, e2, l1, l2, l3⟩ := merge_bx2 r a' ha' (fun q hq => hb q (List.mem_cons_of_mem _ hq))
    refine ⟨c, ?_, fun x hx => l1 x (k1 x hx), fun x hx => ?_, l3⟩
    · show mergeK (putK (bx a) (Sum.inr p.1) (.int p.2)) (bx r) = bx c
      rw [e1, e2]
    · rcases List.mem_cons.mp hx with rfl | hx
      · exact l1 _ k2
      · exact l2 _ hx
theorem look_all {x : Str} : ∀ {kvs : List (Str × Int)}, x ∈ kvs.map (·.1) → ∃ p ∈ kvs, look kvs x = some p.2
  | p :: r, h => by
    unfold look
    rw [List.find?_cons]
    by_cases e : p.1 = x
    · rw [decide_eq_true e]
      exact ⟨p, List.mem_cons_self, rfl⟩
    · rw [decide_eq_false e]
      rcases List.mem_cons.mp h with h | h
      · exact absurd h.symm e
      · obtain ⟨q, hq, e2⟩ := look_all h
        exact ⟨q, List.mem_cons_of_mem _ hq, e2⟩
theorem dict_of {kvs : List (Str × Int)} {xs : List Str} (e : kvs.map (·.1) = xs) (h : ∀ p ∈ kvs, 0 ≤ p.2 ∧ p.2 < 1024) : ∃ c, mergeK [] (bx kvs) = bx c ∧ Bx c xs := by
  obtain ⟨c, e1, _, l2, l3⟩ := merge_bx2 kvs [] (fun p hp => by cases hp) h
  refine ⟨c, e1, ⟨fun x hx => ?_⟩⟩
  obtain ⟨p, hp, e2⟩ := look_all (l2 x (e ▸ hx))
  exact ⟨p.2, e2, l3 p hp⟩
/-! ### sizes of texts -/
theorem Ex.fine_of {xs : List Str} (h : ∀ x ∈ xs, Nam x) : ∀ {e : Ex}, e.good xs → e.fine
  | .num _, g => g
  | .box x, g => h x g
  | .asked, _ => trivial
  | .told, _ => trivial
  | .op _ _ _, g => ⟨Ex.fine_of h g.1, Ex.fine_of h g.2⟩
theorem Ts.fine_of {xs : List Str} (h : ∀ x ∈ xs, Nam x) : ∀ {t : Ts}, t.good xs → t.fine
  | .is _ _, g => ⟨Ex.fine_of h g.1.1, Ex.fine_of h g.2.1⟩
  | .bel _ _, g => ⟨Ex.fine_of h g.1.1, Ex.fine_of h g.2.1⟩
  | .nt t, g => Ts.fine_of h (t := t) g
  | .both _ _, g => ⟨Ts.fine_of h g.1, Ts.fine_of h g.2⟩
  | .either _ _, g => ⟨Ts.fine_of h g.1, Ts.fine_of h g.2⟩
theorem Ts.low_of {xs : List Str} : ∀ {t : Ts}, t.good xs → t.low
  | .is _ _, g => ⟨g.1.2, g.2.2⟩
  | .bel _ _, g => ⟨g.1.2, g.2.2⟩
  | .nt t, g => Ts.low_of (xs := xs) (t := t) g
  | .both _ _, g => ⟨Ts.low_of g.1, Ts.low_of g.2⟩
  | .either _ _, g => ⟨Ts.low_of g.1, Ts.low_of g.2⟩
theorem ex_len : ∀ {e : Ex}, e.fine → (exL e).length + 8 ≤ 17 * e.size
  | .num n, h => by have := (num_ok h.1 h.2).2.2.1; show (numL n).length + 8 ≤ 17 * 1; omega
  | .box x, h => by have := h.len; show x.cps.toList.length + 8 ≤ 17 * 1; simp; omega
  | .asked, _ => by decide
  | .told, _ => by decide
  | .op d l r, h => by
    have h1 := ex_len h.1
    have h2 := ex_len h.2
    have h3 : d.sign.length ≤ 4 := by cases d <;> decide
    rw [op_len]
    show _ ≤ 17 * (l.size + r.size)
    omega
theorem ex_sz {e : Ex} (h : e.fine) (hd : e.deep ≤ 6) : (exL e).length ≤ 1088 := by
  have h1 := ex_len h
  have h2 := e.size_le
  have h3 : 2 ^ e.deep ≤ 2 ^ 6 := Nat.pow_le_pow_right (by decide) hd
  omega
theorem bin_len (l r s : List Nat) : (40 :: (l ++ 32 :: (s ++ 32 :: (r ++ [41])))).length = l.length + r.length + s.length + 4 := by
  simp only [List.length_cons, List.length_append, List.length_nil]
  omega
theorem ts_len : ∀ {t : Ts}, t.fine → t.low → (tsL t).length + 10 ≤ 2300 * 2 ^ t.deep
  | .is l r, h, g => by
    have h1 := ex_sz h.1 g.1
    have h2 := ex_sz h.2 g.2
    show (40 :: (exL l ++ 32 :: (cs "==" ++ 32 :: (exL r ++ [41])))).length + 10 ≤ 2300 * 2 ^ 1
    rw [bin_len]
    have : (cs "==").length = 2 := rfl
    omega
  | .bel l r, h, g => by
    have h1 := ex_sz h.1 g.1
    have h2 := ex_sz h.2 g.2
    show (40 :: (exL l ++ 32 :: (cs "<" ++ 32 :: (exL r ++ [41])))).length + 10 ≤ 2300 * 2 ^ 1
    rw [bin_len]
    have : (cs "<").length = 1 := rfl
    omega
  | .nt t, h, g => by
    have h1 := ts_len (t := t) h g
    show (40 :: (cs "not" ++ 32 :: (tsL t ++ [41]))).length + 10 ≤ 2300 * 2 ^ (t.deep + 1)
    simp only [List.length_cons, List.length_append, List.length_nil]
    have : (cs "not").length = 3 := rfl
    rw [Nat.pow_succ]
    have : 0 < 2 ^ t.deep := Nat.pow_pos (by decide)
    omega
  | .both t u, h, g => by
    have h1 := ts_len h.1 g.1
    have h2 := ts_len h.2 g.2
    show (40 :: (tsL t ++ 32 :: (cs "and" ++ 32 :: (tsL u ++ [41])))).length + 10 ≤ 2300 * 2 ^ (max t.deep u.deep + 1)
    rw [bin_len, Nat.pow_succ]
    have : (cs "and").length = 3 := rfl
    have a : 2 ^ t.deep ≤ 2 ^ max t.deep u.deep := Nat.pow_le_pow_right (by decide) (Nat.le_max_left ..)
    have b : 2 ^ u.deep ≤ 2 ^ max t.deep u.deep := Nat.pow_le_pow_right (by decide) (Nat.le_max_right ..)
    omega
  | .either t u, h, g => by
    have h1 := ts_len h.1 g.1
    have h2 := ts_len h.2 g.2
    show (40 :: (tsL t ++ 32 :: (cs "or" ++ 32 :: (tsL u ++ [41])))).length + 10 ≤ 2300 * 2 ^ (max t.deep u.deep + 1)
    rw [bin_len, Nat.pow_succ]
    have : (cs "or").length = 2 := rfl
    have a : 2 ^ t.deep ≤ 2 ^ max t.deep u.deep := Nat.pow_le_pow_right (by decide) (Nat.le_max_left ..)
    have b : 2 ^ u.deep ≤ 2 ^ max t.deep u.deep := Nat.pow_le_pow_right (by decide) (Nat.le_max_right ..)
    omega
theorem ts_sz {t : Ts} (h : t.fine) (g : t.low) (hd : t.deep ≤ 6) : Sz (tsL t) := by
  have h1 := ts_len h g
  have h3 : 2 ^ t.deep ≤ 2 ^ 6 := Nat.pow_le_pow_right (by decide) hd
  unfold Sz
  omega
theorem paired_snoc {α β : Type} {R : α → β → Prop} {a : α} {b : β} (h : R a b) : ∀ {l : List α} {m : List β}, Paired R l m → Paired R (l ++ [a]) (m ++ [b])
  | _, _, .nil => .cons h .nil
  | _, _, .cons r t => .cons r (paired_snoc h t)
theorem paired_bx {K : PySem.W.Frag} {H : Hp} : ∀ {ps : List Addr} {kvs : List (Str × Int)}, Paired (fun p kv => H p = some (.tup [.str kv.1, .int kv.2])) ps kvs → Paired (fun p kv => SqT K H p [kV kv.1, kv.2]) ps (bx kvs)
  | _, _, .nil => .nil
  | _, _, .cons r t => .cons (SqT.of r) (paired_bx t)
def rB (k : Bool) : Str := if k then "True" else "False"
theorem call_repr_bl {X : Cx} : CallR X (.builtin "repr") (fun xs H Q => ∃ k, xs = [.bl k] ∧ Q (.str (rB k)) H) := by
  intro pins s σ H xs us Q I r h
  obtain ⟨k, rfl, q⟩ := h
  obtain ⟨u, rfl, ru⟩ := vals1 r
  cases ru
  exact PySem.P.repr_of_bool ⟨.str (rB k), H, I.tok _, ⟨_, by cases k <;> rfl⟩, q⟩
abbrev kwsW : List (Str × V) := [("asked", .int 0), ("told", .int 0)]
section
variable {P : Program} {w : World} {K : PySem.W.Frag} {mg : Str → Option Value} {base : Heap} {f : Addr} {fd : FuncData}
theorem kw_plain (F : FunD K "worth" "worth" (defArgs sWorth) (defBody sWorth) (defScope sWorth) [] kwsW f fd) : ∃ ds, Vals [.int 0, .int 0] ds ∧ Binds K fd ["expression", "boxes", "asked", "told"] ds := by
  refine F.binds0 2 (by decide) rfl fun D doc pm an cdv ct us ks l1 l2 => ?_
  match us, ks, l1, l2 with
  | [u1, u2], [w1, w2], _, _ => exact ⟨_, _, _, _, _, _, rfl, rfl, _, _, _, _, _, _, rfl, rfl, rfl⟩
theorem kh_turned {kws : List (Str × V)} (F : FunD K "holds" "holds" (defArgs sHolds) (defBody sHolds) (defScope sHolds) [] kws f fd) : KBn K fd psH 2 ["told", "asked"] (fun us ws => us ++ ws.reverse) (fun us ws => us ++ ws.reverse) := by
  obtain ⟨oc, od, dV, kV, doc, pm, an, cdv, ct, osl, rfl, lk, hcd, hD, hK⟩ := F.ex
  have hd : dV = .none := hD.elim (fun z => z.2) (fun z => absurd rfl z.1)
  subst hd
  refine ⟨fun s us ws _ l1 l2 => ?_, fun r1 r2 => r1.append r2.reverse⟩
  match us, ws, l1, l2 with
  | [u1, u2], [w1, w2], _, _ => exact .of_eq rfl
theorem kh_told (F : FunD K "holds" "holds" (defArgs sHolds) (defBody sHolds) (defScope sHolds) [] kwsW f fd) : ∃ mv : List Value, KBn K fd psH 2 ["told"] (fun us ws => us ++ (mv ++ ws)) (fun vs zs => vs ++ ([.int 0] ++ zs)) := by
  refine F.kbinds0 2 ["told"] [("asked", .int 0)] (fun us mv ws => us ++ (mv ++ ws)) (by decide) (fun q hq => by rw [List.mem_singleton.mp hq]; exact List.mem_cons_self) (fun r1 r2 r3 => r1.append (r2.append r3)) fun D doc pm an cdv ct us mv ws l1 l2 l3 => ?_
  match us, mv, ws, l1, l2, l3 with
  | [u1, u2], [m1], [w1], _, _, _ => exact ⟨_, _, _, _, _, _, rfl, rfl, rfl⟩
end
end Any
namespace Any
open L2 PySem PySem.Spec PyProof.Rows LamX NdefX
abbrev sAre : Stmt := top 28
abbrev nmAre : List Str := ["_law_bag_here", "_law_names_here", "_law_term", "_law_test", "_law_again", "_law_few", "_law_jars", "_law_number", "_law_said", "_law_due", "_law_name"]
abbrev psA : List Str := ["_law_bag_here", "_law_names_here", "_law_term", "_law_test"]
theorem scAre : FnScope nmAre psA (defScope sAre) := ⟨rfl, rfl, rfl, by decide +kernel, rfl, by decide +kernel, by decide +kernel⟩
theorem Gr.seq {T : List NTab} {K : PySem.W.Frag} {H H' : Hp} (g : Gr T H H') {a : Addr} {xs : List V} (h : SqL K H a xs) : SqL K H' a xs := by
  rcases h with (h | ⟨o, h⟩) | h
  · exact .inl (.inl (g.lst h))
  · exact .inl (.inr ⟨o, g.ext _ _ h fun _ z => by cases z⟩)
  · exact .inr h
theorem Bag.gr {T : List NTab} {H H' : Hp} {b : Addr} {n : Nat} (h : Bag H b n) (g : Gr T H H') : Bag H' b n := by
  obtain ⟨x, y, z, h1, h2⟩ := h
  exact ⟨x, y, z, g.lst h1, h2⟩
theorem tabs_kept {T : List NTab} {b : Addr} {H H' : Hp} {xs : List V} (t : TabsN T H) (hb : H b = some (.lst xs)) (k : Kept b H H') : TabsN T H' := fun p hp => by
  obtain ⟨ps, h1, h2, h3⟩ := t p hp
  refine ⟨ps, k _ _ (ne_of h1 hb (by intro z; cases z)) h1, h2, fun pos cv hc => ?_⟩
  obtain ⟨c, e1, e2⟩ := h3 pos cv hc
  exact ⟨c, e1, k _ _ (ne_of e2 hb (by unfold CodeO; intro z; cases z)) e2⟩
theorem gr_kept {T : List NTab} {b : Addr} {H0 H1 H2 : Hp} {m : Nat} (g : Gr T H0 H1) (n : H0 b = none) (B : Bag H1 b m) (k : Kept b H1 H2) : Gr T H0 H2 := by
  obtain ⟨xs, hb⟩ := B.lst
  refine ⟨fun a o h nt => k a o (ne_of_none h n) (g.ext a o h nt), fun c z => ?_, tabs_kept g.tabs hb k⟩
  by_cases e : c = b
  · rw [e]
    exact n
  · refine g.no c ?_
    cases q : H1 c with
    | none => rfl
    | some o => rw [k c o e q] at z; cases z
/-- as heaps grow, one object aside -/
structure Kg (T : List NTab) (b : Addr) (H H' : Hp) : Prop where
  ext : ∀ a o, a ≠ b → H a = some o → (∀ ps, o ≠ .tbl ps) → H' a = some o
  no : ∀ a, a ≠ b → H' a = none → H a = none
  tabs : TabsN T H'
section
variable {T : List NTab} {b : Addr} {H H1 H2 : Hp}
theorem tabs_keptO {o : HO} (t : TabsN T H) (hb : H b = some o) (n1 : ∀ ps, o ≠ .tbl ps) (n2 : ∀ c x, o ≠ CodeO c x) (k : Kept b H H1) : TabsN T H1 := fun p hp => by
  obtain ⟨ps, h1, h2, h3⟩ := t p hp
  refine ⟨ps, k _ _ (ne_of h1 hb (fun z => n1 _ z.symm)) h1, h2, fun pos cv hc => ?_⟩
  obtain ⟨c, e1, e2⟩ := h3 pos cv hc
  exact ⟨c, e1, k _ _ (ne_of e2 hb (fun z => n2 _ _ z.symm)) e2⟩
theorem kept_no (k : Kept b H H1) : ∀ a, a ≠ b → H1 a = none → H a = none := fun a n z => by
  cases q : H a with
  | none => rfl
  | some o => rw [k a o n q] at z; cases z
theorem Kg.of (g : Gr T H H1) : Kg T b H H1 := ⟨fun a o _ h n => g.ext a o h n, fun a _ z => g.no a z, g.tabs⟩
theorem Kg.refl (t : TabsN T H) : Kg T b H H := .of (.refl t)
theorem Kg.trans (k : Kg T b H H1) (g : Kg T b H1 H2) : Kg T b H H2 := ⟨fun a o n h m => g.ext a o n (k.ext a o n h m) m, fun a n z => k.no a n (g.no a n z), g.tabs⟩
theorem Kg.gr (k : Kg T b H H1) (g : Gr T H1 H2) : Kg T b H H2 := k.trans (.of g)
theorem Kg.same (k : Kg T b H H1) (s : Same H1 H2) : Kg T b H H2 := k.gr (.of k.tabs s)
theorem Kg.kept {m : Nat} (k : Kg T b H H1) (B : Bag H1 b m) (g : Kept b H1 H2) : Kg T b H H2 := by
  obtain ⟨xs, hb⟩ := B.lst
  exact k.trans ⟨fun a o n h _ => g a o n h, kept_no g, tabs_kept k.tabs hb g⟩
theorem Kg.lst (k : Kg T b H H1) {a : Addr} {xs : List V} (n : a ≠ b) (h : H a = some (.lst xs)) : H1 a = some (.lst xs) := k.ext _ _ n h fun _ z => by cases z
theorem Kg.dK (k : Kg T b H H1) {a : Addr} {xs : List (Key × V)} (n : a ≠ b) (h : H a = some (.dK xs)) : H1 a = some (.dK xs) := k.ext _ _ n h fun _ z => by cases z
theorem Bag.kgt {m : Nat} (B : Bag H b m) (k : Kg T b H H1) : Tups H H1 := fun a ts h => by
  obtain ⟨xs, hb⟩ := B.lst
  exact k.ext _ _ (ne_of h hb (by intro z; cases z)) h fun _ z => by cases z
theorem gr_kg {H0 : Hp} (g : Gr T H0 H1) (n : H0 b = none) (k : Kg T b H1 H2) : Gr T H0 H2 := by
  refine ⟨fun a o h nt => k.ext a o (ne_of_none h n) (g.ext a o h nt) nt, fun c z => ?_, k.tabs⟩
  by_cases e : c = b
  · rw [e]
    exact n
  · exact g.no c (k.no c e z)
theorem gr_keptO {H0 : Hp} {o : HO} (g : Gr T H0 H1) (n : H0 b = none) (hb : H1 b = some o) (n1 : ∀ ps, o ≠ .tbl ps) (n2 : ∀ c x, o ≠ CodeO c x) (k : Kept b H1 H2) : Gr T H0 H2 :=
  gr_kg g n ⟨fun a o m h _ => k a o m h, kept_no k, tabs_keptO g.tabs hb n1 n2 k⟩
end
def spAre (T : List NTab) : Sp := fun vs H Q _ => ∃ (b l : Addr) (v u : V) (m : Nat) (xs : List Str) (e : Ex) (t : Ts), vs = [.ref b, .ref l, v, u] ∧ Bag H b m ∧ m + 40 < 2 ^ 40 ∧ H l = some (.lst (xs.map V.str)) ∧ l ≠ b ∧ xs.length ≤ 8 ∧ (∀ x ∈ xs, Nam x) ∧
  ExAt H v e ∧ e.deep ≤ 6 ∧ e.good xs ∧ TsAt H u t ∧ t.deep ≤ 6 ∧ t.good xs ∧ TabsN T H ∧ ∀ H', Kg T b H H' → Bag H' b (m + 40) → Q (.bl true) H'
theorem few_at {i : Nat} (h : i < 3) : ∃ n : Int, atI [V.int 3, V.int 40, V.int 1000] (0 + (i : Int)) = some (.int n) ∧ 1 ≤ n ∧ n ≤ 1000 := by
  have : i = 0 ∨ i = 1 ∨ i = 2 := by omega
  rcases this with rfl | rfl | rfl
  · exact ⟨3, rfl, by decide, by decide⟩
  · exact ⟨40, rfl, by decide, by decide⟩
  · exact ⟨1000, rfl, by decide, by decide⟩
section
variable {P : Program} {w : World} {K : PySem.W.Frag} {mg : Str → Option Value} {base : Heap} {f tk xt tt xs_ ts_ lw lh wo ho : Addr} {fd tkd xtd ttd xsd tsd lwd lhd wod hod : FuncData} {T : List NTab}
set_option maxHeartbeats 4000000 in
theorem ok_are (F : Fun K "_law_are_right" "_law_are_right" sAre f fd) (GT : FnOk P w K mg base CX0 1 tk tkd psTk spTake) (bT : Binds K tkd psTk []) (kT : PySem.W.keepIn K (.ref tk) = true) (mT : mg "_law_take" = some (.ref tk))
    (GX : FnOk P w K mg base CX0 6 xt xtd ["expression"] (spXt 6)) (bX : Binds K xtd ["expression"] []) (kX : PySem.W.keepIn K (.ref xt) = true) (mX : mg "expression_text" = some (.ref xt))
    (GY : FnOk P w K mg base CX0 12 tt ttd ["test"] (spTt 6)) (bY : Binds K ttd ["test"] []) (kY : PySem.W.keepIn K (.ref tt) = true) (mY : mg "test_text" = some (.ref tt))
    (GU : FnOk P w K mg base CX0 6 xs_ xsd ["_law_term"] (spXt 6)) (bU : Binds K xsd ["_law_term"] []) (kU : PySem.W.keepIn K (.ref xs_) = true) (mU : mg "_law_term_shown" = some (.ref xs_))
    (GV : FnOk P w K mg base CX0 12 ts_ tsd ["_law_test"] (spTt 6)) (bV : Binds K tsd ["_law_test"] []) (kV_ : PySem.W.keepIn K (.ref ts_) = true) (mV : mg "_law_test_shown" = some (.ref ts_))
    (GL : FnOk P w K mg base CX0 6 lw lwd psLW (spLw 6)) (bL : Binds K lwd psLW []) (kL : PySem.W.keepIn K (.ref lw) = true) (mL : mg "_law_worth" = some (.ref lw))
    (GJ : FnOk P w K mg base CX0 12 lh lhd psT (spLh 6)) (bJ : Binds K lhd psT []) (kJ : PySem.W.keepIn K (.ref lh) = true) (mJ : mg "_law_holds" = some (.ref lh))
    (W : FunD K "worth" "worth" (defArgs sWorth) (defBody sWorth) (defScope sWorth) [] kwsW wo wod) (GW : FnOk P w K mg base CX0 8 wo wod ["expression", "boxes", "asked", "told"] (spWorth T 6)) (mW : mg "worth" = some (.ref wo))
    (Ho : FunD K "holds" "holds" (defArgs sHolds) (defBody sHolds) (defScope sHolds) [] kwsW ho hod) (GH : FnOk P w K mg base CX0 14 ho hod psH (spHolds T 6)) (mH : mg "holds" = some (.ref ho))
    (mr : mg "range" = none) (md : mg "dict" = none) (mp : mg "repr" = none) : FnOk P w K mg base CX0 15 f fd psA (spAre T) := by
  refine F.ok scAre (fun vs H Q E h => ?_) (fun cdv A outer s H vs Q E hr h => ?_)
  · obtain ⟨b, l, v, u, m, xs, e, t, rfl, _⟩ := h
    rfl
  obtain ⟨b, l, v, u, m, xs, e, t, rfl, hB, hm, hl, hne, hx8, hN, hv, ed, eg, hu_, td, tg, hT, q⟩ := h
  have hr1 := hr.mono (show 1 ≤ 14 by decide)
  have hr6 := hr.mono (show 6 ≤ 14 by decide)
  have hr7 := hr.mono (show 8 ≤ 14 by decide)
  have hr12 := hr.mono (show 12 ≤ 14 by decide)
  have kW := W.kp
  have kH := Ho.kp
  obtain ⟨ds, vds, bW⟩ := kw_plain W
  obtain ⟨mv, kbt⟩ := kh_told Ho
  have ef := Ex.fine_of hN eg
  have tf := Ts.fine_of hN tg
  have tl := Ts.low_of tg
  have ez : Sz (exL e) := Nat.le_trans (ex_sz ef ed) (by decide)
  have tz := ts_sz tf tl td
  refine ⟨_, pss_cons (ps_if (PW.pt (pw_or (pt_cmpR op_ne (pe_call GX hr6 rfl mX kX bX .nil pass0 (pa_cons (pv 2) pa_nil)) (pe_call GU hr6 rfl mU kU bU .nil pass0 (pa_cons (pv 2) pa_nil)) (nomark _))
      (pw_or1 (pt_cmpR op_ne (pe_call GY hr12 rfl mY kY bY .nil pass0 (pa_cons (pv 3) pa_nil)) (pe_call GV hr12 rfl mV kV_ bV .nil pass0 (pa_cons (pv 3) pa_nil)) (nomark _))))) (pss_one (ps_ret pe_bl)) pss_nil)
    (pss_cons (ps_for PassesOwn.never rfl (pi_range1 rfl mr (pa_cons pe_int pa_nil)) (pg_name (i := 4) scAre.nd rfl (Or.inl rfl))
      (pss_cons (ps_set (i := 5) scAre.nd rfl (Or.inr rfl) (pe_ix ix_list (pe_lst (pa_cons pe_int (pa_cons pe_int (pa_cons pe_int pa_nil)))) (pv 4) (fun _ _ => rfl)))
      (pss_cons (ps_set (i := 6) scAre.nd rfl (Or.inl rfl) (pe_callTy (call_dictP rfl) rfl md (by decide +kernel) (pa_cons (pe_lc (own := [("_law_name", 10)]) (g := gName 10) (tt := tYes) rfl scAre.nd (pi_list (pv 1)) (blkOk_by (N := nmAre) (sc := defScope sAre) (by decide +kernel))
            (fun _ _ _ _ _ => pg_name (i := 10) scAre.nd rfl (Or.inl rfl)) (fun _ _ _ _ _ => pts_nil) (fun _ _ _ _ _ => pe_tup (pa_cons (pv 10) (pa_cons (pe_call GT hr1 rfl mT kT bT .nil pass0 (pa_cons (pv 0) (pa_cons (pv 5) pa_nil))) pa_nil)))) pa_nil)))
      (pss_cons (ps_par (i := 7) (j := 8) (by rfl) scAre.nd rfl rfl (by decide) rfl rfl (pa_cons (pe_call GT hr1 rfl mT kT bT .nil pass0 (pa_cons (pv 0) (pa_cons (pv 5) pa_nil))) (pa_cons (pe_call GT hr1 rfl mT kT bT .nil pass0 (pa_cons (pv 0) (pa_cons (pv 5) pa_nil))) pa_nil)) (by rfl))
      (pss_cons (ps_set (i := 9) scAre.nd rfl (Or.inl rfl) (pe_call GL hr6 rfl mL kL bL .nil pass0 (pa_cons (pv 2) (pa_cons (pv 6) (pa_cons (pv 7) (pa_cons (pv 8) pa_nil))))))
      (pss_cons (ps_if (PW.pt (pw_or (pt_cmpR op_ne (pe_callN GW hr7 rfl mW kW (kb_worth W) pass0 (pa_cons (pv 2) (pa_cons (pv 6) pa_nil)) (pk_cons (pv 7) (pk_cons (pv 8) pk_nil))) (pv 9) (nomark _))
          (pw_or1 (pt_cmpR op_ne (pe_call GW hr7 rfl mW kW bW vds pass0 (pa_cons (pv 2) (pa_cons (pv 6) pa_nil))) (pe_call GL hr6 rfl mL kL bL .nil pass0 (pa_cons (pv 2) (pa_cons (pv 6) (pa_cons pe_int (pa_cons pe_int pa_nil))))) (nomark _))))) (pss_one (ps_ret pe_bl)) pss_nil)
      (pss_cons (ps_if (pt_cmpR op_ne (pe_callB call_repr_bl rfl mp (by decide +kernel) (pa_cons (pe_callN GH hr rfl mH kH (kh_turned Ho) pass0 (pa_cons (pv 3) (pa_cons (pv 6) pa_nil)) (pk_cons (pv 8) (pk_cons (pv 7) pk_nil))) pa_nil))
          (pe_callB call_repr_bl rfl mp (by decide +kernel) (pa_cons (pe_call GJ hr12 rfl mJ kJ bJ .nil pass0 (pa_cons (pv 3) (pa_cons (pv 6) (pa_cons (pv 7) (pa_cons (pv 8) pa_nil))))) pa_nil)) (nomark _)) (pss_one (ps_ret pe_bl)) pss_nil)
      (pss_one (ps_if (pt_cmpR op_ne (pe_callB call_repr_bl rfl mp (by decide +kernel) (pa_cons (pe_callN GH hr rfl mH kH kbt pass0 (pa_cons (pv 3) (pa_cons (pv 6) pa_nil)) (pk_cons (pv 8) pk_nil)) pa_nil))
          (pe_callB call_repr_bl rfl mp (by decide +kernel) (pa_cons (pe_call GJ hr12 rfl mJ kJ bJ .nil pass0 (pa_cons (pv 3) (pa_cons (pv 6) (pa_cons pe_int (pa_cons (pv 8) pa_nil))))) pa_nil)) (nomark _)) (pss_one (ps_ret pe_bl)) pss_nil)))))))))
    (pss_one (ps_ret pe_bl))), ?_⟩
  refine ⟨_, rfl, v, e, rfl, hv, ed, ef, ez, fun H1 s1 => ⟨_, rfl, v, e, rfl, hv.keep (Same.tups s1), ed, ef, ez, fun H2 s2 => ⟨rfl, _, rfl, iteNS rfl ?_⟩⟩⟩
  have s2 := s1.trans s2
  refine ⟨_, rfl, u, t, rfl, hu_.keep (Same.tups s2), td, tf, tz, tl, fun H3 s3 => ⟨_, rfl, u, t, rfl, (hu_.keep (Same.tups s2)).keep (Same.tups s3), td, tf, tz, tl, fun H4 s4 => ⟨rfl, _, rfl, iteNS rfl ?_⟩⟩⟩
  have s4 := (s2.trans s3).trans s4
  refine ⟨3, rfl, by decide, by decide, ?_⟩
  refine for_range (lo := 0) (fun j σ H' => ∃ x4 x5 x6 x7 x8 x9 x10 : Option V, σ = [some (.ref b), some (.ref l), some v, some u, x4, x5, x6, x7, x8, x9, x10] ∧ Kg T b H H' ∧ Bag H' b (m + 12 * j)) ⟨_, _, _, _, _, _, _, rfl, .of (.of hT s4), hB.keep s4⟩ ?_ (fun σ H' ⟨_, _, _, _, _, _, _, _, k, B⟩ => q H' k (B.more (by show m + 12 * 3 ≤ m + 40; omega)))
  rintro j σ H5 hj ⟨x4, x5, x6, x7, x8, x9, x10, rfl, k5, B5⟩
  have hj : j < 3 := hj
  obtain ⟨few, ef1, few0, few1⟩ := few_at hj
  refine ⟨(by show 3 ≤ sizeLine; decide), fun p6 hp6 => ⟨_, rfl, p6, _, _, _, rfl, rfl, SqL.of upd_same, ef1, ?_⟩⟩
  have s6 := same_new hp6 (.lst [.int 3, .int 40, .int 1000])
  have k6 := k5.same s6
  have B6 := B5.keep s6
  have h6 := k6.lst hne hl
  refine ⟨_, rfl, l, rfl, ⟨_, SqL.of h6⟩, fun C hC => ?_⟩
  have nC : C ≠ b := B6.ne hC
  refine lc_list (K := K) (a := l) (xs := xs.map V.str) (fun i Hc => ∃ (kvs : List (Str × Int)) (ps : List Addr), kvs.map (·.1) = xs.take i ∧ Hc C = some (.lst (ps.map V.ref)) ∧ Paired (fun p kv => Hc p = some (.tup [.str kv.1, .int kv.2])) ps kvs ∧ (∀ p ∈ kvs, 0 ≤ p.2 ∧ p.2 < 1024) ∧
      Bag Hc b (m + 12 * j + i) ∧ Kept b (upd H5 p6 (.lst [.int 3, .int 40, .int 1000])) Hc) ⟨[], [], rfl, upd_same, .nil, (fun p hp => by cases hp), B6.keep (same_new hC _), Kept.new hC _⟩ ?_ ?_ ?_
  · rintro i2 Hc _ ⟨kvs, ps, _, _, _, _, _, kc⟩
    exact SqL.of (kc _ _ hne h6)
  · rintro i2 x Hc hx ⟨kvs, ps, k1, k2, k3, k4, k5, k6⟩
    rw [List.getElem?_map] at hx
    obtain ⟨z, hz, rfl⟩ := Option.map_eq_some_iff.mp hx
    have iz : i2 < xs.length := (List.getElem?_eq_some_iff.mp hz).1
    refine ⟨rfl, _, rfl, _, rfl, _, rfl, b, few, _, rfl, k5, by omega, few0, few1, fun d7 H7 k7 B7 d70 d71 => ⟨(by show 2 ≤ sizeLine; decide), fun p10 hp10 => ?_⟩⟩
    have s10 := same_new hp10 (.tup [.str z, .int d7])
    have kk : Kept b Hc _ := k7.trans (.of s10)
    have tt := k5.tups kk
    have hC10 := kk _ _ nC k2
    have hlen : ps.length = i2 := by
      have e1 := k3.length
      have e2 := congrArg List.length k1
      rw [List.length_map, List.length_take] at e2
      omega
    refine ⟨_, hC10, by rw [List.length_map, hlen]; exact small1000 (by omega), kvs ++ [(z, d7)], ps ++ [p10], ?_, ?_, ?_, ?_, ?_, ?_⟩
    · rw [List.map_append, k1, List.take_add_one, hz]
      rfl
    · rw [upd_same, List.map_append]
      rfl
    · refine paired_snoc ?_ (L2.Paired.mapP k3 fun p kv h => ?_)
      · show upd _ C _ p10 = _
        rw [upd_ne (ne_of (o := .tup [.str z, .int d7]) upd_same hC10 (by intro z; cases z))]
        exact upd_same
      · have h2 := tt _ _ h
        rw [upd_ne (ne_of h2 hC10 (by intro z; cases z))]
        exact h2
    · intro p hp
      rcases List.mem_append.mp hp with hp | hp
      · exact k4 p hp
      · rw [List.mem_singleton.mp hp]
        exact ⟨d70, by show d7 < 1024; omega⟩
    · exact ((B7.keep s10).put' nC).more (by omega)
    · intro x o n h
      rw [upd_ne (ne_of_none h hC)]
      exact kk _ _ n (k6 _ _ n h)
  · rintro Hc ⟨kvs, ps, k1, k2, k3, k4, k5', k6'⟩
    rw [List.length_map] at k1 k5'
    rw [List.take_length] at k1
    refine ⟨C, ps, bx kvs, rfl, SqL.of k2, paired_bx k3, fun p11 hp11 => ?_⟩
    obtain ⟨c, ec, Bk⟩ := dict_of k1 k4
    rw [ec]
    have s11 := same_new hp11 (.dK (bx c))
    have B11 := k5'.keep s11
    have k11 : Kg T b H _ := (k6.kept B6 k6').same s11
    have e11 : upd Hc p11 (.dK (bx c)) p11 = _ := upd_same
    have n11 : p11 ≠ b := k5'.ne hp11
    refine ⟨_, rfl, _, rfl, b, few, _, rfl, B11, by omega, few0, few1, fun nu H12 k12 B12 nu0 nu1 => ?_⟩
    refine ⟨_, rfl, _, rfl, b, few, _, rfl, B12, by omega, few0, few1, fun sa H13 k13 B13 sa0 sa1 => ⟨_, _, rfl, ?_⟩⟩
    have k13' := k12.trans k13
    have hc13 := k13' _ _ n11 e11
    have k13 := k11.kept B11 k13'
    have v13 := hv.keep (hB.kgt k13)
    have u13 := hu_.keep (hB.kgt k13)
    have hnu : 0 ≤ nu ∧ nu < 1024 := ⟨nu0, by omega⟩
    have hsa : 0 ≤ sa ∧ sa < 1024 := ⟨sa0, by omega⟩
    have z0 : (0 : Int) ≤ 0 ∧ (0 : Int) < 1024 := ⟨by decide, by decide⟩
    refine ⟨_, rfl, _, rfl, _, rfl, _, rfl, v, p11, e, c, xs, nu, sa, rfl, v13, ed, ed, eg, Bk, hc13, hnu, hsa, fun H14 s14 => ?_⟩
    have g14 := Gr.of k13.tabs s14
    refine ⟨_, rfl, _, rfl, _, rfl, _, rfl, rfl, rfl, v, p11, e, c, xs, nu, sa, rfl, v13.keep g14.tups, ed, ed, eg, Bk, g14.dK hc13, hnu, hsa, g14.tabs, fun H15 g15 => ⟨_, rfl, rfl, _, rfl, iteNS rfl ?_⟩⟩
    have g15 := g14.trans g15
    refine ⟨_, rfl, _, rfl, v, p11, e, c, xs, 0, 0, rfl, v13.keep g15.tups, ed, ed, eg, Bk, g15.dK hc13, z0, z0, g15.tabs, fun H16 g16 => ?_⟩
    have g16 := g15.trans g16
    refine ⟨_, rfl, _, rfl, v, p11, e, c, xs, 0, 0, rfl, v13.keep g16.tups, ed, ed, eg, Bk, g16.dK hc13, z0, z0, fun H17 s17 => ⟨rfl, _, rfl, iteNS rfl ?_⟩⟩
    have g17 := g16.same s17
    refine ⟨_, rfl, _, rfl, _, rfl, _, rfl, rfl, rfl, u, p11, t, c, xs, nu, sa, rfl, u13.keep g17.tups, td, tg, Bk, g17.dK hc13, hnu, hsa, g17.tabs, fun H18 g18 => ⟨_, rfl, ?_⟩⟩
    have g18 := g17.trans g18
    refine ⟨_, rfl, _, rfl, _, rfl, _, rfl, u, p11, t, c, xs, nu, sa, rfl, u13.keep g18.tups, td, tg, Bk, g18.dK hc13, hnu, hsa, fun H19 s19 => ⟨_, rfl, rfl, _, rfl, iteNS rfl ?_⟩⟩
    have g19 := g18.same s19
    refine ⟨_, rfl, _, rfl, _, rfl, rfl, rfl, u, p11, t, c, xs, 0, sa, rfl, u13.keep g19.tups, td, tg, Bk, g19.dK hc13, z0, hsa, g19.tabs, fun H20 g20 => ⟨_, rfl, ?_⟩⟩
    have g20 := g19.trans g20
    refine ⟨_, rfl, _, rfl, _, rfl, u, p11, t, c, xs, 0, sa, rfl, u13.keep g20.tups, td, tg, Bk, g20.dK hc13, z0, hsa, fun H21 s21 => ⟨_, rfl, rfl, _, rfl, iteNS rfl ?_⟩⟩
    have g21 := g20.same s21
    exact ⟨_, _, _, _, _, _, _, rfl, k13.gr g21, (B13.gr g21).more (by omega)⟩
end
end Any
namespace Any
open L2 PySem PySem.Spec PyProof.Rows LamX NdefX
def Ex.data : Ex → PyData
  | .num n => .tuple [.str "number", .int n]
  | .box x => .tuple [.str "box", .str x]
  | .asked => .tuple [.str "asked"]
  | .told => .tuple [.str "told"]
  | .op d l r => .tuple [.str d.word, l.data, r.data]
def Ts.data : Ts → PyData
  | .is l r => .tuple [.str "is", l.data, r.data]
  | .bel l r => .tuple [.str "below", l.data, r.data]
  | .nt t => .tuple [.str "not", t.data]
  | .both t u => .tuple [.str "both", t.data, u.data]
  | .either t u => .tuple [.str "either", t.data, u.data]
theorem Ex.dp {K : PySem.W.Frag} {H : Hp} {v : V} {e : Ex} (h : ExAt H v e) : Dp K H v e.data := by
  induction h with
  | num h => exact .tup (SqT.of h) (.cons (.str _) (.cons (.int _) .nil))
  | box h => exact .tup (SqT.of h) (.cons (.str _) (.cons (.str _) .nil))
  | asked h => exact .tup (SqT.of h) (.cons (.str _) .nil)
  | told h => exact .tup (SqT.of h) (.cons (.str _) .nil)
  | op h _ _ i1 i2 => exact .tup (SqT.of h) (.cons (.str _) (.cons i1 (.cons i2 .nil)))
theorem Ts.dp {K : PySem.W.Frag} {H : Hp} {v : V} {e : Ts} (h : TsAt H v e) : Dp K H v e.data := by
  induction h with
  | is h h1 h2 => exact .tup (SqT.of h) (.cons (.str _) (.cons (Ex.dp h1) (.cons (Ex.dp h2) .nil)))
  | bel h h1 h2 => exact .tup (SqT.of h) (.cons (.str _) (.cons (Ex.dp h1) (.cons (Ex.dp h2) .nil)))
  | nt h _ i1 => exact .tup (SqT.of h) (.cons (.str _) (.cons i1 .nil))
  | both h _ _ i1 i2 => exact .tup (SqT.of h) (.cons (.str _) (.cons i1 (.cons i2 .nil)))
  | either h _ _ i1 i2 => exact .tup (SqT.of h) (.cons (.str _) (.cons i1 (.cons i2 .nil)))
theorem lay3 (x : Str) (a b : PyData) : (PyData.tuple [.str x, a, b]).canLay0 = (PyData.strOk x && (a.canLay0 && (b.canLay0 && true))) := rfl
theorem word_ok (d : Dd) : PyData.strOk d.word = true := by cases d <;> decide +kernel
theorem Ex.lay : ∀ {e : Ex}, e.fine → e.data.canLay0 = true ∧ e.data.depth ≤ e.deep
  | .num n, h => ⟨by show (PyData.strOk "number" && (true && true)) = true; decide +kernel, by show 1 ≤ 1; decide⟩
  | .box x, h => by
    refine ⟨?_, by show 1 ≤ 1; decide⟩
    show (PyData.strOk "box" && (PyData.strOk x && true)) = true
    have : PyData.strOk x = true := by
      unfold PyData.strOk
      rw [Array.all_eq_true_iff_forall_mem]
      intro c hc
      have := of_decide_eq_true (h.ltr c (Array.mem_toList_iff.mpr hc))
      simp
      omega
    rw [this]
    decide +kernel
  | .asked, _ => ⟨by decide +kernel, by show 1 ≤ 1; decide⟩
  | .told, _ => ⟨by decide +kernel, by show 1 ≤ 1; decide⟩
  | .op d l r, h => by
    obtain ⟨a1, a2⟩ := Ex.lay h.1
    obtain ⟨b1, b2⟩ := Ex.lay h.2
    refine ⟨?_, ?_⟩
    · show (PyData.tuple [.str d.word, l.data, r.data]).canLay0 = true
      rw [lay3, word_ok, a1, b1]
      rfl
    · show max 0 (max l.data.depth (max r.data.depth 0)) + 1 ≤ max l.deep r.deep + 1
      omega
theorem Ts.lay : ∀ {t : Ts}, t.fine → t.low → t.data.canLay0 = true ∧ t.data.depth ≤ t.deep + 6
  | .is l r, h, g => by
    obtain ⟨a1, a2⟩ := Ex.lay h.1
    obtain ⟨b1, b2⟩ := Ex.lay h.2
    obtain ⟨g1, g2⟩ := g
    refine ⟨?_, ?_⟩
    · show (PyData.tuple [.str "is", l.data, r.data]).canLay0 = true
      rw [lay3, a1, b1]
      decide +kernel
    · show max 0 (max l.data.depth (max r.data.depth 0)) + 1 ≤ 1 + 6
      omega
  | .bel l r, h, g => by
    obtain ⟨a1, a2⟩ := Ex.lay h.1
    obtain ⟨b1, b2⟩ := Ex.lay h.2
    obtain ⟨g1, g2⟩ := g
    refine ⟨?_, ?_⟩
    · show (PyData.tuple [.str "below", l.data, r.data]).canLay0 = true
      rw [lay3, a1, b1]
      decide +kernel
    · show max 0 (max l.data.depth (max r.data.depth 0)) + 1 ≤ 1 + 6
      omega
  | .nt t, h, g => by
    obtain ⟨a1, a2⟩ := Ts.lay (t := t) h g
    refine ⟨?_, ?_⟩
    · show (PyData.strOk "not" && (t.data.canLay0 && true)) = true
      rw [a1]
      decide +kernel
    · show max 0 (max t.data.depth 0) + 1 ≤ t.deep + 1 + 6
      omega
  | .both l r, h, g => by
    obtain ⟨a1, a2⟩ := Ts.lay h.1 g.1
    obtain ⟨b1, b2⟩ := Ts.lay h.2 g.2
    refine ⟨?_, ?_⟩
    · show (PyData.tuple [.str "both", l.data, r.data]).canLay0 = true
      rw [lay3, a1, b1]
      decide +kernel
    · show max 0 (max l.data.depth (max r.data.depth 0)) + 1 ≤ max l.deep r.deep + 1 + 6
      omega
  | .either l r, h, g => by
    obtain ⟨a1, a2⟩ := Ts.lay h.1 g.1
    obtain ⟨b1, b2⟩ := Ts.lay h.2 g.2
    refine ⟨?_, ?_⟩
    · show (PyData.tuple [.str "either", l.data, r.data]).canLay0 = true
      rw [lay3, a1, b1]
      decide +kernel
    · show max 0 (max l.data.depth (max r.data.depth 0)) + 1 ≤ max l.deep r.deep + 1 + 6
      omega
/-- an expression or a test -/
inductive Tm
  | x (e : Ex) | y (t : Ts)
def Tm.text : Tm → Str
  | .x e => e.text
  | .y t => t.text
def Tm.data : Tm → PyData
  | .x e => e.data
  | .y t => t.data
def Tm.ok : Tm → Prop
  | .x e => e.fine ∧ e.deep ≤ 6
  | .y t => t.fine ∧ t.low ∧ t.deep ≤ 6
def Tm.at (H : Hp) (v : V) : Tm → Prop
  | .x e => ExAt H v e
  | .y t => TsAt H v t
theorem Tm.inj : ∀ {a b : Tm}, a.ok → b.ok → a.text = b.text → a = b
  | .x e, .x f, h, g, q => by
    have z : exL e ++ [] = exL f ++ [] := by rw [← Ex.text_list e, ← Ex.text_list f, show e.text = f.text from q]
    rw [(ex_inj (r := []) (s := []) h.1 g.1 trivial trivial z).1]
  | .x e, .y t, h, g, q => by
    have z : exL e ++ [] = tsL t ++ [] := by rw [← Ex.text_list e, ← Ts.text_list t, show e.text = t.text from q]
    exact (ex_ts h.1 g.1 z).elim
  | .y t, .x e, h, g, q => by
    have z : exL e ++ [] = tsL t ++ [] := by rw [← Ex.text_list e, ← Ts.text_list t, show t.text = e.text from q]
    exact (ex_ts g.1 h.1 z).elim
  | .y t, .y u, h, g, q => by
    have z : tsL t ++ [] = tsL u ++ [] := by rw [← Ts.text_list t, ← Ts.text_list u, show t.text = u.text from q]
    rw [(ts_inj h.1 g.1 z).1]
theorem Tm.shaped : ∀ {a : Tm}, a.ok → SeqAt.shaped a.data = true
  | .x e, h => by
    obtain ⟨a, b⟩ := Ex.lay h.1
    have := h.2
    show (e.data.canLay0 && decide (e.data.depth ≤ 64)) = true
    rw [a, decide_eq_true (by omega)]
    rfl
  | .y t, h => by
    obtain ⟨a, b⟩ := Ts.lay h.1 h.2.1
    have := h.2.2
    show (t.data.canLay0 && decide (t.data.depth ≤ 64)) = true
    rw [a, decide_eq_true (by omega)]
    rfl
theorem Tm.dp {K : PySem.W.Frag} {H : Hp} {v : V} : ∀ {a : Tm}, a.at H v → Dp K H v a.data
  | .x _, h => Ex.dp h
  | .y _, h => Ts.dp h
theorem Tm.keep {H H' : Hp} (k : Tups H H') {v : V} : ∀ {a : Tm}, a.at H v → a.at H' v
  | .x _, h => ExAt.keep k h
  | .y _, h => TsAt.keep k h
/-- texts that were met, each with its tree -/
def Met (H : Hp) (kvs : List (Key × V)) : Prop := ∀ p ∈ kvs, ∃ a : Tm, a.ok ∧ p.1 = Sum.inr a.text ∧ a.at H p.2
theorem Met.keep {H H' : Hp} {kvs : List (Key × V)} (h : Met H kvs) (k : Tups H H') : Met H' kvs := fun p hp => by
  obtain ⟨a, h1, h2, h3⟩ := h p hp
  exact ⟨a, h1, h2, Tm.keep k h3⟩
theorem Met.found {H : Hp} {kvs : List (Key × V)} (h : Met H kvs) {a : Tm} (ha : a.ok) {v : V} (e : valV kvs (Sum.inr a.text) = some v) : a.at H v := by
  unfold valV at e
  obtain ⟨p, hp, rfl⟩ := Option.map_eq_some_iff.mp e
  have hm := List.mem_of_find?_eq_some hp
  have hk0 : decide (p.1 = (Sum.inr a.text : Key)) = true := List.find?_some (p := fun kv : Key × V => decide (kv.1 = (Sum.inr a.text : Key))) hp
  have hk := of_decide_eq_true hk0
  obtain ⟨b, h1, h2, h3⟩ := h p hm
  have : b.text = a.text := Sum.inr.inj (h2.symm.trans hk)
  rw [← Tm.inj h1 ha this]
  exact h3
theorem Met.more {H : Hp} {kvs : List (Key × V)} (h : Met H kvs) {a : Tm} (ha : a.ok) {v : V} (hv : a.at H v) (e : valV kvs (Sum.inr a.text) = none) : Met H (putK kvs (Sum.inr a.text) v) ∧ (putK kvs (Sum.inr a.text) v).length = kvs.length + 1 := by
  have no : ¬ (kvs.any fun kv => decide (kv.1 = (Sum.inr a.text : Key))) = true := by
    intro z
    obtain ⟨p, hp, hq⟩ := List.any_eq_true.mp z
    unfold valV at e
    rw [Option.map_eq_none_iff, List.find?_eq_none] at e
    exact e p hp hq
  have e2 : putK kvs (Sum.inr a.text) v = kvs ++ [(Sum.inr a.text, v)] := by
    unfold putK
    rw [if_neg no]
  rw [e2]
  refine ⟨fun p hp => ?_, by rw [List.length_append]; rfl⟩
  rcases List.mem_append.mp hp with hp | hp
  · exact h p hp
  · rw [List.mem_singleton.mp hp]
    exact ⟨a, ha, rfl, hv⟩
end Any
namespace Any
open L2 PySem PySem.Spec PyProof.Rows LamX NdefX
abbrev sLaw : Stmt := top 29
abbrev nmLaw : List Str := ["_law_script", "_law_at", "_law_bag_here", "_law_names_here", "_law_met", "_law_turn", "_law_most", "_law_term", "_law_test", "_law_one", "_law_shown"]
theorem scLaw : FnScope nmLaw ["_law_script"] (defScope sLaw) := ⟨rfl, rfl, rfl, by decide +kernel, rfl, by decide +kernel, by decide +kernel⟩
def spLaw (T : List NTab) (K : PySem.W.Frag) : Sp := fun vs H Q _ => ∃ (a : Addr) (ns : List Int), vs = [.ref a] ∧ SqL K H a (ns.map V.int) ∧ ns.length ≤ 63 ∧ TabsN T H ∧ ∀ H', Q (.bl true) H'
theorem same_kept {b : Addr} {H0 H1 H2 : Hp} (s : Same H0 H1) (n : H0 b = none) (k : Kept b H1 H2) : Same H0 H2 := fun a o h => k a o (ne_of_none h n) (s a o h)
abbrev four : List Str := ["aske", "tolds", "nota", "ore"]
theorem four_ok : ∀ x ∈ four, Nam x := by
  intro x hx
  simp only [List.mem_cons, List.not_mem_nil, or_false] at hx
  rcases hx with rfl | rfl | rfl | rfl <;> exact ⟨by decide, by decide, by decide, by decide, by decide, by decide⟩
section
variable {P : Program} {w : World} {K : PySem.W.Frag} {mg : Str → Option Value} {base : Heap} {f bg tk nm dt ds ar xt tt : Addr} {fd bgd tkd nmd dtd dsd ard xtd ttd : FuncData} {T : List NTab}
set_option maxHeartbeats 4000000 in
theorem ok_law (F : Fun K "law" "law" sLaw f fd) (GB : FnOk P w K mg base CX0 1 bg bgd ["_law_script", "_law_at"] (spBag K)) (bB : Binds K bgd ["_law_script", "_law_at"] []) (kB : PySem.W.keepIn K (.ref bg) = true) (mB : mg "_law_bag" = some (.ref bg))
    (GT : FnOk P w K mg base CX0 1 tk tkd psTk spTake) (bT : Binds K tkd psTk []) (kT : PySem.W.keepIn K (.ref tk) = true) (mT : mg "_law_take" = some (.ref tk))
    (GN : FnOk P w K mg base CX0 3 nm nmd psTk spNames) (bN : Binds K nmd psTk []) (kN : PySem.W.keepIn K (.ref nm) = true) (mN : mg "_law_names" = some (.ref nm))
    (GD : FnOk P w K mg base CX0 9 dt dtd psD (spDt 7)) (bD : Binds K dtd psD []) (kD : PySem.W.keepIn K (.ref dt) = true) (mD : mg "_law_deep_term" = some (.ref dt))
    (GS : FnOk P w K mg base CX0 15 ds dsd psD (spDs 6)) (bS : Binds K dsd psD []) (kS : PySem.W.keepIn K (.ref ds) = true) (mS : mg "_law_deep_test" = some (.ref ds))
    (GA : FnOk P w K mg base CX0 15 ar ard psA (spAre T)) (bA : Binds K ard psA []) (kA : PySem.W.keepIn K (.ref ar) = true) (mA : mg "_law_are_right" = some (.ref ar))
    (GX : FnOk P w K mg base CX0 6 xt xtd ["expression"] (spXt 6)) (bX : Binds K xtd ["expression"] []) (kX : PySem.W.keepIn K (.ref xt) = true) (mX : mg "expression_text" = some (.ref xt))
    (GY : FnOk P w K mg base CX0 12 tt ttd ["test"] (spTt 6)) (bY : Binds K ttd ["test"] []) (kY : PySem.W.keepIn K (.ref tt) = true) (mY : mg "test_text" = some (.ref tt))
    (ml : mg "len" = none) (mx : mg "max" = none) (mn : mg "min" = none) (mr : mg "range" = none) : FnOk P w K mg base CX0 16 f fd ["_law_script"] (spLaw T K) := by
  refine F.ok scLaw (fun vs H Q E h => ?_) (fun cdv A outer s H vs Q E hr h => ?_)
  · obtain ⟨a, ns, rfl, _⟩ := h
    rfl
  obtain ⟨a, ns, rfl, hS, h63, hT, q⟩ := h
  have hr1 := hr.mono (show 1 ≤ 15 by decide)
  have hr3 := hr.mono (show 3 ≤ 15 by decide)
  have hr6 := hr.mono (show 6 ≤ 15 by decide)
  have hr9 := hr.mono (show 9 ≤ 15 by decide)
  have hr12 := hr.mono (show 12 ≤ 15 by decide)
  have hr14 := hr.mono (show 15 ≤ 15 by decide)
  refine ⟨_, pss_cons (ps_for PassesOwn.never rfl (pi_range1 rfl mr (pa_cons (pe_callB (call_max2 rfl) rfl mx (by decide +kernel) (pa_cons pe_int (pa_cons (pe_callB (call_min2 rfl) rfl mn (by decide +kernel) (pa_cons pe_int (pa_cons (pe_callB call_len_seq rfl ml PySem.boot_len (pa_cons (pv 0) pa_nil)) pa_nil))) pa_nil))) pa_nil))
      (pg_name (i := 1) scLaw.nd rfl (Or.inl rfl))
      (pss_cons (ps_set (i := 2) scLaw.nd rfl (Or.inl rfl) (pe_call GB hr1 rfl mB kB bB .nil pass0 (pa_cons (pv 0) (pa_cons (pv 1) pa_nil))))
      (pss_cons (ps_par (i := 3) (j := 4) (by rfl) scLaw.nd rfl rfl (by decide) rfl rfl (pa_cons (pe_op op_cat (pe_call GN hr3 rfl mN kN bN .nil pass0 (pa_cons (pv 2) (pa_cons pe_int pa_nil))) (pe_lst (pa_cons pe_str (pa_cons pe_str (pa_cons pe_str (pa_cons pe_str pa_nil)))))) (pa_cons pe_dnewK pa_nil)) (by rfl))
      (pss_one (ps_for PassesOwn.never rfl (pi_range1 rfl mr (pa_cons pe_int pa_nil)) (pg_name (i := 5) scLaw.nd rfl (Or.inl rfl))
        (pss_cons (ps_set (i := 6) scLaw.nd rfl (Or.inl rfl) (pe_op op_add pe_int (pe_call GT hr1 rfl mT kT bT .nil pass0 (pa_cons (pv 2) (pa_cons pe_int pa_nil)))))
        (pss_cons (ps_set (i := 7) scLaw.nd rfl (Or.inl rfl) (pe_call GD hr9 rfl mD kD bD .nil pass0 (pa_cons (pv 2) (pa_cons (pv 3) (pa_cons (pv 6) (pa_cons (pe_op op_add pe_int (pe_call GT hr1 rfl mT kT bT .nil pass0 (pa_cons (pv 2) (pa_cons pe_int pa_nil)))) pa_nil))))))
        (pss_cons (ps_set (i := 8) scLaw.nd rfl (Or.inl rfl) (pe_call GS hr rfl mS kS bS .nil pass0 (pa_cons (pv 2) (pa_cons (pv 3) (pa_cons (pe_callB (call_max2 rfl) rfl mx (by decide +kernel) (pa_cons pe_int (pa_cons (pv 6) pa_nil))) (pa_cons (pe_op op_add pe_int (pe_call GT hr1 rfl mT kT bT .nil pass0 (pa_cons (pv 2) (pa_cons pe_int pa_nil)))) pa_nil))))))
        (pss_cons (ps_if (pt_not (pt_val (pe_call GA hr14 rfl mA kA bA .nil pass0 (pa_cons (pv 2) (pa_cons (pv 3) (pa_cons (pv 7) (pa_cons (pv 8) pa_nil))))))) (pss_one (ps_ret pe_bl)) pss_nil)
        (pss_one (ps_for PassesOwn.never rfl (pi_list (pe_lst (pa_cons (pe_tup (pa_cons (pv 7) (pa_cons (pe_call GX hr6 rfl mX kX bX .nil pass0 (pa_cons (pv 7) pa_nil)) pa_nil))) (pa_cons (pe_tup (pa_cons (pv 8) (pa_cons (pe_call GY hr12 rfl mY kY bY .nil pass0 (pa_cons (pv 8) pa_nil)) pa_nil))) pa_nil))))
            (pg_tup rfl (pgs_cons (pg_name (i := 9) scLaw.nd rfl (Or.inl rfl)) (pgs_cons (pg_name (i := 10) scLaw.nd rfl (Or.inl rfl)) pgs_nil)))
          (pss_one (ps_if (pt_cmpR (op_neD hr.units) (pe_dsetd (pv 4) (pv 10) (pv 9) ⟨rfl, rfl, rfl, rfl⟩) (pv 9) (nomark _)) (pss_one (ps_ret pe_bl)) pss_nil)))))))))))))
    (pss_one (ps_ret pe_bl)), ?_⟩
  refine ⟨_, rfl, a, _, rfl, .inl hS, _, _, rfl, _, _, rfl, _, rfl, ?_, ?_, ?_⟩
  · split <;> (try split) <;> omega
  · rw [List.length_map]
    split <;> (try split) <;> omega
  refine for_range (lo := 0) (fun i σ H' => ∃ x1 x2 x3 x4 x5 x6 x7 x8 x9 x10 : Option V, σ = [some (.ref a), x1, x2, x3, x4, x5, x6, x7, x8, x9, x10] ∧ Gr T H H') ⟨_, _, _, _, _, _, _, _, _, _, rfl, Gr.refl hT⟩ ?_ (fun σ H' _ => q H')
  rintro i σ H1 hi ⟨x1, x2, x3, x4, x5, x6, x7, x8, x9, x10, rfl, s1⟩
  have hi6 : i < 6 := by
    rw [List.length_map] at hi
    split at hi <;> (try split at hi) <;> omega
  refine ⟨_, rfl, _, rfl, a, ns, _, rfl, s1.seq hS, by omega, by omega, fun b H2 nb s2 B2 => ?_⟩
  have n0 : H b = none := s1.no b nb
  have s2 := s1.same s2
  refine ⟨_, rfl, b, 0, rfl, B2, by decide, fun p3 ys H3 k3 B3 h3 ne3 ly hN4 => ⟨(by show 4 ≤ sizeLine; decide), fun p4 hp4 => ?_⟩⟩
  have s4 := same_new hp4 (.lst [.str "aske", .str "tolds", .str "nota", .str "ore"])
  refine ⟨p3, p4, _, _, rfl, rfl, s4 _ _ h3, upd_same, small (by rw [List.length_map, ly]; decide), fun p5 hp5 => fun md hmd => ⟨_, _, rfl, ?_⟩⟩
  have exs : ys.map V.str ++ [.str "aske", .str "tolds", .str "nota", .str "ore"] = (ys ++ four).map V.str := by rw [List.map_append]; rfl
  have lxs : (ys ++ four).length = 8 := by rw [List.length_append, ly]; rfl
  have hN : ∀ x ∈ ys ++ four, Nam x := fun x hx => by
    rcases List.mem_append.mp hx with hx | hx
    · exact hN4 x hx
    · exact four_ok x hx
  rw [exs] at hmd ⊢
  generalize ys ++ four = xs at *
  have s5 := same_new hp5 (.lst (xs.map V.str))
  have s6 := same_new hmd (.dK [])
  have s3 := gr_kept s2 n0 B2 k3
  have hHmd : H md = none := s3.no _ (same_no (s4.trans s5) _ hmd)
  have sA : Gr T H _ := s3.same ((s4.trans s5).trans s6)
  have B6 := B3.keep ((s4.trans s5).trans s6)
  have ne5 : p5 ≠ b := (B3.keep s4).ne hp5
  have nmd : md ≠ b := ((B3.keep s4).keep s5).ne hmd
  have h5 := s6 _ _ (@upd_same (upd H3 p4 (.lst [.str "aske", .str "tolds", .str "nota", .str "ore"])) p5 (.lst (xs.map V.str)))
  have hM := @upd_same (upd (upd H3 p4 (.lst [.str "aske", .str "tolds", .str "nota", .str "ore"])) p5 (.lst (xs.map V.str))) md (.dK [])
  refine ⟨20, rfl, by decide, by decide, ?_⟩
  refine for_range (lo := 0) (fun j σ H' => ∃ y5 y6 y7 y8 y9 y10 : Option V, σ = [some (.ref a), some (.int (0 + i)), some (.ref b), some (.ref p5), some (.ref md), y5, y6, y7, y8, y9, y10] ∧ Gr T H H' ∧ H' p5 = some (.lst (xs.map V.str)) ∧ Bag H' b (20 + 3000 * j) ∧
      ∃ kvs, H' md = some (.dK kvs) ∧ kvs.length ≤ 2 * j ∧ Met H' kvs) ⟨_, _, _, _, _, _, rfl, sA, h5, B6, [], hM, Nat.le_refl _, (fun p hp => by cases hp)⟩ ?_ ?_
  · rintro j σ H7 hj ⟨y5, y6, y7, y8, y9, y10, rfl, s7, h7, B7, kvs, hm7, lk, met⟩
    have hj : j < 20 := hj
    refine ⟨_, rfl, b, 16, _, rfl, B7, by omega, by decide, by decide, fun d8 H8 k8 B8 d80 d81 => ⟨_, _, rfl, rfl, ?_⟩⟩
    refine ⟨_, rfl, _, rfl, _, rfl, _, rfl, b, 5, _, rfl, B8, by omega, by decide, by decide, fun d9 H9 k9 B9 d90 d91 => ⟨_, _, rfl, rfl, ?_⟩⟩
    have k89 := k8.trans k9
    obtain ⟨n9, en9⟩ : ∃ n : Nat, (n : Int) = 1 + d9 := ⟨(1 + d9).toNat, by omega⟩
    have c9 : cd n9 ≤ 378 := by
      have : n9 = 1 ∨ n9 = 2 ∨ n9 = 3 ∨ n9 = 4 ∨ n9 = 5 := by omega
      rcases this with rfl | rfl | rfl | rfl | rfl <;> decide
    refine ⟨b, p5, 1 + d8, n9, _, xs, (by rw [en9]; rfl), by omega, by omega, by omega, B9, by omega, k89 _ _ ne5 h7, ne5, by omega, by omega, fun v e H10 k10 B10 ev ed eg => ?_⟩
    have k810 := k89.trans k10
    refine ⟨_, rfl, _, rfl, _, rfl, _, _, rfl, _, rfl, b, 4, _, rfl, B10, by omega, by decide, by decide, fun d11 H11 k11 B11 d110 d111 => ⟨_, _, rfl, rfl, ?_⟩⟩
    obtain ⟨n11, en11⟩ : ∃ n : Nat, (n : Int) = 2 + d11 := ⟨(2 + d11).toNat, by omega⟩
    have c11 : ct n11 ≤ 2374 := by
      have : n11 = 2 ∨ n11 = 3 ∨ n11 = 4 ∨ n11 = 5 := by omega
      rcases this with rfl | rfl | rfl | rfl <;> decide
    have k811 := k810.trans k11
    refine ⟨b, p5, (if 1 + d8 > 3 then 1 + d8 else 3), n11, _, xs, (by rw [en11]; rfl), by omega, by omega, by omega, by split <;> omega, by split <;> omega, B11, by omega, k811 _ _ ne5 h7, ne5, by omega, by omega, fun u t H12 k12 B12 tv td tg => ?_⟩
    have k812 := k811.trans k12
    have ev12 := (ev.keep (B10.tups k11)).keep (B11.tups k12)
    have ed6 : e.deep ≤ 6 := by omega
    have td6 : t.deep ≤ 6 := by omega
    refine ⟨_, rfl, _, rfl, _, rfl, _, rfl, b, p5, v, u, _, xs, e, t, rfl, B12, by omega, k812 _ _ ne5 h7, ne5, by omega, hN, ev12, ed6, eg, tv, td6, tg, ((Kg.refl s7.tabs).kept B7 k812).tabs, fun H13 k13 B13 => ⟨true, rfl, itF rfl ?_⟩⟩
    have k813 := ((Kg.refl s7.tabs).kept B7 k812).trans k13
    have s13 := gr_kg s7 n0 k813
    have hm13 := k813.dK nmd hm7
    have met13 := met.keep (B7.kgt k813)
    have ev13 := ev12.keep (B12.kgt k13)
    have tv13 := tv.keep (B12.kgt k13)
    have ef := Ex.fine_of hN eg
    have tf := Ts.fine_of hN tg
    have tl := Ts.low_of tg
    have ez : Sz (exL e) := Nat.le_trans (ex_sz ef ed6) (by decide)
    have tz := ts_sz tf tl td6
    refine ⟨_, rfl, _, rfl, v, e, rfl, ev13, ed6, ef, ez, fun H14 s14 => ⟨(by show 2 ≤ sizeLine; decide), fun p15 hp15 => ?_⟩⟩
    have s15 := s14.trans (same_new hp15 (.tup [v, .str e.text]))
    refine ⟨_, rfl, _, rfl, u, t, rfl, tv13.keep (Same.tups s15), td6, tf, tz, tl, fun H16 s16 => ⟨(by show 2 ≤ sizeLine; decide), fun p17 hp17 => ⟨(by show 2 ≤ sizeLine; decide), fun p18 hp18 => ⟨p18, rfl, ⟨_, SqL.of upd_same⟩, ?_⟩⟩⟩⟩
    have n17 := same_new hp17 (.tup [u, .str t.text])
    have n18 := same_new hp18 (.lst [.ref p15, .ref p17])
    have sB : Same H13 _ := (s15.trans s16).trans (n17.trans n18)
    have e15 := n18 _ _ (n17 _ _ (s16 _ _ (@upd_same H14 p15 (.tup [v, .str e.text]))))
    have e17 := n18 _ _ (@upd_same H16 p17 (.tup [u, .str t.text]))
    have e18 := @upd_same (upd H16 p17 (.tup [u, .str t.text])) p18 (.lst [.ref p15, .ref p17])
    have hm18 := sB _ _ hm13
    have met18 := met13.keep (Same.tups sB)
    have ev18 := ev13.keep (Same.tups sB)
    have tv18 := tv13.keep (Same.tups sB)
    have B18 := B13.keep sB
    have h18 := sB _ _ (k813.lst ne5 h7)
    have s18 := s13.same sB
    clear n18
    generalize upd (upd H16 p17 (.tup [u, .str t.text])) p18 (.lst [.ref p15, .ref p17]) = HB at *
    refine for_list (K := K) (a := p18) (xs := [.ref p15, .ref p17]) (fun r σ H' => ∃ z9 z10 : Option V, σ = [some (.ref a), some (.int (0 + i)), some (.ref b), some (.ref p5), some (.ref md), some (.int (0 + j)), some (.int (1 + d8)), some v, some u, z9, z10] ∧ Kept md HB H' ∧
        ∃ kvs', H' md = some (.dK kvs') ∧ kvs'.length ≤ kvs.length + r ∧ Met H' kvs') ⟨_, _, rfl, .refl, kvs, hm18, Nat.le_refl _, met18⟩ ?_ ?_ ?_
    · rintro r σ H' _ ⟨z9, z10, rfl, kk, _⟩
      exact SqL.of (kk _ _ (ne_of e18 hm18 (by intro z; cases z)) e18)
    · rintro r x σ H' hx ⟨z9, z10, rfl, kk, kvs', hk', lk', met'⟩
      have tp : Tups HB H' := fun a ts ha => kk _ _ (ne_of ha hm18 (by intro z; cases z)) ha
      obtain ⟨pt, v', tm, rfl, ept, okt, att⟩ : ∃ (pt : Addr) (v' : V) (tm : Tm), x = .ref pt ∧ HB pt = some (.tup [v', .str tm.text]) ∧ tm.ok ∧ tm.at HB v' := by
        have m := List.mem_of_getElem? hx
        simp only [List.mem_cons, List.not_mem_nil, or_false] at m
        rcases m with rfl | rfl
        · exact ⟨_, _, .x e, rfl, e15, ⟨ef, ed6⟩, ev18⟩
        · exact ⟨_, _, .y t, rfl, e17, ⟨tf, tl, td6⟩, tv18⟩
      have hr2 : r < 2 := (List.getElem?_eq_some_iff.mp hx).1
      have att' := Tm.keep tp att
      refine ⟨pt, _, rfl, SqT.of (tp _ _ ept), rfl, _, _, rfl, _, _, rfl, rfl, ?_⟩
      have sh := Tm.shaped okt
      have ne : (!PyData.eqv tm.data tm.data) = false := by rw [SeqAt.eqv_refl _ (SeqAt.canLay_of_shaped sh)]; rfl
      refine ⟨_, rfl, md, rfl, .inl ⟨_, .of hk'⟩, _, rfl, _, rfl, kvs', Sum.inr tm.text, hk', rfl, small1000 (by omega), fun w hw => ?_, fun hnone => ?_⟩
      · have aw := met'.found okt hw
        refine ⟨_, rfl, tm.data, tm.data, Tm.dp aw, Tm.dp att', sh, sh, _, rfl, itF ne ?_⟩
        exact ⟨_, _, rfl, kk, kvs', hk', by omega, met'⟩
      · obtain ⟨m1, m2⟩ := met'.more okt att' hnone
        have tp2 : Tups H' (upd H' md (.dK (putK kvs' (Sum.inr tm.text) v'))) := fun a ts ha => by
          rw [upd_ne (ne_of ha hk' (by intro z; cases z))]
          exact ha
        have att2 := Tm.keep tp2 att'
        refine ⟨_, rfl, tm.data, tm.data, Tm.dp att2, Tm.dp att2, sh, sh, _, rfl, itF ne ?_⟩
        exact ⟨_, _, rfl, kk.trans (Kept.put _), _, upd_same, by omega, m1.keep tp2⟩
    · rintro σ H' ⟨z9, z10, rfl, kk, kvs', hk', lk', met'⟩
      have lk2 : kvs'.length ≤ kvs.length + 2 := lk'
      obtain ⟨bx_, hbx⟩ := B18.lst
      have nb18 : b ≠ md := nmd.symm
      obtain ⟨g, sd, c, hb1, hb2⟩ := B18
      refine ⟨_, _, _, _, _, _, rfl, gr_keptO s18 hHmd hm18 (fun _ z => by cases z) (fun _ _ z => by unfold CodeO at z; cases z) kk, kk _ _ (ne_of h18 hm18 (by intro z; cases z)) h18, Bag.more ⟨g, sd, c, kk _ _ nb18 hb1, hb2⟩ (by omega), kvs', hk', by omega, met'⟩
  · rintro σ H6 ⟨y5, y6, y7, y8, y9, y10, rfl, s6, _⟩
    exact ⟨_, _, _, _, _, _, _, _, _, _, rfl, s6⟩
end
end Any
namespace Any
open L2 PySem PySem.Spec PyProof.Rows LamX NdefX
theorem all_mk {l : PySem.W.OpenLaw} {w : World} {K : PySem.W.Frag} {h : Heap} {mg : Str → Option Value} {fa D : Addr} (X : K.In h) (G : h.Ns mainGlobals mg) (hfa : mg "law" = some (.ref fa))
    {f1 f2 f3 f4 f5 f6 f7 f8 f9 f10 f11 f12 f13 f14 f15 f16 f17 f18 f19 f20 f21 f22 f23 f24 D8 D9 c10 P10 c11 P11 c12 P12 : Addr} {od1 an1 od2 an2 od3 an3 od4 an4 od5 an5 od6 an6 od7 an7 od8 an8 od9 an9 od10 an10 od11 an11 od12 an12 od13 an13 od14 an14 od15 an15 od16 an16 od17 an17 od18 an18 od19 an19 od20 an20 od21 an21 od22 an22 od23 an23 od24 an24 cod10 cod11 cod12 : Option Addr} {sl1 sl2 sl3 sl4 sl5 sl6 sl7 sl8 sl9 sl10 sl11 sl12 sl13 sl14 sl15 sl16 sl17 sl18 sl19 sl20 sl21 sl22 sl23 sl24 csl10 csl11 csl12 : Array (Option Value)} {cvs10 cvs11 cvs12 : Array Value}
    {oc1 kV1 cd1 dc1 pm1 ct1 oc2 kV2 cd2 dc2 pm2 ct2 oc3 kV3 cd3 dc3 pm3 ct3 oc4 kV4 cd4 dc4 pm4 ct4 oc5 kV5 cd5 dc5 pm5 ct5 oc6 kV6 cd6 dc6 pm6 ct6 oc7 kV7 cd7 dc7 pm7 ct7 oc8 cd8 dc8 pm8 ct8 oc9 cd9 dc9 pm9 ct9 oc10 kV10 coc10 dc10 pm10 ct10 oc11 kV11 coc11 dc11 pm11 ct11 oc12 kV12 coc12 dc12 pm12 ct12 oc13 kV13 cd13 dc13 pm13 ct13 oc14 kV14 cd14 dc14 pm14 ct14 oc15 kV15 cd15 dc15 pm15 ct15 oc16 kV16 cd16 dc16 pm16 ct16 oc17 kV17 cd17 dc17 pm17 ct17 oc18 kV18 cd18 dc18 pm18 ct18 oc19 kV19 cd19 dc19 pm19 ct19 oc20 kV20 cd20 dc20 pm20 ct20 oc21 kV21 cd21 dc21 pm21 ct21 oc22 kV22 cd22 dc22 pm22 ct22 oc23 kV23 cd23 dc23 pm23 ct23 oc24 kV24 cd24 dc24 pm24 ct24 : Value} {es : Array DictEntry} {en : Nat} {tk8_0 tk8_1 tk9_0 tk9_1 : Tok} {DS : Addr} {es2 : Array DictEntry} {en2 : Nat} {tg1 tg2 tg3 tg4 tg5 tg6 tg7 tg8 tg9 : Tok}
    (a1 : PySem.W.nsIn K mainGlobals "expression_text" = some (some (.ref f1)))
    (l1 : K.lookup f1 = some ⟨oc1, od1, .func (PySem.W.fnOf "expression_text" "expression_text" (defArgs sXt) (defBody sXt) (defScope sXt) .none kV1 dc1 pm1 an1 cd1 ct1), sl1⟩)
    (e1 : PySem.W.codeIn K cd1 "expression_text" = true)
    (k1 : PySem.W.keepIn K (.ref f1) = true)
    (a2 : PySem.W.nsIn K mainGlobals "test_text" = some (some (.ref f2)))
    (l2 : K.lookup f2 = some ⟨oc2, od2, .func (PySem.W.fnOf "test_text" "test_text" (defArgs sTt) (defBody sTt) (defScope sTt) .none kV2 dc2 pm2 an2 cd2 ct2), sl2⟩)
    (e2 : PySem.W.codeIn K cd2 "test_text" = true)
    (k2 : PySem.W.keepIn K (.ref f2) = true)
    (a3 : PySem.W.nsIn K mainGlobals "plus" = some (some (.ref f3)))
    (l3 : K.lookup f3 = some ⟨oc3, od3, .func (PySem.W.fnOf "plus" "plus" (defArgs sPlus) (defBody sPlus) (defScope sPlus) .none kV3 dc3 pm3 an3 cd3 ct3), sl3⟩)
    (e3 : PySem.W.codeIn K cd3 "plus" = true)
    (k3 : PySem.W.keepIn K (.ref f3) = true)
    (a4 : PySem.W.nsIn K mainGlobals "less" = some (some (.ref f4)))
    (l4 : K.lookup f4 = some ⟨oc4, od4, .func (PySem.W.fnOf "less" "less" (defArgs sLess) (defBody sLess) (defScope sLess) .none kV4 dc4 pm4 an4 cd4 ct4), sl4⟩)
    (e4 : PySem.W.codeIn K cd4 "less" = true)
    (k4 : PySem.W.keepIn K (.ref f4) = true)
    (a5 : PySem.W.nsIn K mainGlobals "times" = some (some (.ref f5)))
    (l5 : K.lookup f5 = some ⟨oc5, od5, .func (PySem.W.fnOf "times" "times" (defArgs sTimes) (defBody sTimes) (defScope sTimes) .none kV5 dc5 pm5 an5 cd5 ct5), sl5⟩)
    (e5 : PySem.W.codeIn K cd5 "times" = true)
    (k5 : PySem.W.keepIn K (.ref f5) = true)
    (a6 : PySem.W.nsIn K mainGlobals "over" = some (some (.ref f6)))
    (l6 : K.lookup f6 = some ⟨oc6, od6, .func (PySem.W.fnOf "over" "over" (defArgs sOver) (defBody sOver) (defScope sOver) .none kV6 dc6 pm6 an6 cd6 ct6), sl6⟩)
    (e6 : PySem.W.codeIn K cd6 "over" = true)
    (k6 : PySem.W.keepIn K (.ref f6) = true)
    (a7 : PySem.W.nsIn K mainGlobals "rest" = some (some (.ref f7)))
    (l7 : K.lookup f7 = some ⟨oc7, od7, .func (PySem.W.fnOf "rest" "rest" (defArgs sRest) (defBody sRest) (defScope sRest) .none kV7 dc7 pm7 an7 cd7 ct7), sl7⟩)
    (e7 : PySem.W.codeIn K cd7 "rest" = true)
    (k7 : PySem.W.keepIn K (.ref f7) = true)
    (a8 : PySem.W.nsIn K mainGlobals "worth" = some (some (.ref f8)))
    (l8 : K.lookup f8 = some ⟨oc8, od8, .func (PySem.W.fnOf "worth" "worth" (defArgs sWorth) (defBody sWorth) (defScope sWorth) .none (.ref D8) dc8 pm8 an8 cd8 ct8), sl8⟩)
    (e8 : PySem.W.codeIn K cd8 "worth" = true)
    (k8 : PySem.W.keepIn K (.ref f8) = true)
    (w8_0 : PySem.W.nsIn K D8 "asked" = some (some (.int 0 tk8_0)))
    (w8_1 : PySem.W.nsIn K D8 "told" = some (some (.int 0 tk8_1)))
    (a9 : PySem.W.nsIn K mainGlobals "holds" = some (some (.ref f9)))
    (l9 : K.lookup f9 = some ⟨oc9, od9, .func (PySem.W.fnOf "holds" "holds" (defArgs sHolds) (defBody sHolds) (defScope sHolds) .none (.ref D9) dc9 pm9 an9 cd9 ct9), sl9⟩)
    (e9 : PySem.W.codeIn K cd9 "holds" = true)
    (k9 : PySem.W.keepIn K (.ref f9) = true)
    (w9_0 : PySem.W.nsIn K D9 "asked" = some (some (.int 0 tk9_0)))
    (w9_1 : PySem.W.nsIn K D9 "told" = some (some (.int 0 tk9_1)))
    (a10 : PySem.W.nsIn K mainGlobals "ready_worth" = some (some (.ref f10)))
    (l10 : K.lookup f10 = some ⟨oc10, od10, .func (PySem.W.fnOf "ready_worth" "ready_worth" (defArgs sReady) (defBody sReady) (defScope sReady) .none kV10 dc10 pm10 an10 (.ref c10) ct10), sl10⟩)
    (e10 : PySem.W.codeIn K (.ref c10) "ready_worth" = true)
    (k10 : PySem.W.keepIn K (.ref f10) = true)
    (g10 : K.lookup c10 = some ⟨coc10, cod10, .fields cvs10, csl10⟩)
    (v10 : cvs10[11]? = some (.ref P10))
    (q10 : PySem.W.codeHdIn K c10 P10 = true)
    (n10 : K.lookup P10 = none)
    (t10 : h.get? P10 = some { cls := .none, data := .fields #[] })
    (a11 : PySem.W.nsIn K mainGlobals "ready_test" = some (some (.ref f11)))
    (l11 : K.lookup f11 = some ⟨oc11, od11, .func (PySem.W.fnOf "ready_test" "ready_test" (defArgs sRT) (defBody sRT) (defScope sRT) .none kV11 dc11 pm11 an11 (.ref c11) ct11), sl11⟩)
    (e11 : PySem.W.codeIn K (.ref c11) "ready_test" = true)
    (k11 : PySem.W.keepIn K (.ref f11) = true)
    (g11 : K.lookup c11 = some ⟨coc11, cod11, .fields cvs11, csl11⟩)
    (v11 : cvs11[11]? = some (.ref P11))
    (q11 : PySem.W.codeHdIn K c11 P11 = true)
    (n11 : K.lookup P11 = none)
    (t11 : h.get? P11 = some { cls := .none, data := .fields #[] })
    (a12 : PySem.W.nsIn K mainGlobals "ready_comparison" = some (some (.ref f12)))
    (l12 : K.lookup f12 = some ⟨oc12, od12, .func (PySem.W.fnOf "ready_comparison" "ready_comparison" (defArgs sRC) (defBody sRC) (defScope sRC) .none kV12 dc12 pm12 an12 (.ref c12) ct12), sl12⟩)
    (e12 : PySem.W.codeIn K (.ref c12) "ready_comparison" = true)
    (k12 : PySem.W.keepIn K (.ref f12) = true)
    (g12 : K.lookup c12 = some ⟨coc12, cod12, .fields cvs12, csl12⟩)
    (v12 : cvs12[11]? = some (.ref P12))
    (q12 : PySem.W.codeHdIn K c12 P12 = true)
    (n12 : K.lookup P12 = none)
    (t12 : h.get? P12 = some { cls := .none, data := .fields #[] })
    (a13 : PySem.W.nsIn K mainGlobals "_law_bag" = some (some (.ref f13)))
    (l13 : K.lookup f13 = some ⟨oc13, od13, .func (PySem.W.fnOf "_law_bag" "_law_bag" (defArgs sBag) (defBody sBag) (defScope sBag) .none kV13 dc13 pm13 an13 cd13 ct13), sl13⟩)
    (e13 : PySem.W.codeIn K cd13 "_law_bag" = true)
    (k13 : PySem.W.keepIn K (.ref f13) = true)
    (a14 : PySem.W.nsIn K mainGlobals "_law_take" = some (some (.ref f14)))
    (l14 : K.lookup f14 = some ⟨oc14, od14, .func (PySem.W.fnOf "_law_take" "_law_take" (defArgs sTake) (defBody sTake) (defScope sTake) .none kV14 dc14 pm14 an14 cd14 ct14), sl14⟩)
    (e14 : PySem.W.codeIn K cd14 "_law_take" = true)
    (k14 : PySem.W.keepIn K (.ref f14) = true)
    (a15 : PySem.W.nsIn K mainGlobals "_law_of" = some (some (.ref f15)))
    (l15 : K.lookup f15 = some ⟨oc15, od15, .func (PySem.W.fnOf "_law_of" "_law_of" (defArgs sOf) (defBody sOf) (defScope sOf) .none kV15 dc15 pm15 an15 cd15 ct15), sl15⟩)
    (e15 : PySem.W.codeIn K cd15 "_law_of" = true)
    (k15 : PySem.W.keepIn K (.ref f15) = true)
    (a16 : PySem.W.nsIn K mainGlobals "_law_names" = some (some (.ref f16)))
    (l16 : K.lookup f16 = some ⟨oc16, od16, .func (PySem.W.fnOf "_law_names" "_law_names" (defArgs sNames) (defBody sNames) (defScope sNames) .none kV16 dc16 pm16 an16 cd16 ct16), sl16⟩)
    (e16 : PySem.W.codeIn K cd16 "_law_names" = true)
    (k16 : PySem.W.keepIn K (.ref f16) = true)
    (a17 : PySem.W.nsIn K mainGlobals "_law_worth" = some (some (.ref f17)))
    (l17 : K.lookup f17 = some ⟨oc17, od17, .func (PySem.W.fnOf "_law_worth" "_law_worth" (defArgs sLw) (defBody sLw) (defScope sLw) .none kV17 dc17 pm17 an17 cd17 ct17), sl17⟩)
    (e17 : PySem.W.codeIn K cd17 "_law_worth" = true)
    (k17 : PySem.W.keepIn K (.ref f17) = true)
    (a18 : PySem.W.nsIn K mainGlobals "_law_holds" = some (some (.ref f18)))
    (l18 : K.lookup f18 = some ⟨oc18, od18, .func (PySem.W.fnOf "_law_holds" "_law_holds" (defArgs sLh) (defBody sLh) (defScope sLh) .none kV18 dc18 pm18 an18 cd18 ct18), sl18⟩)
    (e18 : PySem.W.codeIn K cd18 "_law_holds" = true)
    (k18 : PySem.W.keepIn K (.ref f18) = true)
    (a19 : PySem.W.nsIn K mainGlobals "_law_term_shown" = some (some (.ref f19)))
    (l19 : K.lookup f19 = some ⟨oc19, od19, .func (PySem.W.fnOf "_law_term_shown" "_law_term_shown" (defArgs sXs) (defBody sXs) (defScope sXs) .none kV19 dc19 pm19 an19 cd19 ct19), sl19⟩)
    (e19 : PySem.W.codeIn K cd19 "_law_term_shown" = true)
    (k19 : PySem.W.keepIn K (.ref f19) = true)
    (a20 : PySem.W.nsIn K mainGlobals "_law_test_shown" = some (some (.ref f20)))
    (l20 : K.lookup f20 = some ⟨oc20, od20, .func (PySem.W.fnOf "_law_test_shown" "_law_test_shown" (defArgs sTs) (defBody sTs) (defScope sTs) .none kV20 dc20 pm20 an20 cd20 ct20), sl20⟩)
    (e20 : PySem.W.codeIn K cd20 "_law_test_shown" = true)
    (k20 : PySem.W.keepIn K (.ref f20) = true)
    (a21 : PySem.W.nsIn K mainGlobals "_law_deep_term" = some (some (.ref f21)))
    (l21 : K.lookup f21 = some ⟨oc21, od21, .func (PySem.W.fnOf "_law_deep_term" "_law_deep_term" (defArgs sDt) (defBody sDt) (defScope sDt) .none kV21 dc21 pm21 an21 cd21 ct21), sl21⟩)
    (e21 : PySem.W.codeIn K cd21 "_law_deep_term" = true)
    (k21 : PySem.W.keepIn K (.ref f21) = true)
    (a22 : PySem.W.nsIn K mainGlobals "_law_deep_test" = some (some (.ref f22)))
    (l22 : K.lookup f22 = some ⟨oc22, od22, .func (PySem.W.fnOf "_law_deep_test" "_law_deep_test" (defArgs sDs) (defBody sDs) (defScope sDs) .none kV22 dc22 pm22 an22 cd22 ct22), sl22⟩)
    (e22 : PySem.W.codeIn K cd22 "_law_deep_test" = true)
    (k22 : PySem.W.keepIn K (.ref f22) = true)
    (a23 : PySem.W.nsIn K mainGlobals "_law_are_right" = some (some (.ref f23)))
    (l23 : K.lookup f23 = some ⟨oc23, od23, .func (PySem.W.fnOf "_law_are_right" "_law_are_right" (defArgs sAre) (defBody sAre) (defScope sAre) .none kV23 dc23 pm23 an23 cd23 ct23), sl23⟩)
    (e23 : PySem.W.codeIn K cd23 "_law_are_right" = true)
    (k23 : PySem.W.keepIn K (.ref f23) = true)
    (a24 : PySem.W.nsIn K mainGlobals "law" = some (some (.ref f24)))
    (l24 : K.lookup f24 = some ⟨oc24, od24, .func (PySem.W.fnOf "law" "law" (defArgs sLaw) (defBody sLaw) (defScope sLaw) .none kV24 dc24 pm24 an24 cd24 ct24), sl24⟩)
    (e24 : PySem.W.codeIn K cd24 "law" = true)
    (k24 : PySem.W.keepIn K (.ref f24) = true)
    (da : PySem.W.nsIn K mainGlobals "DEEDS" = some (some (.ref D)))
    (dl : K.lookup D = some ⟨.type "dict", none, .dict es en, #[]⟩)
    (dk : PySem.W.KeysLit w.params es.toList)
    (d_plus : PySem.W.nsIn K D "plus" = some (some (.ref f3)))
    (d_less : PySem.W.nsIn K D "less" = some (some (.ref f4)))
    (d_times : PySem.W.nsIn K D "times" = some (some (.ref f5)))
    (d_over : PySem.W.nsIn K D "over" = some (some (.ref f6)))
    (d_rest : PySem.W.nsIn K D "rest" = some (some (.ref f7)))
    (sa : PySem.W.nsIn K mainGlobals "SIGNS" = some (some (.ref DS)))
    (sl_ : K.lookup DS = some ⟨.type "dict", none, .dict es2 en2, #[]⟩)
    (sk : PySem.W.KeysLit w.params es2.toList)
    (gg1 : PySem.W.nsIn K DS "plus" = some (some (.str "+" tg1)))
    (gg2 : PySem.W.nsIn K DS "less" = some (some (.str "-" tg2)))
    (gg3 : PySem.W.nsIn K DS "times" = some (some (.str "*" tg3)))
    (gg4 : PySem.W.nsIn K DS "over" = some (some (.str "//" tg4)))
    (gg5 : PySem.W.nsIn K DS "rest" = some (some (.str "rest" tg5)))
    (gg6 : PySem.W.nsIn K DS "is" = some (some (.str "==" tg6)))
    (gg7 : PySem.W.nsIn K DS "below" = some (some (.str "<" tg7)))
    (gg8 : PySem.W.nsIn K DS "both" = some (some (.str "and" tg8)))
    (gg9 : PySem.W.nsIn K DS "either" = some (some (.str "or" tg9)))
    (z1 : PySem.W.nsIn K mainGlobals "len" = some none)
    (z2 : PySem.W.nsIn K mainGlobals "abs" = some none)
    (z3 : PySem.W.nsIn K mainGlobals "int" = some none)
    (z4 : PySem.W.nsIn K mainGlobals "max" = some none)
    (z5 : PySem.W.nsIn K mainGlobals "min" = some none)
    (z6 : PySem.W.nsIn K mainGlobals "range" = some none)
    (z7 : PySem.W.nsIn K mainGlobals "dict" = some none)
    (z8 : PySem.W.nsIn K mainGlobals "repr" = some none)
    (z9 : PySem.W.nsIn K mainGlobals "list" = some none)
    (z10 : PySem.W.nsIn K mainGlobals "str" = some none)
    (z11 : PySem.W.nsIn K mainGlobals "sorted" = some none)
    (x_ne10_11 : P10 = P11 → False)
    (x_ne10_12 : P10 = P12 → False)
    (x_ne11_12 : P11 = P12 → False)
    : LawT l w K 16 63 "_law_script" mg fa h := by
  have e := hfa.symm.trans (PySem.W.mg_of X G a24)
  cases e
  have F1 := fun_mk (st := sXt) l1 e1 k1
  have b1 := F1.binds (ps := ["expression"]) fun _ _ _ _ _ _ us hl => match us, hl with | [_], _ => rfl
  have m1 := PySem.W.mg_of X G a1
  have F2 := fun_mk (st := sTt) l2 e2 k2
  have b2 := F2.binds (ps := ["test"]) fun _ _ _ _ _ _ us hl => match us, hl with | [_], _ => rfl
  have m2 := PySem.W.mg_of X G a2
  have F3 := fun_mk (st := sPlus) l3 e3 k3
  have b3 := F3.binds (ps := ["left", "right"]) fun _ _ _ _ _ _ us hl => match us, hl with | [_, _], _ => rfl
  have m3 := PySem.W.mg_of X G a3
  have F4 := fun_mk (st := sLess) l4 e4 k4
  have b4 := F4.binds (ps := ["left", "right"]) fun _ _ _ _ _ _ us hl => match us, hl with | [_, _], _ => rfl
  have m4 := PySem.W.mg_of X G a4
  have F5 := fun_mk (st := sTimes) l5 e5 k5
  have b5 := F5.binds (ps := ["left", "right"]) fun _ _ _ _ _ _ us hl => match us, hl with | [_, _], _ => rfl
  have m5 := PySem.W.mg_of X G a5
  have F6 := fun_mk (st := sOver) l6 e6 k6
  have b6 := F6.binds (ps := ["left", "right"]) fun _ _ _ _ _ _ us hl => match us, hl with | [_, _], _ => rfl
  have m6 := PySem.W.mg_of X G a6
  have F7 := fun_mk (st := sRest) l7 e7 k7
  have b7 := F7.binds (ps := ["left", "right"]) fun _ _ _ _ _ _ us hl => match us, hl with | [_, _], _ => rfl
  have m7 := PySem.W.mg_of X G a7
  have F8 : FunD K "worth" "worth" (defArgs sWorth) (defBody sWorth) (defScope sWorth) [] [("asked", .int 0), ("told", .int 0)] f8 (PySem.W.fnOf "worth" "worth" (defArgs sWorth) (defBody sWorth) (defScope sWorth) .none (.ref D8) dc8 pm8 an8 cd8 ct8) :=
    ⟨⟨oc8, od8, .none, .ref D8, dc8, pm8, an8, cd8, ct8, sl8, rfl, l8, e8, .inl ⟨rfl, rfl⟩, .inr ⟨D8, rfl, fun q hq => by
      simp only [List.mem_cons, List.not_mem_nil, or_false] at hq
      rcases hq with rfl | rfl
      · exact ⟨_, w8_0, ⟨_, rfl⟩⟩
      · exact ⟨_, w8_1, ⟨_, rfl⟩⟩⟩⟩, k8⟩
  have m8 := PySem.W.mg_of X G a8
  have F9 : FunD K "holds" "holds" (defArgs sHolds) (defBody sHolds) (defScope sHolds) [] [("asked", .int 0), ("told", .int 0)] f9 (PySem.W.fnOf "holds" "holds" (defArgs sHolds) (defBody sHolds) (defScope sHolds) .none (.ref D9) dc9 pm9 an9 cd9 ct9) :=
    ⟨⟨oc9, od9, .none, .ref D9, dc9, pm9, an9, cd9, ct9, sl9, rfl, l9, e9, .inl ⟨rfl, rfl⟩, .inr ⟨D9, rfl, fun q hq => by
      simp only [List.mem_cons, List.not_mem_nil, or_false] at hq
      rcases hq with rfl | rfl
      · exact ⟨_, w9_0, ⟨_, rfl⟩⟩
      · exact ⟨_, w9_1, ⟨_, rfl⟩⟩⟩⟩, k9⟩
  have m9 := PySem.W.mg_of X G a9
  have F10 : FunC K "ready_worth" "ready_worth" sReady f10 _ c10 := ⟨⟨oc10, od10, kV10, dc10, pm10, an10, ct10, sl10, rfl, l10, e10⟩, k10⟩
  have b10 := F10.binds (ps := ["expression", "owns"]) fun _ _ _ _ _ us hl => match us, hl with | [_, _], _ => rfl
  have m10 := PySem.W.mg_of X G a10
  have F11 : FunC K "ready_test" "ready_test" sRT f11 _ c11 := ⟨⟨oc11, od11, kV11, dc11, pm11, an11, ct11, sl11, rfl, l11, e11⟩, k11⟩
  have b11 := F11.binds (ps := ["test", "owns"]) fun _ _ _ _ _ us hl => match us, hl with | [_, _], _ => rfl
  have m11 := PySem.W.mg_of X G a11
  have F12 : FunC K "ready_comparison" "ready_comparison" sRC f12 _ c12 := ⟨⟨oc12, od12, kV12, dc12, pm12, an12, ct12, sl12, rfl, l12, e12⟩, k12⟩
  have b12 := F12.binds (ps := ["kind", "left", "right"]) fun _ _ _ _ _ us hl => match us, hl with | [_, _, _], _ => rfl
  have m12 := PySem.W.mg_of X G a12
  have F13 := fun_mk (st := sBag) l13 e13 k13
  have b13 := F13.binds (ps := ["_law_script", "_law_at"]) fun _ _ _ _ _ _ us hl => match us, hl with | [_, _], _ => rfl
  have m13 := PySem.W.mg_of X G a13
  have F14 := fun_mk (st := sTake) l14 e14 k14
  have b14 := F14.binds (ps := ["_law_bag_here", "_law_often"]) fun _ _ _ _ _ _ us hl => match us, hl with | [_, _], _ => rfl
  have m14 := PySem.W.mg_of X G a14
  have F15 := fun_mk (st := sOf) l15 e15 k15
  have b15 := F15.binds (ps := ["_law_bag_here", "_law_some"]) fun _ _ _ _ _ _ us hl => match us, hl with | [_, _], _ => rfl
  have m15 := PySem.W.mg_of X G a15
  have F16 := fun_mk (st := sNames) l16 e16 k16
  have b16 := F16.binds (ps := ["_law_bag_here", "_law_often"]) fun _ _ _ _ _ _ us hl => match us, hl with | [_, _], _ => rfl
  have m16 := PySem.W.mg_of X G a16
  have F17 := fun_mk (st := sLw) l17 e17 k17
  have b17 := F17.binds (ps := ["_law_term", "_law_jars", "_law_wanted", "_law_said"]) fun _ _ _ _ _ _ us hl => match us, hl with | [_, _, _, _], _ => rfl
  have m17 := PySem.W.mg_of X G a17
  have F18 := fun_mk (st := sLh) l18 e18 k18
  have b18 := F18.binds (ps := ["_law_test", "_law_jars", "_law_wanted", "_law_said"]) fun _ _ _ _ _ _ us hl => match us, hl with | [_, _, _, _], _ => rfl
  have m18 := PySem.W.mg_of X G a18
  have F19 := fun_mk (st := sXs) l19 e19 k19
  have b19 := F19.binds (ps := ["_law_term"]) fun _ _ _ _ _ _ us hl => match us, hl with | [_], _ => rfl
  have m19 := PySem.W.mg_of X G a19
  have F20 := fun_mk (st := sTs) l20 e20 k20
  have b20 := F20.binds (ps := ["_law_test"]) fun _ _ _ _ _ _ us hl => match us, hl with | [_], _ => rfl
  have m20 := PySem.W.mg_of X G a20
  have F21 := fun_mk (st := sDt) l21 e21 k21
  have b21 := F21.binds (ps := ["_law_bag_here", "_law_names_here", "_law_most", "_law_deep"]) fun _ _ _ _ _ _ us hl => match us, hl with | [_, _, _, _], _ => rfl
  have m21 := PySem.W.mg_of X G a21
  have F22 := fun_mk (st := sDs) l22 e22 k22
  have b22 := F22.binds (ps := ["_law_bag_here", "_law_names_here", "_law_most", "_law_deep"]) fun _ _ _ _ _ _ us hl => match us, hl with | [_, _, _, _], _ => rfl
  have m22 := PySem.W.mg_of X G a22
  have F23 := fun_mk (st := sAre) l23 e23 k23
  have b23 := F23.binds (ps := ["_law_bag_here", "_law_names_here", "_law_term", "_law_test"]) fun _ _ _ _ _ _ us hl => match us, hl with | [_, _, _, _], _ => rfl
  have m23 := PySem.W.mg_of X G a23
  have F24 := fun_mk (st := sLaw) l24 e24 k24
  have m24 := PySem.W.mg_of X G a24
  have y_len := PySem.W.mg_none_of X G z1
  have y_abs := PySem.W.mg_none_of X G z2
  have y_int := PySem.W.mg_none_of X G z3
  have y_max := PySem.W.mg_none_of X G z4
  have y_min := PySem.W.mg_none_of X G z5
  have y_range := PySem.W.mg_none_of X G z6
  have y_dict := PySem.W.mg_none_of X G z7
  have y_repr := PySem.W.mg_none_of X G z8
  have y_list := PySem.W.mg_none_of X G z9
  have y_str := PySem.W.mg_none_of X G z10
  have y_sorted := PySem.W.mg_none_of X G z11
  let T : List NTab := [(P10, fun _ _ => qReady), (P11, fun _ _ => qRT), (P12, fun _ _ => qRC)]
  refine ⟨PySem.W.fnOf "law" "law" (defArgs sLaw) (defBody sLaw) (defScope sLaw) .none kV24 dc24 pm24 an24 cd24 ct24, [(c10, P10), (c11, P11), (c12, P12)], spLaw T K, fun p hp => by
      simp only [List.mem_cons, List.not_mem_nil, or_false] at hp
      rcases hp with rfl | rfl | rfl
      · exact t10
      · exact t11
      · exact t12, fun p hp => by
      simp only [List.mem_cons, List.not_mem_nil, or_false] at hp
      rcases hp with rfl | rfl | rfl
      · exact n10
      · exact n11
      · exact n12, fun p hp => by
      simp only [List.mem_cons, List.not_mem_nil, or_false] at hp
      rcases hp with rfl | rfl | rfl
      · exact PySem.W.codeHd_of_K X q10
      · exact PySem.W.codeHd_of_K X q11
      · exact PySem.W.codeHd_of_K X q12, fun s v => .of_eq rfl, fun H a ns hl t hS => ⟨a, ns, rfl, hS, hl, ?_, fun _ => rfl⟩, fun base _ _ TB => ?_⟩
  · intro p hp
    simp only [T, List.mem_cons, List.not_mem_nil, or_false] at hp
    rcases hp with rfl | rfl | rfl
    · exact TabN.nil (t (c10, P10) (by simp))
    · exact TabN.nil (t (c11, P11) (by simp))
    · exact TabN.nil (t (c12, P12) (by simp))
  have TB10 : TabB base mg c10 P10 := TB (c10, P10) (by simp)
  have TB11 : TabB base mg c11 P11 := TB (c11, P11) (by simp)
  have TB12 : TabB base mg c12 P12 := TB (c12, P12) (by simp)
  have hm10 : (P10, fun _ _ => qReady) ∈ T := by simp [T]
  have hm11 : (P11, fun _ _ => qRT) ∈ T := by simp [T]
  have hm12 : (P12, fun _ _ => qRC) ∈ T := by simp [T]
  have ne10_11 : P10 ≠ P11 := by
    intro z
    have := PySem.W.codeHd_of_K X q10
    have := PySem.W.codeHd_of_K X q11
    exact x_ne10_11 z
  have ne10_12 : P10 ≠ P12 := by
    intro z
    have := PySem.W.codeHd_of_K X q10
    have := PySem.W.codeHd_of_K X q12
    exact x_ne10_12 z
  have ne11_12 : P11 ≠ P12 := by
    intro z
    have := PySem.W.codeHd_of_K X q11
    have := PySem.W.codeHd_of_K X q12
    exact x_ne11_12 z
  have hu10 : ∀ p ∈ T, p.1 = P10 → p.2 = fun _ _ => qReady := by
    intro p hp e
    simp only [T, List.mem_cons, List.not_mem_nil, or_false] at hp
    rcases hp with rfl | rfl | rfl
    · rfl
    · exact absurd e (Ne.symm ne10_11)
    · exact absurd e (Ne.symm ne10_12)
  have hu11 : ∀ p ∈ T, p.1 = P11 → p.2 = fun _ _ => qRT := by
    intro p hp e
    simp only [T, List.mem_cons, List.not_mem_nil, or_false] at hp
    rcases hp with rfl | rfl | rfl
    · exact absurd e (ne10_11)
    · rfl
    · exact absurd e (Ne.symm ne11_12)
  have hu12 : ∀ p ∈ T, p.1 = P12 → p.2 = fun _ _ => qRC := by
    intro p hp e
    simp only [T, List.mem_cons, List.not_mem_nil, or_false] at hp
    rcases hp with rfl | rfl | rfl
    · exact absurd e (ne10_12)
    · exact absurd e (ne11_12)
    · rfl
  have kd : ∀ (x : Str) (g : Addr), PySem.W.nsIn K D x = some (some (.ref g)) → KDct K w D x (.ref g) := fun x g e => ⟨es, en, _, dl, dk, e, rfl⟩
  have Dd_ : DeedsT l.prog w K mg base := ⟨D, PySem.W.mg_of X G da, fun d => by
    cases d with
    | plus => exact ⟨f3, kd _ _ d_plus, k3, (FnOk.raw (ok_plus F3) b3 .nil).imp fun vs H Q E h => by rw [List.append_nil]; exact h⟩
    | less => exact ⟨f4, kd _ _ d_less, k4, (FnOk.raw (ok_less F4) b4 .nil).imp fun vs H Q E h => by rw [List.append_nil]; exact h⟩
    | times => exact ⟨f5, kd _ _ d_times, k5, (FnOk.raw (ok_times F5) b5 .nil).imp fun vs H Q E h => by rw [List.append_nil]; exact h⟩
    | over => exact ⟨f6, kd _ _ d_over, k6, (FnOk.raw (ok_over F6) b6 .nil).imp fun vs H Q E h => by rw [List.append_nil]; exact h⟩
    | rest => exact ⟨f7, kd _ _ d_rest, k7, (FnOk.raw (ok_rest F7) b7 .nil).imp fun vs H Q E h => by rw [List.append_nil]; exact h⟩⟩
  have ks : ∀ (x y : Str) (t : Tok), PySem.W.nsIn K DS x = some (some (.str y t)) → KDct K w DS x (.str y) := fun x y t e => ⟨es2, en2, _, sl_, sk, e, ⟨_, rfl⟩⟩
  have S : Signs w K mg := ⟨DS, PySem.W.mg_of X G sa, fun d => by
    cases d with
    | plus => rw [show Dd.sg .plus = ("+" : Str) by decide]; exact ks _ _ _ gg1
    | less => rw [show Dd.sg .less = ("-" : Str) by decide]; exact ks _ _ _ gg2
    | times => rw [show Dd.sg .times = ("*" : Str) by decide]; exact ks _ _ _ gg3
    | over => rw [show Dd.sg .over = ("//" : Str) by decide]; exact ks _ _ _ gg4
    | rest => rw [show Dd.sg .rest = ("rest" : Str) by decide]; exact ks _ _ _ gg5, ks _ _ _ gg6, ks _ _ _ gg7, ks _ _ _ gg8, ks _ _ _ gg9⟩
  have GX := all_xt (P := l.prog) (base := base) F1 b1 m1 S y_str 6
  have GY := all_tt F2 b2 m2 GX b1 k1 m1 S 6
  have GRW := all_ready F10 TB10 hm10 hu10 Dd_ m10 b10 6
  have GW := ok_worth F8 GRW m10 k10 b10 y_list
  have GC := ok_rc (P := l.prog) (w := w) F12 TB12 hm12 hu12
  have GRT := all_rt F11 TB11 hm11 hu11 m11 b11 GRW m10 k10 b10 GC m12 k12 b12 6
  have GH := ok_holds F9 GRT m11 k11 b11 y_list
  have GB := ok_bag (P := l.prog) (w := w) (mg := mg) (base := base) F13 y_len y_abs y_int
  have GT := ok_take (P := l.prog) (w := w) (mg := mg) (base := base) F14
  have GO := ok_of F15 GT b14 k14 m14 y_len
  have GN := ok_names F16 GT b14 k14 m14 GO b15 k15 m15 y_range y_sorted y_int
  have GL := all_lw (P := l.prog) (w := w) (base := base) F17 b17 m17 y_min 6
  have GJ := all_lh F18 b18 m18 GL b17 k17 m17 y_int 6
  have GU := all_xs (P := l.prog) (w := w) (base := base) F19 b19 m19 y_str 6
  have GV := all_ts F20 b20 m20 GU b19 k19 m19 6
  have GD := all_dt F21 GT b14 k14 m14 GO b15 k15 m15 b21 m21 7
  have GS := all_ds F22 GT b14 k14 m14 GD b21 k21 m21 b22 m22 6
  have GA := ok_are F23 GT b14 k14 m14 GX b1 k1 m1 GY b2 k2 m2 GU b19 k19 m19 GV b20 k20 m20 GL b17 k17 m17 GJ b18 k18 m18 F8 GW m8 F9 GH m9 y_range y_dict y_repr
  exact FnG.of (ok_law F24 GB b13 k13 m13 GT b14 k14 m14 GN b16 k16 m16 GD b21 k21 m21 GS b22 k22 m22 GA b23 k23 m23 GX b1 k1 m1 GY b2 k2 m2 y_len y_max y_min y_range)
end Any
open PySem PySem.W PyProof.Rows
set_option maxRecDepth 100000 in
set_option maxHeartbeats 0 in
theorem PySem.Challenge.cw_anystore_k31_expressions_written_holds : PySem.Challenge.rw_anystore_k31_expressions_written.Holds := by
  w_on; o_law; k_head; (case hw => w_witness2)
  k_fill
  refine Any.walk_gT (l := PySem.Challenge.rw_anystore_k31_expressions_written) (n := 63) (k := 16) (x := "_law_script") rfl (by decide) rfl ⟨rfl, by decide, by decide⟩ (fun w h Y => PySem.W.km_in_of Y) ?F
  case F =>
    intro w mg fa h Y KX G hmg
    have hT8 := PySem.W.km_tabs_of Y
    refine' Any.all_mk KX G hmg ?a1 ?l1 ?e1 ?k1 ?a2 ?l2 ?e2 ?k2 ?a3 ?l3 ?e3 ?k3 ?a4 ?l4 ?e4 ?k4 ?a5 ?l5 ?e5 ?k5 ?a6 ?l6 ?e6 ?k6 ?a7 ?l7 ?e7 ?k7 ?a8 ?l8 ?e8 ?k8 ?w8_0 ?w8_1 ?a9 ?l9 ?e9 ?k9 ?w9_0 ?w9_1 ?a10 ?l10 ?e10 ?k10 ?g10 ?v10 ?q10 ?n10 ?t10 ?a11 ?l11 ?e11 ?k11 ?g11 ?v11 ?q11 ?n11 ?t11 ?a12 ?l12 ?e12 ?k12 ?g12 ?v12 ?q12 ?n12 ?t12 ?a13 ?l13 ?e13 ?k13 ?a14 ?l14 ?e14 ?k14 ?a15 ?l15 ?e15 ?k15 ?a16 ?l16 ?e16 ?k16 ?a17 ?l17 ?e17 ?k17 ?a18 ?l18 ?e18 ?k18 ?a19 ?l19 ?e19 ?k19 ?a20 ?l20 ?e20 ?k20 ?a21 ?l21 ?e21 ?k21 ?a22 ?l22 ?e22 ?k22 ?a23 ?l23 ?e23 ?k23 ?a24 ?l24 ?e24 ?k24 ?da ?dl ?dk ?d_plus ?d_less ?d_times ?d_over ?d_rest ?sa ?sl_ ?sk ?gg1 ?gg2 ?gg3 ?gg4 ?gg5 ?gg6 ?gg7 ?gg8 ?gg9 ?z1 ?z2 ?z3 ?z4 ?z5 ?z6 ?z7 ?z8 ?z9 ?z10 ?z11 ?x_ne10_11 ?x_ne10_12 ?x_ne11_12
    (case a1 => k_is)
    (case l1 => k_is)
    (case e1 => k_is)
    (case k1 => k_is)
    (case a2 => k_is)
    (case l2 => k_is)
    (case e2 => k_is)
    (case k2 => k_is)
    (case a3 => k_is)
    (case l3 => k_is)
    (case e3 => k_is)
    (case k3 => k_is)
    (case a4 => k_is)
    (case l4 => k_is)
    (case e4 => k_is)
    (case k4 => k_is)
    (case a5 => k_is)
    (case l5 => k_is)
    (case e5 => k_is)
    (case k5 => k_is)
    (case a6 => k_is)
    (case l6 => k_is)
    (case e6 => k_is)
    (case k6 => k_is)
    (case a7 => k_is)
    (case l7 => k_is)
    (case e7 => k_is)
    (case k7 => k_is)
    (case a8 => k_is)
    (case l8 => k_is)
    (case e8 => k_is)
    (case k8 => k_is)
    (case w8_0 => k_is)
    (case w8_1 => k_is)
    (case a9 => k_is)
    (case l9 => k_is)
    (case e9 => k_is)
    (case k9 => k_is)
    (case w9_0 => k_is)
    (case w9_1 => k_is)
    (case a10 => k_is)
    (case l10 => k_is)
    (case e10 => k_is)
    (case k10 => k_is)
    (case g10 => k_is)
    (case v10 => rfl)
    (case q10 => kernel_rfl)
    (case n10 => kernel_rfl)
    (case t10 => exact hT8 _ (by k_mem))
    (case a11 => k_is)
    (case l11 => k_is)
    (case e11 => k_is)
    (case k11 => k_is)
    (case g11 => k_is)
    (case v11 => rfl)
    (case q11 => kernel_rfl)
    (case n11 => kernel_rfl)
    (case t11 => exact hT8 _ (by k_mem))
    (case a12 => k_is)
    (case l12 => k_is)
    (case e12 => k_is)
    (case k12 => k_is)
    (case g12 => k_is)
    (case v12 => rfl)
    (case q12 => kernel_rfl)
    (case n12 => kernel_rfl)
    (case t12 => exact hT8 _ (by k_mem))
    (case a13 => k_is)
    (case l13 => k_is)
    (case e13 => k_is)
    (case k13 => k_is)
    (case a14 => k_is)
    (case l14 => k_is)
    (case e14 => k_is)
    (case k14 => k_is)
    (case a15 => k_is)
    (case l15 => k_is)
    (case e15 => k_is)
    (case k15 => k_is)
    (case a16 => k_is)
    (case l16 => k_is)
    (case e16 => k_is)
    (case k16 => k_is)
    (case a17 => k_is)
    (case l17 => k_is)
    (case e17 => k_is)
    (case k17 => k_is)
    (case a18 => k_is)
    (case l18 => k_is)
    (case e18 => k_is)
    (case k18 => k_is)
    (case a19 => k_is)
    (case l19 => k_is)
    (case e19 => k_is)
    (case k19 => k_is)
    (case a20 => k_is)
    (case l20 => k_is)
    (case e20 => k_is)
    (case k20 => k_is)
    (case a21 => k_is)
    (case l21 => k_is)
    (case e21 => k_is)
    (case k21 => k_is)
    (case a22 => k_is)
    (case l22 => k_is)
    (case e22 => k_is)
    (case k22 => k_is)
    (case a23 => k_is)
    (case l23 => k_is)
    (case e23 => k_is)
    (case k23 => k_is)
    (case a24 => k_is)
    (case l24 => k_is)
    (case e24 => k_is)
    (case k24 => k_is)
    (case da => k_is)
    (case dl => k_is)
    (case dk => k_keys)
    (case d_plus => k_is)
    (case d_less => k_is)
    (case d_times => k_is)
    (case d_over => k_is)
    (case d_rest => k_is)
    (case sa => k_is)
    (case sl_ => k_is)
    (case sk => k_keys)
    (case gg1 => k_is)
    (case gg2 => k_is)
    (case gg3 => k_is)
    (case gg4 => k_is)
    (case gg5 => k_is)
    (case gg6 => k_is)
    (case gg7 => k_is)
    (case gg8 => k_is)
    (case gg9 => k_is)
    (case z1 => k_is)
    (case z2 => k_is)
    (case z3 => k_is)
    (case z4 => k_is)
    (case z5 => k_is)
    (case z6 => k_is)
    (case z7 => k_is)
    (case z8 => k_is)
    (case z9 => k_is)
    (case z10 => k_is)
    (case z11 => k_is)
    (case x_ne10_11 => exact (by decide))
    (case x_ne10_12 => exact (by decide))
    (case x_ne11_12 => exact (by decide))
#print axioms PySem.Challenge.cw_anystore_k31_expressions_written_holds
