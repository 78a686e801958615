import PyProof.Rows.All
import Wide.All
import OpenK.AllK
import Wide.FinOn
import HandS.ForMost
import HandS.Wide
import HandS.Defaults
import HandS.More
import HandS.RaiseMore
import HandS.Style
import PyProof.ReprRoads
import PyProof.SliceMore
import HandS.IterVal
import HandS.MakeKwOnly
import HandS.TupAny
import HandS.Star
import HandS.IsInst
import HandS.Flow
import HandS.NoneIn
import HandS.TupMul
import PyProof.ReprLen
import PyProof.Rows.RegStrFacts
import HandS.FStr
import OpenK.KOps
import PyProof.InstNe
import HandS.ForExc
import HandS.ExcInit
import HandS.ExcField
import HandS.ExcIs
import KE.KExcIs
import PySem.Challenge.RW_anystore_k55_ways_made
set_option Elab.async false
set_option linter.all false
set_option maxRecDepth 100000
namespace Any
open L2 PySem PyProof.Rows
open PySem.Spec

/-! ### the texts of data (repr) -/
/-- a thing without parts -/
inductive Flat : V → PyData → Prop
  | non : Flat .non .none
  | bl (b : Bool) : Flat (.bl b) (.bool b)
  | int (i : Int) : Flat (.int i) (.int i)
  | str (x : Str) : Flat (.str x) (.str x)
def keyD : Key → PyData
  | .inl i => .int i
  | .inr x => .str x
/-- what repr may be asked of: lists and tuples at any depth, dicts of flat things -/
inductive Shows (K : PySem.W.Frag) (H : Hp) : Addr → PyData → Prop
  | seq {a : Addr} {d : PyData} : Dp K H (.ref a) d → d.hasDict = false → Shows K H a d
  | dct {a : Addr} {kvs : List (Key × V)} {ds : List (PyData × PyData)} : H a = some (.dK kvs) →
      Paired (fun (p : Key × V) (q : PyData × PyData) => q.1 = keyD p.1 ∧ Flat p.2 q.2) kvs ds → Shows K H a (.dict ds)

section
variable {P : Program} {w : World} {h : Heap}
theorem flat_reads {v : V} {u : Value} {d : PyData} (f : Flat v d) (r : RelV v u) : Reads h u d [] := by
  cases f with
  | non => cases r; exact .none
  | bl b => cases r; exact .bool b
  | int i => obtain ⟨t, rfl⟩ := r; exact .int i t
  | str x => obtain ⟨t, rfl⟩ := r; exact .str x t
theorem key_reads {k : Key} {u : Value} (e : keyIs k u = true) : Reads h u (keyD k) [] := by
  rcases keyIs_shape e with ⟨i, t, rfl, rfl⟩ | ⟨x, t, rfl, rfl⟩
  · exact .int i t
  · exact .str x t
theorem dct_reads : ∀ {kvs : List (Key × V)} {ds : List (PyData × PyData)} {vs : List (Key × Value)} {es : List DictEntry},
    Paired (fun (p : Key × V) (q : PyData × PyData) => q.1 = keyD p.1 ∧ Flat p.2 q.2) kvs ds → KV kvs vs → Pairs (mixKind P w) es vs →
    ReadsAll h (es.map (·.key)) (ds.map (·.1)) [] ∧ ReadsAll h (es.map (·.val)) (ds.map (·.2)) []
  | _, _, _, _, .nil, r, q => by
    cases r; cases q; exact ⟨.nil, .nil⟩
  | _, _, _, _, .cons z zs, r, q => by
    cases r with
    | cons r1 r2 =>
      cases q with
      | cons q1 q2 q3 =>
        obtain ⟨a, b⟩ := dct_reads zs r2 q3
        rename_i p ps d dd vv vr e es
        have k1 : keyIs vv.1 e.key = true := q1
        refine ⟨?_, ?_⟩
        · have c := ReadsAll.cons (as := []) (bs := []) (key_reads (h := h) k1) a
          rw [← r1.1, ← z.1] at c
          exact c
        · have c := ReadsAll.cons (as := []) (bs := []) (flat_reads (h := h) z.2 r1.2) b
          rw [← q2] at c
          exact c
end

section
variable {X : Cx}
def rRepr (K : PySem.W.Frag) : List V → Hp → VK → Prop := fun vs H Q => ∃ a d, vs = [.ref a] ∧ Shows K H a d ∧ d.showable = true ∧ d.depth ≤ 60 ∧ d.shown.length ≤ sizeLine ∧ Q (.str d.shown) H
theorem call_repr (hG : X.A.guards = some []) (hu : X.A.units + 70 < cLine) : CallR X (.builtin "repr") (rRepr X.K) := by
  intro pins s σ H xs us Q I r h
  obtain ⟨a, d, rfl, hd, hs, hdp, hz, q⟩ := h
  obtain ⟨u, rfl, ru⟩ := vals1 r
  cases ru
  have key : ∃ as, Reads s.heap (.ref a) d as ∧ (d.hasDict = true → sysModules ∉ as) := by
    cases hd with
    | seq h1 h2 =>
      obtain ⟨as, q1⟩ := Dp.reads I d _ _ h1 rfl
      exact ⟨as, q1, fun z => by rw [h2] at z; cases z⟩
    | dct h1 h2 =>
      obtain ⟨_, ns, vs, kv, o, es, ep, e1, e2, e3, _, e5, _⟩ := I.hok a _ h1
      obtain ⟨q1, q2⟩ := dct_reads (h := s.heap) h2 kv e5
      refine ⟨_, Reads.dict e1 e2.1 e3 q1 q2, fun _ z => ?_⟩
      rcases List.mem_append.mp z with z | z
      · rcases List.mem_cons.mp z with z | z
        · rw [← z] at ns
          simp at ns
        · cases z
      · cases z
  obtain ⟨as, rd, sm⟩ := key
  refine repr_of_reads' rd hs sm hG (by omega) (fun _ _ e => e) (fun h' u tk hk => ?_) hz
  exact ⟨.str d.shown, H, I.kept hk, ⟨_, rfl⟩, q⟩

/-! ### xs[::e], e being 1 or -1 -/
theorem pick_one (items : Array Value) : slicePick items none none (some 1) = items := by
  have e : slicePick items none none (some 1) = slicePick items none none none := rfl
  rw [e, slicePick_all]
def tStep (K : PySem.W.Frag) (te ts : TE) : TE := fun σ H Q => te σ H fun x H1 => ts σ H1 fun y H2 => ∃ a xs, x = .ref a ∧ SqL K H2 a xs ∧
  ((y = .int 1 ∧ ∀ p, H2 p = none → Q (.ref p) (upd H2 p (.lst xs))) ∨ (y = .int (-1) ∧ ∀ p, H2 p = none → Q (.ref p) (upd H2 p (.lst xs.reverse))))
theorem pe_step {e st : Expr} {te ts : TE} {p3 pos : Pos} (he : PE X e te) (hst : PE X st ts) :
    PE X (.Subscript e (.Slice none none (some st) p3) pos) (tStep X.K te ts) := by
  refine ⟨fun pins s σ H Q I h => ?_⟩
  refine Subscript_ (thn (he.run pins s σ H _ I h) fun v s1 ⟨x, H1, I1, r1, q1⟩ => ?_)
  refine wpAny_Slice (thn (po_none.run pins s1 σ H1 (fun o H2 => o = none ∧ H2 = H1) I1 ⟨rfl, rfl⟩) fun vl s2 ⟨l, H2, I2, pl, el, e2⟩ => ?_)
  subst el e2
  refine thn (po_none.run pins s2 σ H2 (fun o H3 => o = none ∧ H3 = H2) I2 ⟨rfl, rfl⟩) fun vu s3 ⟨u, H3, I3, pu, eu, e3⟩ => ?_
  subst eu e3
  rw [evalPart_some]
  refine thn (hst.run pins s3 σ H3 _ I3 q1) fun vs s4 ⟨y, H4, I4, r4, a, xs, ex, hx, q⟩ => ?_
  subst ex
  cases r1
  have I5 : Inv X pins σ H4 { s4 with heap := s4.heap.push { cls := .type "slice", data := .fields #[vl, vu, vs] } } := I4.kept (t' := s4.toks) fun b ob q => Heap.get?_push_of_some _ q
  obtain ⟨its, r, ht, hz⟩ := I5.list hx
  have hlen := r.length
  have two : ∃ k : Int, y = .int k ∧ k ≠ 0 ∧ ∃ zs ws, Vals ws zs ∧ slicePick its.toArray none none (some k) = zs.toArray ∧ ws.length ≤ sizeLine ∧ ∀ p, H4 p = none → Q (.ref p) (upd H4 p (.lst ws)) := by
    rcases q with ⟨ey, q⟩ | ⟨ey, q⟩
    · exact ⟨1, ey, by decide, its, xs, r, pick_one _, hz, q⟩
    · exact ⟨-1, ey, by decide, its.reverse, xs.reverse, r.reverse, by rw [PySem.W.krv_pick], by rw [List.length_reverse]; exact hz, q⟩
  obtain ⟨k, ey, hk, zs, ws, rz, epk, hzs, qq⟩ := two
  subst ey
  obtain ⟨t, rfl⟩ := (show ∃ t, vs = Value.int k t from r4)
  show wpAny (model X.prog X.w) X.A (subscriptTail e (.Slice none none (some st) p3) (.ref a) (.ref s4.heap.objs.size)) (EP X pins σ Q) X.xe _
  refine tail_any (ops := [.ref a, .ref s4.heap.objs.size]) ht.isList.typeIs (PySem.slot_list_getitem.lookup) ?_ (by with_unfolding_all rfl)
  refine wpAny_getItem_list_slice ht.isList (Heap.IsSliceOf.new _ vl vu (.int k t)) pl pu (IsPart.int k t) (by intro z; exact hk (Option.some.inj z)) ?_ (by rw [List.size_toArray]; omega)
  rw [epk]
  refine ⟨.ref _, _, I5.laid (t' := s4.toks) (o := .lst ws) (fun b ob q => Heap.get?_push_of_some _ q) (Nat.le_refl _) ?_, rfl, qq _ (I5.hok.fresh (Nat.le_refl _))⟩
  exact ⟨hzs, _, 0, rz, Heap.get?_push_size _ rfl⟩

/-! ### great powers -/
def CPowW (i j : Int) : Prop := 0 ≤ j ∧ (Builtin.Int.intBits i : Int) * j ≤ 2 ^ 27
theorem op_powW : OpR X (binaryOp .Pow) (rI CPowW fun i j => .int (i ^ j.toNat)) := opI fun _ _ _ _ _ _ _ hc q => pow_int hc.1 hc.2 q
end
end Any
namespace Any
open L2 PySem PyProof.Rows
open PySem.Spec

/-! ### defs that run where no repr is under way -/
section
variable (P : Program) (w : World) (K : PySem.W.Frag) (mg : Str → Option Value) (base : Heap)
/-- as FnOk, for callers with no guard -/
structure FnG (C : CXT) (k : Nat) (f : Addr) (fd : FuncData) (ps : List Str) (sp : Sp) : Prop where
  len : ∀ vs H Q E, sp vs H Q E → vs.length = ps.length
  go : ∀ (A : Around) (out : List Env) (s : Shared) (H : Hp) (args : Args) (us : List Value) (vs : List V) (Q : VK) (E : XK), A.guards = some [] → Room k A →
    Env0 P w K mg base A out s H → BindsTo s fd args (ps.zip us) → Vals vs us → sp vs H Q E → codeAny (model P w) A (.call (.ref f) args) (CR C out P w H s Q E) s
end
section
variable {P : Program} {w : World} {K : PySem.W.Frag} {mg : Str → Option Value} {base : Heap}
theorem FnG.of {C : CXT} {k : Nat} {f : Addr} {fd : FuncData} {ps : List Str} {sp : Sp} (F : FnOk P w K mg base C k f fd ps sp) : FnG P w K mg base C k f fd ps sp :=
  ⟨F.len, fun A out s H args us vs Q E _ hr => F.run A out s H args us vs Q E hr⟩
theorem FnG.mono {C : CXT} {j k : Nat} {f : Addr} {fd : FuncData} {ps : List Str} {sp : Sp} (F : FnG P w K mg base C j f fd ps sp) (h : j ≤ k) : FnG P w K mg base C k f fd ps sp :=
  ⟨F.len, fun A out s H args us vs Q E hg hr => F.go A out s H args us vs Q E hg (hr.mono h)⟩

/-- a def's body, under no guard -/
theorem fn_g {C : CXT} {k : Nat} {f : Addr} {nm ql : Str} {ar : Arguments} {bd : List Stmt} {sc : Scope} {v1 v2 v3 v4 v5 v6 v7 : Value} {a1 a2 : Option Addr} {sl : Array (Option Value)} {N ps : List Str} {sp : Sp}
    (at_ : K.lookup f = some ⟨v7, a2, .func (PySem.W.fnOf nm ql ar bd sc v1 v2 v3 v4 a1 v5 v6), sl⟩) (code : PySem.W.codeIn K v5 ql = true) (S : FnScope N ps sc)
    (ln : ∀ vs H Q E, sp vs H Q E → vs.length = ps.length)
    (hb : ∀ (A : Around) (out : List Env) (s : Shared) (H : Hp) (vs : List V) (Q : VK) (E : XK), A.guards = some [] → Room k (A.deeper (envOfC ql sc s.heap.objs.size f v5)) → sp vs H Q E →
      ∃ t, PSs (cxOf C P w K mg base N ql sc f v5 A out s H E) bd t ∧ t ⟨fun _ H' => Q .non H', Q, fun _ _ => False, fun _ _ => False⟩ (start N vs) H) :
    FnG P w K mg base C (k + 1) f (PySem.W.fnOf nm ql ar bd sc v1 v2 v3 v4 a1 v5 v6) ps sp where
  len := ln
  go A out s H args us vs Q E hg hr e0 hbi rv hsp := by
    have kx : K.In s.heap := e0.mod.kin.keeps (fun b o z => (e0.bs b o z).1)
    have nl : s.heap.NoLimit := e0.mod.nolimit.keeps (fun b o z => (e0.bs b o z).1)
    have kd : ∀ y ∈ ps.zip us, sc.names.lookup y.1 = some .local ∨ (sc.names.lookup y.1 = some .cell ∧ ((cellsFrom (s.heap.objs.size + 1) sc.names []).lookup y.1).isSome = true) := by
      rintro ⟨n, v⟩ hy
      have z := S.par n (List.of_mem_zip hy).1
      exact z.elim .inl (fun z => .inr ⟨z, PySem.W.cellsFrom_some _ _ _ (.inl z)⟩)
    refine codeAny_call_function hr.depth (kx _ _ at_) rfl S.co S.gen rfl (PySem.W.codeRec_of kx code) (hbi _ _ _ _ (wpAny_newFunctionEnv_cells S.kind kd (fun env he s1 x => ?_)))
    subst he
    obtain ⟨t, ht, hq⟩ := hb A out s H vs Q E hg (hr.deeper _) hsp
    have I := inv_start (CX := C) (E := E) S hr.hd e0 (ln _ _ _ _ hsp) rv x
    refine ⟨nl.keeps x.toInCall.keep, codeAny_func (wpAny_mono (ht.run [] s1 (start N vs) H _ I hq) (fun fl s' hs => ?_) (fun _ _ z => z))⟩
    cases fl with
    | ret u => obtain ⟨v, σ', H', J, r', q⟩ := hs; exact ⟨v, H', J.os, J.bare, J.base, J.hok, r', q⟩
    | next => obtain ⟨σ', H', J, q⟩ := hs; exact ⟨.non, H', J.os, J.bare, J.base, J.hok, rfl, q⟩
    | brk => exact hs.elim fun _ z => z.elim fun _ z => z.2.elim
    | cont => exact hs.elim fun _ z => z.elim fun _ z => z.2.elim
theorem fun_g {x ql : Str} {st : Stmt} {f : Addr} {fd : FuncData} {N ps : List Str} {k : Nat} {sp : Sp} (F : Fun K x ql st f fd) (S : FnScope N ps (defScope st)) (ln : ∀ vs H Q E, sp vs H Q E → vs.length = ps.length)
    (hb : ∀ (cv : Value) (A : Around) (out : List Env) (s : Shared) (H : Hp) (vs : List V) (Q : VK) (E : XK), A.guards = some [] → Room k (A.deeper (envOfC ql (defScope st) s.heap.objs.size f cv)) → sp vs H Q E →
      ∃ t, PSs (cxOf CX0 P w K mg base N ql (defScope st) f cv A out s H E).nox (defBody st) t ∧ t ⟨fun _ H' => Q .non H', Q, fun _ _ => False, fun _ _ => False⟩ (start N vs) H) : FnG P w K mg base CX0 (k + 1) f fd ps sp := by
  obtain ⟨_, _, _, _, _, _, cv, _, _, rfl, lk, hc⟩ := F.ex
  refine fn_g lk hc S ln fun A out s H vs Q E hg hr hs => ?_
  obtain ⟨t, h, q⟩ := hb cv A out s H vs Q E hg hr hs
  exact ⟨t, h.nox, q⟩
end

section
variable {X : Cx} {C : CXT} {k : Nat} {f : Addr} {fd : FuncData} {ps : List Str} {sp : Sp} {ds : List V} {us0 : List Value} {E : XK} {x : Str} {p pos : Pos} {e : Expr} {es : List Expr} {t : TA}
/-- a call of such a def -/
theorem pe_callG (F : FnG X.prog X.w X.K X.mg X.base C k f fd ps sp) (hG : X.A.guards = some []) (hr : Room k X.A) (hg : Gl X x) (hm : X.mg x = some (.ref f)) (hk : PySem.W.keepIn X.K (.ref f) = true) (hb : Binds X.K fd ps us0) (hd : Vals ds us0)
    (hx : Passes C X E) (ha : PA X (e :: es) t) (h1 : (x == ("__debug__" : Str)) = false := by decide) (h2 : starEach (e :: es) X.env = (false, eval e X.env) :: starEach es X.env := by rfl)
    (h3 : (backTo pos (starEach es X.env)).any (·.1) = false := by rfl) : PE X (.Call (.Name x p) (e :: es) [] pos) (tCall sp ds E t) where
  run pins s σ H Q I h := by
    refine wpAny_Call_Name_kw (ld_glob I hg hm (PySem.W.callWith_K (h₀ := X.base) I.ok.mod.kin hk (thn (ha.run pos pins s σ H _ I h) ?_) h2 h3) h1)
    rintro us s1 ⟨vs, H1, I1, rv, q⟩
    have rr := rv.append hd
    have hl : (us ++ us0).length = ps.length := rr.length.symm.trans (F.len _ _ _ _ q)
    refine ⟨I1.kIn, wpAny_call (codeAny_mono (F.go X.A X.stack s1 H1 _ _ _ Q E hG hr I1.env0 (hb s1 us I1.kIn hl) rr q) ?_)⟩
    rintro (err | fl) s' hq
    · exact hx pins σ H1 s1 err s' I1 hq
    · cases fl with
      | ret u => exact I1.after hq
      | next => cases hq
      | brk => cases hq
      | cont => cases hq

/-- x(e, ..), x a name that holds one of several defs -/
def tCallS (X : Cx) (C : CXT) (k i : Nat) (E : XK) (t : TA) : TE := fun σ H Q => ∃ f sp, FnR X.prog X.w X.K X.mg X.base C k f sp ∧ PySem.W.keepIn X.K (.ref f) = true ∧ σ[i]? = some (some (.ref f)) ∧ t σ H fun vs H1 => sp vs H1 Q E
theorem pe_callS {i : Nat} (hr : Room k X.A) (hx : Passes C X E) (hN : X.N[i]? = some x) (hv : Vis X.env.scope x) (ha : PA X (e :: es) t)
    (h1 : (x == ("__debug__" : Str)) = false := by decide) (h4 : (x == ("__classdict__" : Str)) = false := by decide) (h2 : starEach (e :: es) X.env = (false, eval e X.env) :: starEach es X.env := by rfl)
    (h3 : (backTo pos (starEach es X.env)).any (·.1) = false := by rfl) : PE X (.Call (.Name x p) (e :: es) [] pos) (tCallS X C k i E t) where
  run pins s σ H Q I h := by
    obtain ⟨f, sp, F, hk, hs, h⟩ := h
    exact (ItX.pe_callV (i := i) (p := p) F hr hk hx hN hv ha h1 h4 h2 h3).run pins s σ H Q I ⟨hs, h⟩

/-- f(k = v, ..) alone -/
theorem pe_callK0 {ks : List Str} {g : List Value → List Value → List Value} {gV : List V → List V → List V} {kws : List Keyword} {tk : TA} (F : FnOk X.prog X.w X.K X.mg X.base C k f fd ps sp) (hr : Room k X.A) (hg : Gl X x) (hm : X.mg x = some (.ref f))
    (hk : PySem.W.keepIn X.K (.ref f) = true) (hb : KBn X.K fd ps 0 ks g gV) (hx : Passes C X E) (hkw : PK X kws tk) (hall : (backToKw pos (keywordEach kws X.env)).all (·.1.isSome) = true := by rfl)
    (hks : (backToKw pos (keywordEach kws X.env)).filterMap (·.1) = ks := by rfl) (h1 : (x == ("__debug__" : Str)) = false := by decide)
    (h3 : ((backTo pos (starEach [] X.env)).any (·.1) || (backToKw pos (keywordEach kws X.env)).any (·.1.isNone)) = false := by rfl) :
    PE X (.Call (.Name x p) [] kws pos) (fun σ H Q => tk σ H fun zs H1 => zs.length = ks.length ∧ sp (gV [] zs) H1 Q E) where
  run pins s σ H Q I h := by
    refine wpAny_Call_Name_kw (ld_glob I hg hm ?_ h1)
    refine PySem.W.callWith_KW0 (h₀ := X.base) I.ok.mod.kin hk hall (thn (hkw.run pos pins s σ H _ I h) ?_) h3
    rintro ws s1 ⟨zs, H1, I1, rz, l1, q⟩
    refine ⟨I1.kIn, ?_⟩
    rw [hks]
    exact run_fnN (us := []) (vs := []) F hr hb hx I1 .nil rz rfl l1 q
end

/-! ### the law's call, under no guard -/
section
variable {P : Program} {w : World} {K : PySem.W.Frag} {mg mb : Str → Option Value}
theorem law_g {C : CXT} {k : Nat} {fa a : Addr} {fd : FuncData} {x : Str} {sp : Sp} {s : Shared} {vs : List Value} {ns : List Int}
    (kx : K.In s.heap) (g1 : s.heap.Ns mainGlobals mg) (g2 : s.heap.Ns builtinsNs mb) (g3 : ∀ x : Str, x ≠ "__name__" → mb x = bootBuiltins x) (g4 : s.heap.NoLimit) (g5 : s.gens = #[])
    (la : s.heap.get? a = some { cls := .type "list", data := .seq vs.toArray }) (li : IntsAre vs ns) (ll : ns.length ≤ sizeLine) (hr : Room k callerA)
    (F : ∀ base : Heap, K.In base → base.Ns mainGlobals mg → FnG P w K mg base C k fa fd [x] sp) (bd : ∀ (s : Shared) (u : Value), BindsTo s fd ⟨[u], []⟩ [(x, u)])
    (want : ∀ H : Hp, Only H → SqL K H a (ns.map V.int) → sp [.ref a] H (fun v _ => v = .bl true) fun _ _ _ => False)
    (noC : ∀ H e s', C [] H s (fun _ _ _ => False) e s' → False) :
    codeAny (model P w) callerA (.call (.ref fa) ⟨[.ref a], []⟩) (fun r s' => r = .ok (.ret (.bool true)) ∧ OldK s.heap s'.heap ∧ s'.os = s.os ∧ AllBare s'.gens) s := by
  -- one abstract heap: the script, if the written part has it not
  have pick : ∃ H : Hp, Only H ∧ SqL K H a (ns.map V.int) ∧ HOk P w H s.heap ∧ (∀ b u, H b = some u → b = a) ∧ ((H a).isSome = true → K.lookup a = none) := by
    cases hk : K.lookup a with
    | some o =>
      have z := (kx a o hk).symm.trans la
      cases z
      exact ⟨fun _ => none, fun _ => .inl rfl, .inr ⟨_, vs.toArray, _, hk, rfl, rfl, rfl, by rw [List.size_toArray, li.length]; exact ll, by simpa using vals_ints li⟩, (fun b u z => by cases z), (fun b u z => by cases z), (fun z => by cases z)⟩
    | none =>
      let o : HO := .frz { cls := .type "list", data := .seq vs.toArray } (.lst (ns.map V.int))
      have at_a : ∀ b u, upd (fun _ => none) a o b = some u → b = a ∧ u = o := fun b u z => by
        by_cases hb : b = a
        · subst hb; rw [upd_same] at z; exact ⟨rfl, (Option.some.inj z).symm⟩
        · rw [upd_ne hb] at z; cases z
      refine ⟨upd (fun _ => none) a o, fun b => ?_, .inl (.inr ⟨_, upd_same⟩), fun b u z => ?_, fun b u z => (at_a b u z).1, fun _ => rfl⟩
      · by_cases hb : b = a
        · subst hb; exact .inr ⟨_, _, upd_same⟩
        · exact .inl (by rw [upd_ne hb])
      · obtain ⟨rfl, rfl⟩ := at_a b u z
        exact ⟨la, by rw [List.length_map]; exact ll, vs, _, vals_ints li, la⟩
  obtain ⟨H, hO, hS, hok, hA, hK⟩ := pick
  have free : ∀ {b : Addr} {ob : Obj} {es : Array DictEntry} {n : Nat}, s.heap.get? b = some ob → ob.data = .dict es n → H b = none := by
    intro b ob es n z d
    cases q : H b with
    | none => rfl
    | some u =>
      have z1 := hA b u q
      subst z1
      have z2 := z.symm.trans la
      cases z2
      have d' : Data.seq vs.toArray 0 = Data.dict es n := d
      cases d'
  have ns' : ∀ {b : Addr} {m : Str → Option Value}, s.heap.Ns b m → (hidT s.heap H).Ns b m := by
    rintro b m ⟨o, es, n, z, d, r⟩
    exact ⟨o, es, n, hidT_get z (free z d), d, r⟩
  have kb : K.In (hidT s.heap H) := by
    intro b o z
    refine hidT_get (kx b o z) ?_
    cases q : H b with
    | none => rfl
    | some u =>
      have z1 := hA b u q
      subst z1
      have z2 := hK (by rw [q]; rfl)
      rw [z2] at z
      cases z
  obtain ⟨mc, l1, l2⟩ := g4
  have e0 : Env0 P w K mg (hidT s.heap H) callerA [] s H :=
    { frames := rfl, mod := ⟨kb, ns' g1, ⟨mb, ns' g2, g3⟩, ⟨mc, ns' l1, l2⟩⟩, bs := fun b o z => of_hidT z, bsz := Nat.le_of_eq (hidT_size _ _), funs := trivial, frf := fun b z => (by cases z), hok := hok, bare := .of_eq g5 }
  refine codeAny_mono ((F _ kb (ns' g1)).go callerA [] s H ⟨[.ref a], []⟩ [.ref a] [.ref a] _ _ rfl hr e0 (bd s (.ref a)) (.cons rfl .nil) (want H hO hS)) ?_
  rintro (err | fl) s' h
  · exact (noC H err s' h).elim
  cases fl with
  | next => cases h
  | brk => cases h
  | cont => cases h
  | ret u =>
    obtain ⟨v, H', h1, h2, un, hok', rv, rfl⟩ := h
    cases rv
    refine ⟨rfl, OldK.of_keep (fun b o z => ?_), h1, h2⟩
    cases q : H b with
    | none => exact un.keep b o z q (fun z => by cases z) (fun z => by cases z)
    | some u =>
      rcases hO b with z1 | ⟨ob, xs, z1⟩
      · rw [q] at z1; cases z1
      · have z2 := (hok b _ z1).1
        rw [z] at z2
        cases z2
        exact (hok' b _ (un.frzs b _ _ z1)).1
theorem walk_g {l : PySem.W.OpenLaw} {n k : Nat} {q : Program} {loose : List Str} {XP : (Str → Option Value) → Heap → Prop} {YP : World → Heap → Prop} {d : DefRec} {K : Params → PySem.W.Frag} {sp : PySem.W.Frag → Sp} {x : Str}
    (h1 : l.most = some n) (h2 : n ≤ sizeLine) (h3 : d.params.defaults = []) (hr : Room k callerA) (hY : ∀ (w : World) (h : Heap), YP w h → (K w.params).In h)
    (F : ∀ (w : World) (mg : Str → Option Value) (fa : Addr) (h : Heap), (K w.params).In h → h.Ns mainGlobals mg → mg d.name = some (.ref fa) →
      ∃ fd : FuncData, (∀ (s : Shared) (u : Value), BindsTo s fd ⟨[u], []⟩ [(x, u)]) ∧ ∀ base : Heap, (K w.params).In base → base.Ns mainGlobals mg → FnG l.prog w (K w.params) mg base CX0 k fa fd [x] (sp (K w.params)))
    (want : ∀ (K : PySem.W.Frag) (H : Hp) (a : Addr) (ns : List Int), ns.length ≤ n → Only H → SqL K H a (ns.map V.int) → sp K [.ref a] H (fun v _ => v = .bl true) fun _ _ _ => False) :
    PySem.W.WalkO q loose XP YP l.row.toRowW d [] (fun f vs => PySem.call f vs) := by
  refine Att.attach_call h1 h3 fun w s₀ s₁ mg mb fa o pm cd doc a vs ns G Y _ _ _ hmg hobj hints hlen hg => ?_
  have kx := hY w _ Y
  obtain ⟨fd, hb, hF⟩ := F w mg fa _ kx G.T.g hmg
  exact law_g kx G.T.g G.T.b G.T.builtins G.T.nolimit hg hobj hints (Nat.le_trans hlen h2) hr hF hb (fun H hO hS => want _ H a ns hlen hO hS) (fun _ _ _ z => z)
end
end Any
namespace Any
open L2 PySem PyProof.Rows
open PySem.Spec

/-- a statement that is never come to -/
theorem ps_never {X : Cx} {st : Stmt} : PS X st (fun _ _ _ => False) := ⟨fun _ _ _ _ _ _ h => h.elim⟩
section
variable {X : Cx} {C : CXT} {k n : Nat} {f D : Addr} {fd : FuncData} {ps ks : List Str} {sp : Sp} {E : XK} {m : Str} {o : Expr} {apos pos : Pos} {kws : List Keyword} {ta : TE} {tk : TA} {g : List Value → List Value → List Value} {gV : List V → List V → List V}
/-- o.m(k = v, ..) -/
def tMethK (D : Addr) (m : Str) (l : Nat) (sp : Sp) (gV : List V → List V → List V) (E : XK) (ta : TE) (tk : TA) : TE := fun σ H Q => ta σ H fun x H1 => ∃ a dx fs, x = .ref a ∧ H1 a = some (.ins D dx fs) ∧ fs.lookup m = none ∧
  tk σ H1 fun zs H2 => zs.length = l ∧ sp (gV [.ref a] zs) H2 Q E
theorem pe_methK {pl : Sem Bool} (he : PE X o ta) (c : Cls X.K D) (hm : Meth X.K D m f) (F : FnOk X.prog X.w X.K X.mg X.base C k f fd ps sp) (hr : Room k X.A) (hb : KBn X.K fd ps 1 ks g gV) (hx : Passes C X E) (hkw : PK X kws tk)
    (hall : (backToKw pos (keywordEach kws X.env)).all (·.1.isSome) = true := by rfl) (hks : (backToKw pos (keywordEach kws X.env)).filterMap (·.1) = ks := by rfl)
    (hpl : ((backTo pos (starEach [] X.env)).any (·.1) || (backToKw pos (keywordEach kws X.env)).any (·.1.isNone)) = false := by rfl)
    (ht : eval (.Call (.Attribute o m apos) [] kws pos) X.env = (do
      let ov ← eval o X.env
      standAt apos.atName
      let (f, first) ← holding [ov] (getMethod ov m pl)
      callWith pos f first (backTo pos (starEach [] X.env)) (backToKw pos (keywordEach kws X.env))) := by rfl) :
    PE X (.Call (.Attribute o m apos) [] kws pos) (tMethK D m ks.length sp gV E ta tk) := by
  refine ⟨fun pins s σ H Q I h => ?_⟩
  refine PySem.W.methodCall_KW (pl := pl) (thn (he.run pins s σ H _ I h) fun u s1 ⟨x, H1, I1, rx, a, dx, fs, ex, ea, l, q⟩ => ?_) ht
  subst ex
  obtain rfl : u = Value.ref a := rx
  refine getmeth_ok I1 ea c hm l ?_
  refine PySem.W.callWith_KW0 (first := [.ref a]) (h₀ := X.base) I.ok.mod.kin hm.kp hall (thn (hkw.run pos pins s1 σ H1 _ I1 q) ?_) hpl
  rintro ws s2 ⟨zs, H2, I2, rz, l1, q2⟩
  refine ⟨I2.kIn, ?_⟩
  rw [hks]
  exact run_fnN (us := [.ref a]) (vs := [.ref a]) F hr hb hx I2 (.cons rfl .nil) rz rfl l1 q2

/-- len(o), o of an own class with a __len__ -/
theorem call_lenO (F : FnOk X.prog X.w X.K X.mg X.base C k f fd ps sp) (hs : PySem.W.findIn X.K (.ref D) "__len__" = some (some (.ref f))) (hf : PySem.W.isFn X.K (.ref f) = true) (hb : Binds X.K fd ps []) (hx : Passes C X E) (hr : Room (k + 1) X.A) :
    CallR X (.builtin "len") (fun xs H Q => ∃ a dx fs, xs = [.ref a] ∧ H a = some (.ins D dx fs) ∧ sp [.ref a] H (fun v H' => ∃ n : Int, v = .int n ∧ 0 ≤ n ∧ n < 2 ^ 63 ∧ Q (.int n) H') E) := by
  intro pins s σ H xs us Q I r h
  obtain ⟨a, dx, fs, rfl, ha, hsp⟩ := h
  obtain ⟨u, rfl, ru⟩ := vals1 r
  cases ru
  obtain ⟨mA, J, _⟩ := ins_get I.hok ha
  obtain ⟨od, J, _⟩ := J.look
  obtain ⟨m, hF⟩ := I.fr
  refine PySem.W.len_K hF I.ok.mod.kin J hs hf ?_
  have hl := F.len _ _ _ _ hsp
  have e0 : Env0 X.prog X.w X.K X.mg X.base X.A.in1 X.stack s H := by
    have e := I.env0
    exact ⟨e.frames, e.mod, e.bs, e.bsz, e.funs, e.frf, e.hok, e.bare⟩
  have r2 : Vals [V.ref a] [Value.ref a] := .cons rfl .nil
  refine wpAny_call (codeAny_mono (F.run X.A.in1 X.stack s H ⟨[.ref a], []⟩ [.ref a] [.ref a] _ E hr.in1 e0 (by
    have := hb s [.ref a] I.kIn (by simpa using hl)
    simpa using this) r2 hsp) fun r s' hq => ?_)
  cases r with
  | error e => exact hx pins σ H s e s' I hq
  | ok fl =>
    cases fl with
    | ret w =>
      obtain ⟨z, H', I', rz, n, ez, n0, n1, q⟩ := I.after hq
      subst ez
      obtain ⟨t, rfl⟩ := rz
      exact ⟨⟨n0, n1⟩, .int n, H', I'.kept (fun _ _ e => e), ⟨_, rfl⟩, q⟩
    | next => exact False.elim hq
    | brk => exact False.elim hq
    | cont => exact False.elim hq
end

/-! ### heaps -/
/-- the tuples stay -/
def Tups (H H' : Hp) : Prop := ∀ a xs, H a = some (.tup xs) → H' a = some (.tup xs)
theorem Tups.trans {H H1 H2 : Hp} (a : Tups H H1) (b : Tups H1 H2) : Tups H H2 := fun x xs h => b x xs (a x xs h)
theorem Same.tups {H H' : Hp} (s : Same H H') : Tups H H' := fun a xs h => s a _ h
theorem same_new {H : Hp} {p : Addr} (h : H p = none) (o : HO) : Same H (upd H p o) := fun b u q => by rw [upd_ne (ne_of_none q h)]; exact q
theorem same_refl {H : Hp} : Same H H := fun _ _ q => q
/-- all but b stays -/
def Kept (b : Addr) (H H' : Hp) : Prop := ∀ a o, a ≠ b → H a = some o → H' a = some o
theorem Kept.refl {b : Addr} {H : Hp} : Kept b H H := fun _ _ _ q => q
theorem Kept.trans {b : Addr} {H H1 H2 : Hp} (h : Kept b H H1) (g : Kept b H1 H2) : Kept b H H2 := fun a o n q => g a o n (h a o n q)
theorem Kept.of {b : Addr} {H H' : Hp} (s : Same H H') : Kept b H H' := fun a o _ q => s a o q
theorem Kept.new {b p : Addr} {H : Hp} (h : H p = none) (o : HO) : Kept b H (upd H p o) := .of (same_new h o)
theorem Kept.put {b : Addr} {H : Hp} (o : HO) : Kept b H (upd H b o) := fun a u n q => by rw [upd_ne n]; exact q
theorem Kept.tups {b : Addr} {H H' : Hp} {xs : List V} (k : Kept b H H') (hb : H b = some (.lst xs)) : Tups H H' := fun a ys q => k a _ (ne_of q hb (by intro z; cases z)) q

theorem small {n : Nat} (h : n ≤ 1000) : n ≤ sizeLine := Nat.le_of_lt (small1000 h)
def ifBody : Stmt → List Stmt
  | .If _ b _ _ => b
  | _ => []
def elBody : Stmt → List Stmt
  | .If _ _ b _ => b
  | _ => []
def forBody : Stmt → List Stmt
  | .For _ _ b _ _ => b
  | _ => []
def stAt (l : List Stmt) (i : Nat) : Stmt := l.getD i (.Pass ⟨0, 0, 0, 0⟩)
/-- all but these stay -/
def Ks (S : List Addr) (H H' : Hp) : Prop := ∀ a o, a ∉ S → H a = some o → H' a = some o
theorem Ks.refl {S : List Addr} {H : Hp} : Ks S H H := fun _ _ _ q => q
theorem Ks.trans {S : List Addr} {H H1 H2 : Hp} (h : Ks S H H1) (g : Ks S H1 H2) : Ks S H H2 := fun a o n q => g a o n (h a o n q)
theorem Ks.mono {S T : List Addr} {H H' : Hp} (h : Ks S H H') (k : ∀ a ∈ S, a ∈ T) : Ks T H H' := fun a o n q => h a o (fun z => n (k a z)) q
theorem Same.ks {S : List Addr} {H H' : Hp} (h : Same H H') : Ks S H H' := fun a o _ q => h a o q
theorem Kept.ks {S : List Addr} {b : Addr} {H H' : Hp} (h : Kept b H H') (k : b ∈ S) : Ks S H H' := fun a o n q => h a o (fun z => n (z ▸ k)) q
theorem ks_new {S : List Addr} {H : Hp} {p : Addr} (h : H p = none) (o : HO) : Ks S H (upd H p o) := Same.ks (same_new h o)
theorem ks_put {S : List Addr} {H : Hp} {p : Addr} (h : p ∈ S) (o : HO) : Ks S H (upd H p o) := Kept.ks (Kept.put o) h
/-- a thing made since may be left out -/
theorem Ks.drop {S : List Addr} {H H' : Hp} {p : Addr} (h : Ks (p :: S) H H') (n : H p = none) : Ks S H H' := fun a o k q => h a o (fun z => by
  rcases List.mem_cons.mp z with z | z
  · rw [z, n] at q; cases q
  · exact k z) q
/-- things that are no tuples -/
def Loose (H : Hp) (S : List Addr) : Prop := ∀ a ∈ S, ∀ xs, H a ≠ some (.tup xs)
theorem Ks.tups {S : List Addr} {H H' : Hp} (h : Ks S H H') (l : Loose H S) : Tups H H' := fun a xs q => h a _ (fun z => l a z xs q) q
theorem Loose.nil {H : Hp} : Loose H [] := fun _ z => (nomatch z)
theorem Loose.cons {H : Hp} {a : Addr} {S : List Addr} {o : HO} (h : H a = some o) (k : ∀ xs, o ≠ .tup xs) (l : Loose H S) : Loose H (a :: S) := fun b hb xs q => by
  rcases List.mem_cons.mp hb with z | z
  · rw [z, h] at q
    exact k xs (Option.some.inj q)
  · exact l b z xs q
theorem lk_hit {k : Str} {v : V} {r : List (Str × V)} : ((k, v) :: r).lookup k = some v := by
  rw [List.lookup_cons, beq_self_eq_true]
theorem lk_skip {k k' : Str} {v : V} {r : List (Str × V)} (h : (k == k') = false) : ((k', v) :: r).lookup k = r.lookup k := by
  rw [List.lookup_cons, h]
theorem put_new {f : Str} {v : V} : ∀ {fs : List (Str × V)}, (∀ p ∈ fs, ¬ p.1 = f) → putF f v fs = fs ++ [(f, v)]
  | [], _ => rfl
  | (k, u) :: r, h => by
    unfold putF
    rw [if_neg (h (k, u) (List.mem_cons_self ..)), put_new fun p hp => h p (List.mem_cons_of_mem _ hp)]
    rfl
theorem upd2 {H : Hp} {x : Addr} {o o' : HO} : upd (upd H x o) x o' = upd H x o' := upd_upd
theorem paired_imp {α β : Type} {R S : α → β → Prop} (h : ∀ x y, R x y → S x y) : ∀ {xs : List α} {ys : List β}, Paired R xs ys → Paired S xs ys
  | _, _, .nil => .nil
  | _, _, .cons r t => .cons (h _ _ r) (paired_imp h t)
theorem paired_snoc {α β : Type} {R : α → β → Prop} {a : α} {b : β} (h : R a b) : ∀ {l : List α} {m : List β}, Paired R l m → Paired R (l ++ [a]) (m ++ [b])
  | _, _, .nil => .cons h .nil
  | _, _, .cons r t => .cons r (paired_snoc h t)
theorem itT {b : Bool} {A B : Prop} (h : b = true) (a : A) : if b = true then A else B := by
  rw [if_pos h]
  exact a
theorem itF {b : Bool} {A B : Prop} (h : b = false) (a : B) : if b = true then A else B := by
  rw [if_neg (by rw [h]; decide)]
  exact a
theorem itD {c A B : Prop} [Decidable c] (h1 : c → A) (h2 : ¬ c → B) : if decide c = true then A else B := ite2 (fun z => h1 (of_decide_eq_true z)) fun z => h2 fun q => z (decide_eq_true q)
theorem itN {c A B : Prop} [Decidable c] (h1 : ¬ c → A) (h2 : c → B) : if (!decide c) = true then A else B := by
  by_cases h : c
  · rw [decide_eq_true h]
    exact itF rfl (h2 h)
  · rw [decide_eq_false h]
    exact itT rfl (h1 h)
theorem itEq {i j : Int} {A B : Prop} (h1 : i = j → A) (h2 : i ≠ j → B) : if decide (V.int i = V.int j) = true then A else B := itD (fun z => h1 (V.int.inj z)) fun z => h2 fun q => z (by rw [q])
theorem itNe {i j : Int} {A B : Prop} (h1 : i ≠ j → A) (h2 : i = j → B) : if (!decide (V.int i = V.int j)) = true then A else B := itN (fun z => h1 fun q => z (by rw [q])) fun z => h2 (V.int.inj z)
theorem ne_str {x y : Str} (h : x ≠ y) : decide (V.str x = V.str y) = false := decide_eq_false fun z => h (V.str.inj z)
theorem eq_str {x : Str} : decide (V.str x = V.str x) = true := decide_eq_true rfl
/-! ### slices -/
theorem cut_to (xs : List V) (i : Nat) (h : i ≤ xs.length) : cutV xs none (some (i : Int)) = xs.take i := by
  unfold cutV
  rw [HT.sIx_none, HT.sIx_nat, List.drop_zero, Nat.sub_zero, Nat.min_eq_left h]
theorem cut_from (xs : List V) (i : Nat) : cutV xs (some (i : Int)) none = xs.drop i := by
  unfold cutV
  rw [HT.sIx_none, HT.sIx_nat]
  by_cases h : i ≤ xs.length
  · rw [Nat.min_eq_left h, List.take_of_length_le (by rw [List.length_drop]; exact Nat.le_refl _)]
  · rw [Nat.min_eq_right (by omega), List.drop_length, List.drop_of_length_le (by omega), List.take_nil]
end Any
namespace Any
open L2 PySem PySem.Spec PyProof.Rows
theorem refs_at {as : List Addr} {i : Nat} {v : V} (h : (as.map V.ref)[i]? = some v) : ∃ e, as[i]? = some e ∧ v = .ref e := by
  rw [List.getElem?_map] at h
  cases z : as[i]? with
  | none => rw [z] at h; cases h
  | some e => rw [z] at h; exact ⟨e, rfl, (Option.some.inj h).symm⟩
theorem paired_get {α β : Type} {R : α → β → Prop} : ∀ {xs : List α} {ys : List β}, Paired R xs ys → ∀ {i : Nat} {x : α}, xs[i]? = some x → ∃ y, ys[i]? = some y ∧ R x y
  | _, _, .nil, i, x, h => by simp at h
  | _, _, .cons r t, 0, x, h => by cases h; exact ⟨_, rfl, r⟩
  | _, _, .cons r t, i + 1, x, h => paired_get t (i := i) h
theorem paired_put {α β : Type} {R : α → β → Prop} : ∀ {xs : List α} {ys : List β}, Paired R xs ys → ∀ {i : Nat} {y : β}, ys[i]? = some y → ∃ x, xs[i]? = some x ∧ R x y
  | _, _, .nil, i, y, h => by simp at h
  | _, _, .cons r t, 0, y, h => by cases h; exact ⟨_, rfl, r⟩
  | _, _, .cons r t, i + 1, y, h => paired_put t (i := i) h
theorem fm_true : ∀ us : List V, (us.map fun _ => some (V.bl true)).filterMap id = (us.map fun _ => true).map V.bl
  | [] => rfl
  | x :: r => by
    rw [List.map_cons, List.map_cons, List.map_cons, ← fm_true r]
    rfl
theorem fm_some {α : Type} (g : α → V) : ∀ l : List α, (l.map fun b => some (g b)).filterMap id = l.map g
  | [] => rfl
  | x :: r => by
    rw [List.map_cons, List.map_cons, ← fm_some g r]
    rfl
theorem all_yes (us : List V) : ((us.map fun _ => true).all id) = true := by
  rw [List.all_map]
  exact List.all_eq_true.mpr fun _ _ => rfl
/-! ### rows made of rows, all else staying -/
/-- what a row's making asks -/
def Turns (J : It) (g : TG) (tt : TT) (te : TE) (vs : List Nat) (σ : L2.St) (H1 : Hp) (D : Addr) (Qd : Hp → Prop) : Prop :=
  ∃ W : Nat → Nat → Hp → Prop, (∃ m, W 0 m (upd H1 D (.lst []))) ∧
    ∀ i m H, W i m H → (J.stop i H ∧ Qd H) ∨
      (J.go i H ∧ ∃ N : Hp → Prop, (∀ H', N H' → ∃ m', m' < m ∧ W (i + 1) m' H') ∧
        ∀ x H', J.yld i H x H' →
          g x (wipe σ vs) H' fun σ2 H2 => wipe σ2 vs = wipe σ vs ∧
            tt σ2 H2 fun b H3 => if b = true then te σ2 H3 fun y H4 => ∃ acc, H4 D = some (.lst acc) ∧ acc.length < sizeLine ∧ N (upd H4 D (.lst (acc ++ [y]))) else N H3)
section
variable {K : PySem.W.Frag} {a : Addr} {xs : List V} {g : TG} {tt : TT} {te : TE} {vs : List Nat} {σ : L2.St} {H1 : Hp} {D : Addr} {Qd : Hp → Prop}
/-- each turn puts one thing behind, or none -/
def TurnF (xs : List V) (gs : List (Option V)) (g : TG) (tt : TT) (te : TE) (vs : List Nat) (σ : L2.St) (H1 : Hp) : Prop :=
  ∀ (i : Nat) (x : V) (o : Option V) (H : Hp) (Y : VK) (N : Hp → Prop), xs[i]? = some x → gs[i]? = some o → Same H1 H → (∀ y, o = some y → ∀ H4, Same H H4 → Y y H4) → (o = none → ∀ H4, Same H H4 → N H4) →
    g x (wipe σ vs) H fun σ2 H2 => wipe σ2 vs = wipe σ vs ∧ tt σ2 H2 fun b H3 => if b = true then te σ2 H3 Y else N H3
theorem take_fm {gs : List (Option V)} {i : Nat} {o : Option V} (h : gs[i]? = some o) : (gs.take (i + 1)).filterMap id = (gs.take i).filterMap id ++ o.toList := by
  rw [List.take_add_one, h, List.filterMap_append]
  cases o <;> rfl
theorem fm_len (gs : List (Option V)) : (gs.filterMap id).length ≤ gs.length := List.length_filterMap_le ..
theorem turns_tup (gs : List (Option V)) (hD : H1 D = none) (ha : ∀ H, Same H1 H → SqT K H a xs) (hn : gs.length = xs.length) (hz : xs.length ≤ sizeLine) (hs : TurnF xs gs g tt te vs σ H1)
    (hd : ∀ H, H D = some (.lst (gs.filterMap id)) → Same H1 H → Qd H) : Turns (Itt K a) g tt te vs σ H1 D Qd := by
  refine lc_tup (K := K) (a := a) (xs := xs) (fun i Hc => Hc D = some (.lst ((gs.take i).filterMap id)) ∧ Same H1 Hc) ⟨upd_same, same_new hD _⟩ (fun i Hc _ z => ha Hc z.2) ?_ ?_
  · rintro i x Hc hx ⟨hC, sm⟩
    have hi : i < xs.length := (List.getElem?_eq_some_iff.mp hx).1
    obtain ⟨o, ho⟩ : ∃ o, gs[i]? = some o := ⟨gs[i]'(by omega), by simp [hn, hi]⟩
    refine hs i x o Hc _ _ hx ho sm (fun y ey H4 s4 => ⟨_, s4 _ _ hC, ?_, ?_, fun b u hb => ?_⟩) (fun en H4 s4 => ⟨?_, sm.trans s4⟩)
    · have := fm_len (gs.take i)
      rw [List.length_take] at this
      omega
    · rw [upd_same, take_fm ho, ey]
      rfl
    · rw [upd_ne (ne_of_none hb hD)]
      exact s4 _ _ (sm _ _ hb)
    · rw [take_fm ho, en]
      show H4 D = some (.lst (_ ++ []))
      rw [List.append_nil]
      exact s4 _ _ hC
  · rintro Hc ⟨hC, sm⟩
    rw [← hn, List.take_length] at hC
    exact hd Hc hC sm
theorem turns_list (gs : List (Option V)) (hD : H1 D = none) (ha : ∀ H, Same H1 H → SqL K H a xs) (hn : gs.length = xs.length) (hz : xs.length ≤ sizeLine) (hs : TurnF xs gs g tt te vs σ H1)
    (hd : ∀ H, H D = some (.lst (gs.filterMap id)) → Same H1 H → Qd H) : Turns (Itl K a) g tt te vs σ H1 D Qd := by
  refine lc_list (K := K) (a := a) (xs := xs) (fun i Hc => Hc D = some (.lst ((gs.take i).filterMap id)) ∧ Same H1 Hc) ⟨upd_same, same_new hD _⟩ (fun i Hc _ z => ha Hc z.2) ?_ ?_
  · rintro i x Hc hx ⟨hC, sm⟩
    have hi : i < xs.length := (List.getElem?_eq_some_iff.mp hx).1
    obtain ⟨o, ho⟩ : ∃ o, gs[i]? = some o := ⟨gs[i]'(by omega), by simp [hn, hi]⟩
    refine hs i x o Hc _ _ hx ho sm (fun y ey H4 s4 => ⟨_, s4 _ _ hC, ?_, ?_, fun b u hb => ?_⟩) (fun en H4 s4 => ⟨?_, sm.trans s4⟩)
    · have := fm_len (gs.take i)
      rw [List.length_take] at this
      omega
    · rw [upd_same, take_fm ho, ey]
      rfl
    · rw [upd_ne (ne_of_none hb hD)]
      exact s4 _ _ (sm _ _ hb)
    · rw [take_fm ho, en]
      show H4 D = some (.lst (_ ++ []))
      rw [List.append_nil]
      exact s4 _ _ hC
  · rintro Hc ⟨hC, sm⟩
    rw [← hn, List.take_length] at hC
    exact hd Hc hC sm
end
end Any
set_option maxHeartbeats 4000000
namespace Any
open L2 PySem PySem.Spec PyProof.Rows
/-! ### t * 0, t * 1 -/
theorem tuple_mulS (l : Addr) (items : Array Value) (n : Nat) (dd : Option Addr) (sl : Array (Option Value)) (x : Int) (u : Tok) (c0 : (decide (x < -(2 ^ 63)) || decide (x ≥ 2 ^ 63)) = false) (c1 : (items.isEmpty || x == 1) = true) :
    Meets (Builtin.«tuple.__mul__» ⟨[.ref l, .int x u], []⟩) (fun _ R s => s.heap.get? l = some { cls := .type "tuple", dict := dd, data := .seq items n, slots := sl } ∧ R (.ok (.ret (Value.ref l))) s) :=
  .of_wp fun prog w A R s h => by
    obtain ⟨hp, g, d, tk, os⟩ := s
    obtain ⟨hl, h⟩ := h
    have f1 := AutoSeq1.idx_int
    wp_walk using wpAny_loadPart' hl
    repeat (first
      | (refine wpAny_ite_false (decide_eq_false (by rw [c0]; exact Bool.false_ne_true)) ?_; wp_walk using wpAny_loadPart' hl)
      | (refine wpAny_ite_true (decide_eq_true c1) ?_; wp_walk using wpAny_loadPart' hl))
    exact ⟨_, rfl, h⟩
theorem tuple_mul0 (l : Addr) (items : Array Value) (n : Nat) (dd : Option Addr) (sl : Array (Option Value)) (u : Tok) (c1 : (items.isEmpty || (0 : Int) == 1) = false) :
    Meets (Builtin.«tuple.__mul__» ⟨[.ref l, .int 0 u], []⟩) (fun _ R s => s.heap.get? l = some { cls := .type "tuple", dict := dd, data := .seq items n, slots := sl } ∧
      R (.ok (.ret (Value.ref s.heap.objs.size))) { s with heap := s.heap.push { cls := Value.type "tuple", data := Data.seq #[] }, toks := s.toks }) :=
  .of_wp fun prog w A R s h => by
    obtain ⟨hp, g, d, tk, os⟩ := s
    obtain ⟨hl, h⟩ := h
    have f1 := AutoSeq1.idx_int
    have c0 : (decide ((0 : Int) < -(2 ^ 63)) || decide ((0 : Int) ≥ 2 ^ 63)) = false := by decide
    have c2 : (decide ((0 : Int) ≤ 0) || items.isEmpty) = true := rfl
    wp_walk using wpAny_loadPart' hl
    repeat (first
      | (refine wpAny_ite_false (decide_eq_false (by rw [c0]; exact Bool.false_ne_true)) ?_; wp_walk using wpAny_loadPart' hl)
      | (refine wpAny_ite_false (decide_eq_false (by rw [c1]; exact Bool.false_ne_true)) ?_; wp_walk using wpAny_loadPart' hl)
      | (refine wpAny_ite_true (decide_eq_true c2) ?_; wp_walk using wpAny_loadPart' hl))
    exact ⟨_, rfl, h⟩
section
variable {X : Cx}
def rRep01 (K : PySem.W.Frag) : R2 := fun x y H Q => ∃ l k xs, x = .ref l ∧ y = .int k ∧ SqT K H l xs ∧ (k = 0 ∨ k = 1) ∧ (xs = [] ∨ k = 1 → Q (.ref l) H) ∧ (xs ≠ [] → k = 0 → ∀ p, H p = none → Q (.ref p) (upd H p (.tup [])))
theorem op_rep01 : OpR X (binaryOp .Mult) (rRep01 X.K) := by
  intro pins s σ H x y v u Q I rx ry h
  obtain ⟨l, k, xs, rfl, rfl, hT, hk, q1, q2⟩ := h
  cases rx
  obtain ⟨t, rfl⟩ := ry
  obtain ⟨its, r, ⟨⟨cls, dd, data, sl⟩, ho, hc, n, hd⟩, hs⟩ := I.tuple hT
  simp only at hc hd
  subst hc hd
  have hle : its.length = xs.length := r.length.symm
  have c0 : (decide (k < -(2 ^ 63)) || decide (k ≥ 2 ^ 63)) = false := by
    rcases hk with rfl | rfl <;> decide
  by_cases c : xs = [] ∨ k = 1
  · have c1 : (its.toArray.isEmpty || k == 1) = true := by
      rcases c with c | c
      · have : its = [] := List.eq_nil_of_length_eq_zero (by rw [hle, c]; rfl)
        rw [this]
        rfl
      · rw [c]
        simp
    refine wpAny_binaryOp_repeat_ref (T := "tuple") (U := "int") (by decide) ⟨_, ho, rfl⟩ (fun s' => typeIs_int s' k t) noFill_tuple_mul F.fills_int_mul F.slot_int_rmul repeat_tuple F.slot_int_index.lookup
      (call_meets F.slot_int_rmul (typeIs_int s k t) F.entry_int_rmul (F.args_int_rmul_2 _ _) (int_rmul_tuple k t l its.toArray n dd sl)
        ⟨ho, rfl, ⟨_, ho, rfl⟩, call_meets F.slot_tuple_mul ⟨_, ho, rfl⟩ F.entry_tuple_mul (F.args_tuple_mul_2 _ _) (tuple_mulS l its.toArray n dd sl k t c0 c1) ⟨ho, ?_⟩⟩)
    exact ⟨.ref l, H, I, rfl, q1 c⟩
  · have k0 : k = 0 := hk.elim id fun z => absurd (.inr z) c
    subst k0
    have c1 : (its.toArray.isEmpty || (0 : Int) == 1) = false := by
      cases its with
      | nil => exact absurd (.inl (List.eq_nil_of_length_eq_zero hle.symm)) c
      | cons a b => rfl
    refine wpAny_binaryOp_repeat_ref (T := "tuple") (U := "int") (by decide) ⟨_, ho, rfl⟩ (fun s' => typeIs_int s' 0 t) noFill_tuple_mul F.fills_int_mul F.slot_int_rmul repeat_tuple F.slot_int_index.lookup
      (call_meets F.slot_int_rmul (typeIs_int s 0 t) F.entry_int_rmul (F.args_int_rmul_2 _ _) (int_rmul_tuple 0 t l its.toArray n dd sl)
        ⟨ho, rfl, ⟨_, ho, rfl⟩, call_meets F.slot_tuple_mul ⟨_, ho, rfl⟩ F.entry_tuple_mul (F.args_tuple_mul_2 _ _) (tuple_mul0 l its.toArray n dd sl t c1) ⟨ho, ?_⟩⟩)
    refine ⟨.ref s.heap.objs.size, _, I.laid (t' := s.toks) (o := .tup []) (fun b ob q => Heap.get?_push_of_some _ q) (Nat.le_refl _) ?_, rfl, q2 (fun z => c (.inl z)) rfl _ (I.hok.fresh (Nat.le_refl _))⟩
    exact ⟨by decide, [], .nil, IsTup.new _ _⟩
end
end Any
namespace Any
open L2 PySem PySem.Spec PyProof.Rows
/-! ### small data -/
structure Tm (d : PyData) (w p : Nat) : Prop where
  short : d.leavesShort 1921 = true
  show_ : d.showable = true
  lay : d.canLay0 = true
  wt : d.weight ≤ w
  dp : d.depth ≤ p
structure TmAll (ds : List PyData) (w p : Nat) : Prop where
  short : PyData.leavesShortAll 1921 ds = true
  show_ : PyData.showableAll ds = true
  lay : PyData.canLayAll0 ds = true
  wt : PyData.weightAll ds ≤ w
  dp : PyData.depthAll ds ≤ p
theorem Tm.int {i : Int} {p : Nat} (h0 : 0 ≤ i) (h1 : i < 1024) : Tm (.int i) 11 p := by
  have lg : i.natAbs.log2 < 1920 := by
    by_cases z : i.natAbs = 0
    · rw [z]; decide
    · have := (Nat.log2_lt z).mpr (show i.natAbs < 2 ^ 10 by omega)
      omega
  refine ⟨decide_eq_true (int_text_len_1921 lg), decide_eq_true lg, rfl, ?_, Nat.zero_le _⟩
  show (if i == 0 then 0 else i.natAbs.log2 + 1) ≤ 11
  split
  · omega
  · rename_i z
    have z' : i.natAbs ≠ 0 := by intro e; apply z; simp; omega
    have := (Nat.log2_lt z').mpr (show i.natAbs < 2 ^ 10 by omega)
    omega
theorem Tm.non {p : Nat} : Tm .none 0 p := ⟨rfl, rfl, rfl, Nat.le_refl _, Nat.zero_le _⟩
theorem Tm.bl {b : Bool} {p : Nat} : Tm (.bool b) 0 p := ⟨rfl, rfl, rfl, Nat.le_refl _, Nat.zero_le _⟩
theorem TmAll.nil {w p : Nat} : TmAll [] w p := ⟨rfl, rfl, rfl, Nat.zero_le _, Nat.zero_le _⟩
theorem TmAll.cons {d : PyData} {ds : List PyData} {w v u p : Nat} (h : Tm d w p) (k : TmAll ds v p) (z : w + 1 + v ≤ u) : TmAll (d :: ds) u p where
  short := by
    show (PyData.leavesShort 1921 d && PyData.leavesShortAll 1921 ds) = true
    rw [h.short, k.short]
    rfl
  show_ := by
    show (PyData.showable d && PyData.showableAll ds) = true
    rw [h.show_, k.show_]
    rfl
  lay := by
    show (PyData.canLay0 d && PyData.canLayAll0 ds) = true
    rw [h.lay, k.lay]
    rfl
  wt := by
    have h1 := h.wt
    have h2 := k.wt
    show PyData.weight d + 1 + PyData.weightAll ds ≤ u
    omega
  dp := Nat.max_le.mpr ⟨h.dp, k.dp⟩
theorem Tm.tup {ds : List PyData} {w p : Nat} (h : TmAll ds w p) : Tm (.tuple ds) w (p + 1) := ⟨h.short, h.show_, h.lay, h.wt, Nat.succ_le_succ h.dp⟩
theorem Tm.lst {ds : List PyData} {w p : Nat} (h : TmAll ds w p) : Tm (.list ds) w (p + 1) := ⟨h.short, h.show_, h.lay, h.wt, Nat.succ_le_succ h.dp⟩
theorem Tm.more {d : PyData} {w v p : Nat} (h : Tm d w p) (k : w ≤ v) : Tm d v p := ⟨h.short, h.show_, h.lay, Nat.le_trans h.wt k, h.dp⟩
theorem Tm.fits {d : PyData} {w p : Nat} (h : Tm d w p) (hw : w ≤ 8000) (hp : p ≤ 60) : d.showable = true ∧ d.depth ≤ 60 ∧ d.shown.length ≤ sizeLine := by
  refine ⟨h.show_, Nat.le_trans h.dp hp, ?_⟩
  have z := PyData.shown_le 1921 (by decide) d h.short
  have h3 : (1921 + 2) * d.weight ≤ (1921 + 2) * 8000 := Nat.mul_le_mul_left _ (Nat.le_trans h.wt hw)
  rw [sizeLine_eq]
  omega
theorem Tm.shaped {d : PyData} {w p : Nat} (h : Tm d w p) (hp : p ≤ 60) : SeqAt.shaped d = true := by
  unfold SeqAt.shaped
  rw [h.lay, decide_eq_true (show d.depth ≤ 64 from Nat.le_trans h.dp (by omega))]
  rfl
theorem Tm.noDict {d : PyData} {w p : Nat} (h : Tm d w p) : d.hasDict = false := PyData.hasDict_of_canLay d h.lay
end Any
namespace Any
open L2 PySem PySem.Spec PyProof.Rows
/-! ### == and != by an own __eq__, repr by an own __repr__ -/
section
variable {prog : Program} {w : World} {A : Around} {E : Value → Shared → Prop} {s : Shared} {K : PySem.W.Frag} {x C f : Addr} {ox : Obj} {od : Option Obj} {b tb : Value}
theorem ifBound_ne {M : Model} {args : List Value} {Q : Option Value → Shared → Prop} (X : K.In s.heap) (I : PySem.W.InstAt s.heap x ox C od) (hn : PySem.W.findIn K (.ref C) "__ne__" = some (some (.builtin "object.__ne__")))
    (h : wpAny M A (call (.builtin "object.__ne__") (.ref x :: args)) (fun v => Q (some v)) E s) : wpAny M A (callSpecialIfBound? (.ref x) "__ne__" args) Q E s := by
  simp only [callSpecialIfBound?, bindSpecialIfBound?]
  refine wpAny_holding (wpAny_bind (wpAny_bind (wpAny_bind (I.type.here ((PySem.W.looks_findIn X hn).here ?_)))))
  simp only [PySem.F.cmp_object.ne.bind]
  refine wpAny_bind (wpAny_askSetting (wpAny_ite ?_))
  have fin : wpAny M A (call (.builtin "object.__ne__") ([.ref x] ++ args) >>= fun v => pure (some v)) Q E s := wpAny_bind (wpAny_mono h (fun v s' h' => wpAny_pure h') fun _ _ h' => h')
  split
  · exact wpAny_bind (wpAny_pure (wpAny_pure fin))
  · exact wpAny_tryCatch (wpAny_bind (wpAny_pure (wpAny_pure fin)))
theorem entry_ne {Q : Fin → Shared → Prop} (hu : A.units < cLine) (X : K.In s.heap) (I : PySem.W.InstAt s.heap x ox C od) (hs : PySem.W.findIn K (.ref C) "__eq__" = some (some (.ref f))) (hf : PySem.W.isFn K (.ref f) = true)
    (h : wpAny (model prog w) A (call (.ref f) [.ref x, b]) (fun v s' => ∃ c, v = .bool c ∧ Q (.done (.ret (.bool (!c)))) s') E s) :
    wpAny (model prog w) A (Builtin.«object.__ne__» ⟨[.ref x, b], []⟩) Q E s := by
  obtain ⟨hh, g, d, t, os⟩ := s
  unfold Builtin.«object.__ne__»
  repeat (first
    | with_reducible refine wpAny_cRoomFor hu ?_
    | (refine wpAny_bind (m := callSpecialIfBound? (.ref x) (Str.ofString "__eq__") [b]) (PySem.W.ifBound_K X I hs hf (wpAny_mono h (fun r s' hr => by
          obtain ⟨c, rfl, hq⟩ := hr
          repeat (first | exact hq | exact wpAny_pure hq | exact wpAny_truthy_bool hq | (refine wpAny_bind (m := truthy (.bool _)) (wpAny_truthy_bool ?_)) | wp_step)) fun _ _ e => e)))
    | wp_step)
theorem ne_K {Q : Value → Shared → Prop} (hu : A.units + 1 < cLine) (X : K.In s.heap) (I : PySem.W.InstAt s.heap x ox C od) (hb : PySem.W.Looks (model prog w) s.heap (typeOf b) tb) (hn : PySem.W.notFirst K C tb = true)
    (hne : PySem.W.findIn K (.ref C) "__ne__" = some (some (.builtin "object.__ne__"))) (hm : PySem.W.mroIn K C (.type "object") = some true) (hs : PySem.W.findIn K (.ref C) "__eq__" = some (some (.ref f))) (hf : PySem.W.isFn K (.ref f) = true)
    (h : wpAny (model prog w) A.in1 (call (.ref f) [.ref x, b]) (fun v s' => ∃ c, v = .bool c ∧ Q (.bool (!c)) s') E s) : wpAny (model prog w) A (richCompare .NotEq (.ref x) b) Q E s := by
  have one : wpAny (model prog w) A (tryCompare (.ref x) "__ne__" b) (fun r s' => ∃ v, r = some v ∧ Q v s') E s := by
    unfold tryCompare
    refine wpAny_bind (ifBound_ne X I hne (wpAny_call (codeAny_call_builtin PySem.F.cmp_object.ne.plain PySem.F.cmpEntry_ne
      (PySem.W.check_slot PySem.F.cmpKind_ne PySem.F.cmpSplit_ne (I.type.andThen (PySem.W.looks_mroIn X hm)) (PySem.F.cmpArgs_ne _ _) (entry_ne (A := A.in1) hu X I hs hf (wpAny_mono h (fun v s' hv => ?_) fun _ _ e => e))))))
    obtain ⟨c, rfl, hq⟩ := hv
    first | exact ⟨c, rfl, wpAny_pure ⟨_, rfl, hq⟩⟩ | exact ⟨c, rfl, _, rfl, hq⟩
  unfold richCompare
  simp only [oneThing_ref]
  refine wpAny_holding (wpAny_bind (wpAny_cRoomFor (Nat.lt_of_succ_lt hu) ?_))
  rw [cmpInfo_NotEq]
  dsimp only
  refine wpAny_bind (I.type.here (wpAny_bind (hb.here ?_)))
  split
  · rename_i q
    have e : PySem.W.subIn K tb (.ref C) = some false := by
      rcases Bool.or_eq_true_iff.mp hn with e | e
      · rw [beq_iff_eq.mp e] at q; simp at q
      · exact beq_iff_eq.mp e
    refine wpAny_bind ((PySem.W.looks_subIn X e).here ?_)
    simp only [Bool.false_eq_true, if_false]
    refine wpAny_bind (wpAny_mono one (fun r s' z => ?_) fun _ _ e => e)
    obtain ⟨v, rfl, hq⟩ := z
    exact wpAny_pure hq
  · refine wpAny_bind (wpAny_pure ?_)
    simp only [Bool.false_eq_true, if_false]
    refine wpAny_bind (wpAny_mono one (fun r s' z => ?_) fun _ _ e => e)
    obtain ⟨v, rfl, hq⟩ := z
    exact wpAny_pure hq
end
/-- what an own object is held against: an int, a tuple, one of its class -/
inductive Oth (C : Addr) (H : Hp) : V → Prop
  | non : Oth C H .non
  | int (i : Int) : Oth C H (.int i)
  | tup {a : Addr} {xs : List V} (h : H a = some (.tup xs)) : Oth C H (.ref a)
  | ins {a dx : Addr} {fs : List (Str × V)} (h : H a = some (.ins C dx fs)) : Oth C H (.ref a)
theorem mro_int : fastBuiltinMro "int" = some [.type "int", .type "object"] := by decide +kernel
theorem mro_none : fastBuiltinMro "NoneType" = some [.type "NoneType", .type "object"] := by decide +kernel
theorem mro_tuple : fastBuiltinMro "tuple" = some [.type "tuple", .type "object"] := by decide +kernel
section
variable {X : Cx} {pins : List (Addr × Obj)} {σ : L2.St} {H : Hp} {s : Shared} {C f : Addr} {k : Nat} {sp : Sp}
theorem Oth.looks {y : V} {u : Value} (o : Oth C H y) (I : Inv X pins σ H s) (r : RelV y u) : ∃ t, PySem.W.Looks (model X.prog X.w) s.heap (typeOf u) t ∧ PySem.W.notFirst X.K C t = true := by
  cases o with
  | non =>
    cases r
    refine ⟨.type "NoneType", .of_pure rfl, ?_⟩
    unfold PySem.W.notFirst PySem.W.subIn
    dsimp only
    rw [mro_none]
    simp
  | int i =>
    obtain ⟨t, rfl⟩ := r
    refine ⟨.type "int", .of_pure rfl, ?_⟩
    unfold PySem.W.notFirst PySem.W.subIn
    dsimp only
    rw [mro_int]
    simp
  | @tup a xs h =>
    cases r
    obtain ⟨_, _, _, o, h1, h2, _⟩ := (show ObjOk X.prog X.w H s.heap a (.tup xs) from I.hok a _ h)
    refine ⟨.type "tuple", h2 ▸ (PySem.W.Looks.ld h1).andThen .now, ?_⟩
    unfold PySem.W.notFirst PySem.W.subIn
    dsimp only
    rw [mro_tuple]
    simp
  | @ins a dx fs h =>
    cases r
    obtain ⟨mA, J, _⟩ := ins_get I.hok h
    obtain ⟨od, J, _⟩ := J.look
    exact ⟨.ref C, J.type, by simp [PySem.W.notFirst]⟩
theorem run_R {A : Around} {us : List Value} {vs : List V} {Q : VK} (hA : A = X.A ∨ A = X.A.in1) (F : FnR X.prog X.w X.K X.mg X.base CX0 k f sp) (hr : Room k A) (I : Inv X pins σ H s) (r : Vals vs us) (h : sp vs H Q E0) :
    wpAny (model X.prog X.w) A (call (.ref f) us) (EP X pins σ Q) X.xe s := by
  have e0 : Env0 X.prog X.w X.K X.mg X.base A X.stack s H := by
    rcases hA with rfl | rfl
    · exact I.env0
    · exact I.env0.in1
  refine wpAny_call (codeAny_mono (F A X.stack s H us vs Q E0 hr e0 r h) fun r s' hq => ?_)
  cases r with
  | error e => exact pass0 pins σ H s e s' I hq
  | ok fl =>
    cases fl with
    | ret u => exact I.after hq
    | next => exact False.elim hq
    | brk => exact False.elim hq
    | cont => exact False.elim hq
/-- an own class with an __eq__ -/
structure EqD (P : Program) (w : World) (K : PySem.W.Frag) (mg : Str → Option Value) (base : Heap) (C : Addr) (k : Nat) (sp : Sp) : Prop where
  ex : ∃ f, PySem.W.findIn K (.ref C) "__eq__" = some (some (.ref f)) ∧ PySem.W.isFn K (.ref f) = true ∧ FnR P w K mg base CX0 k f sp
  ne : PySem.W.findIn K (.ref C) "__ne__" = some (some (.builtin "object.__ne__"))
  ob : PySem.W.mroIn K C (.type "object") = some true
def rEqO (C : Addr) (sp : Sp) : R2 := fun x y H Q => ∃ a dx fs, x = .ref a ∧ H a = some (.ins C dx fs) ∧ Oth C H y ∧ sp [x, y] H (fun v H' => ∃ b, v = .bl b ∧ Q (.bl b) H') E0
def rNeO (C : Addr) (sp : Sp) : R2 := fun x y H Q => ∃ a dx fs, x = .ref a ∧ H a = some (.ins C dx fs) ∧ Oth C H y ∧ sp [x, y] H (fun v H' => ∃ b, v = .bl b ∧ Q (.bl (!b)) H') E0
theorem op_eqO (D : EqD X.prog X.w X.K X.mg X.base C k sp) (hr : Room k X.A) : OpR X (compareOp .Eq) (rEqO C sp) := by
  intro pins s σ H x y v u Q I rx ry h
  obtain ⟨a, dx, fs, rfl, ha, ho, hsp⟩ := h
  obtain ⟨f, hs, hf, F⟩ := D.ex
  cases rx
  obtain ⟨t, lt, nt⟩ := ho.looks I ry
  obtain ⟨mA, J, _⟩ := ins_get I.hok ha
  obtain ⟨od, J, _⟩ := J.look
  obtain ⟨m, hF⟩ := I.fr
  show wpAny (model X.prog X.w) X.A (richCompare .Eq (.ref a) u) (EP X pins σ Q) X.xe s
  refine PySem.W.cmp_K (op := .Eq) hr.units0 hF I.ok.mod.kin J lt nt hs hf (wpAny_mono (run_R (us := [.ref a, u]) (vs := [.ref a, y]) (.inl rfl) F hr I (.cons rfl (.cons ry .nil)) hsp) (fun v s' z => ?_) fun _ _ e => e)
  obtain ⟨z, H', I', rz, b, rfl, q⟩ := z
  cases rz
  exact ⟨.bl b, H', I', rfl, q⟩
theorem op_neO (D : EqD X.prog X.w X.K X.mg X.base C k sp) (hr : Room (k + 1) X.A) : OpR X (compareOp .NotEq) (rNeO C sp) := by
  intro pins s σ H x y v u Q I rx ry h
  obtain ⟨a, dx, fs, rfl, ha, ho, hsp⟩ := h
  obtain ⟨f, hs, hf, F⟩ := D.ex
  cases rx
  obtain ⟨t, lt, nt⟩ := ho.looks I ry
  obtain ⟨mA, J, _⟩ := ins_get I.hok ha
  obtain ⟨od, J, _⟩ := J.look
  show wpAny (model X.prog X.w) X.A (richCompare .NotEq (.ref a) u) (EP X pins σ Q) X.xe s
  refine ne_K (by have := hr.units; omega) I.kIn J lt nt D.ne D.ob hs hf (wpAny_mono (run_R (us := [.ref a, u]) (vs := [.ref a, y]) (.inr rfl) F hr.in1 I (.cons rfl (.cons ry .nil)) hsp) (fun v s' z => ?_) fun _ _ e => e)
  obtain ⟨z, H', I', rz, b, rfl, q⟩ := z
  cases rz
  exact ⟨b, rfl, .bl (!b), H', I', rfl, q⟩
/-- repr(o), o of an own class with a __repr__ -/
structure ReD (P : Program) (w : World) (K : PySem.W.Frag) (mg : Str → Option Value) (base : Heap) (C : Addr) (k : Nat) (sp : Sp) : Prop where
  ex : ∃ f, PySem.W.findIn K (.ref C) "__repr__" = some (some (.ref f)) ∧ PySem.W.isFn K (.ref f) = true ∧ FnR P w K mg base CX0 k f sp
theorem call_reprO (D : ReD X.prog X.w X.K X.mg X.base C k sp) (hr : Room (k + 1) X.A) :
    CallR X (.builtin "repr") (fun xs H Q => ∃ a dx fs, xs = [.ref a] ∧ H a = some (.ins C dx fs) ∧ sp [.ref a] H (fun v H' => ∃ z : Str, v = .str z ∧ Q (.str z) H') E0) := by
  intro pins s σ H xs us Q I r h
  obtain ⟨a, dx, fs, rfl, ha, hsp⟩ := h
  obtain ⟨f, hs, hf, F⟩ := D.ex
  obtain ⟨u, rfl, ru⟩ := vals1 r
  cases ru
  obtain ⟨mA, J, _⟩ := ins_get I.hok ha
  obtain ⟨od, J, _⟩ := J.look
  obtain ⟨m, hF⟩ := I.fr
  refine PySem.W.repr_K hr.in1.units0 hF I.ok.mod.kin J hs hf (wpAny_mono (run_R (us := [.ref a]) (vs := [.ref a]) (.inr rfl) F hr.in1 I (.cons rfl .nil) hsp) (fun v s' z => ?_) fun _ _ e => e)
  obtain ⟨z, H', I', rz, b, rfl, q⟩ := z
  obtain ⟨t, rfl⟩ := rz
  exact ⟨.str b, H', I', ⟨t, rfl⟩, q⟩
end
end Any
namespace Any
open L2 PySem PySem.Spec PyProof.Rows
def top (i : Nat) : Stmt := PySem.Challenge.pw_anystore_k55_ways_made.main.body.getD i (.Pass ⟨0, 0, 0, 0⟩)
/-! ### defs by their names -/
section
variable (P : Program) (w : World) (K : PySem.W.Frag) (mg : Str → Option Value) (base : Heap)
/-- the name x of the module holds a def that keeps this promise -/
def Df (k : Nat) (x : Str) (ps : List Str) (sp : Sp) : Prop := ∃ f fd, mg x = some (.ref f) ∧ PySem.W.keepIn K (.ref f) = true ∧ FnOk P w K mg base CX0 k f fd ps sp ∧ Binds K fd ps []
/-- .. where no repr is under way -/
def DfG (k : Nat) (x : Str) (ps : List Str) (sp : Sp) : Prop := ∃ f fd, mg x = some (.ref f) ∧ PySem.W.keepIn K (.ref f) = true ∧ FnG P w K mg base CX0 k f fd ps sp ∧ Binds K fd ps []
/-- a method of the class at C -/
def Mf (C : Addr) (k : Nat) (m : Str) (ps : List Str) (sp : Sp) : Prop := ∃ f fd, Meth K C m f ∧ FnOk P w K mg base CX0 k f fd ps sp ∧ Binds K fd ps []
/-- .. called with these keywords alone -/
def MfK (C : Addr) (k : Nat) (m : Str) (ps ks : List Str) (gV : List V → List V → List V) (sp : Sp) : Prop := ∃ f fd g, Meth K C m f ∧ FnOk P w K mg base CX0 k f fd ps sp ∧ KBn K fd ps 1 ks g gV
/-- .. called with nothing -/
def Mf0 (C : Addr) (k : Nat) (m : Str) (ps : List Str) (dvs : List V) (sp : Sp) : Prop := ∃ f fd ds, Meth K C m f ∧ FnOk P w K mg base CX0 k f fd ps sp ∧ Binds K fd ps ds ∧ Vals dvs ds
/-- a class, made with n values and these keywords -/
def MkK (k : Nat) (x : Str) (C : Addr) (n : Nat) (ps ks : List Str) (gV : List V → List V → List V) (sp : Sp) : Prop := ∃ f fd g, mg x = some (.ref C) ∧ Mk K C f ∧ FnOk P w K mg base CX0 k f fd ps sp ∧ KBn K fd ps (n + 1) ks g gV
end
section
variable {X : Cx} {k n : Nat} {x m : Str} {C : Addr} {ps ks : List Str} {sp : Sp} {dvs : List V} {p pos apos : Pos} {e o : Expr} {es : List Expr} {t tk : TA} {ta : TE} {kws : List Keyword} {gV : List V → List V → List V}
theorem pe_D (D : Df X.prog X.w X.K X.mg X.base k x ps sp) (hr : Room k X.A) (hg : Gl X x) (ha : PA X (e :: es) t) (hdb : (x == ("__debug__" : Str)) = false := by decide)
    (he : starEach (e :: es) X.env = (false, eval e X.env) :: starEach es X.env := by rfl) (hpl : (backTo pos (starEach es X.env)).any (·.1) = false := by rfl) : PE X (.Call (.Name x p) (e :: es) [] pos) (tCall sp [] E0 t) := by
  obtain ⟨f, fd, hm, hk, F, hb⟩ := D
  exact pe_call F hr hg hm hk hb .nil pass0 ha hdb he hpl
theorem pe_DG (D : DfG X.prog X.w X.K X.mg X.base k x ps sp) (hG : X.A.guards = some []) (hr : Room k X.A) (hg : Gl X x) (ha : PA X (e :: es) t) (hdb : (x == ("__debug__" : Str)) = false := by decide)
    (he : starEach (e :: es) X.env = (false, eval e X.env) :: starEach es X.env := by rfl) (hpl : (backTo pos (starEach es X.env)).any (·.1) = false := by rfl) : PE X (.Call (.Name x p) (e :: es) [] pos) (tCall sp [] E0 t) := by
  obtain ⟨f, fd, hm, hk, F, hb⟩ := D
  exact pe_callG F hG hr hg hm hk hb .nil pass0 ha hdb he hpl
theorem pe_M {pl : Sem Bool} (D : Mf X.prog X.w X.K X.mg X.base C k m ps sp) (c : Cls X.K C) (he : PE X o ta) (hr : Room k X.A) (ha : PA X (e :: es) t)
    (hst : starEach (e :: es) X.env = (false, eval e X.env) :: starEach es X.env := by rfl) (hpl : (backTo pos (starEach es X.env)).any (·.1) = false := by rfl)
    (ht : eval (.Call (.Attribute o m apos) (e :: es) [] pos) X.env = (do
      let ov ← eval o X.env
      standAt apos.atName
      let (f, first) ← holding [ov] (getMethod ov m pl)
      callWith pos f first (backTo pos (starEach (e :: es) X.env)) (backToKw pos (keywordEach [] X.env))) := by rfl) :
    PE X (.Call (.Attribute o m apos) (e :: es) [] pos) (tMeth C m sp [] E0 ta t) := by
  obtain ⟨f, fd, hm, F, hb⟩ := D
  exact pe_meth he c hm F hr hb .nil pass0 ha hst hpl ht
theorem pe_M0 {pl : Sem Bool} (D : Mf0 X.prog X.w X.K X.mg X.base C k m ps dvs sp) (c : Cls X.K C) (he : PE X o ta) (hr : Room k X.A)
    (ht : eval (.Call (.Attribute o m apos) [] [] pos) X.env = (do
      let ov ← eval o X.env
      standAt apos.atName
      let (f, first) ← holding [ov] (getMethod ov m pl)
      callWith pos f first (backTo pos (starEach [] X.env)) (backToKw pos (keywordEach [] X.env))) := by rfl) :
    PE X (.Call (.Attribute o m apos) [] [] pos) (tMeth C m sp dvs E0 ta tNil) := by
  obtain ⟨f, fd, ds, hm, F, hb, hv⟩ := D
  exact pe_meth0 he c hm F hr hb hv pass0 ht
theorem pe_MK {pl : Sem Bool} (D : MfK X.prog X.w X.K X.mg X.base C k m ps ks gV sp) (c : Cls X.K C) (he : PE X o ta) (hr : Room k X.A) (hkw : PK X kws tk)
    (hall : (backToKw pos (keywordEach kws X.env)).all (·.1.isSome) = true := by rfl) (hks : (backToKw pos (keywordEach kws X.env)).filterMap (·.1) = ks := by rfl)
    (hpl : ((backTo pos (starEach [] X.env)).any (·.1) || (backToKw pos (keywordEach kws X.env)).any (·.1.isNone)) = false := by rfl)
    (ht : eval (.Call (.Attribute o m apos) [] kws pos) X.env = (do
      let ov ← eval o X.env
      standAt apos.atName
      let (f, first) ← holding [ov] (getMethod ov m pl)
      callWith pos f first (backTo pos (starEach [] X.env)) (backToKw pos (keywordEach kws X.env))) := by rfl) :
    PE X (.Call (.Attribute o m apos) [] kws pos) (tMethK C m ks.length sp gV E0 ta tk) := by
  obtain ⟨f, fd, g, hm, F, hb⟩ := D
  exact pe_methK he c hm F hr hb pass0 hkw hall hks hpl ht
theorem pe_CK (D : MkK X.prog X.w X.K X.mg X.base k x C n ps ks gV sp) (hr : Room (k + 1) X.A) (hg : Gl X x) (ha : PA X (e :: es) t) (hkw : PK X kws tk)
    (hall : (backToKw pos (keywordEach kws X.env)).all (·.1.isSome) = true := by rfl) (hks : (backToKw pos (keywordEach kws X.env)).filterMap (·.1) = ks := by rfl) (hdb : (x == ("__debug__" : Str)) = false := by decide)
    (he : starEach (e :: es) X.env = (false, eval e X.env) :: starEach es X.env := by rfl) (hpl : ((backTo pos (starEach (e :: es) X.env)).any (·.1) || (backToKw pos (keywordEach kws X.env)).any (·.1.isNone)) = false := by rfl) :
    PE X (.Call (.Name x p) (e :: es) kws pos) (tMakeK C n ks.length sp gV E0 t tk) := by
  obtain ⟨f, fd, g, hm, M, F, hb⟩ := D
  exact pe_makeK M F hr hg hm hb pass0 ha hkw hall hks hdb he hpl
end
section
variable {P : Program} {w : World} {K : PySem.W.Frag} {mg : Str → Option Value} {base : Heap}
theorem Df.mono {j k : Nat} {x : Str} {ps : List Str} {sp : Sp} (D : Df P w K mg base j x ps sp) (h : j ≤ k) : Df P w K mg base k x ps sp := by
  obtain ⟨f, fd, hm, hk, F, hb⟩ := D
  exact ⟨f, fd, hm, hk, F.mono h, hb⟩
end
/-- the names of Python's own that the text asks for -/
structure Own (mg : Str → Option Value) : Prop where
  isi : mg "isinstance" = none
  int : mg "int" = none
  bool : mg "bool" = none
  tuple : mg "tuple" = none
  len : mg "len" = none
  all : mg "all" = none
  abs : mg "abs" = none
  range : mg "range" = none
  max : mg "max" = none
  min : mg "min" = none
  repr : mg "repr" = none
  list : mg "list" = none
  sorted : mg "sorted" = none
/-! ### stores -/
def ov : Option Int → V
  | none => .non
  | some i => .int i
abbrev Row := List (Int × Option Int)
structure Sto where
  mark : Int
  bears : Int
  slot : Option Int
  letters : Row
  last : Int
  took : Int
  box : Option Int
  echoes : Row
def pairV (p : Int × Option Int) : List V := [.int p.1, ov p.2]
def RowAt (H : Hp) (a : Addr) (r : Row) : Prop := ∃ as : List Addr, H a = some (.tup (as.map V.ref)) ∧ Paired (fun a p => H a = some (.tup (pairV p))) as r
def stoV (s : Sto) (L E : Addr) : List V := [.int s.mark, .int s.bears, ov s.slot, .ref L, .int s.last, .int s.took, ov s.box, .ref E]
def StoAt (H : Hp) (a : Addr) (s : Sto) : Prop := ∃ L E, H a = some (.tup (stoV s L E)) ∧ RowAt H L s.letters ∧ RowAt H E s.echoes
theorem RowAt.keep {H H' : Hp} {a : Addr} {r : Row} (k : Tups H H') (h : RowAt H a r) : RowAt H' a r := by
  obtain ⟨as, h1, h2⟩ := h
  exact ⟨as, k _ _ h1, paired_imp (fun _ _ z => k _ _ z) h2⟩
theorem StoAt.keep {H H' : Hp} {a : Addr} {s : Sto} (k : Tups H H') (h : StoAt H a s) : StoAt H' a s := by
  obtain ⟨L, E, h1, h2, h3⟩ := h
  exact ⟨L, E, k _ _ h1, h2.keep k, h3.keep k⟩
/-- the numbers of a way -/
structure Num where
  hold : Int
  miss : Int
  bound : Int
structure NumOk (n : Num) : Prop where
  h0 : 1 ≤ n.hold
  h1 : n.hold ≤ 6
  m0 : 1 ≤ n.miss
  m1 : n.miss ≤ 4
  b0 : 1 ≤ n.bound
  b1 : n.bound ≤ 40
def wayF (n : Num) (k g : Addr) : List (Str × V) := [("hold", .int n.hold), ("miss", .int n.miss), ("bound", .int n.bound), ("kept", .ref k), ("gone", .ref g)]
/-- a way -/
def WayAt (C : Addr) (H : Hp) (x : Addr) (n : Num) (s : Sto) (g : Int × Int) : Prop := ∃ dx k ga, H x = some (.ins C dx (wayF n k ga)) ∧ StoAt H k s ∧ H ga = some (.tup [.int g.1, .int g.2])
theorem WayAt.keep {C : Addr} {H H' : Hp} {x : Addr} {n : Num} {s : Sto} {g : Int × Int} (k : Same H H') (h : WayAt C H x n s g) : WayAt C H' x n s g := by
  obtain ⟨dx, a, ga, h1, h2, h3⟩ := h
  exact ⟨dx, a, ga, k _ _ h1, h2.keep (Same.tups k), k _ _ h3⟩
section
variable {n : Num} {k g k' : Addr}
theorem wf_hold : (wayF n k g).lookup ("hold" : Str) = some (.int n.hold) := lk_hit
theorem wf_miss : (wayF n k g).lookup ("miss" : Str) = some (.int n.miss) := by
  unfold wayF
  rw [lk_skip (by decide +kernel)]
  exact lk_hit
theorem wf_bound : (wayF n k g).lookup ("bound" : Str) = some (.int n.bound) := by
  unfold wayF
  rw [lk_skip (by decide +kernel), lk_skip (by decide +kernel)]
  exact lk_hit
theorem wf_kept : (wayF n k g).lookup ("kept" : Str) = some (.ref k) := by
  unfold wayF
  rw [lk_skip (by decide +kernel), lk_skip (by decide +kernel), lk_skip (by decide +kernel)]
  exact lk_hit
theorem wf_gone : (wayF n k g).lookup ("gone" : Str) = some (.ref g) := by
  unfold wayF
  rw [lk_skip (by decide +kernel), lk_skip (by decide +kernel), lk_skip (by decide +kernel), lk_skip (by decide +kernel)]
  exact lk_hit
theorem wf_none {x : Str} (h : x ∉ (["hold", "miss", "bound", "kept", "gone"] : List Str)) : (wayF n k g).lookup x = none := by
  simp only [List.mem_cons, List.not_mem_nil, or_false, not_or] at h
  unfold wayF
  rw [lk_skip (by simpa using h.1), lk_skip (by simpa using h.2.1), lk_skip (by simpa using h.2.2.1), lk_skip (by simpa using h.2.2.2.1), lk_skip (by simpa using h.2.2.2.2)]
  rfl
theorem wf_putK : putF "kept" (.ref k') (wayF n k g) = wayF n k' g := by
  unfold wayF
  simp (decide := true) [putF]
theorem wf_putG : putF "gone" (.ref k') (wayF n k g) = wayF n k k' := by
  unfold wayF
  simp (decide := true) [putF]
end
/-- what the class of ways is like -/
structure WayC (K : PySem.W.Frag) (C : Addr) : Prop where
  cl : Cls K C
  n1 : NoAttr K C "hold"
  n2 : NoAttr K C "miss"
  n3 : NoAttr K C "bound"
  n4 : NoAttr K C "kept"
  n5 : NoAttr K C "gone"
end Any
namespace Any
open L2 PySem PySem.Spec PyProof.Rows
abbrev sWhole : Stmt := top 8
abbrev sWithin : Stmt := top 9
abbrev sPut : Stmt := top 11
abbrev sMarks : Stmt := top 16
abbrev sSender : Stmt := top 20
abbrev sTaker : Stmt := top 21
abbrev sRowB : Stmt := top 22
theorem scWhole : FnScope ["thing"] ["thing"] (defScope sWhole) := ⟨rfl, rfl, rfl, by decide +kernel, rfl, by decide +kernel, by decide +kernel⟩
theorem scWithin : FnScope ["thing", "least", "most"] ["thing", "least", "most"] (defScope sWithin) := ⟨rfl, rfl, rfl, by decide +kernel, rfl, by decide +kernel, by decide +kernel⟩
theorem scPut : FnScope ["numbers", "at", "number"] ["numbers", "at", "number"] (defScope sPut) := ⟨rfl, rfl, rfl, by decide +kernel, rfl, by decide +kernel, by decide +kernel⟩
theorem scMarks : FnScope ["hold"] ["hold"] (defScope sMarks) := ⟨rfl, rfl, rfl, by decide +kernel, rfl, by decide +kernel, by decide +kernel⟩
theorem scSender : FnScope ["mark", "bears", "slot", "echoes", "many", "onward"] ["mark", "bears", "slot", "echoes", "many"] (defScope sSender) := ⟨rfl, rfl, rfl, by decide +kernel, rfl, by decide +kernel, by decide +kernel⟩
theorem scTaker : FnScope ["last", "took", "box", "letters", "mark", "word"] ["last", "took", "box", "letters"] (defScope sTaker) := ⟨rfl, rfl, rfl, by decide +kernel, rfl, by decide +kernel, by decide +kernel⟩
theorem scRowB : FnScope ["row", "sent", "is_lost"] ["row", "sent", "is_lost"] (defScope sRowB) := ⟨rfl, rfl, rfl, by decide +kernel, rfl, by decide +kernel, by decide +kernel⟩
def spWhole : Sp := fun vs H Q _ => ∃ i, vs = [.int i] ∧ Q (.bl true) H
def spWithin : Sp := fun vs H Q _ => ∃ i l m, vs = [.int i, .int l, .int m] ∧ Q (.bl (decide (l ≤ i) && decide (i ≤ m))) H
def spPut : Sp := fun vs H Q _ => ∃ (a : Addr) (xs : List V) (i : Nat) (v : V), vs = [.ref a, .int i, v] ∧ H a = some (.tup xs) ∧ i < xs.length ∧ xs.length ≤ 1000 ∧ ∀ p H', Same H H' → H' p = some (.tup (xs.set i v)) → Q (.ref p) H'
def spMarks : Sp := fun vs H Q _ => ∃ i : Int, vs = [.int i] ∧ Q (.int (2 * i + 1)) H
/-- the sender's mark, bears and slot behind the first echo -/
def senderB (mark bears : Int) (slot : Option Int) (many : Int) : Row → Int × Int × Option Int
  | [] => (mark, bears, slot)
  | e :: _ => if e.1 = mark then (if bears = 1 ∧ e.2 = some 1 then ((mark + 1) % many, 0, none) else ((mark + 1) % many, (if slot = none then 0 else 1), slot)) else (mark, bears, slot)
def takerB (last took : Int) (box : Option Int) : Row → Int × Int × Option Int
  | [] => (last, took, box)
  | e :: _ => if e.1 = last then (last, took, box) else if e.2 ≠ none ∧ box = none then (e.1, 1, e.2) else (e.1, 0, box)
def triV (t : Int × Int × Option Int) : List V := [.int t.1, .int t.2.1, ov t.2.2]
def spSender : Sp := fun vs H Q _ => ∃ (m b n : Int) (o : Option Int) (E : Addr) (r : Row), vs = [.int m, .int b, ov o, .ref E, .int n] ∧ RowAt H E r ∧ (∀ e ∈ r, ∃ t, e.2 = some t) ∧ r.length ≤ 1000 ∧ 0 < n ∧ ∀ p H', Same H H' → H' p = some (.tup (triV (senderB m b o n r))) → Q (.ref p) H'
def spTaker : Sp := fun vs H Q _ => ∃ (l t : Int) (o : Option Int) (L : Addr) (r : Row), vs = [.int l, .int t, ov o, .ref L] ∧ RowAt H L r ∧ r.length ≤ 1000 ∧ ∀ p H', Same H H' → H' p = some (.tup (triV (takerB l t o r))) → Q (.ref p) H'
def spRowB : Sp := fun vs H Q _ => ∃ (a b : Addr) (r s : Row) (l : Bool), vs = [.ref a, .ref b, .bl l] ∧ RowAt H a r ∧ RowAt H b s ∧ r.length ≤ 1000 ∧ s.length ≤ 1000 ∧ ∀ p H', Same H H' → RowAt H' p (r.drop 1 ++ (if l = true then [] else s)) → Q (.ref p) H'
theorem ov_non {o : Option Int} : decide (ov o = .non) = decide (o = none) := by
  cases o <;> rfl
section
variable {P : Program} {w : World} {K : PySem.W.Frag} {mg : Str → Option Value} {base : Heap} {f g : Addr} {fd gd : FuncData}
theorem kb (a b : String) (r : Bool) (h : kitB a b = some r := by decide +kernel) : PySem.W.kitOne K (.type a) (.type b) = some r := kit_ty h
theorem ok_whole (O : Own mg) (F : Fun K "is_whole" "is_whole" sWhole f fd) : FnOk P w K mg base CX0 1 f fd ["thing"] spWhole := by
  refine F.ok scWhole (fun vs H Q E h => ?_) (fun cdv A outer s H vs Q E hr h => ?_)
  · obtain ⟨i, rfl, _⟩ := h
    rfl
  obtain ⟨i, rfl, q⟩ := h
  refine ⟨_, pss_one (ps_ret (pe_and (pe_callB call_isi rfl O.isi (by decide +kernel) (pa_cons (pv 0) (pa_cons (pe_bltn (v := .ty "int") rfl O.int (by decide +kernel) rfl) pa_nil)))
    (pe_one (pe_not (pe_callB call_isi rfl O.isi (by decide +kernel) (pa_cons (pv 0) (pa_cons (pe_bltn (v := .ty "bool") rfl O.bool (by decide +kernel) rfl) pa_nil))))))), ?_⟩
  exact ⟨_, rfl, _, _, _, _, true, rfl, .ty "int", .base (.int i), kb "int" "int" true, _, rfl, _, rfl, _, _, _, _, false, rfl, .ty "bool", .base (.int i), kb "int" "bool" false, _, rfl, q⟩
theorem ok_within (F : Fun K "is_within" "is_within" sWithin f fd) (G : Df P w K mg base 1 "is_whole" ["thing"] spWhole) : FnOk P w K mg base CX0 2 f fd ["thing", "least", "most"] spWithin := by
  refine F.ok scWithin (fun vs H Q E h => ?_) (fun cdv A outer s H vs Q E hr h => ?_)
  · obtain ⟨i, l, m, rfl, _⟩ := h
    rfl
  obtain ⟨i, l, m, rfl, q⟩ := h
  refine ⟨_, pss_one (ps_ret (pe_and (pe_D G hr rfl (pa_cons (pv 0) pa_nil)) (pe_one (pe_chain op_le op_le (pv 1) (pv 0) (pv 2))))), ?_⟩
  refine ⟨_, rfl, i, rfl, _, rfl, _, rfl, _, rfl, _, _, rfl, rfl, _, rfl, ?_⟩
  refine ite2 (fun c => ?_) (fun c => ?_)
  · rw [c] at q
    exact ⟨_, rfl, _, _, rfl, rfl, q⟩
  · rw [Bool.eq_false_iff.mpr c] at q
    exact q
theorem ok_marks (F : Fun K "marks" "marks" sMarks f fd) : FnOk P w K mg base CX0 1 f fd ["hold"] spMarks := by
  refine F.ok scMarks (fun vs H Q E h => ?_) (fun cdv A outer s H vs Q E hr h => ?_)
  · obtain ⟨i, rfl, _⟩ := h
    rfl
  obtain ⟨i, rfl, q⟩ := h
  exact ⟨_, pss_one (ps_ret (pe_op op_add (pe_op op_mul pe_int (pv 0)) pe_int)), _, rfl, _, _, rfl, rfl, .inl ⟨by decide, by decide⟩, _, _, rfl, rfl, q⟩
theorem set_cut (xs : List V) (i : Nat) (v : V) (h : i < xs.length) : xs.take i ++ [v] ++ xs.drop (i + 1) = xs.set i v := by
  rw [List.append_assoc, List.set_eq_take_append_cons_drop, if_pos h]
  rfl
theorem ok_put (F : Fun K "put" "put" sPut f fd) : FnOk P w K mg base CX0 1 f fd ["numbers", "at", "number"] spPut := by
  refine F.ok scPut (fun vs H Q E h => ?_) (fun cdv A outer s H vs Q E hr h => ?_)
  · obtain ⟨a, xs, i, v, rfl, _⟩ := h
    rfl
  obtain ⟨a, xs, i, v, rfl, ha, hi, hz, q⟩ := h
  have hN := set_cut xs i v hi
  refine ⟨_, pss_one (ps_ret (pe_op op_catA (pe_op op_catA (pe_slice sl_tupA (pv 0) po_none (po_some (pv 1))) (pe_tup (pa_cons (pv 2) pa_nil))) (pe_slice sl_tupA (pv 0) (po_some (pe_op op_add (pv 1) pe_int)) po_none))), ?_⟩
  refine ⟨_, rfl, _, rfl, _, rfl, a, xs, rfl, SqT.of ha, fun c => ?_, fun _ p1 hp1 => ?_⟩
  · exfalso
    have c2 := c.2
    rw [HT.sIx_nat] at c2
    omega
  have s1 := same_new hp1 (.tup (cutV xs none (some (i : Int))))
  have e1 : upd H p1 (.tup (cutV xs none (some (i : Int)))) p1 = some (.tup (xs.take i)) := by rw [upd_same, cut_to xs i (by omega)]
  refine ⟨_, rfl, by show 1 ≤ sizeLine; decide, fun p2 hp2 => ?_⟩
  have s2 := s1.trans (same_new hp2 (.tup [v]))
  have e2 := same_new hp2 (.tup [v]) _ _ e1
  have l1 : (xs.take i).length ≤ 1000 := by rw [List.length_take]; omega
  -- what stands ahead, with the new one behind it
  have mid : ∀ (Q' : VK), (∀ b H', Same (upd H p1 (.tup (cutV xs none (some (i : Int))))) H' → H' b = some (.tup (xs.take i ++ [v])) → Q' (.ref b) H') →
      rCatA K (.ref p1) (.ref p2) (upd (upd H p1 (.tup (cutV xs none (some (i : Int))))) p2 (.tup [v])) Q' := fun Q' q' => by
    refine ⟨p1, p2, xs.take i, [v], rfl, rfl, SqT.of e2, SqT.of upd_same, small (by rw [List.length_singleton, List.length_take]; omega), fun c => ?_, fun _ c => (nomatch c), fun _ _ p3 hp3 => ?_⟩
    · refine q' p2 _ (same_new hp2 _) ?_
      rw [c]
      exact upd_same
    · exact q' p3 _ ((same_new hp2 _).trans (same_new hp3 _)) upd_same
  refine mid _ fun b H3 s3 e3 => ?_
  have s3 := s1.trans s3
  refine ⟨_, rfl, _, rfl, _, _, rfl, rfl, _, rfl, a, xs, rfl, SqT.of (s3 _ _ ha), fun c => ?_, fun _ p4 hp4 => ?_⟩
  · exfalso
    have c1 := c.1
    rw [show ((i : Int) + 1) = ((i + 1 : Nat) : Int) by omega, HT.sIx_nat] at c1
    omega
  have e4 := same_new hp4 (.tup (cutV xs (some ((i : Int) + 1)) none)) _ _ e3
  have e5 : upd H3 p4 (.tup (cutV xs (some ((i : Int) + 1)) none)) p4 = some (.tup (xs.drop (i + 1))) := by rw [upd_same, show ((i : Int) + 1) = ((i + 1 : Nat) : Int) by omega, cut_from]
  refine ⟨b, p4, _, _, rfl, rfl, SqT.of e4, SqT.of e5, small (by rw [List.length_append, List.length_take, List.length_drop, List.length_singleton]; omega), fun c => ?_, fun _ c => ?_, fun _ _ p6 hp6 => ?_⟩
  · exact absurd c (by simp)
  · refine q b _ (s3.trans (same_new hp4 _)) ?_
    rw [c, List.append_nil] at hN
    rw [← hN]
    exact e4
  · refine q p6 _ ((s3.trans (same_new hp4 _)).trans (same_new hp6 _)) ?_
    rw [upd_same, hN]
theorem two : 2 ≤ sizeLine := by decide
theorem three : 3 ≤ sizeLine := by decide
theorem twoK {m n : Nat} (h : m ≤ 1000) (k : n ≤ 1000) : m + n ≤ sizeLine := Nat.le_trans (Nat.add_le_add h k) (by decide)
theorem itO {o : Option Int} {A B : Prop} (h1 : o = none → A) (h2 : o ≠ none → B) : if decide (ov o = V.non) = true then A else B := by
  rw [ov_non]
  exact itD h1 h2
theorem itS {o : Option Int} {A B : Prop} (h1 : o ≠ none → A) (h2 : o = none → B) : if (!decide (ov o = V.non)) = true then A else B := by
  rw [ov_non]
  exact itN h1 h2
theorem ok_sender (O : Own mg) (F : Fun K "sender_behind" "sender_behind" sSender f fd) : FnOk P w K mg base CX0 1 f fd ["mark", "bears", "slot", "echoes", "many"] spSender := by
  refine F.ok scSender (fun vs H Q E h => ?_) (fun cdv A outer s H vs Q E hr h => ?_)
  · obtain ⟨m, b, n, o, E, r, rfl, _⟩ := h
    rfl
  obtain ⟨m, b, n, o, E, r, rfl, ⟨as, hE, hp⟩, hs, hz, hn, q⟩ := h
  refine ⟨_, pss_cons (ps_if (PW.pt (pw_or (pt_cmpR op_eq (pe_callB call_len_seq rfl O.len PySem.boot_len (pa_cons (pv 3) pa_nil)) pe_int (nomark _)) (pw_or1 (pt_cmpR op_ne (pe_ix ix_tup (pe_ix ix_tup (pv 3) pe_int (fun _ _ => rfl)) pe_int (fun _ _ => rfl)) (pv 0) (nomark _)))))
      (pss_one (ps_ret (pe_tup (pa_cons (pv 0) (pa_cons (pv 1) (pa_cons (pv 2) pa_nil)))))) pss_nil)
    (pss_cons (ps_set (i := 5) scSender.nd rfl (Or.inl rfl) (pe_op op_mod (pe_op op_add (pv 0) pe_int) (pv 4)))
    (pss_cons (ps_if (PW.pt (pw_and (pt_cmpR op_eq (pv 1) pe_int (nomark _)) (pw_and1 (pt_cmpR op_eq (pe_ix ix_tup (pe_ix ix_tup (pv 3) pe_int (fun _ _ => rfl)) pe_int (fun _ _ => rfl)) pe_int (nomark _)))))
      (pss_one (ps_ret (pe_tup (pa_cons (pv 5) (pa_cons pe_int (pa_cons pe_non pa_nil)))))) pss_nil)
    (pss_one (ps_ret (pe_tup (pa_cons (pv 5) (pa_cons (pe_ifExp (pt_cmpR op_isN (pv 2) pe_non (nomark _)) pe_int pe_int) (pa_cons (pv 2) pa_nil)))))))), ?_⟩
  refine ⟨_, rfl, E, _, rfl, .inr (SqT.of hE), rfl, _, rfl, ?_⟩
  match as, r, hp with
  | _, _, .nil =>
    refine itT rfl (itT rfl ?_)
    refine ⟨_, rfl, _, rfl, _, rfl, three, fun p hp => ?_⟩
    exact q p _ (same_new hp _) upd_same
  | a :: as, e :: r, .cons h1 h2 =>
    obtain ⟨t, et⟩ := hs e (List.mem_cons_self ..)
    obtain ⟨em, ex⟩ := e
    cases (show ex = some t from et)
    refine itF (decide_eq_false fun z => ?_) ?_
    · have z := V.int.inj z
      rw [List.length_map, List.length_cons] at z
      omega
    refine ⟨_, rfl, E, _, _, _, rfl, rfl, SqT.of hE, atI_nat (j := 0) rfl, a, _, _, _, rfl, rfl, SqT.of h1, atI_nat (j := 0) rfl, _, rfl, rfl, _, rfl, ?_⟩
    have q2 : ∀ p H', Same H H' → H' p = some (.tup (triV (if em = m then (if b = 1 ∧ some t = some 1 then ((m + 1) % n, 0, none) else ((m + 1) % n, (if o = none then 0 else 1), o)) else (m, b, o)))) → Q (.ref p) H' := q
    refine itNe (fun c => ?_) (fun c => ?_)
    · rw [if_neg c] at q2
      exact ⟨_, rfl, _, rfl, _, rfl, three, fun p hp => q2 p _ (same_new hp _) upd_same⟩
    · rw [if_pos c] at q2
      refine ⟨_, rfl, _, _, rfl, rfl, _, rfl, _, _, rfl, rfl, hn, ?_⟩
      refine ⟨_, rfl, rfl, _, rfl, itEq (fun b1 => ?_) (fun b1 => ?_)⟩
      · refine ⟨_, rfl, E, _, _, _, rfl, rfl, SqT.of hE, atI_nat (j := 0) rfl, a, _, _, _, rfl, rfl, SqT.of h1, atI_nat (j := 1) rfl, rfl, _, rfl, itEq (fun t1 => ?_) (fun t1 => ?_)⟩
        · rw [if_pos ⟨b1, by rw [t1]⟩] at q2
          exact ⟨_, rfl, three, fun p hp => q2 p _ (same_new hp _) upd_same⟩
        · rw [if_neg (fun z => t1 (Option.some.inj z.2))] at q2
          refine ⟨_, rfl, _, rfl, rfl, _, rfl, itO (fun o1 => ?_) (fun o1 => ?_)⟩
          · rw [if_pos o1] at q2
            exact ⟨_, rfl, three, fun p hp => q2 p _ (same_new hp _) upd_same⟩
          · rw [if_neg o1] at q2
            exact ⟨_, rfl, three, fun p hp => q2 p _ (same_new hp _) upd_same⟩
      · rw [if_neg (fun z => b1 z.1)] at q2
        refine itF rfl ?_
        refine ⟨_, rfl, _, rfl, rfl, _, rfl, itO (fun o1 => ?_) (fun o1 => ?_)⟩
        · rw [if_pos o1] at q2
          exact ⟨_, rfl, three, fun p hp => q2 p _ (same_new hp _) upd_same⟩
        · rw [if_neg o1] at q2
          exact ⟨_, rfl, three, fun p hp => q2 p _ (same_new hp _) upd_same⟩
theorem ok_taker (O : Own mg) (F : Fun K "taker_behind" "taker_behind" sTaker f fd) : FnOk P w K mg base CX0 1 f fd ["last", "took", "box", "letters"] spTaker := by
  refine F.ok scTaker (fun vs H Q E h => ?_) (fun cdv A outer s H vs Q E hr h => ?_)
  · obtain ⟨l, t, o, L, r, rfl, _⟩ := h
    rfl
  obtain ⟨l, t, o, L, r, rfl, ⟨as, hL, hp⟩, hz, q⟩ := h
  refine ⟨_, pss_cons (ps_if (PW.pt (pw_or (pt_cmpR op_eq (pe_callB call_len_seq rfl O.len PySem.boot_len (pa_cons (pv 3) pa_nil)) pe_int (nomark _)) (pw_or1 (pt_cmpR op_eq (pe_ix ix_tup (pe_ix ix_tup (pv 3) pe_int (fun _ _ => rfl)) pe_int (fun _ _ => rfl)) (pv 0) (nomark _)))))
      (pss_one (ps_ret (pe_tup (pa_cons (pv 0) (pa_cons (pv 1) (pa_cons (pv 2) pa_nil)))))) pss_nil)
    (pss_cons (ps_asg (pe_ix ix_tup (pv 3) pe_int (fun _ _ => rfl)) (pg_tup rfl (pgs_cons (pg_name (i := 4) scTaker.nd rfl (Or.inl rfl)) (pgs_cons (pg_name (i := 5) scTaker.nd rfl (Or.inl rfl)) pgs_nil))))
    (pss_cons (ps_if (PW.pt (pw_and (pt_cmpR op_notN (pv 5) pe_non (nomark _)) (pw_and1 (pt_cmpR op_isN (pv 2) pe_non (nomark _)))))
      (pss_one (ps_ret (pe_tup (pa_cons (pv 4) (pa_cons pe_int (pa_cons (pv 5) pa_nil)))))) pss_nil)
    (pss_one (ps_ret (pe_tup (pa_cons (pv 4) (pa_cons pe_int (pa_cons (pv 2) pa_nil)))))))), ?_⟩
  refine ⟨_, rfl, L, _, rfl, .inr (SqT.of hL), rfl, _, rfl, ?_⟩
  match as, r, hp with
  | _, _, .nil =>
    refine itT rfl (itT rfl ?_)
    refine ⟨_, rfl, _, rfl, _, rfl, three, fun p hp => ?_⟩
    exact q p _ (same_new hp _) upd_same
  | a :: as, (em, ex) :: r, .cons h1 h2 =>
    refine itF (decide_eq_false fun z => ?_) ?_
    · have z := V.int.inj z
      rw [List.length_map, List.length_cons] at z
      omega
    refine ⟨_, rfl, L, _, _, _, rfl, rfl, SqT.of hL, atI_nat (j := 0) rfl, a, _, _, _, rfl, rfl, SqT.of h1, atI_nat (j := 0) rfl, _, rfl, rfl, _, rfl, ?_⟩
    have q2 : ∀ p H', Same H H' → H' p = some (.tup (triV (if em = l then (l, t, o) else if ex ≠ none ∧ o = none then (em, 1, ex) else (em, 0, o)))) → Q (.ref p) H' := q
    refine itEq (fun c => ?_) (fun c => ?_)
    · rw [if_pos c] at q2
      exact ⟨_, rfl, _, rfl, _, rfl, three, fun p hp => q2 p _ (same_new hp _) upd_same⟩
    · rw [if_neg c] at q2
      refine ⟨_, rfl, L, _, _, _, rfl, rfl, SqT.of hL, atI_nat (j := 0) rfl, a, _, rfl, SqT.of h1, rfl, _, _, rfl, _, _, rfl, rfl, ?_⟩
      refine ⟨_, rfl, rfl, _, rfl, itS (fun x1 => ?_) (fun x1 => ?_)⟩
      · refine ⟨_, rfl, rfl, _, rfl, itO (fun o1 => ?_) (fun o1 => ?_)⟩
        · rw [if_pos ⟨x1, o1⟩] at q2
          exact ⟨_, rfl, _, rfl, three, fun p hp => q2 p _ (same_new hp _) upd_same⟩
        · rw [if_neg (fun z => o1 z.2)] at q2
          exact ⟨_, rfl, _, rfl, three, fun p hp => q2 p _ (same_new hp _) upd_same⟩
      · rw [if_neg (fun z => z.1 x1)] at q2
        exact itF rfl ⟨_, rfl, _, rfl, three, fun p hp => q2 p _ (same_new hp _) upd_same⟩
theorem RowAt.one {H H' : Hp} {p b : Addr} {r : Row} (h : RowAt H b r) (s : Same H H') (hp : H' p = H' b) : RowAt H' p r := by
  obtain ⟨as, h1, h2⟩ := h
  exact ⟨as, by rw [hp]; exact s _ _ h1, paired_imp (fun _ _ z => s _ _ z) h2⟩
theorem paired_drop {α β : Type} {R : α → β → Prop} : ∀ {l : List α} {m : List β} (k : Nat), Paired R l m → Paired R (l.drop k) (m.drop k)
  | _, _, 0, h => h
  | _, _, _ + 1, .nil => .nil
  | _, _, k + 1, .cons _ t => paired_drop k t
theorem paired_app {α β : Type} {R : α → β → Prop} {l' : List α} {m' : List β} (h : Paired R l' m') : ∀ {l : List α} {m : List β}, Paired R l m → Paired R (l ++ l') (m ++ m')
  | _, _, .nil => h
  | _, _, .cons a t => .cons a (paired_app h t)
theorem paired_len {α β : Type} {R : α → β → Prop} : ∀ {l : List α} {m : List β}, Paired R l m → l.length = m.length
  | _, _, .nil => rfl
  | _, _, .cons _ t => by rw [List.length_cons, List.length_cons, paired_len t]
theorem ok_rowb (F : Fun K "row_behind" "row_behind" sRowB f fd) : FnOk P w K mg base CX0 1 f fd ["row", "sent", "is_lost"] spRowB := by
  refine F.ok scRowB (fun vs H Q E h => ?_) (fun cdv A outer s H vs Q E hr h => ?_)
  · obtain ⟨a, b, r, s, l, rfl, _⟩ := h
    rfl
  obtain ⟨a, b, r, s', l, rfl, ⟨as, ha, hp⟩, ⟨bs, hb, hq⟩, hz, hz2, q⟩ := h
  refine ⟨_, pss_one (ps_ret (pe_ifExp (pt_val (pv 2)) (pe_slice sl_tupA (pv 0) (po_some pe_int) po_none) (pe_op op_catA (pe_slice sl_tupA (pv 0) (po_some pe_int) po_none) (pv 1)))), ?_⟩
  have hl := paired_len hp
  have hl2 := paired_len hq
  have rest : ∀ Q' : VK, (∀ p H', Same H H' → H' p = some (.tup ((as.drop 1).map V.ref)) → Q' (.ref p) H') → rSlA K (.ref a) (some 1) none H Q' := fun Q' q' => by
    have e : cutV (as.map V.ref) (some 1) none = (as.drop 1).map V.ref := by rw [show (1 : Int) = ((1 : Nat) : Int) from rfl, cut_from, List.map_drop]
    refine ⟨a, _, rfl, SqT.of ha, fun c => ?_, fun c p hp => ?_⟩
    · have c1 := c.1
      rw [show (1 : Int) = ((1 : Nat) : Int) from rfl, HT.sIx_nat, List.length_map] at c1
      have : as = [] := List.eq_nil_of_length_eq_zero (by omega)
      subst this
      exact q' a H same_refl ha
    · refine q' p _ (same_new hp _) ?_
      rw [upd_same, e]
  have row : ∀ p H' (zs : List Addr) (z : Row), Same H H' → H' p = some (.tup (zs.map V.ref)) → Paired (fun a p => H a = some (.tup (pairV p))) zs z → RowAt H' p z := fun p H' zs z s1 e1 pz => ⟨zs, e1, paired_imp (fun _ _ z => s1 _ _ z) pz⟩
  refine ⟨_, rfl, l, rfl, ?_⟩
  cases l with
  | true =>
    refine itT rfl ⟨_, rfl, _, rfl, ?_⟩
    refine rest _ fun p H1 s1 e1 => q p H1 s1 ?_
    rw [if_pos rfl, List.append_nil]
    exact row p H1 _ _ s1 e1 (paired_drop 1 hp)
  | false =>
    rw [if_neg (by decide)] at q
    refine itF rfl ⟨_, rfl, _, rfl, ?_⟩
    refine rest (fun x H1 => tVar 1 (L2.start ["row", "sent", "is_lost"] [.ref a, .ref b, .bl false]) H1 fun y H2 => rCatA K x y H2 Q) fun p H1 s1 e1 => ?_
    refine ⟨_, rfl, p, b, _, _, rfl, rfl, SqT.of e1, SqT.of (s1 _ _ hb), twoK (by rw [List.length_map, List.length_drop]; omega) (by rw [List.length_map]; omega), fun c => ?_, fun _ c => ?_, fun _ _ p2 hp2 => ?_⟩
    · have c2 : as.drop 1 = [] := List.map_eq_nil_iff.mp c
      have pz := paired_drop 1 hp
      rw [c2] at pz
      refine q b H1 s1 (row b H1 bs _ s1 (s1 _ _ hb) ?_)
      have : r.drop 1 = [] := List.eq_nil_of_length_eq_zero (paired_len pz).symm
      rw [this]
      exact hq
    · have c2 : bs = [] := List.map_eq_nil_iff.mp c
      subst c2
      have : s' = [] := List.eq_nil_of_length_eq_zero hl2.symm
      subst this
      refine q p H1 s1 ?_
      rw [List.append_nil]
      exact row p H1 _ _ s1 e1 (paired_drop 1 hp)
    · refine q p2 _ (s1.trans (same_new hp2 _)) (row p2 _ (as.drop 1 ++ bs) _ (s1.trans (same_new hp2 _)) ?_ (paired_app hq (paired_drop 1 hp)))
      rw [upd_same, List.map_append]
end
end Any
namespace Any
open L2 PySem PySem.Spec PyProof.Rows
abbrev sInit : Stmt := inClass (top 19) 0
abbrev sBeat : Stmt := inClass (top 19) 1
abbrev sSide : Stmt := inClass (top 19) 2
abbrev sGoneB : Stmt := inClass (top 19) 3
abbrev sStore : Stmt := inClass (top 19) 4
abbrev sIsWord : Stmt := top 24
theorem scSide : FnScope ["self", "lost", "letters", "echoes"] ["self", "lost"] (defScope sSide) := ⟨rfl, rfl, rfl, by decide +kernel, rfl, by decide +kernel, by decide +kernel⟩
theorem scGoneB : FnScope ["self", "lost", "letters", "echoes"] ["self", "lost"] (defScope sGoneB) := ⟨rfl, rfl, rfl, by decide +kernel, rfl, by decide +kernel, by decide +kernel⟩
theorem scStore : FnScope ["self"] ["self"] (defScope sStore) := ⟨rfl, rfl, rfl, by decide +kernel, rfl, by decide +kernel, by decide +kernel⟩
theorem scIsWord : FnScope ["thing", "bound"] ["thing", "bound"] (defScope sIsWord) := ⟨rfl, rfl, rfl, by decide +kernel, rfl, by decide +kernel, by decide +kernel⟩
/-- how many were lost last, behind a beat -/
def goneB (s : Sto) (g : Int × Int) (l : Bool × Bool) : Int × Int := (if l.1 = true then g.1 + 1 else 0, if s.letters = [] then g.2 else if l.2 = true then g.2 + 1 else 0)
def LostAt (K : PySem.W.Frag) (H : Hp) (a : Addr) (l : Bool × Bool) : Prop := SqT K H a [.bl l.1, .bl l.2]
theorem LostAt.keep {K : PySem.W.Frag} {H H' : Hp} {a : Addr} {l : Bool × Bool} (s : Same H H') (h : LostAt K H a l) : LostAt K H' a l := by
  rcases h with (h | ⟨o, h⟩) | h
  · exact .inl (.inl (s _ _ h))
  · exact .inl (.inr ⟨o, s _ _ h⟩)
  · exact .inr h
def spGoneB (K : PySem.W.Frag) (C : Addr) : Sp := fun vs H Q _ => ∃ (x a : Addr) (n : Num) (s : Sto) (g : Int × Int) (l : Bool × Bool), vs = [.ref x, .ref a] ∧ WayAt C H x n s g ∧ s.letters.length ≤ 1000 ∧ LostAt K H a l ∧
  ∀ p H', H p = none → Same H H' → H' p = some (.tup [.int (goneB s g l).1, .int (goneB s g l).2]) → Q (.ref p) H'
def sideB (s : Sto) (g : Int × Int) (l : Bool × Bool) (miss : Int) : Str := if (goneB s g l).1 ≥ miss then "letters" else if (goneB s g l).2 ≥ miss then "echoes" else ""
def spSide (K : PySem.W.Frag) (C : Addr) : Sp := fun vs H Q _ => ∃ (x a : Addr) (n : Num) (s : Sto) (g : Int × Int) (l : Bool × Bool), vs = [.ref x, .ref a] ∧ WayAt C H x n s g ∧ s.letters.length ≤ 1000 ∧ LostAt K H a l ∧
  ∀ H', Same H H' → Q (.str (sideB s g l n.miss)) H'
def spIsWord : Sp := fun vs H Q _ => ∃ i b : Int, vs = [.int i, .int b] ∧ Q (.bl (decide (0 ≤ i) && decide (i ≤ b - 1))) H
section
variable {P : Program} {w : World} {K : PySem.W.Frag} {mg : Str → Option Value} {base : Heap} {f C : Addr} {fd : FuncData}
theorem ok_isword (F : Fun K "is_word" "is_word" sIsWord f fd) (G : Df P w K mg base 2 "is_within" ["thing", "least", "most"] spWithin) : FnOk P w K mg base CX0 3 f fd ["thing", "bound"] spIsWord := by
  refine F.ok scIsWord (fun vs H Q E h => ?_) (fun cdv A outer s H vs Q E hr h => ?_)
  · obtain ⟨i, b, rfl, _⟩ := h
    rfl
  obtain ⟨i, b, rfl, q⟩ := h
  exact ⟨_, pss_one (ps_ret (pe_D G hr rfl (pa_cons (pv 0) (pa_cons pe_int (pa_cons (pe_op op_sub (pv 1) pe_int) pa_nil))))), _, rfl, _, rfl, _, _, rfl, rfl, i, 0, b - 1, rfl, q⟩
theorem ok_goneb (O : Own mg) (T : WayC K C) (F : Fun K "gone_behind" "Way.gone_behind" sGoneB f fd) : FnOk P w K mg base CX0 1 f fd ["self", "lost"] (spGoneB K C) := by
  refine F.ok scGoneB (fun vs H Q E h => ?_) (fun cdv A outer s H vs Q E hr h => ?_)
  · obtain ⟨x, a, n, s, g, l, rfl, _⟩ := h
    rfl
  obtain ⟨x, a, n, st, ⟨g0, g1⟩, ⟨l0, l1⟩, rfl, ⟨dx, k, ga, hx, ⟨L, E, hk, ⟨as, hL, hp⟩, hE⟩, hg⟩, hz, hl, q⟩ := h
  refine ⟨_, pss_cons (ps_asg (pe_fld (pv 0) rfl) (pg_tup rfl (pgs_cons (pg_name (i := 2) scGoneB.nd rfl (Or.inl rfl)) (pgs_cons (pg_name (i := 3) scGoneB.nd rfl (Or.inl rfl)) pgs_nil))))
    (pss_cons (ps_set (i := 2) scGoneB.nd rfl (Or.inl rfl) (pe_ifExp (pt_val (pe_ix ix_tup (pv 1) pe_int (fun _ _ => rfl))) (pe_op op_add (pv 2) pe_int) pe_int))
    (pss_cons (ps_if (pt_cmpR op_gt (pe_callB call_len_seq rfl O.len PySem.boot_len (pa_cons (pe_ix ix_tup (pe_fld (pv 0) rfl) pe_int (fun _ _ => rfl)) pa_nil)) pe_int (nomark _))
      (pss_one (ps_set (i := 3) scGoneB.nd rfl (Or.inl rfl) (pe_ifExp (pt_val (pe_ix ix_tup (pv 1) pe_int (fun _ _ => rfl))) (pe_op op_add (pv 3) pe_int) pe_int))) pss_nil)
    (pss_one (ps_ret (pe_tup (pa_cons (pv 2) (pa_cons (pv 3) pa_nil))))))), ?_⟩
  refine ⟨_, rfl, x, C, dx, _, _, rfl, hx, T.cl, T.n5, wf_gone, ga, _, rfl, SqT.of hg, rfl, _, _, rfl, _, _, rfl, rfl, ?_⟩
  refine ⟨_, rfl, a, _, _, _, rfl, rfl, hl, atI_nat (j := 0) rfl, l0, rfl, ?_⟩
  have hlen : (as.map V.ref).length = st.letters.length := by rw [List.length_map]; exact paired_len hp
  have q2 : ∀ p H', H p = none → Same H H' → H' p = some (.tup [.int (if l0 = true then g0 + 1 else 0), .int (if st.letters = [] then g1 else if l1 = true then g1 + 1 else 0)]) → Q (.ref p) H' := q
  have second : ∀ v : Int, v = (if l0 = true then g0 + 1 else 0) → ∀ e : Int, e = (if st.letters = [] then g1 else if l1 = true then g1 + 1 else 0) → ∀ p, H p = none → Q (.ref p) (upd H p (.tup [.int v, .int e])) := fun v hv e he p hp => q2 p _ hp (same_new hp _) (by rw [upd_same, hv, he])
  cases l0 with
  | true =>
    refine itT rfl ⟨_, rfl, _, _, rfl, rfl, ?_⟩
    refine ⟨_, rfl, x, C, dx, _, _, rfl, hx, T.cl, T.n4, wf_kept, k, _, _, _, rfl, rfl, SqT.of hk, atI_nat (j := 3) rfl, L, _, rfl, .inr (SqT.of hL), _, _, rfl, rfl, _, rfl, itD (fun c => ?_) (fun c => ?_)⟩
    · have c' : st.letters ≠ [] := fun z => by
        rw [hlen, z] at c
        exact absurd c (by decide)
      refine ⟨_, rfl, a, _, _, _, rfl, rfl, hl, atI_nat (j := 1) rfl, l1, rfl, ?_⟩
      cases l1 with
      | true => exact itT rfl ⟨_, rfl, _, _, rfl, rfl, _, rfl, _, rfl, two, second _ rfl _ (by rw [if_neg c']; rfl)⟩
      | false => exact itF rfl ⟨_, rfl, _, rfl, two, second _ rfl _ (by rw [if_neg c']; rfl)⟩
    · have c' : st.letters = [] := List.eq_nil_of_length_eq_zero (by rw [hlen] at c; omega)
      exact ⟨_, rfl, _, rfl, two, second _ rfl _ (by rw [if_pos c'])⟩
  | false =>
    refine itF rfl ?_
    refine ⟨_, rfl, x, C, dx, _, _, rfl, hx, T.cl, T.n4, wf_kept, k, _, _, _, rfl, rfl, SqT.of hk, atI_nat (j := 3) rfl, L, _, rfl, .inr (SqT.of hL), _, _, rfl, rfl, _, rfl, itD (fun c => ?_) (fun c => ?_)⟩
    · have c' : st.letters ≠ [] := fun z => by
        rw [hlen, z] at c
        exact absurd c (by decide)
      refine ⟨_, rfl, a, _, _, _, rfl, rfl, hl, atI_nat (j := 1) rfl, l1, rfl, ?_⟩
      cases l1 with
      | true => exact itT rfl ⟨_, rfl, _, _, rfl, rfl, _, rfl, _, rfl, two, second _ rfl _ (by rw [if_neg c']; rfl)⟩
      | false => exact itF rfl ⟨_, rfl, _, rfl, two, second _ rfl _ (by rw [if_neg c']; rfl)⟩
    · have c' : st.letters = [] := List.eq_nil_of_length_eq_zero (by rw [hlen] at c; omega)
      exact ⟨_, rfl, _, rfl, two, second _ rfl _ (by rw [if_pos c'])⟩
theorem ok_side (T : WayC K C) (F : Fun K "side_lost" "Way.side_lost" sSide f fd) (G : Mf P w K mg base C 1 "gone_behind" ["self", "lost"] (spGoneB K C)) : FnOk P w K mg base CX0 2 f fd ["self", "lost"] (spSide K C) := by
  refine F.ok scSide (fun vs H Q E h => ?_) (fun cdv A outer s H vs Q E hr h => ?_)
  · obtain ⟨x, a, n, s, g, l, rfl, _⟩ := h
    rfl
  obtain ⟨x, a, n, st, g, l, rfl, hW, hz, hl, q⟩ := h
  obtain ⟨dx, k, ga, hx, hS, hg⟩ := id hW
  refine ⟨_, pss_cons (ps_asg (pe_M G T.cl (pv 0) hr (pa_cons (pv 1) pa_nil)) (pg_tup rfl (pgs_cons (pg_name (i := 2) scSide.nd rfl (Or.inl rfl)) (pgs_cons (pg_name (i := 3) scSide.nd rfl (Or.inl rfl)) pgs_nil))))
    (pss_cons (ps_if (pt_cmpR op_ge (pv 2) (pe_fld (pv 0) rfl) (nomark _)) (pss_one (ps_ret pe_str)) pss_nil)
    (pss_one (ps_ret (pe_ifExp (pt_cmpR op_ge (pv 3) (pe_fld (pv 0) rfl) (nomark _)) pe_str pe_str)))), ?_⟩
  refine ⟨_, rfl, x, dx, _, rfl, hx, wf_none (by decide +kernel), _, rfl, x, a, n, st, g, l, rfl, hW, hz, hl, fun p H1 _ s1 e1 => ?_⟩
  have hx1 := s1 _ _ hx
  have q2 : ∀ H', Same H H' → Q (.str (if (goneB st g l).1 ≥ n.miss then "letters" else if (goneB st g l).2 ≥ n.miss then "echoes" else "")) H' := q
  refine ⟨p, _, rfl, SqT.of e1, rfl, _, _, rfl, _, _, rfl, rfl, ?_⟩
  refine ⟨_, rfl, _, rfl, x, C, dx, _, _, rfl, hx1, T.cl, T.n2, wf_miss, _, _, rfl, rfl, _, rfl, itD (fun c => ?_) (fun c => ?_)⟩
  · rw [if_pos c] at q2
    exact q2 _ s1
  · rw [if_neg c] at q2
    refine ⟨_, rfl, _, rfl, x, C, dx, _, _, rfl, hx1, T.cl, T.n2, wf_miss, _, _, rfl, rfl, _, rfl, itD (fun c => ?_) (fun c => ?_)⟩
    · rw [if_pos c] at q2
      exact q2 _ s1
    · rw [if_neg c] at q2
      exact q2 _ s1
end
end Any
namespace Any
open L2 PySem PySem.Spec PyProof.Rows
abbrev nmBeat : List Str := ["self", "word", "taking", "lost", "side", "mark", "bears", "slot", "letters", "last", "took", "box", "echoes", "letter", "sender", "taker", "echo"]
abbrev psBeat : List Str := ["self", "word", "taking", "lost"]
theorem scBeat : FnScope nmBeat psBeat (defScope sBeat) := ⟨rfl, rfl, rfl, by decide +kernel, rfl, by decide +kernel, by decide +kernel⟩
/-- a store of a way, with few letters and echoes -/
structure StoOk (n : Num) (s : Sto) : Prop where
  m0 : 0 ≤ s.mark
  m1 : s.mark ≤ 2 * n.hold
  b : s.bears = 0 ∨ s.bears = 1
  slot : ∀ i, s.slot = some i → 0 ≤ i ∧ i < n.bound
  let0 : (s.letters.length : Int) ≤ n.hold
  lets : ∀ e ∈ s.letters, 0 ≤ e.1 ∧ e.1 ≤ 2 * n.hold ∧ ∀ i, e.2 = some i → 0 ≤ i ∧ i < n.bound
  l0 : 0 ≤ s.last
  l1 : s.last ≤ 2 * n.hold
  t : s.took = 0 ∨ s.took = 1
  box : ∀ i, s.box = some i → 0 ≤ i ∧ i < n.bound
  ech0 : (s.echoes.length : Int) ≤ n.hold
  echs : ∀ e ∈ s.echoes, 0 ≤ e.1 ∧ e.1 ≤ 2 * n.hold ∧ (e.2 = some 0 ∨ e.2 = some 1)
/-- what is done to a way at a beat -/
structure Deed where
  word : Option Int
  taking : Bool
  lost : Bool × Bool
def letterB (s : Sto) : Int × Option Int := (s.mark, if s.bears = 1 then s.slot else none)
def echoB (s : Sto) : Row := if s.letters = [] then [] else [((takerB s.last s.took s.box s.letters).1, some (takerB s.last s.took s.box s.letters).2.1)]
/-- the store behind a beat -/
def beatB (n : Num) (s : Sto) (d : Deed) : Sto where
  mark := (senderB s.mark s.bears s.slot (2 * n.hold + 1) s.echoes).1
  bears := (senderB s.mark s.bears s.slot (2 * n.hold + 1) s.echoes).2.1
  slot := if d.word ≠ none ∧ s.slot = none then d.word else (senderB s.mark s.bears s.slot (2 * n.hold + 1) s.echoes).2.2
  letters := s.letters.drop 1 ++ (if d.lost.1 = true then [] else [letterB s])
  last := (takerB s.last s.took s.box s.letters).1
  took := (takerB s.last s.took s.box s.letters).2.1
  box := if d.taking = true ∧ s.box ≠ none then none else (takerB s.last s.took s.box s.letters).2.2
  echoes := s.echoes.drop 1 ++ (if d.lost.2 = true then [] else echoB s)
/-- what is told of it -/
def toldB (s : Sto) (d : Deed) : List V := [if d.word = none then .non else .bl (decide (s.slot = none)), if d.taking = true then ov s.box else .non]
def spBeat (K : PySem.W.Frag) (C : Addr) : Sp := fun vs H Q _ => ∃ (x a : Addr) (n : Num) (s : Sto) (g : Int × Int) (d : Deed), vs = [.ref x, ov d.word, .bl d.taking, .ref a] ∧ WayAt C H x n s g ∧ NumOk n ∧ StoOk n s ∧ LostAt K H a d.lost ∧
  (∀ i, d.word = some i → 0 ≤ i ∧ i < n.bound) ∧ (goneB s g d.lost).1 < n.miss ∧ (goneB s g d.lost).2 < n.miss ∧
  ∀ p H', Kept x H H' → WayAt C H' x n (beatB n s d) (goneB s g d.lost) → H p = none → H' p = some (.tup (toldB s d)) → Q (.ref p) H'
theorem eight : 8 ≤ sizeLine := by decide
theorem one_ : 1 ≤ sizeLine := by decide
section
variable {P : Program} {w : World} {K : PySem.W.Frag} {mg : Str → Option Value} {base : Heap} {f C : Addr} {fd : FuncData}
theorem Kept.free {x : Addr} {H H' : Hp} {o : HO} (k : Kept x H H') (hx : H' x = some o) {p : Addr} (h : H' p = none) : H p = none := by
  cases z : H p with
  | none => rfl
  | some u =>
    have ne : p ≠ x := fun e => by rw [e, hx] at h; cases h
    rw [k p u ne z] at h
    cases h
set_option maxHeartbeats 2000000 in
theorem ok_beat (O : Own mg) (T : WayC K C) {kws : List (Str × V)} (F : FunD K "beat" "Way.beat" (defArgs sBeat) (defBody sBeat) (defScope sBeat) [] kws f fd) (D1 : Df P w K mg base 3 "is_word" ["thing", "bound"] spIsWord) (D2 : Mf P w K mg base C 2 "side_lost" ["self", "lost"] (spSide K C))
    (D3 : Df P w K mg base 1 "sender_behind" ["mark", "bears", "slot", "echoes", "many"] spSender) (D4 : Df P w K mg base 1 "marks" ["hold"] spMarks) (D5 : Df P w K mg base 1 "taker_behind" ["last", "took", "box", "letters"] spTaker)
    (D6 : Df P w K mg base 1 "put" ["numbers", "at", "number"] spPut) (D7 : Mf P w K mg base C 1 "gone_behind" ["self", "lost"] (spGoneB K C)) (D8 : Df P w K mg base 1 "row_behind" ["row", "sent", "is_lost"] spRowB) :
    FnOk P w K mg base CX0 4 f fd psBeat (spBeat K C) := by
  refine F.ok scBeat (fun vs H Q E h => ?_) (fun cdv A outer s H vs Q E hr h => ?_)
  · obtain ⟨x, a, n, s, g, d, rfl, _⟩ := h
    rfl
  obtain ⟨x, a, n, st, g, d, rfl, hW, hN, hS, hl, hw, g0, g1, q⟩ := h
  obtain ⟨dx, k, ga, hx, ⟨L, Ec, hk, hL, hE⟩, hg⟩ := id hW
  have hr1 := hr.mono (show 1 ≤ 3 by decide)
  have hh := hN.h1
  have zl : st.letters.length ≤ 1000 := by have := hS.let0; omega
  have ze : st.echoes.length ≤ 1000 := by have := hS.ech0; omega
  have zec : (echoB st).length ≤ 1000 := by unfold echoB; split <;> simp
  let X := (cxOf CX0 P w K mg base nmBeat "Way.beat" (defScope sBeat) f cdv A outer s H E).nox
  let slots (p13 p14 p15 p16 : Addr) : L2.St := [some (.ref x), some (ov d.word), some (.bl d.taking), some (.ref a), some (.str ""), some (.int st.mark), some (.int st.bears), some (ov st.slot), some (.ref L), some (.int st.last), some (.int st.took), some (ov st.box), some (.ref Ec), some (.ref p13), some (.ref p14), some (.ref p15), some (.ref p16)]
  -- the end: what was lost, the store, what is told
  obtain ⟨tC, hC, leafC⟩ : ∃ t, PSs X ((defBody sBeat).drop 10) t ∧ ∀ (p13 p14 p15 p16 : Addr) (H1 : Hp), Same H H1 → H1 p13 = some (.tup (pairV (letterB st))) →
      H1 p14 = some (.tup [.int (beatB n st d).mark, .int (beatB n st d).bears, ov (beatB n st d).slot]) → H1 p15 = some (.tup [.int (beatB n st d).last, .int (beatB n st d).took, ov (beatB n st d).box]) → RowAt H1 p16 (echoB st) →
      t { nx := fun _ H' => Q .non H', rt := Q } (slots p13 p14 p15 p16) H1 := by
    refine ⟨_, (pss_cons (ps_fld (pv 0) (pe_M D7 T.cl (pv 0) hr1 (pa_cons (pv 3) pa_nil)) rfl)
      (pss_cons (ps_fld (pv 0) (pe_tup (StX.pa_star (pv 14) (pa_cons (pe_D D8 hr1 rfl (pa_cons (pv 8) (pa_cons (pe_tup (pa_cons (pv 13) pa_nil)) (pa_cons (pe_ix ix_tup (pv 3) pe_int (fun _ _ => rfl)) pa_nil))))
        (StX.pa_star (pv 15) (pa_cons (pe_D D8 hr1 rfl (pa_cons (pv 12) (pa_cons (pv 16) (pa_cons (pe_ix ix_tup (pv 3) pe_int (fun _ _ => rfl)) pa_nil)))) pa_nil))))) rfl)
      (pss_one (ps_ret (pe_tup (pa_cons (pe_ifExp (pt_cmpR op_isN (pv 1) pe_non (nomark _)) pe_non (pe_cmpR op_isN (pv 7) pe_non (nomark _))) (pa_cons (pe_ifExp (pt_val (pv 2)) (pv 11) pe_non) pa_nil))))))), ?_⟩
    intro p13 p14 p15 p16 H1 s1 e13 e14 e15 r16
    refine ⟨_, rfl, x, dx, _, rfl, s1 _ _ hx, wf_none (by decide +kernel), _, rfl, x, a, n, st, g, d.lost, rfl, hW.keep s1, zl, hl.keep s1, fun p2 H2 np2 s2 e2 => ?_⟩
    have s2' := s1.trans s2
    refine ⟨_, rfl, x, C, dx, _, rfl, s2' _ _ hx, T.cl, T.n5, (by show 5 < 1000; decide), ?_⟩
    rw [wf_putG]
    have kX : Tups H2 (upd H2 x (.ins C dx (wayF n k p2))) := fun b xs h => by rw [upd_ne (ne_of h (s2' _ _ hx) (by intro z; cases z))]; exact h
    have kA : Kept x H (upd H2 x (.ins C dx (wayF n k p2))) := (Kept.of s2').trans (Kept.put _)
    have eX : upd H2 x (.ins C dx (wayF n k p2)) x = some (.ins C dx (wayF n k p2)) := upd_same
    have t1 : Tups H1 (upd H2 x (.ins C dx (wayF n k p2))) := (Same.tups s2).trans kX
    have t0 : Tups H (upd H2 x (.ins C dx (wayF n k p2))) := (Same.tups s1).trans t1
    have e2 := kX _ _ e2
    have lo : ∀ {H9 : Hp}, Kept x H H9 → LostAt K H9 a d.lost := fun kp => by
      rcases hl with (h | ⟨o, h⟩) | h
      · exact .inl (.inl (kp _ _ (ne_of h hx (by intro z; cases z)) h))
      · exact .inl (.inr ⟨o, kp _ _ (ne_of h hx (by intro z; cases z)) h⟩)
      · exact .inr h
    generalize upd H2 x (.ins C dx (wayF n k p2)) = H3 at *
    refine ⟨_, rfl, p14, _, rfl, .inl (SqT.of (t1 _ _ e14)), ?_⟩
    refine ⟨_, rfl, _, rfl, one_, fun p3 hp3 => ?_⟩
    have s3 := same_new hp3 (.tup [.ref p13])
    have r3 : RowAt (upd H3 p3 (.tup [.ref p13])) p3 [letterB st] := ⟨[p13], upd_same, .cons (s3 _ _ (t1 _ _ e13)) .nil⟩
    have k3 : Kept x H (upd H3 p3 (.tup [.ref p13])) := kA.trans (.of s3)
    refine ⟨_, rfl, a, _, _, _, rfl, rfl, lo k3, atI_nat (j := 0) rfl, L, p3, st.letters, [letterB st], d.lost.1, rfl, hL.keep (t0.trans (Same.tups s3)), r3, zl, (by simp), fun p4 H4 s4 r4 => ?_⟩
    have s4 := s3.trans s4
    refine ⟨_, rfl, p15, _, rfl, .inl (SqT.of (s4 _ _ (t1 _ _ e15))), ?_⟩
    refine ⟨_, rfl, _, rfl, _, rfl, a, _, _, _, rfl, rfl, lo (kA.trans (.of s4)), atI_nat (j := 1) rfl, Ec, p16, st.echoes, echoB st, d.lost.2, rfl, hE.keep (t0.trans (Same.tups s4)), r16.keep (t1.trans (Same.tups s4)), ze, zec, fun p5 H5 s5 r5 => ?_⟩
    refine ⟨eight, fun p6 hp6 => ?_⟩
    have s6 := s5.trans (same_new hp6 (.tup ([.int (beatB n st d).mark, .int (beatB n st d).bears, ov (beatB n st d).slot] ++ .ref p4 :: ([.int (beatB n st d).last, .int (beatB n st d).took, ov (beatB n st d).box] ++ [.ref p5]))))
    have s36 := s4.trans s6
    refine ⟨_, rfl, x, C, dx, _, rfl, s36 _ _ eX, T.cl, T.n4, (by show 5 < 1000; decide), ?_⟩
    rw [wf_putK]
    have e6 : upd H5 p6 (.tup ([.int (beatB n st d).mark, .int (beatB n st d).bears, ov (beatB n st d).slot] ++ .ref p4 :: ([.int (beatB n st d).last, .int (beatB n st d).took, ov (beatB n st d).box] ++ [.ref p5]))) p6 = some (.tup (stoV (beatB n st d) p4 p5)) := upd_same
    have r4 := r4.keep (Same.tups s6)
    have r5 := r5.keep (Same.tups (same_new hp6 (.tup ([.int (beatB n st d).mark, .int (beatB n st d).bears, ov (beatB n st d).slot] ++ .ref p4 :: ([.int (beatB n st d).last, .int (beatB n st d).took, ov (beatB n st d).box] ++ [.ref p5])))))
    have k6 : Kept x H _ := kA.trans (.of s36)
    have e26 := s36 _ _ e2
    have eX6 := s36 _ _ eX
    clear s6
    generalize upd H5 p6 (.tup ([.int (beatB n st d).mark, .int (beatB n st d).bears, ov (beatB n st d).slot] ++ .ref p4 :: ([.int (beatB n st d).last, .int (beatB n st d).took, ov (beatB n st d).box] ++ [.ref p5]))) = H6 at *
    have kY : Tups H6 (upd H6 x (.ins C dx (wayF n p6 p2))) := fun b xs h => by rw [upd_ne (ne_of h eX6 (by intro z; cases z))]; exact h
    have k7 : Kept x H (upd H6 x (.ins C dx (wayF n p6 p2))) := k6.trans (Kept.put _)
    have fin : ∀ p, upd H6 x (.ins C dx (wayF n p6 p2)) p = none → Q (.ref p) (upd (upd H6 x (.ins C dx (wayF n p6 p2))) p (.tup (toldB st d))) := fun p hp => by
      have s8 := same_new hp (.tup (toldB st d))
      exact q p _ (k7.trans (.of s8)) ⟨dx, p6, p2, s8 _ _ upd_same, ⟨p4, p5, s8 _ _ (kY _ _ e6), r4.keep (kY.trans (Same.tups s8)), r5.keep (kY.trans (Same.tups s8))⟩, s8 _ _ (kY _ _ e26)⟩ (k7.free upd_same hp) upd_same
    have f2 : ∀ v1 v2 : V, v1 = (if d.word = none then .non else .bl (decide (st.slot = none))) → v2 = (if d.taking = true then ov st.box else .non) → ∀ p, upd H6 x (.ins C dx (wayF n p6 p2)) p = none → Q (.ref p) (upd (upd H6 x (.ins C dx (wayF n p6 p2))) p (.tup [v1, v2])) := fun v1 v2 h1 h2 p hp => by
      rw [h1, h2]
      exact fin p hp
    refine ⟨_, rfl, rfl, _, rfl, itO (fun c => ?_) (fun c => ?_)⟩
    · refine ⟨_, rfl, _, rfl, ?_⟩
      cases ht : d.taking with
      | true => exact itT rfl ⟨_, rfl, two, f2 _ _ (by rw [if_pos c]) (by rw [ht]; rfl)⟩
      | false => exact itF rfl ⟨two, f2 _ _ (by rw [if_pos c]) (by rw [ht]; rfl)⟩
    · refine ⟨_, rfl, rfl, ?_⟩
      refine ⟨_, rfl, _, rfl, ?_⟩
      cases ht : d.taking with
      | true => exact itT rfl ⟨_, rfl, two, f2 _ _ (by rw [if_neg c, ov_non]) (by rw [ht]; rfl)⟩
      | false => exact itF rfl ⟨two, f2 _ _ (by rw [if_neg c, ov_non]) (by rw [ht]; rfl)⟩
  -- what is taken
  obtain ⟨tB, hB, leafB⟩ : ∃ t, PSs X ((defBody sBeat).drop 9) t ∧ ∀ (p13 p14 p15 p16 : Addr) (H1 : Hp), Same H H1 → H1 p13 = some (.tup (pairV (letterB st))) →
      H1 p14 = some (.tup [.int (beatB n st d).mark, .int (beatB n st d).bears, ov (beatB n st d).slot]) → H1 p15 = some (.tup (triV (takerB st.last st.took st.box st.letters))) → RowAt H1 p16 (echoB st) →
      t { nx := fun _ H' => Q .non H', rt := Q } (slots p13 p14 p15 p16) H1 := by
    refine ⟨_, pss_cons (ps_if (PW.pt (pw_and (pt_val (pv 2)) (pw_and1 (pt_cmpR op_notN (pv 11) pe_non (nomark _))))) (pss_one (ps_set (i := 15) scBeat.nd rfl (Or.inl rfl) (pe_D D6 hr1 rfl (pa_cons (pv 15) (pa_cons pe_int (pa_cons pe_non pa_nil)))))) pss_nil) hC, ?_⟩
    intro p13 p14 p15 p16 H1 s1 e13 e14 e15 r16
    have stay : ¬ (d.taking = true ∧ st.box ≠ none) → tC { nx := fun _ H' => Q .non H', rt := Q } (slots p13 p14 p15 p16) H1 := fun c => by
      refine leafC p13 p14 p15 p16 H1 s1 e13 e14 ?_ r16
      rw [e15]
      show some (HO.tup [_, _, _]) = some (HO.tup [_, _, ov (if d.taking = true ∧ st.box ≠ none then none else _)])
      rw [if_neg c]
      rfl
    refine ⟨_, rfl, _, rfl, ?_⟩
    cases ht : d.taking with
    | false => exact itF rfl (itF rfl (stay (by rw [ht]; exact fun z => nomatch z.1)))
    | true =>
      refine itT rfl ⟨_, rfl, rfl, _, rfl, itS (fun c => ?_) (fun c => ?_)⟩
      · refine ⟨_, rfl, p15, _, 2, .non, rfl, e15, by show 2 < 3; decide, by show 3 ≤ 1000; decide, fun p17 H2 s2 e17 => ?_⟩
        refine leafC p13 p14 p17 p16 H2 (s1.trans s2) (s2 _ _ e13) (s2 _ _ e14) ?_ (r16.keep (Same.tups s2))
        rw [e17]
        show some (HO.tup [_, _, V.non]) = some (HO.tup [_, _, ov (if d.taking = true ∧ st.box ≠ none then none else _)])
        rw [if_pos ⟨ht, c⟩]
        rfl
      · exact stay (fun z => z.2 c)
  -- what is put
  obtain ⟨tA, hA, leafA⟩ : ∃ t, PSs X ((defBody sBeat).drop 8) t ∧ ∀ (p13 p14 p15 p16 : Addr) (H1 : Hp), Same H H1 → H1 p13 = some (.tup (pairV (letterB st))) →
      H1 p14 = some (.tup (triV (senderB st.mark st.bears st.slot (2 * n.hold + 1) st.echoes))) → H1 p15 = some (.tup (triV (takerB st.last st.took st.box st.letters))) → RowAt H1 p16 (echoB st) →
      t { nx := fun _ H' => Q .non H', rt := Q } (slots p13 p14 p15 p16) H1 := by
    refine ⟨_, pss_cons (ps_if (PW.pt (pw_and (pt_cmpR op_notN (pv 1) pe_non (nomark _)) (pw_and1 (pt_cmpR op_isN (pv 7) pe_non (nomark _))))) (pss_one (ps_set (i := 14) scBeat.nd rfl (Or.inl rfl) (pe_D D6 hr1 rfl (pa_cons (pv 14) (pa_cons pe_int (pa_cons (pv 1) pa_nil)))))) pss_nil) hB, ?_⟩
    intro p13 p14 p15 p16 H1 s1 e13 e14 e15 r16
    have stay : ¬ (d.word ≠ none ∧ st.slot = none) → tB { nx := fun _ H' => Q .non H', rt := Q } (slots p13 p14 p15 p16) H1 := fun c => by
      refine leafB p13 p14 p15 p16 H1 s1 e13 ?_ e15 r16
      rw [e14]
      show some (HO.tup [_, _, _]) = some (HO.tup [_, _, ov (if d.word ≠ none ∧ st.slot = none then d.word else _)])
      rw [if_neg c]
      rfl
    refine ⟨_, rfl, rfl, _, rfl, itS (fun c => ?_) (fun c => ?_)⟩
    · refine ⟨_, rfl, rfl, _, rfl, itO (fun c2 => ?_) (fun c2 => ?_)⟩
      · refine ⟨_, rfl, _, rfl, p14, _, 2, _, rfl, e14, by show 2 < 3; decide, by show 3 ≤ 1000; decide, fun p17 H2 s2 e17 => ?_⟩
        refine leafB p13 p17 p15 p16 H2 (s1.trans s2) (s2 _ _ e13) ?_ (s2 _ _ e15) (r16.keep (Same.tups s2))
        rw [e17]
        show some (HO.tup [_, _, ov d.word]) = some (HO.tup [_, _, ov (if d.word ≠ none ∧ st.slot = none then d.word else _)])
        rw [if_pos ⟨c, c2⟩]
        rfl
      · exact stay (fun z => c2 z.2)
    · exact itF rfl (stay (fun z => z.1 c))
  -- sender, taker, echo
  obtain ⟨tS, hS2, leafS⟩ : ∃ t, PSs X ((defBody sBeat).drop 5) t ∧ ∀ p13 H2, Same H H2 → H2 p13 = some (.tup (pairV (letterB st))) → t { nx := fun _ H' => Q .non H', rt := Q } [some (.ref x), some (ov d.word), some (.bl d.taking), some (.ref a), some (.str ""), some (.int st.mark), some (.int st.bears), some (ov st.slot), some (.ref L), some (.int st.last), some (.int st.took), some (ov st.box), some (.ref Ec), some (.ref p13), none, none, none] H2 := by
    refine ⟨_, pss_cons (ps_set (i := 14) scBeat.nd rfl (Or.inl rfl) (pe_D D3 hr1 rfl (pa_cons (pv 5) (pa_cons (pv 6) (pa_cons (pv 7) (pa_cons (pv 12) (pa_cons (pe_D D4 hr1 rfl (pa_cons (pe_fld (pv 0) rfl) pa_nil)) pa_nil)))))))
      (pss_cons (ps_set (i := 15) scBeat.nd rfl (Or.inl rfl) (pe_D D5 hr1 rfl (pa_cons (pv 9) (pa_cons (pv 10) (pa_cons (pv 11) (pa_cons (pv 8) pa_nil))))))
      (pss_cons (ps_set (i := 16) scBeat.nd rfl (Or.inl rfl) (pe_ifExp (pt_cmpR op_eq (pe_callB call_len_seq rfl O.len PySem.boot_len (pa_cons (pv 8) pa_nil)) pe_int (nomark _)) (pe_tup pa_nil) (pe_tup (pa_cons (pe_slice sl_tup (pv 15) po_none (po_some pe_int)) pa_nil)))) hA)), ?_⟩
    intro p13 H2 s2 e13
    refine ⟨_, rfl, _, rfl, _, rfl, _, rfl, _, rfl, x, C, dx, _, _, rfl, s2 _ _ hx, T.cl, T.n1, wf_hold, n.hold, rfl, st.mark, st.bears, 2 * n.hold + 1, st.slot, Ec, st.echoes, rfl, hE.keep (Same.tups s2), fun e he => ?_, ze, (by have := hN.h0; omega), fun p14 H3 s3 e14 => ?_⟩
    · rcases (hS.echs e he).2.2 with z | z
      · exact ⟨_, z⟩
      · exact ⟨_, z⟩
    have s3' := s2.trans s3
    refine ⟨_, rfl, _, rfl, _, rfl, _, rfl, st.last, st.took, st.box, L, st.letters, rfl, hL.keep (Same.tups s3'), zl, fun p15 H4 s4 e15 => ?_⟩
    have s4' := s3'.trans s4
    obtain ⟨as, hLL, hp⟩ := hL.keep (Same.tups s4')
    have hlen : (as.map V.ref).length = st.letters.length := by rw [List.length_map]; exact paired_len hp
    have e13 := s4 _ _ (s3 _ _ e13)
    have e14 := s4 _ _ e14
    refine ⟨_, rfl, L, _, rfl, .inr (SqT.of hLL), rfl, _, rfl, itEq (fun c => ?_) (fun c => ?_)⟩
    · have c' : st.letters = [] := List.eq_nil_of_length_eq_zero (by omega)
      refine ⟨by show 0 ≤ sizeLine; decide, fun p16 hp16 => ?_⟩
      have s5 := same_new hp16 (.tup [])
      refine leafA p13 p14 p15 p16 _ (s4'.trans s5) (s5 _ _ e13) (s5 _ _ e14) (s5 _ _ e15) ?_
      unfold echoB
      rw [if_pos c']
      exact ⟨[], upd_same, .nil⟩
    · have c' : st.letters ≠ [] := fun z => c (by rw [hlen, z]; rfl)
      refine ⟨_, rfl, _, rfl, p15, _, rfl, SqT.of e15, (fun z => absurd z.2 (show ¬ HT.sIx 3 3 (some 2) = 3 by decide)), fun p17 hp17 => ⟨one_, fun p16 hp16 => ?_⟩⟩
      have s5 := same_new hp17 (.tup (cutV (triV (takerB st.last st.took st.box st.letters)) none (some 2)))
      have s6 := s5.trans (same_new hp16 (.tup [.ref p17]))
      refine leafA p13 p14 p15 p16 _ (s4'.trans s6) (s6 _ _ e13) (s6 _ _ e14) (s6 _ _ e15) ?_
      unfold echoB
      rw [if_neg c']
      exact ⟨[p17], upd_same, .cons (same_new hp16 _ _ _ upd_same) .nil⟩
  obtain ⟨tR, hR, leafR⟩ : ∃ t, PSs X ((defBody sBeat).drop 1) t ∧ t { nx := fun _ H' => Q .non H', rt := Q } (L2.start nmBeat [.ref x, ov d.word, .bl d.taking, .ref a]) H := by
    refine ⟨_, pss_cons (ps_set (i := 4) scBeat.nd rfl (Or.inl rfl) (pe_M D2 T.cl (pv 0) (hr.mono (by decide)) (pa_cons (pv 3) pa_nil)))
      (pss_cons (ps_if (pt_cmpR op_ne (pv 4) pe_str (nomark _)) (pss_one ps_never) pss_nil)
      (pss_cons (ps_asg (pe_fld (pv 0) rfl) (pg_tup rfl (pgs_cons (pg_name (i := 5) scBeat.nd rfl (Or.inl rfl)) (pgs_cons (pg_name (i := 6) scBeat.nd rfl (Or.inl rfl)) (pgs_cons (pg_name (i := 7) scBeat.nd rfl (Or.inl rfl)) (pgs_cons (pg_name (i := 8) scBeat.nd rfl (Or.inl rfl))
        (pgs_cons (pg_name (i := 9) scBeat.nd rfl (Or.inl rfl)) (pgs_cons (pg_name (i := 10) scBeat.nd rfl (Or.inl rfl)) (pgs_cons (pg_name (i := 11) scBeat.nd rfl (Or.inl rfl)) (pgs_cons (pg_name (i := 12) scBeat.nd rfl (Or.inl rfl)) pgs_nil))))))))))
      (pss_cons (ps_set (i := 13) scBeat.nd rfl (Or.inl rfl) (pe_tup (pa_cons (pv 5) (pa_cons (pe_ifExp (pt_cmpR op_eq (pv 6) pe_int (nomark _)) (pv 7) pe_non) pa_nil)))) hS2))), ?_⟩
    refine ⟨_, rfl, x, dx, _, rfl, hx, wf_none (by decide +kernel), _, rfl, x, a, n, st, g, d.lost, rfl, hW, zl, hl, fun H1 s1 => ?_⟩
    have eS : sideB st g d.lost n.miss = "" := by
      unfold sideB
      rw [if_neg (by omega), if_neg (by omega)]
    rw [eS]
    refine ⟨_, rfl, rfl, _, rfl, itN (fun c => absurd rfl c) (fun _ => ?_)⟩
    refine ⟨_, rfl, x, C, dx, _, _, rfl, s1 _ _ hx, T.cl, T.n4, wf_kept, k, _, rfl, SqT.of (s1 _ _ hk), rfl, _, _, rfl, _, _, rfl, _, _, rfl, _, _, rfl, _, _, rfl, _, _, rfl, _, _, rfl, _, _, rfl, rfl, ?_⟩
    have fin : ∀ v : V, v = ov (letterB st).2 → ∀ p13, H1 p13 = none → tS { nx := fun _ H' => Q .non H', rt := Q } [some (.ref x), some (ov d.word), some (.bl d.taking), some (.ref a), some (.str ""), some (.int st.mark), some (.int st.bears), some (ov st.slot), some (.ref L), some (.int st.last), some (.int st.took), some (ov st.box), some (.ref Ec), some (.ref p13), none, none, none] (upd H1 p13 (.tup [.int st.mark, v])) := fun v hv p13 hp13 => by
      rw [hv]
      exact leafS p13 _ (s1.trans (same_new hp13 _)) upd_same
    refine ⟨_, rfl, _, rfl, rfl, _, rfl, itEq (fun b1 => ⟨_, rfl, two, fun p13 hp13 => ?_⟩) (fun b1 => ⟨two, fun p13 hp13 => ?_⟩)⟩
    · exact fin _ (by show _ = ov (if st.bears = 1 then st.slot else none); rw [if_pos b1]) p13 hp13
    · exact fin _ (by show _ = ov (if st.bears = 1 then st.slot else none); rw [if_neg b1]; rfl) p13 hp13
  refine ⟨_, PSs.nox (pss_cons (ps_if (PW.pt (pw_and (pt_cmpR op_notN (pv 1) pe_non (nomark _)) (pw_and1 (pt_not (pt_val (pe_D D1 hr rfl (pa_cons (pv 1) (pa_cons (pe_fld (pv 0) rfl) pa_nil)))))))) (pss_one ps_never) pss_nil) hR), ?_⟩
  refine ⟨_, rfl, rfl, _, rfl, itS (fun c => ?_) (fun c => itF rfl leafR)⟩
  cases hd : d.word with
  | none => exact absurd hd c
  | some i =>
    obtain ⟨w0, w1⟩ := hw i hd
    rw [hd] at leafR
    refine ⟨_, rfl, _, rfl, x, C, dx, _, _, rfl, hx, T.cl, T.n3, wf_bound, i, n.bound, rfl, ?_⟩
    rw [decide_eq_true w0, decide_eq_true (show i ≤ n.bound - 1 by omega)]
    exact ⟨_, rfl, itF rfl leafR⟩
end
end Any
namespace Any
open L2 PySem PySem.Spec PyProof.Rows
abbrev sLen : Stmt := inClass (top 19) 9
theorem scLen : FnScope ["self"] ["self"] (defScope sLen) := ⟨rfl, rfl, rfl, by decide +kernel, rfl, by decide +kernel, by decide +kernel⟩
/-- an object with these numbers -/
def NumAt (C : Addr) (H : Hp) (x : Addr) (n : Num) : Prop := ∃ dx k ga, H x = some (.ins C dx (wayF n k ga))
theorem NumAt.keep {C : Addr} {H H' : Hp} {x : Addr} {n : Num} (k : Same H H') (h : NumAt C H x n) : NumAt C H' x n := by
  obtain ⟨dx, a, ga, h1⟩ := h
  exact ⟨dx, a, ga, k _ _ h1⟩
theorem WayAt.num {C : Addr} {H : Hp} {x : Addr} {n : Num} {s : Sto} {g : Int × Int} (h : WayAt C H x n s g) : NumAt C H x n := by
  obtain ⟨dx, a, ga, h1, _⟩ := h
  exact ⟨dx, a, ga, h1⟩
def spStore (C : Addr) : Sp := fun vs H Q _ => ∃ (x : Addr) (n : Num) (s : Sto) (g : Int × Int), vs = [.ref x] ∧ WayAt C H x n s g ∧ ∀ k, StoAt H k s → Q (.ref k) H
def spLen (C : Addr) : Sp := fun vs H Q _ => ∃ (x : Addr) (n : Num) (s : Sto) (g : Int × Int), vs = [.ref x] ∧ WayAt C H x n s g ∧ s.letters.length ≤ 1000 ∧ s.echoes.length ≤ 1000 ∧ ∀ H', Same H H' → Q (.int ((s.letters.length : Int) + s.echoes.length)) H'
theorem dec_true {p : Prop} [Decidable p] (h : p) : decide p = true := decide_eq_true h
section
variable {P : Program} {w : World} {K : PySem.W.Frag} {mg : Str → Option Value} {base : Heap} {f C : Addr} {fd : FuncData}
theorem ok_store (T : WayC K C) (F : Fun K "store" "Way.store" sStore f fd) : FnOk P w K mg base CX0 1 f fd ["self"] (spStore C) := by
  refine F.ok scStore (fun vs H Q E h => ?_) (fun cdv A outer s H vs Q E hr h => ?_)
  · obtain ⟨x, n, s, g, rfl, _⟩ := h
    rfl
  obtain ⟨x, n, st, g, rfl, ⟨dx, k, ga, hx, hS, hg⟩, q⟩ := h
  exact ⟨_, pss_one (ps_ret (pe_fld (pv 0) rfl)), _, rfl, x, C, dx, _, _, rfl, hx, T.cl, T.n4, wf_kept, q k hS⟩
theorem ok_len (O : Own mg) (T : WayC K C) (F : Fun K "__len__" "Way.__len__" sLen f fd) : FnOk P w K mg base CX0 1 f fd ["self"] (spLen C) := by
  refine F.ok scLen (fun vs H Q E h => ?_) (fun cdv A outer s H vs Q E hr h => ?_)
  · obtain ⟨x, n, s, g, rfl, _⟩ := h
    rfl
  obtain ⟨x, n, st, g, rfl, ⟨dx, k, ga, hx, ⟨L, Ec, hk, ⟨as, hL, hp⟩, ⟨bs, hE, hq⟩⟩, hg⟩, z1, z2, q⟩ := h
  have hl := paired_len hp
  have hl2 := paired_len hq
  refine ⟨_, pss_one (ps_ret (pe_callB call_len_seq rfl O.len PySem.boot_len (pa_cons (pe_op op_catA (pe_ix ix_tup (pe_fld (pv 0) rfl) pe_int (fun _ _ => rfl)) (pe_ix ix_tup (pe_fld (pv 0) rfl) pe_int (fun _ _ => rfl))) pa_nil))), ?_⟩
  refine ⟨_, rfl, x, C, dx, _, _, rfl, hx, T.cl, T.n4, wf_kept, k, _, _, _, rfl, rfl, SqT.of hk, atI_nat (j := 3) rfl, _, rfl, x, C, dx, _, _, rfl, hx, T.cl, T.n4, wf_kept, k, _, _, _, rfl, rfl, SqT.of hk, atI_nat (j := 7) rfl, L, Ec, _, _, rfl, rfl, SqT.of hL, SqT.of hE, twoK (by rw [List.length_map]; omega) (by rw [List.length_map]; omega), fun c => ?_, fun _ c => ?_, fun _ _ p hp2 => ?_⟩
  · have c := List.map_eq_nil_iff.mp c
    refine ⟨Ec, _, rfl, .inr (SqT.of hE), ?_⟩
    rw [List.length_map, show ((bs.length : Nat) : Int) = (st.letters.length : Int) + st.echoes.length by rw [c] at hl; simp at hl; omega]
    exact q H same_refl
  · have c := List.map_eq_nil_iff.mp c
    refine ⟨L, _, rfl, .inr (SqT.of hL), ?_⟩
    rw [List.length_map, show ((as.length : Nat) : Int) = (st.letters.length : Int) + st.echoes.length by rw [c] at hl2; simp at hl2; omega]
    exact q H same_refl
  · refine ⟨p, _, rfl, .inr (SqT.of upd_same), ?_⟩
    rw [List.length_append, List.length_map, List.length_map, show ((as.length + bs.length : Nat) : Int) = (st.letters.length : Int) + st.echoes.length by omega]
    exact q _ (same_new hp2 _)
end
end Any
namespace Any
open L2 PySem PySem.Spec PyProof.Rows
theorem scInit : FnScope ["self", "hold", "miss", "bound"] ["self", "hold", "miss", "bound"] (defScope sInit) := ⟨rfl, rfl, rfl, by decide +kernel, rfl, by decide +kernel, by decide +kernel⟩
def sto0 : Sto := ⟨0, 0, none, [], 0, 0, none, []⟩
theorem sto0_ok {n : Num} (h : NumOk n) : StoOk n sto0 where
  m0 := by decide
  m1 := by have := h.h0; show 0 ≤ 2 * n.hold; omega
  b := .inl rfl
  slot := fun i z => by cases z
  let0 := by have := h.h0; show ((0 : Nat) : Int) ≤ n.hold; omega
  lets := fun e h => by cases h
  l0 := by decide
  l1 := by have := h.h0; show 0 ≤ 2 * n.hold; omega
  t := .inl rfl
  box := fun i z => by cases z
  ech0 := by have := h.h0; show ((0 : Nat) : Int) ≤ n.hold; omega
  echs := fun e h => by cases h
structure Most (mg : Str → Option Value) : Prop where
  hold : ∃ t, mg "MOST_HOLD" = some (.int 6 t)
  miss : ∃ t, mg "MOST_MISS" = some (.int 4 t)
  bound : ∃ t, mg "MOST_BOUND" = some (.int 40 t)
def spInit (C : Addr) : Sp := fun vs H Q _ => ∃ (x dx : Addr) (n : Num), vs = [.ref x, .int n.hold, .int n.miss, .int n.bound] ∧ NumOk n ∧ H x = some (.ins C dx []) ∧ ∀ H', Kept x H H' → WayAt C H' x n sto0 (0, 0) → Q .non H'
section
variable {P : Program} {w : World} {K : PySem.W.Frag} {mg : Str → Option Value} {base : Heap} {f C : Addr} {fd : FuncData}
theorem in_true {i l m : Int} (h : l ≤ i) (k : i ≤ m) : (decide (l ≤ i) && decide (i ≤ m)) = true := by rw [dec_true h, dec_true k]; rfl
theorem fld0 {v : V} : putF "hold" v [] = ([("hold", v)] : List (Str × V)) := rfl
theorem fld1 {v u : V} : putF "miss" v ([("hold", u)] : List (Str × V)) = ([("hold", u), ("miss", v)] : List (Str × V)) := by simp (decide := true) [putF]
theorem fld2 {v u z : V} : putF "bound" v ([("hold", u), ("miss", z)] : List (Str × V)) = ([("hold", u), ("miss", z), ("bound", v)] : List (Str × V)) := by simp (decide := true) [putF]
theorem fld3 {v u z y : V} : putF "kept" v ([("hold", u), ("miss", z), ("bound", y)] : List (Str × V)) = ([("hold", u), ("miss", z), ("bound", y), ("kept", v)] : List (Str × V)) := by simp (decide := true) [putF]
theorem fld4 {v u z y r : V} : putF "gone" v ([("hold", u), ("miss", z), ("bound", y), ("kept", r)] : List (Str × V)) = ([("hold", u), ("miss", z), ("bound", y), ("kept", r), ("gone", v)] : List (Str × V)) := by simp (decide := true) [putF]
theorem ok_init (M : Most mg) (T : WayC K C) {kws : List (Str × V)} (F : FunD K "__init__" "Way.__init__" (defArgs sInit) (defBody sInit) (defScope sInit) [] kws f fd) (D1 : Df P w K mg base 2 "is_within" ["thing", "least", "most"] spWithin) :
    FnOk P w K mg base CX0 3 f fd ["self", "hold", "miss", "bound"] (spInit C) := by
  refine F.ok scInit (fun vs H Q E h => ?_) (fun cdv A outer s H vs Q E hr h => ?_)
  · obtain ⟨x, dx, n, rfl, _⟩ := h
    rfl
  obtain ⟨x, dx, n, rfl, hN, hx, q⟩ := h
  obtain ⟨t1, m1⟩ := M.hold
  obtain ⟨t2, m2⟩ := M.miss
  obtain ⟨t3, m3⟩ := M.bound
  refine ⟨_, PSs.nox (pss_cons (ps_if (pt_not (pt_val (pe_D D1 hr rfl (pa_cons (pv 1) (pa_cons pe_int (pa_cons (pe_glob (v := .int 6) rfl m1 ⟨_, rfl⟩) pa_nil)))))) (pss_one ps_never) pss_nil)
    (pss_cons (ps_if (pt_not (pt_val (pe_D D1 hr rfl (pa_cons (pv 2) (pa_cons pe_int (pa_cons (pe_glob (v := .int 4) rfl m2 ⟨_, rfl⟩) pa_nil)))))) (pss_one ps_never) pss_nil)
    (pss_cons (ps_if (pt_not (pt_val (pe_D D1 hr rfl (pa_cons (pv 3) (pa_cons pe_int (pa_cons (pe_glob (v := .int 40) rfl m3 ⟨_, rfl⟩) pa_nil)))))) (pss_one ps_never) pss_nil)
    (pss_cons (ps_fld (pv 0) (pv 1) rfl) (pss_cons (ps_fld (pv 0) (pv 2) rfl) (pss_cons (ps_fld (pv 0) (pv 3) rfl)
    (pss_cons (ps_fld (pv 0) (pe_tup (pa_cons pe_int (pa_cons pe_int (pa_cons pe_non (pa_cons (pe_tup pa_nil) (pa_cons pe_int (pa_cons pe_int (pa_cons pe_non (pa_cons (pe_tup pa_nil) pa_nil))))))))) rfl)
    (pss_one (ps_fld (pv 0) (pe_tup (pa_cons pe_int (pa_cons pe_int pa_nil))) rfl))))))))), ?_⟩
  refine ⟨_, rfl, n.hold, 1, 6, rfl, ?_⟩
  rw [in_true hN.h0 hN.h1]
  refine ⟨_, rfl, itF rfl ⟨_, rfl, n.miss, 1, 4, rfl, ?_⟩⟩
  rw [in_true hN.m0 hN.m1]
  refine ⟨_, rfl, itF rfl ⟨_, rfl, n.bound, 1, 40, rfl, ?_⟩⟩
  rw [in_true hN.b0 hN.b1]
  refine ⟨_, rfl, itF rfl ?_⟩
  refine ⟨_, rfl, _, rfl, x, C, dx, _, rfl, hx, T.cl, T.n1, (by show 0 < 1000; decide), ?_⟩
  rw [fld0]
  refine ⟨_, rfl, _, rfl, x, C, dx, [("hold", .int n.hold)], rfl, upd_same, T.cl, T.n2, (by show 1 < 1000; decide), ?_⟩
  rw [fld1, upd2]
  refine ⟨_, rfl, _, rfl, x, C, dx, [("hold", .int n.hold), ("miss", .int n.miss)], rfl, upd_same, T.cl, T.n3, (by show 2 < 1000; decide), ?_⟩
  rw [fld2, upd2]
  have k1 : Kept x H (upd H x (.ins C dx [("hold", .int n.hold), ("miss", .int n.miss), ("bound", .int n.bound)])) := Kept.put _
  have e1 := @upd_same H x (.ins C dx [("hold", .int n.hold), ("miss", .int n.miss), ("bound", .int n.bound)])
  generalize upd H x (.ins C dx [("hold", .int n.hold), ("miss", .int n.miss), ("bound", .int n.bound)]) = H1 at *
  refine ⟨by show 0 ≤ sizeLine; decide, fun p1 hp1 => ⟨by show 0 ≤ sizeLine; decide, fun p2 hp2 => ⟨eight, fun p3 hp3 => ?_⟩⟩⟩
  have s1 := same_new hp1 (.tup [])
  have s2 := same_new hp2 (.tup [])
  have s3 := same_new hp3 (.tup [.int 0, .int 0, .non, .ref p1, .int 0, .int 0, .non, .ref p2])
  have a1 := s3 _ _ (s2 _ _ (@upd_same H1 p1 (.tup [])))
  have a2 := s3 _ _ (@upd_same (upd H1 p1 (.tup [])) p2 (.tup []))
  have a3 := @upd_same (upd (upd H1 p1 (.tup [])) p2 (.tup [])) p3 (.tup [.int 0, .int 0, .non, .ref p1, .int 0, .int 0, .non, .ref p2])
  have s13 := s1.trans (s2.trans s3)
  clear s3
  generalize upd (upd (upd H1 p1 (.tup [])) p2 (.tup [])) p3 (.tup [.int 0, .int 0, .non, .ref p1, .int 0, .int 0, .non, .ref p2]) = H4 at *
  refine ⟨_, rfl, x, C, dx, _, rfl, s13 _ _ e1, T.cl, T.n4, (by show 3 < 1000; decide), ?_⟩
  rw [fld3]
  have kX : Tups H4 (upd H4 x (.ins C dx [("hold", .int n.hold), ("miss", .int n.miss), ("bound", .int n.bound), ("kept", .ref p3)])) := fun b xs h => by rw [upd_ne (ne_of h (s13 _ _ e1) (by intro z; cases z))]; exact h
  have k5 : Kept x H (upd H4 x (.ins C dx [("hold", .int n.hold), ("miss", .int n.miss), ("bound", .int n.bound), ("kept", .ref p3)])) := k1.trans ((Kept.of s13).trans (Kept.put _))
  have e5 := @upd_same H4 x (.ins C dx [("hold", .int n.hold), ("miss", .int n.miss), ("bound", .int n.bound), ("kept", .ref p3)])
  have a1 := kX _ _ a1
  have a2 := kX _ _ a2
  have a3 := kX _ _ a3
  clear kX
  generalize upd H4 x (.ins C dx [("hold", .int n.hold), ("miss", .int n.miss), ("bound", .int n.bound), ("kept", .ref p3)]) = H5 at *
  refine ⟨two, fun p6 hp6 => ?_⟩
  have s6 := same_new hp6 (.tup [.int 0, .int 0])
  refine ⟨_, rfl, x, C, dx, _, rfl, s6 _ _ e5, T.cl, T.n5, (by show 4 < 1000; decide), ?_⟩
  rw [fld4]
  have kY : Tups (upd H5 p6 (.tup [.int 0, .int 0])) (upd (upd H5 p6 (.tup [.int 0, .int 0])) x (.ins C dx (wayF n p3 p6))) := fun b xs h => by rw [upd_ne (ne_of h (s6 _ _ e5) (by intro z; cases z))]; exact h
  exact q _ (k5.trans ((Kept.of s6).trans (Kept.put _))) ⟨dx, p3, p6, upd_same, ⟨p1, p2, kY _ _ (s6 _ _ a3), ⟨[], kY _ _ (s6 _ _ a1), .nil⟩, ⟨[], kY _ _ (s6 _ _ a2), .nil⟩⟩, kY _ _ upd_same⟩
end
end Any
namespace Any
open L2 PySem PySem.Spec PyProof.Rows
abbrev sBag : Stmt := top 26
abbrev sTake : Stmt := top 27
theorem scBag : FnScope ["_law_script", "_law_at", "_law_cell", "_law_far"] ["_law_script", "_law_at"] (defScope sBag) := ⟨rfl, rfl, rfl, by decide +kernel, rfl, by decide +kernel, by decide +kernel⟩
theorem scTake : FnScope ["_law_bag_here", "_law_many", "_law_digit", "_law_primes", "_law_turn", "_law_base", "_law_mixed"] ["_law_bag_here", "_law_many"] (defScope sTake) := ⟨rfl, rfl, rfl, by decide +kernel, rfl, by decide +kernel, by decide +kernel⟩
/-- a bag from which so many may still be taken -/
def Bag (H : Hp) (b : Addr) (k : Nat) : Prop := ∃ g s c : Int, H b = some (.lst [.int g, .int s, .int c]) ∧ 0 ≤ g ∧ 0 ≤ s ∧ s < 2 ^ 62 ∧ 0 ≤ c ∧ c + k < 2 ^ 40
theorem Bag.less {H : Hp} {b : Addr} {m n : Nat} (h : Bag H b m) (k : n ≤ m) : Bag H b n := by
  obtain ⟨g, s, c, h1, h2, h3, h4, h5, h6⟩ := h
  exact ⟨g, s, c, h1, h2, h3, h4, h5, by omega⟩
theorem Bag.keep {H H' : Hp} {b : Addr} {n : Nat} (h : Bag H b n) (k : Same H H') : Bag H' b n := by
  obtain ⟨g, s, c, h1, h2⟩ := h
  exact ⟨g, s, c, k _ _ h1, h2⟩
theorem Bag.keepX {H H' : Hp} {b x : Addr} {n : Nat} (h : Bag H b n) (k : Kept x H H') (ne : b ≠ x) : Bag H' b n := by
  obtain ⟨g, s, c, h1, h2⟩ := h
  exact ⟨g, s, c, k _ _ ne h1, h2⟩
theorem Bag.lst {H : Hp} {b : Addr} {n : Nat} (h : Bag H b n) : ∃ xs, H b = some (.lst xs) := by
  obtain ⟨g, s, c, h1, h2⟩ := h
  exact ⟨_, h1⟩
theorem Bag.tups {H H' : Hp} {b : Addr} {n : Nat} (h : Bag H b n) (k : Kept b H H') : Tups H H' := by
  obtain ⟨xs, h⟩ := h.lst
  exact k.tups h
theorem Bag.ne {H : Hp} {b p : Addr} {n : Nat} (h : Bag H b n) (k : H p = none) : p ≠ b := by
  obtain ⟨xs, h⟩ := h.lst
  intro e
  rw [e, h] at k
  cases k
theorem Bag.put {H : Hp} {b p : Addr} {n : Nat} {o : HO} (h : Bag H b n) (ne : b ≠ p) : Bag (upd H p o) b n := by
  obtain ⟨g, s, c, h1, h2⟩ := h
  exact ⟨g, s, c, by rw [upd_ne ne]; exact h1, h2⟩
def spBag (K : PySem.W.Frag) : Sp := fun vs H Q _ => ∃ (a : Addr) (ns : List Int) (k : Int), vs = [.ref a, .int k] ∧ SqL K H a (ns.map V.int) ∧ 0 ≤ k ∧ k < 64 ∧ ∀ (b : Addr) (H' : Hp), H b = none → Same H H' → Bag H' b 1000000000 → Q (.ref b) H'
def spTake : Sp := fun vs H Q _ => ∃ (b : Addr) (m : Int) (n : Nat), vs = [.ref b, .int m] ∧ Bag H b (n + 1) ∧ 1 ≤ m ∧ m ≤ 1000000 ∧
  ∀ (d : Int) (H' : Hp), Kept b H H' → Bag H' b n → 0 ≤ d → d < m → Q (.int d) H'
def primes : List Int := [2147483647, 2147483629, 2147483587, 2147483579, 2147483563, 2147483549, 2147483543]
theorem prime_at {r : Int} (h0 : 0 ≤ r) (h1 : r < 7) : ∃ p : Int, atI (primes.map V.int) r = some (.int p) ∧ 0 < p ∧ p < 2 ^ 31 := by
  have : r = 0 ∨ r = 1 ∨ r = 2 ∨ r = 3 ∨ r = 4 ∨ r = 5 ∨ r = 6 := by omega
  rcases this with rfl | rfl | rfl | rfl | rfl | rfl | rfl <;> exact ⟨_, rfl, by decide, by decide⟩
theorem base_bits {s c : Int} (h1 : 0 ≤ s) (h2 : s < 2 ^ 62) (h3 : 0 ≤ c) (h4 : c < 2 ^ 40) : CPowW (s * (2 * c + 1) + 4507 * c * c + 23) 3 := by
  refine ⟨by decide, ?_⟩
  have a1 : 0 ≤ s * (2 * c + 1) := Int.mul_nonneg h1 (by omega)
  have a2 : s * (2 * c + 1) ≤ 2 ^ 62 * 2 ^ 42 := Int.mul_le_mul (by omega) (by omega) (by omega) (by decide)
  have a3 : 0 ≤ 4507 * c * c := Int.mul_nonneg (by omega) h3
  have a4 : 4507 * c * c ≤ 2 ^ 53 * 2 ^ 40 := Int.mul_le_mul (by omega) (by omega) h3 (by decide)
  have b : (s * (2 * c + 1) + 4507 * c * c + 23).natAbs < 2 ^ 110 := by
    generalize s * (2 * c + 1) = x at *
    generalize 4507 * c * c = y at *
    omega
  have c1 := intBits_le b
  omega
section
variable {P : Program} {w : World} {K : PySem.W.Frag} {mg : Str → Option Value} {base : Heap} {f : Addr} {fd : FuncData}
theorem ok_bag (O : Own mg) (F : Fun K "_law_bag" "_law_bag" sBag f fd) : FnOk P w K mg base CX0 1 f fd ["_law_script", "_law_at"] (spBag K) := by
  refine F.ok scBag (fun vs H Q E h => ?_) (fun cdv A outer s H vs Q E hr h => ?_)
  · obtain ⟨a, ns, k, rfl, _⟩ := h
    rfl
  obtain ⟨a, ns, k, rfl, hS, h0, h1, q⟩ := h
  have fin : ∀ cell : Int, ∀ (b : Addr), H b = none → Q (.ref b) (upd H b (.lst [.int ((if cell < 0 then -cell else cell) * (if decide ((10 : Int) ^ (18 : Int).toNat ≤ (if cell < 0 then -cell else cell)) = true then 1 else 0)), .int (cell % 1000000000000000003 + 4001 * k * k + 17 * k + 11), .int 0])) := fun cell b hb => by
    refine q b _ hb (same_new hb _) ⟨_, _, _, upd_same, ?_, ?_, ?_, Int.le_refl 0, by decide⟩
    · refine Int.mul_nonneg (by split <;> omega) (by split <;> omega)
    · have z := Int.emod_nonneg cell (show (1000000000000000003 : Int) ≠ 0 by decide)
      have z2 : 0 ≤ 4001 * k * k := Int.mul_nonneg (Int.mul_nonneg (by decide) h0) h0
      omega
    · have z := Int.emod_lt_of_pos cell (show (0 : Int) < 1000000000000000003 by decide)
      have z2 : 4001 * k * k ≤ 4001 * 64 * 64 := by
        have a1 : 4001 * k ≤ 4001 * 64 := by omega
        have a2 : 4001 * k * k ≤ 4001 * 64 * k := Int.mul_le_mul_of_nonneg_right a1 h0
        have a3 : 4001 * 64 * k ≤ 4001 * 64 * 64 := by omega
        omega
      omega
  have one : ∀ c : Bool, -(2 ^ 64) < (if c = true then (1 : Int) else 0) ∧ (if c = true then (1 : Int) else 0) < 2 ^ 64 := fun c => by cases c <;> decide
  obtain ⟨tT, hT, leafT⟩ : ∃ t, PSs (cxOf CX0 P w K mg base ["_law_script", "_law_at", "_law_cell", "_law_far"] "_law_bag" (defScope sBag) f cdv A outer s H E).nox ((defBody sBag).drop 2) t ∧ ∀ cell : Int, t { nx := fun _ H' => Q .non H', rt := Q } [some (.ref a), some (.int k), some (.int cell), none] H := by
    refine ⟨_, pss_cons (ps_set (i := 3) scBag.nd rfl (Or.inl rfl) (pe_callB call_abs rfl O.abs (by decide +kernel) (pa_cons (pv 2) pa_nil)))
      (pss_one (ps_ret (pe_lst (pa_cons (pe_op op_mul (pv 3) (pe_callTy call_int1 rfl O.int (by decide +kernel) (pa_cons (pe_cmpR op_ge (pv 3) (pe_op op_pow pe_int pe_int) (nomark _)) pa_nil)))
        (pa_cons (pe_op op_add (pe_op op_add (pe_op op_add (pe_op op_mod (pv 2) pe_int) (pe_op op_mul (pe_op op_mul pe_int (pv 1)) (pv 1))) (pe_op op_mul pe_int (pv 1))) pe_int) (pa_cons pe_int pa_nil)))))), ?_⟩
    intro cell
    refine ⟨_, rfl, _, rfl, ?_⟩
    refine ⟨_, rfl, _, rfl, _, _, rfl, rfl, ⟨by decide, by decide, by decide⟩, _, _, rfl, rfl, .inr ⟨_, rfl, _, _, rfl, rfl, .inr (one _), ?_⟩⟩
    refine ⟨_, rfl, _, _, rfl, rfl, (by show (0 : Int) < 1000000000000000003; decide), _, rfl, _, _, rfl, rfl, .inl ⟨by decide, by decide⟩, _, rfl, _, _, rfl, rfl, .inl ⟨by omega, by omega⟩, _, _, rfl, rfl, ?_⟩
    exact ⟨_, rfl, _, _, rfl, rfl, .inl ⟨by decide, by decide⟩, _, _, rfl, rfl, _, _, rfl, rfl, (by show 3 ≤ sizeLine; decide), fun p hp => fin cell p hp⟩
  refine ⟨_, pss_cons (ps_set (i := 2) scBag.nd rfl (Or.inl rfl) pe_int)
    (pss_cons (ps_if (pt_cmpR op_lt (pv 1) (pe_callB call_len_seq rfl O.len PySem.boot_len (pa_cons (pv 0) pa_nil)) (nomark _)) (pss_one (ps_set (i := 2) scBag.nd rfl (Or.inl rfl) (pe_ix ix_list (pv 0) (pv 1) (fun _ _ => rfl)))) pss_nil) hT), ?_⟩
  refine ⟨_, rfl, _, rfl, a, _, rfl, .inl hS, _, _, rfl, rfl, _, rfl, itD (fun c => ?_) (fun c => leafT 0)⟩
  rw [List.length_map] at c
  have hk : k.toNat < ns.length := by omega
  have ek : k = ((k.toNat : Nat) : Int) := by omega
  have q2 : atI (ns.map V.int) ((k.toNat : Nat) : Int) = some (.int ns[k.toNat]) := atI_nat (by rw [List.getElem?_map, List.getElem?_eq_getElem hk]; rfl)
  rw [← ek] at q2
  exact ⟨_, rfl, _, rfl, a, _, _, _, rfl, rfl, hS, q2, leafT _⟩
theorem ok_take (F : Fun K "_law_take" "_law_take" sTake f fd) : FnOk P w K mg base CX0 1 f fd ["_law_bag_here", "_law_many"] spTake := by
  refine F.ok scTake (fun vs H Q E h => ?_) (fun cdv A outer s H vs Q E hr h => ?_)
  · obtain ⟨b, m, n, rfl, _⟩ := h
    rfl
  obtain ⟨b, m, n, rfl, ⟨g, sd, c, hb, hg, hs0, hs1, hc0, hc1⟩, hm0, hm1, q⟩ := h
  refine ⟨_, pss_cons (ps_if (pt_cmpR op_gt (pe_ix ix_list (pv 0) pe_int (fun _ _ => rfl)) pe_int (nomark _))
      (pss_cons (ps_set (i := 2) scTake.nd rfl (Or.inl rfl) (pe_op op_mod (pe_ix ix_list (pv 0) pe_int (fun _ _ => rfl)) (pv 1)))
      (pss_cons (ps_asg (pe_op op_fdiv (pe_ix ix_list (pv 0) pe_int (fun _ _ => rfl)) (pv 1)) (pg_sub (pv 0) pe_int set_list))
      (pss_one (ps_ret (pv 2))))) pss_nil)
    (pss_cons (ps_set (i := 3) scTake.nd rfl (Or.inl rfl) (pe_tup (pa_cons pe_int (pa_cons pe_int (pa_cons pe_int (pa_cons pe_int (pa_cons pe_int (pa_cons pe_int (pa_cons pe_int pa_nil)))))))))
    (pss_cons (ps_asg (pe_op op_add (pe_ix ix_list (pv 0) pe_int (fun _ _ => rfl)) pe_int) (pg_sub (pv 0) pe_int set_list))
    (pss_cons (ps_set (i := 4) scTake.nd rfl (Or.inl rfl) (pe_ix ix_list (pv 0) pe_int (fun _ _ => rfl)))
    (pss_cons (ps_set (i := 5) scTake.nd rfl (Or.inl rfl) (pe_op op_add (pe_op op_add (pe_op op_mul (pe_ix ix_list (pv 0) pe_int (fun _ _ => rfl)) (pe_op op_add (pe_op op_mul pe_int (pv 4)) pe_int)) (pe_op op_mul (pe_op op_mul pe_int (pv 4)) (pv 4))) pe_int))
    (pss_cons (ps_set (i := 6) scTake.nd rfl (Or.inl rfl) (pe_op op_mod (pe_op op_powW (pv 5) pe_int) (pe_ix ix_tup (pv 3) (pe_op op_mod (pv 4) pe_int) (fun _ _ => rfl))))
    (pss_one (ps_ret (pe_op op_mod (pe_op op_fdiv (pe_op op_mod (pe_op op_mul (pv 6) (pe_op op_add (pe_op op_add (pe_op op_fdiv (pv 6) pe_int) (pe_op op_mul pe_int (pv 4))) pe_int)) (pe_ix ix_tup (pv 3) (pe_op op_mod (pe_op op_add (pv 4) pe_int) pe_int) (fun _ _ => rfl))) pe_int) (pv 1))))))))), ?_⟩
  refine ⟨_, rfl, b, _, _, _, rfl, rfl, SqL.of hb, atI_nat (j := 0) rfl, _, _, rfl, rfl, _, rfl, ?_⟩
  refine ite2 (fun c' => ?_) (fun c' => ?_)
  · refine ⟨_, rfl, b, _, _, _, rfl, rfl, SqL.of hb, atI_nat (j := 0) rfl, _, rfl, _, _, rfl, rfl, (by omega), ?_⟩
    refine ⟨_, rfl, b, _, _, _, rfl, rfl, SqL.of hb, atI_nat (j := 0) rfl, _, rfl, _, _, rfl, rfl, ⟨by omega, by omega⟩, ?_⟩
    refine ⟨_, rfl, b, _, _, 0, rfl, rfl, hb, rfl, ?_⟩
    refine ⟨_, rfl, q _ _ (Kept.put _) ⟨_, _, _, upd_same, ?_, hs0, hs1, hc0, by omega⟩ (Int.emod_nonneg _ (by omega)) (Int.emod_lt_of_pos _ (by omega))⟩
    exact Int.ediv_nonneg hg (by omega)
  · refine ⟨(by show 7 ≤ sizeLine; decide), fun p hp => ?_⟩
    have bp : b ≠ p := ne_of_none hb hp
    have hb1 : upd H p (.tup (primes.map V.int)) b = some (.lst [.int g, .int sd, .int c]) := by rw [upd_ne bp]; exact hb
    refine ⟨_, rfl, b, _, _, _, rfl, rfl, SqL.of hb1, atI_nat (j := 2) rfl, _, _, rfl, rfl, ?_⟩
    refine ⟨_, rfl, b, _, _, 2, rfl, rfl, hb1, rfl, ?_⟩
    have hb2 : upd (upd H p (.tup (primes.map V.int))) b (.lst [.int g, .int sd, .int (c + 1)]) b = some (.lst [.int g, .int sd, .int (c + 1)]) := upd_same
    have hp2 : upd (upd H p (.tup (primes.map V.int))) b (.lst [.int g, .int sd, .int (c + 1)]) p = some (.tup (primes.map V.int)) := by rw [upd_ne bp.symm]; exact upd_same
    have kept : Kept b H (upd (upd H p (.tup (primes.map V.int))) b (.lst [.int g, .int sd, .int (c + 1)])) := (Kept.new hp _).trans (Kept.put _)
    have bag : Bag (upd (upd H p (.tup (primes.map V.int))) b (.lst [.int g, .int sd, .int (c + 1)])) b n := ⟨_, _, _, hb2, hg, hs0, hs1, by omega, by omega⟩
    have c0 : 0 ≤ c + 1 := by omega
    have c1 : c + 1 < 2 ^ 40 := by omega
    refine ⟨_, rfl, b, _, _, _, rfl, rfl, SqL.of hb2, atI_nat (j := 2) rfl, ?_⟩
    refine ⟨_, rfl, b, _, _, _, rfl, rfl, SqL.of hb2, atI_nat (j := 1) rfl, _, rfl, _, _, rfl, rfl, .inl ⟨by decide, by decide⟩, _, _, rfl, rfl, _, _, rfl, rfl, .inl ⟨by omega, by omega⟩, ?_⟩
    refine ⟨_, rfl, _, _, rfl, rfl, .inl ⟨by decide, by decide⟩, _, rfl, _, _, rfl, rfl, .inl ⟨by omega, by omega⟩, _, _, rfl, rfl, _, _, rfl, rfl, ?_⟩
    obtain ⟨p1, e1, p10, p11⟩ := prime_at (r := (c + 1) % 7) (by omega) (by omega)
    refine ⟨_, rfl, _, _, rfl, rfl, base_bits hs0 hs1 c0 c1, _, rfl, _, rfl, _, _, rfl, rfl, (by show (0 : Int) < 7; decide), p, _, _, _, rfl, rfl, SqT.of hp2, e1, _, _, rfl, rfl, p10, ?_⟩
    have m2 : -(2 ^ 64) < (sd * (2 * (c + 1) + 1) + 4507 * (c + 1) * (c + 1) + 23) ^ Int.toNat 3 % p1 ∧ (sd * (2 * (c + 1) + 1) + 4507 * (c + 1) * (c + 1) + 23) ^ Int.toNat 3 % p1 < 2 ^ 64 := by
      have m0 := Int.emod_nonneg ((sd * (2 * (c + 1) + 1) + 4507 * (c + 1) * (c + 1) + 23) ^ Int.toNat 3) (show p1 ≠ 0 by omega)
      have m1 := Int.emod_lt_of_pos ((sd * (2 * (c + 1) + 1) + 4507 * (c + 1) * (c + 1) + 23) ^ Int.toNat 3) p10
      generalize (sd * (2 * (c + 1) + 1) + 4507 * (c + 1) * (c + 1) + 23) ^ Int.toNat 3 % p1 = mx at *
      omega
    obtain ⟨p2, e2, p20, p21⟩ := prime_at (r := (c + 1 + 4) % 7) (by omega) (by omega)
    refine ⟨_, rfl, _, rfl, _, _, rfl, rfl, ⟨by decide, by decide⟩, _, rfl, _, _, rfl, rfl, .inl ⟨by decide, by decide⟩, _, _, rfl, rfl, _, _, rfl, rfl, _, _, rfl, rfl, .inl m2, ?_⟩
    refine ⟨_, rfl, _, rfl, _, _, rfl, rfl, _, _, rfl, rfl, (by show (0 : Int) < 7; decide), p, _, _, _, rfl, rfl, SqT.of hp2, e2, _, _, rfl, rfl, p20, _, _, rfl, rfl, ⟨by decide, by decide⟩, _, rfl, _, _, rfl, rfl, (by omega), ?_⟩
    exact q _ _ kept bag (Int.emod_nonneg _ (by omega)) (Int.emod_lt_of_pos _ (by omega))
end
end Any
namespace Any
open L2 PySem PySem.Spec PyProof.Rows
/-- how many were lost last, by what is lost now -/
def runB (g : Int × Int) (l : Bool × Bool) (ans : Bool) : Int × Int := (if l.1 = true then g.1 + 1 else 0, if ans = true then (if l.2 = true then g.2 + 1 else 0) else g.2)
def RunAt (H : Hp) (r : Addr) (g : Int × Int) : Prop := H r = some (.lst [.int g.1, .int g.2])
end Any
namespace Any
open L2 PySem PySem.Spec PyProof.Rows
/-! ### stores as data -/
def ovD : Option Int → PyData
  | none => .none
  | some i => .int i
def pairD (p : Int × Option Int) : PyData := .tuple [.int p.1, ovD p.2]
def rowD (r : Row) : PyData := .tuple (r.map pairD)
def stoD (s : Sto) : PyData := .tuple [.int s.mark, .int s.bears, ovD s.slot, rowD s.letters, .int s.last, .int s.took, ovD s.box, rowD s.echoes]
theorem ov_dp {K : PySem.W.Frag} {H : Hp} (o : Option Int) : Dp K H (ov o) (ovD o) := by
  cases o with
  | none => exact .non
  | some i => exact .int i
theorem row_dps {K : PySem.W.Frag} {H : Hp} : ∀ {as : List Addr} {r : Row}, Paired (fun a p => H a = some (.tup (pairV p))) as r → DpAll K H (as.map V.ref) (r.map pairD)
  | _, _, .nil => .nil
  | _, _, .cons h t => .cons (.tup (SqT.of h) (.cons (.int _) (.cons (ov_dp _) .nil))) (row_dps t)
theorem RowAt.dp {K : PySem.W.Frag} {H : Hp} {a : Addr} {r : Row} (h : RowAt H a r) : Dp K H (.ref a) (rowD r) := by
  obtain ⟨as, h1, h2⟩ := h
  exact .tup (SqT.of h1) (row_dps h2)
theorem StoAt.dp {K : PySem.W.Frag} {H : Hp} {a : Addr} {s : Sto} (h : StoAt H a s) : Dp K H (.ref a) (stoD s) := by
  obtain ⟨L, E, h1, h2, h3⟩ := h
  exact .tup (SqT.of h1) (.cons (.int _) (.cons (.int _) (.cons (ov_dp _) (.cons h2.dp (.cons (.int _) (.cons (.int _) (.cons (ov_dp _) (.cons h3.dp .nil))))))))
theorem ov_lay (o : Option Int) : (ovD o).canLay0 = true ∧ (ovD o).depth = 0 := by cases o <;> exact ⟨rfl, rfl⟩
theorem row_lay : ∀ r : Row, PyData.canLayAll0 (r.map pairD) = true ∧ PyData.depthAll (r.map pairD) ≤ 1
  | [] => ⟨rfl, by decide⟩
  | p :: r => by
    obtain ⟨h1, h2⟩ := row_lay r
    obtain ⟨o1, o2⟩ := ov_lay p.2
    constructor
    · show ((true && (PyData.canLay0 (ovD p.2) && true)) && PyData.canLayAll0 (r.map pairD)) = true
      rw [h1, o1]
      rfl
    · show max (max 0 (max (PyData.depth (ovD p.2)) 0) + 1) (PyData.depthAll (r.map pairD)) ≤ 1
      rw [o2]
      omega
theorem row_shaped (r : Row) : SeqAt.shaped (rowD r) = true := by
  obtain ⟨h1, h2⟩ := row_lay r
  unfold SeqAt.shaped
  rw [show (rowD r).canLay0 = true from h1, decide_eq_true (show (rowD r).depth ≤ 64 from (by show PyData.depthAll (r.map pairD) + 1 ≤ 64; omega))]
  rfl
theorem row_nil (r : Row) : PyData.eqv (rowD r) (.tuple []) = decide (r = []) := by
  cases r <;> rfl
theorem four : 4 ≤ sizeLine := by decide
theorem nil_ : 0 ≤ sizeLine := by decide
theorem five : 5 ≤ sizeLine := by decide
section
variable {K : PySem.W.Frag} {H : Hp} {a b : Addr} {r s : Row} {Q : VK}
theorem cat_rows (h : RowAt H a r) (k : RowAt H b s) (zr : r.length ≤ 1000) (zs : s.length ≤ 1000) (q : ∀ p H', Same H H' → RowAt H' p (r ++ s) → Q (.ref p) H') : rCatA K (.ref a) (.ref b) H Q := by
  obtain ⟨as, ha, hp⟩ := id h
  obtain ⟨bs, hb, hq⟩ := id k
  have hl := paired_len hp
  have hl2 := paired_len hq
  refine ⟨a, b, _, _, rfl, rfl, SqT.of ha, SqT.of hb, twoK (by rw [List.length_map]; omega) (by rw [List.length_map]; omega), fun c => ?_, fun _ c => ?_, fun _ _ p2 hp2 => ?_⟩
  · have c2 : as = [] := List.map_eq_nil_iff.mp c
    subst c2
    have : r = [] := List.eq_nil_of_length_eq_zero hl.symm
    subst this
    exact q b H same_refl k
  · have c2 : bs = [] := List.map_eq_nil_iff.mp c
    subst c2
    have : s = [] := List.eq_nil_of_length_eq_zero hl2.symm
    subst this
    refine q a H same_refl ?_
    rw [List.append_nil]
    exact h
  · have s2 := same_new hp2 (.tup (as.map V.ref ++ bs.map V.ref))
    refine q p2 _ s2 ⟨as ++ bs, by rw [upd_same, List.map_append], paired_app (paired_imp (fun _ _ z => s2 _ _ z) hq) (paired_imp (fun _ _ z => s2 _ _ z) hp)⟩
theorem slice1_row (h : RowAt H a r) (q : ∀ p H', Same H H' → RowAt H' p (r.drop 1) → Q (.ref p) H') : rSlA K (.ref a) (some 1) none H Q := by
  obtain ⟨as, ha, hp⟩ := h
  have e : cutV (as.map V.ref) (some 1) none = (as.drop 1).map V.ref := by rw [show (1 : Int) = ((1 : Nat) : Int) from rfl, cut_from, List.map_drop]
  refine ⟨a, _, rfl, SqT.of ha, fun c => ?_, fun c p hp2 => ?_⟩
  · have c1 := c.1
    rw [show (1 : Int) = ((1 : Nat) : Int) from rfl, HT.sIx_nat, List.length_map] at c1
    have : as = [] := List.eq_nil_of_length_eq_zero (by omega)
    subst this
    cases hp
    exact q a H same_refl ⟨[], ha, .nil⟩
  · have s2 := same_new hp2 (.tup (cutV (as.map V.ref) (some 1) none))
    exact q p _ s2 ⟨as.drop 1, by rw [upd_same, e], paired_drop 1 (paired_imp (fun _ _ z => s2 _ _ z) hp)⟩
theorem rep_row {k : Int} (h : RowAt H a r) (hk : k = 0 ∨ k = 1) (q : ∀ p H', Same H H' → RowAt H' p (if k = 1 then r else []) → Q (.ref p) H') : rRep01 K (.ref a) (.int k) H Q := by
  obtain ⟨as, ha, hp⟩ := id h
  refine ⟨a, k, _, rfl, rfl, SqT.of ha, hk, fun c => q a H same_refl ?_, fun c k0 p hp2 => q p _ (same_new hp2 _) ?_⟩
  · by_cases k1 : k = 1
    · rw [if_pos k1]
      exact h
    · rw [if_neg k1]
      have c2 : as = [] := List.map_eq_nil_iff.mp (c.elim id fun z => absurd z k1)
      subst c2
      exact ⟨[], ha, .nil⟩
  · rw [if_neg (by omega)]
    exact ⟨[], upd_same, .nil⟩
end
theorem LostAt.at0 {K : PySem.W.Frag} {H : Hp} {g : Addr} {l : Bool × Bool} (h : LostAt K H g l) : SqT K H g [.bl l.1, .bl l.2] := h
/-- the way's methods -/
structure WayD (P : Program) (w : World) (K : PySem.W.Frag) (mg : Str → Option Value) (base : Heap) (C : Addr) : Prop where
  cls : WayC K C
  store : Mf0 P w K mg base C 1 "store" ["self"] [] (spStore C)
  beat0 : ∃ lz, (∀ H, SqT K H lz [.bl false, .bl false]) ∧ Mf0 P w K mg base C 4 "beat" psBeat [.non, .bl false, .ref lz] (spBeat K C)
  beatLW : MfK P w K mg base C 4 "beat" psBeat ["lost", "word"] (fun vs zs => vs ++ zs.drop 1 ++ [.bl false] ++ zs.take 1) (spBeat K C)
  beatA : MfK P w K mg base C 4 "beat" psBeat ["word", "taking", "lost"] (fun vs zs => vs ++ zs) (spBeat K C)
theorem run_gone (s : Sto) (g : Int × Int) (l : Bool × Bool) : runB g l (!decide (s.letters = [])) = goneB s g l := by
  unfold runB goneB
  by_cases c : s.letters = []
  · rw [dec_true c, if_pos c]
    rfl
  · rw [decide_eq_false c, if_neg c]
    rfl
theorem drop_len {α : Type} {l m : List α} {h : Int} (hl : (l.length : Int) ≤ h) (h0 : 1 ≤ h) (hm : m.length ≤ 1) : ((l.drop 1 ++ m).length : Int) ≤ h := by
  rw [List.length_append, List.length_drop]
  omega
theorem sender_ok {n : Num} {s : Sto} (hN : NumOk n) (h : StoOk n s) : 0 ≤ (senderB s.mark s.bears s.slot (2 * n.hold + 1) s.echoes).1 ∧ (senderB s.mark s.bears s.slot (2 * n.hold + 1) s.echoes).1 ≤ 2 * n.hold ∧
    ((senderB s.mark s.bears s.slot (2 * n.hold + 1) s.echoes).2.1 = 0 ∨ (senderB s.mark s.bears s.slot (2 * n.hold + 1) s.echoes).2.1 = 1) ∧ ∀ i, (senderB s.mark s.bears s.slot (2 * n.hold + 1) s.echoes).2.2 = some i → 0 ≤ i ∧ i < n.bound := by
  have h0 := hN.h0
  have m := Int.emod_nonneg (s.mark + 1) (show 2 * n.hold + 1 ≠ 0 by omega)
  have m2 := Int.emod_lt_of_pos (s.mark + 1) (show 0 < 2 * n.hold + 1 by omega)
  unfold senderB
  split
  · exact ⟨h.m0, h.m1, h.b, h.slot⟩
  · split
    · split
      · exact ⟨m, by show (s.mark + 1) % (2 * n.hold + 1) ≤ _; omega, .inl rfl, fun i z => by cases z⟩
      · refine ⟨m, by show (s.mark + 1) % (2 * n.hold + 1) ≤ _; omega, ?_, h.slot⟩
        show (if s.slot = none then (0 : Int) else 1) = 0 ∨ (if s.slot = none then (0 : Int) else 1) = 1
        split
        · exact .inl rfl
        · exact .inr rfl
    · exact ⟨h.m0, h.m1, h.b, h.slot⟩
theorem taker_ok {n : Num} {s : Sto} (h : StoOk n s) : 0 ≤ (takerB s.last s.took s.box s.letters).1 ∧ (takerB s.last s.took s.box s.letters).1 ≤ 2 * n.hold ∧
    ((takerB s.last s.took s.box s.letters).2.1 = 0 ∨ (takerB s.last s.took s.box s.letters).2.1 = 1) ∧ ∀ i, (takerB s.last s.took s.box s.letters).2.2 = some i → 0 ≤ i ∧ i < n.bound := by
  have hl := h.lets
  unfold takerB
  split
  · exact ⟨h.l0, h.l1, h.t, h.box⟩
  · rename_i e r he
    obtain ⟨l1, l2, l3⟩ := hl e (by rw [he]; exact List.mem_cons_self ..)
    split
    · exact ⟨h.l0, h.l1, h.t, h.box⟩
    · split
      · exact ⟨l1, l2, .inr rfl, l3⟩
      · exact ⟨l1, l2, .inl rfl, h.box⟩
theorem beat_ok {n : Num} {s : Sto} {d : Deed} (hN : NumOk n) (h : StoOk n s) (hw : ∀ i, d.word = some i → 0 ≤ i ∧ i < n.bound) : StoOk n (beatB n s d) := by
  obtain ⟨a1, a2, a3, a4⟩ := sender_ok hN h
  obtain ⟨b1, b2, b3, b4⟩ := taker_ok h
  have h0 := hN.h0
  refine ⟨a1, a2, a3, fun i z => ?_, drop_len h.let0 h0 (by split <;> simp), fun e he => ?_, b1, b2, b3, fun i z => ?_, drop_len h.ech0 h0 (by split; exact Nat.zero_le _; unfold echoB; split <;> simp), fun e he => ?_⟩
  · have z : (if d.word ≠ none ∧ s.slot = none then d.word else (senderB s.mark s.bears s.slot (2 * n.hold + 1) s.echoes).2.2) = some i := z
    split at z
    · exact hw i z
    · exact a4 i z
  · rcases List.mem_append.mp he with he | he
    · exact h.lets e (List.mem_of_mem_drop he)
    · split at he
      · cases he
      · rw [List.mem_singleton.mp he]
        refine ⟨h.m0, h.m1, fun i z => ?_⟩
        have z : (if s.bears = 1 then s.slot else none) = some i := z
        split at z
        · exact h.slot i z
        · cases z
  · have z : (if d.taking = true ∧ s.box ≠ none then none else (takerB s.last s.took s.box s.letters).2.2) = some i := z
    split at z
    · cases z
    · exact b4 i z
  · rcases List.mem_append.mp he with he | he
    · exact h.echs e (List.mem_of_mem_drop he)
    · split at he
      · cases he
      · unfold echoB at he
        split at he
        · cases he
        · rw [List.mem_singleton.mp he]
          refine ⟨b1, b2, ?_⟩
          rcases b3 with z | z
          · exact .inl (by show some _ = some (0 : Int); rw [z])
          · exact .inr (by show some _ = some (1 : Int); rw [z])
/-- how a way stands, with what was lost last -/
structure Go (C : Addr) (H : Hp) (b x r : Addr) (k : Nat) (n : Num) (s : Sto) (g : Int × Int) : Prop where
  bag : Bag H b k
  way : WayAt C H x n s g
  run : RunAt H r g
  ok : StoOk n s
  g0 : g.1 < n.miss
  g1 : g.2 < n.miss
theorem lost_lt {n : Num} {s : Sto} {g : Int × Int} {l : Bool × Bool} (h0 : 1 ≤ n.miss) (g1 : g.2 < n.miss) (l0 : l.1 = true → g.1 + 1 < n.miss) (l1 : l.2 = true → g.2 + 1 < n.miss) : (goneB s g l).1 < n.miss ∧ (goneB s g l).2 < n.miss := by
  unfold goneB
  constructor
  · show (if l.1 = true then g.1 + 1 else 0) < _
    split
    · exact l0 (by assumption)
    · omega
  · show (if s.letters = [] then g.2 else if l.2 = true then g.2 + 1 else 0) < _
    split
    · exact g1
    · split
      · exact l1 (by assumption)
      · omega
theorem ov_tm {o : Option Int} {p : Nat} (h : ∀ i, o = some i → 0 ≤ i ∧ i < 1024) : Tm (ovD o) 11 p := by
  cases o with
  | none => exact Tm.more .non (by decide)
  | some i =>
    obtain ⟨h0, h1⟩ := h i rfl
    exact .int h0 h1
theorem row_tm : ∀ {r : Row}, (∀ e ∈ r, (0 ≤ e.1 ∧ e.1 < 1024) ∧ ∀ i, e.2 = some i → 0 ≤ i ∧ i < 1024) → TmAll (r.map pairD) (25 * r.length) 1
  | [], _ => .nil
  | p :: r, h => by
    obtain ⟨h1, h2⟩ := h p (List.mem_cons_self ..)
    exact .cons (w := 24) (v := 25 * r.length) (.tup (.cons (w := 11) (v := 12) (.int h1.1 h1.2) (.cons (w := 11) (v := 0) (ov_tm h2) .nil (by decide)) (by decide))) (row_tm fun e he => h e (List.mem_cons_of_mem _ he)) (by rw [List.length_cons]; omega)
theorem sto_tm {n : Num} {s : Sto} (hN : NumOk n) (h : StoOk n s) : Tm (stoD s) 500 3 := by
  have h6 := hN.h1
  have b1 := hN.b1
  have l0 := h.let0
  have e0 := h.ech0
  have m1 := h.m1
  have l1 := h.l1
  have hb : 0 ≤ s.bears ∧ s.bears < 1024 := by rcases h.b with z | z <;> omega
  have ht : 0 ≤ s.took ∧ s.took < 1024 := by rcases h.t with z | z <;> omega
  have ow : ∀ {o : Option Int}, (∀ i, o = some i → 0 ≤ i ∧ i < n.bound) → ∀ i, o = some i → 0 ≤ i ∧ i < 1024 := fun k i z => by have := k i z; omega
  have rl : TmAll (s.letters.map pairD) 150 1 := by
    have z := row_tm (r := s.letters) fun e he => by
      obtain ⟨a1, a2, a3⟩ := h.lets e he
      exact ⟨⟨a1, by omega⟩, ow a3⟩
    exact ⟨z.short, z.show_, z.lay, Nat.le_trans z.wt (by omega), z.dp⟩
  have re : TmAll (s.echoes.map pairD) 150 1 := by
    have z := row_tm (r := s.echoes) fun e he => by
      obtain ⟨a1, a2, a3⟩ := h.echs e he
      refine ⟨⟨a1, by omega⟩, fun i z => ?_⟩
      rcases a3 with a | a <;> rw [a] at z <;> cases z <;> decide
    exact ⟨z.short, z.show_, z.lay, Nat.le_trans z.wt (by omega), z.dp⟩
  have a8 : TmAll [rowD s.echoes] 151 2 := .cons (w := 150) (v := 0) (.tup re) .nil (by decide)
  have a7 : TmAll [ovD s.box, rowD s.echoes] 163 2 := .cons (w := 11) (ov_tm (ow h.box)) a8 (by decide)
  have a6 : TmAll [.int s.took, ovD s.box, rowD s.echoes] 175 2 := .cons (w := 11) (.int ht.1 ht.2) a7 (by decide)
  have a5 : TmAll [.int s.last, .int s.took, ovD s.box, rowD s.echoes] 187 2 := .cons (w := 11) (.int h.l0 (by omega)) a6 (by decide)
  have a4 : TmAll [rowD s.letters, .int s.last, .int s.took, ovD s.box, rowD s.echoes] 338 2 := .cons (w := 150) (.tup rl) a5 (by decide)
  have a3 : TmAll [ovD s.slot, rowD s.letters, .int s.last, .int s.took, ovD s.box, rowD s.echoes] 350 2 := .cons (w := 11) (ov_tm (ow h.slot)) a4 (by decide)
  have a2 : TmAll [.int s.bears, ovD s.slot, rowD s.letters, .int s.last, .int s.took, ovD s.box, rowD s.echoes] 362 2 := .cons (w := 11) (.int hb.1 hb.2) a3 (by decide)
  exact .tup (.cons (w := 11) (.int h.m0 (by omega)) a2 (by decide))
/-- what is told of a beat, as data -/
def toldD (s : Sto) (d : Deed) : PyData := .tuple [if d.word = none then .none else .bool (decide (s.slot = none)), if d.taking = true then ovD s.box else .none]
theorem told_dp {K : PySem.W.Frag} {H : Hp} {t : Addr} {s : Sto} {d : Deed} (h : H t = some (.tup (toldB s d))) : Dp K H (.ref t) (toldD s d) := by
  refine .tup (SqT.of h) (.cons ?_ (.cons ?_ .nil))
  · by_cases c : d.word = none
    · rw [if_pos c, if_pos c]
      exact .non
    · rw [if_neg c, if_neg c]
      exact .bl _
  · by_cases c : d.taking = true
    · rw [if_pos c, if_pos c]
      exact ov_dp _
    · rw [if_neg c, if_neg c]
      exact .non
theorem told_tm {n : Num} {s : Sto} {d : Deed} (hN : NumOk n) (h : StoOk n s) : Tm (toldD s d) 30 2 := by
  have b1 := hN.b1
  refine .tup (.cons (w := 0) (v := 12) ?_ (.cons (w := 11) (v := 0) ?_ .nil (by decide)) (by decide))
  · split
    · exact .non
    · exact .bl
  · split
    · exact ov_tm fun i z => by have := h.box i z; omega
    · exact Tm.more .non (by decide)
theorem told_shows {K : PySem.W.Frag} {H : Hp} {n : Num} {s : Sto} {d : Deed} (hN : NumOk n) (h : StoOk n s) : ∃ dd : PyData, dd.showable = true ∧ dd.depth ≤ 60 ∧ dd.shown.length ≤ sizeLine ∧ ∀ t, H t = some (.tup (toldB s d)) → Shows K H t dd := by
  obtain ⟨w1, w2, w3⟩ := (told_tm (d := d) hN h).fits (by decide) (by decide)
  exact ⟨toldD s d, w1, w2, w3, fun t ht => .seq (told_dp ht) (told_tm (d := d) hN h).noDict⟩
theorem sto_shows {K : PySem.W.Frag} {H : Hp} {n : Num} {s : Sto} (hN : NumOk n) (h : StoOk n s) : ∃ dd : PyData, dd.showable = true ∧ dd.depth ≤ 60 ∧ dd.shown.length ≤ sizeLine ∧ ∀ t, StoAt H t s → Shows K H t dd := by
  obtain ⟨w1, w2, w3⟩ := (sto_tm hN h).fits (by decide) (by decide)
  exact ⟨stoD s, w1, w2, w3, fun t ht => .seq ht.dp (sto_tm hN h).noDict⟩
theorem Same.since {H H1 H2 : Hp} {S : List Addr} (s : Same H H1) (k : Ks S H1 H2) (n : ∀ a ∈ S, H a = none) : Same H H2 := fun a o h => k a o (fun z => by rw [n a z] at h; cases h) (s a o h)
theorem Same.none {H H1 : Hp} {p : Addr} (s : Same H H1) (h : H1 p = none) : H p = none := s.free h
section
variable {X : Cx} {C : Addr}
/-- len of a way -/
def LenD (P : Program) (w : World) (K : PySem.W.Frag) (mg : Str → Option Value) (base : Heap) (C : Addr) : Prop := ∃ f fd, PySem.W.findIn K (.ref C) "__len__" = some (some (.ref f)) ∧ PySem.W.isFn K (.ref f) = true ∧ FnOk P w K mg base CX0 1 f fd ["self"] (spLen C) ∧ Binds K fd ["self"] []
theorem call_lenW (D : LenD X.prog X.w X.K X.mg X.base C) (hr : Room 2 X.A) : CallR X (.builtin "len") (fun xs H Q => ∃ a dx fs, xs = [.ref a] ∧ H a = some (.ins C dx fs) ∧ spLen C [.ref a] H (fun v H' => ∃ n : Int, v = .int n ∧ 0 ≤ n ∧ n < 2 ^ 63 ∧ Q (.int n) H') E0) := by
  obtain ⟨f, fd, h1, h2, F, hb⟩ := D
  exact call_lenO F h1 h2 hb pass0 hr
end
end Any
namespace Any
open L2 PySem PySem.Spec PyProof.Rows
/-! ### equal rows -/
theorem ov_eqv (o p : Option Int) : PyData.eqv (ovD o) (ovD p) = decide (o = p) := by
  cases o with
  | none => cases p <;> simp [ovD, PyData.eqv]
  | some i =>
    cases p with
    | none => simp [ovD, PyData.eqv]
    | some j =>
      show (i == j) = decide (some i = some j)
      by_cases c : i = j
      · rw [c]; simp
      · rw [decide_eq_false (fun z => c (Option.some.inj z))]
        simpa using c
theorem pair_eqv (p q : Int × Option Int) : PyData.eqv (pairD p) (pairD q) = decide (p = q) := by
  show ((p.1 == q.1) && (PyData.eqv (ovD p.2) (ovD q.2) && true)) = decide (p = q)
  rw [ov_eqv, Bool.and_true]
  by_cases c : p.1 = q.1
  · by_cases e : p.2 = q.2
    · rw [decide_eq_true e, decide_eq_true (Prod.ext c e)]
      simp [c]
    · rw [decide_eq_false e, decide_eq_false (fun z => e (by rw [z])), Bool.and_false]
  · rw [decide_eq_false (fun z : p = q => c (by rw [z]))]
    simp [c]
theorem rows_eqv : ∀ l m : Row, PyData.eqvAll (l.map pairD) (m.map pairD) = decide (l = m)
  | [], [] => rfl
  | [], _ :: _ => rfl
  | _ :: _, [] => rfl
  | p :: l, q :: m => by
    show (PyData.eqv (pairD p) (pairD q) && PyData.eqvAll (l.map pairD) (m.map pairD)) = decide (p :: l = q :: m)
    rw [pair_eqv, rows_eqv l m]
    by_cases c : p = q
    · by_cases e : l = m
      · rw [c, e]; simp
      · rw [decide_eq_false e, decide_eq_false (fun z => e (List.cons.inj z).2), Bool.and_false]
    · rw [decide_eq_false c, decide_eq_false (fun z => c (List.cons.inj z).1), Bool.false_and]
theorem rows_shaped (r : Row) : SeqAt.shaped (.list (r.map pairD)) = true := by
  obtain ⟨h1, h2⟩ := row_lay r
  unfold SeqAt.shaped
  rw [show (PyData.list (r.map pairD)).canLay0 = true from h1, decide_eq_true (show (PyData.list (r.map pairD)).depth ≤ 64 from (by show PyData.depthAll (r.map pairD) + 1 ≤ 64; omega))]
  rfl
/-! ### which of a row are not of the mark ahead -/
def laterR (r : Row) (fore : Int) : Row := r.filter fun e => decide (e.1 ≠ fore)
def laterG (fore : Int) : List Addr → Row → List (Option V)
  | a :: as, e :: r => (if e.1 = fore then none else some (.ref a)) :: laterG fore as r
  | _, _ => []
def laterA (fore : Int) : List Addr → Row → List Addr
  | a :: as, e :: r => if e.1 = fore then laterA fore as r else a :: laterA fore as r
  | _, _ => []
theorem later_len (fore : Int) {R : Addr → Int × Option Int → Prop} : ∀ {as : List Addr} {r : Row}, Paired R as r → (laterG fore as r).length = as.length
  | _, _, .nil => rfl
  | _, _, .cons _ t => by
    show (laterG fore _ _).length + 1 = _
    rw [later_len fore t]
    rfl
theorem later_fm (fore : Int) : ∀ (as : List Addr) (r : Row), (laterG fore as r).filterMap id = (laterA fore as r).map V.ref
  | [], r => by cases r <;> rfl
  | a :: as, [] => rfl
  | a :: as, e :: r => by
    unfold laterG laterA
    by_cases c : e.1 = fore
    · rw [if_pos c, if_pos c, ← later_fm fore as r]
      rfl
    · rw [if_neg c, if_neg c, List.map_cons, ← later_fm fore as r]
      rfl
theorem later_pair (fore : Int) {R : Addr → Int × Option Int → Prop} : ∀ {as : List Addr} {r : Row}, Paired R as r → Paired R (laterA fore as r) (laterR r fore)
  | _, _, .nil => .nil
  | _, _, .cons (a := a) (b := e) h t => by
    unfold laterA laterR
    rw [List.filter_cons]
    by_cases c : e.1 = fore
    · rw [if_pos c, if_neg (by simpa using c)]
      exact later_pair fore t
    · rw [if_neg c, if_pos (by simpa using c)]
      exact .cons h (later_pair fore t)
theorem later_at {fore : Int} : ∀ {as : List Addr} {r : Row} {i : Nat} {a : Addr} {e : Int × Option Int}, as[i]? = some a → r[i]? = some e → (laterG fore as r)[i]? = some (if e.1 = fore then none else some (.ref a))
  | a :: as, e :: r, 0, _, _, h1, h2 => by
    cases h1
    cases h2
    rfl
  | a :: as, e :: r, i + 1, _, _, h1, h2 => later_at (as := as) (r := r) (i := i) h1 h2
  | [], _, _, _, _, h1, _ => by simp at h1
  | _ :: _, [], _, _, _, _, h2 => by simp at h2
def rowPB (r : Row) (fore : Int) (own : Int × Option Int) : Bool := decide (laterR r fore = List.replicate (laterR r fore).length own) && decide (laterR r fore = r.drop (r.length - (laterR r fore).length))
theorem laterR_le (r : Row) (fore : Int) : (laterR r fore).length ≤ r.length := List.length_filter_le ..
abbrev sRowP : Stmt := top 23
abbrev nmRowP : List Str := ["row", "ahead", "own", "later", "one"]
theorem scRowP : FnScope nmRowP ["row", "ahead", "own"] (defScope sRowP) := ⟨rfl, rfl, rfl, by decide +kernel, rfl, by decide +kernel, by decide +kernel⟩
def spRowP : Sp := fun vs H Q _ => ∃ (a o : Addr) (r : Row) (fore : Int) (own : Int × Option Int), vs = [.ref a, .int fore, .ref o] ∧ RowAt H a r ∧ r.length ≤ 1000 ∧ H o = some (.tup (pairV own)) ∧ ∀ H', Same H H' → Q (.bl (rowPB r fore own)) H'
theorem rep_flat (x : V) : ∀ k : Nat, (List.replicate k [x]).flatten = List.replicate k x
  | 0 => rfl
  | k + 1 => by rw [List.replicate_succ, List.flatten_cons, rep_flat x k, List.replicate_succ]; rfl
theorem rep_dp {K : PySem.W.Frag} {H : Hp} {x : V} {d : PyData} (h : Dp K H x d) : ∀ k : Nat, DpAll K H (List.replicate k x) (List.replicate k d)
  | 0 => .nil
  | k + 1 => .cons h (rep_dp h k)
section
variable {P : Program} {w : World} {K : PySem.W.Frag} {mg : Str → Option Value} {base : Heap} {f : Addr} {fd : FuncData}
theorem ok_rowp (O : Own mg) (F : Fun K "row_is_plain" "row_is_plain" sRowP f fd) : FnOk P w K mg base CX0 1 f fd ["row", "ahead", "own"] spRowP := by
  refine F.ok scRowP (fun vs H Q E h => ?_) (fun cdv A outer s H vs Q E hr h => ?_)
  · obtain ⟨a, o, r, fore, own, rfl, _⟩ := h
    rfl
  obtain ⟨a, o, r, fore, own, rfl, ⟨as, ha, hp⟩, hz, ho, q⟩ := h
  have hl := paired_len hp
  refine ⟨_, pss_cons (ps_setLc (i := 3) (own := [("one", 4)]) (g := gName 4) (by rfl) scRowP.nd rfl rfl (sw_true rfl rfl rfl (by decide +kernel)) (pi_tup (pv 0)) (blkOk_by (N := nmRowP) (sc := defScope sRowP) (by decide +kernel))
        (fun _ _ _ _ _ => pg_name (i := 4) scRowP.nd rfl (Or.inl rfl)) (fun _ _ _ _ _ => pts_one (pt_cmpR op_ne (pe_ix (show IxR _ (rIxT K) from ix_tup) (pv 4) pe_int (fun _ _ => rfl)) (pv 1) (nomark _))) (fun _ _ _ _ _ => pv 4))
    (pss_one (ps_ret (pe_and (pe_cmpR (op_eqD hr.units) (pv 3) (pe_op op_rep (pe_lst (pa_cons (pv 2) pa_nil)) (pe_callB call_len_seq rfl O.len PySem.boot_len (pa_cons (pv 3) pa_nil))) (nomark _))
      (pe_one (pe_cmpR (op_eqD hr.units) (pv 3) (pe_callTy call_list_of rfl O.list (by decide +kernel) (pa_cons (pe_slice sl_tupA (pv 0) (po_some (pe_op op_sub (pe_callB call_len_seq rfl O.len PySem.boot_len (pa_cons (pv 0) pa_nil)) (pe_callB call_len_seq rfl O.len PySem.boot_len (pa_cons (pv 3) pa_nil)))) po_none) pa_nil)) (nomark _)))))), ?_⟩
  refine ⟨_, rfl, a, rfl, ⟨_, SqT.of ha⟩, fun D hD => ?_⟩
  refine turns_tup (K := K) (a := a) (xs := as.map V.ref) (laterG fore as r) hD (fun Hc sm => SqT.of (sm _ _ ha)) (by rw [later_len fore hp, List.length_map]) (small (by rw [List.length_map]; omega)) ?_ ?_
  · intro i z o' Hc Y N hz2 ho' sm hY hN
    obtain ⟨e, he, rfl⟩ := refs_at hz2
    obtain ⟨b, hb, hat⟩ := paired_get hp he
    rw [later_at he hb] at ho'
    have ho' := Option.some.inj ho'
    refine ⟨rfl, _, rfl, e, _, _, _, rfl, rfl, SqT.of (sm _ _ hat), atI_nat (j := 0) rfl, _, rfl, rfl, _, rfl, ?_⟩
    refine itNe (fun c => ?_) (fun c => ?_)
    · rw [if_neg c] at ho'
      exact ⟨_, rfl, hY _ ho'.symm Hc same_refl⟩
    · rw [if_pos c] at ho'
      exact hN ho'.symm Hc same_refl
  · intro H1 hc1 s1
    rw [later_fm] at hc1
    have lp := paired_imp (S := fun a p => H1 a = some (.tup (pairV p))) (fun _ _ z => s1 _ _ z) (later_pair fore hp)
    have ll := paired_len lp
    have lle := laterR_le r fore
    have dl : ∀ {H2 : Hp}, Same H1 H2 → Dp K H2 (.ref D) (.list ((laterR r fore).map pairD)) := fun s2 => .lst (SqL.of (s2 _ _ hc1)) (row_dps (paired_imp (fun _ _ z => s2 _ _ z) lp))
    refine ⟨_, rfl, _, rfl, one_, fun p2 hp2 => ?_⟩
    have s2 := same_new hp2 (.lst [.ref o])
    refine ⟨_, rfl, D, _, rfl, .inl (SqL.of (s2 _ _ hc1)), p2, _, _, rfl, rfl, upd_same, by omega, ?_, ?_, fun p3 hp3 => ?_⟩
    · rw [List.length_map]
      omega
    · rw [List.length_map, List.length_singleton, Nat.one_mul]
      exact small (by omega)
    have s3 := s2.trans (same_new hp3 (.lst (List.replicate (((laterA fore as r).map V.ref).length : Int).toNat [V.ref o]).flatten))
    have dr : Dp K (upd (upd H1 p2 (.lst [.ref o])) p3 (.lst (List.replicate (((laterA fore as r).map V.ref).length : Int).toNat [V.ref o]).flatten)) (.ref p3) (.list ((List.replicate (laterR r fore).length own).map pairD)) := by
      have eL : (List.replicate (((laterA fore as r).map V.ref).length : Int).toNat [V.ref o]).flatten = List.replicate (laterR r fore).length (V.ref o) := by rw [rep_flat, List.length_map, Int.toNat_natCast, ll]
      refine .lst (xs := List.replicate (laterR r fore).length (V.ref o)) (SqL.of (by rw [upd_same, eL])) ?_
      rw [List.map_replicate]
      exact rep_dp (.tup (SqT.of (s3 _ _ (s1 _ _ ho))) (.cons (.int _) (.cons (ov_dp _) .nil))) _
    refine ⟨_, _, dl s3, dr, rows_shaped _, rows_shaped _, ?_⟩
    generalize upd (upd H1 p2 (.lst [.ref o])) p3 (.lst (List.replicate (((laterA fore as r).map V.ref).length : Int).toNat [V.ref o]).flatten) = H3 at *
    have e1 : PyData.eqv (.list ((laterR r fore).map pairD)) (.list ((List.replicate (laterR r fore).length own).map pairD)) = decide (laterR r fore = List.replicate (laterR r fore).length own) := rows_eqv _ _
    rw [e1]
    have s13 := s1.trans s3
    refine ⟨_, rfl, itD (fun c => ?_) (fun c => ?_)⟩
    · have q2 : ∀ H', Same H H' → Q (.bl (decide (laterR r fore = r.drop (r.length - (laterR r fore).length)))) H' := fun H' s' => by
        have z := q H' s'
        unfold rowPB at z
        rw [dec_true c, Bool.true_and] at z
        exact z
      have ha3 := s13 _ _ ha
      have hp3' := paired_imp (S := fun a p => H3 a = some (.tup (pairV p))) (fun _ _ z => s13 _ _ z) hp
      have idx : (((as.map V.ref).length : Nat) : Int) - (((laterA fore as r).map V.ref).length : Nat) = ((r.length - (laterR r fore).length : Nat) : Int) := by
        rw [List.length_map, List.length_map, hl, ll]
        omega
      refine ⟨_, rfl, _, rfl, _, rfl, a, _, rfl, .inr (SqT.of ha3), _, rfl, D, _, rfl, .inl (SqL.of (s3 _ _ hc1)), _, _, rfl, rfl, _, rfl, ?_⟩
      unfold tNoPart
      dsimp only
      rw [idx]
      have fin : ∀ (p : Addr) (H4 : Hp), Same H3 H4 → H4 p = some (.tup ((as.drop (r.length - (laterR r fore).length)).map V.ref)) → ∀ p5, H4 p5 = none → Q (.bl (PyData.eqv (.list ((laterR r fore).map pairD)) (.list ((r.drop (r.length - (laterR r fore).length)).map pairD)))) (upd H4 p5 (.lst ((as.drop (r.length - (laterR r fore).length)).map V.ref))) ∧ True := fun p H4 s4 e4 p5 hp5 => ⟨by
        rw [show PyData.eqv (.list ((laterR r fore).map pairD)) (.list ((r.drop (r.length - (laterR r fore).length)).map pairD)) = decide (laterR r fore = r.drop (r.length - (laterR r fore).length)) from rows_eqv _ _]
        exact q2 _ (s13.trans (s4.trans (same_new hp5 _))), trivial⟩
      have go : ∀ (p : Addr) (H4 : Hp), Same H3 H4 → H4 p = some (.tup ((as.drop (r.length - (laterR r fore).length)).map V.ref)) → ∃ q ys, [V.ref p] = [.ref q] ∧ (SqL K H4 q ys ∨ SqT K H4 q ys) ∧ ∀ l, H4 l = none → (∃ d e, Dp K (upd H4 l (.lst ys)) (.ref D) d ∧ Dp K (upd H4 l (.lst ys)) (.ref l) e ∧ SeqAt.shaped d = true ∧ SeqAt.shaped e = true ∧ Q (.bl (PyData.eqv d e)) (upd H4 l (.lst ys))) := fun p H4 s4 e4 => by
        refine ⟨p, _, rfl, .inr (SqT.of e4), fun l hl5 => ?_⟩
        have s5 := same_new hl5 (.lst ((as.drop (r.length - (laterR r fore).length)).map V.ref))
        refine ⟨_, .list ((r.drop (r.length - (laterR r fore).length)).map pairD), dl (s3.trans (s4.trans s5)), .lst (SqL.of upd_same) (row_dps (paired_drop _ (paired_imp (fun _ _ z => s5 _ _ (s4 _ _ z)) hp3'))), rows_shaped _, rows_shaped _, (fin p H4 s4 e4 l hl5).1⟩
      refine ⟨a, _, rfl, SqT.of ha3, fun cw => ?_, fun cw p4 hp4 => ?_⟩
      · have z : r.length - (laterR r fore).length = 0 ∨ as = [] := by
          have c1 := cw.1
          rw [HT.sIx_nat, List.length_map] at c1
          have := hl
          by_cases e : as = []
          · exact .inr e
          · have : as.length ≠ 0 := fun z => e (List.eq_nil_of_length_eq_zero z)
            exact .inl (by omega)
        refine go a H3 same_refl ?_
        rcases z with z | z
        · rw [z]
          exact ha3
        · rw [z] at ha3 ⊢
          rw [List.drop_nil]
          exact ha3
      · refine go p4 _ (same_new hp4 _) ?_
        rw [upd_same, cut_from, List.map_drop]
    · have z := q H3 s13
      unfold rowPB at z
      rw [decide_eq_false c, Bool.false_and] at z
      exact z
end
end Any
namespace Any
open L2 PySem PySem.Spec PyProof.Rows
def foreB (n : Num) (s : Sto) : Int := (s.mark - 1) % (2 * n.hold + 1)
def plainB (n : Num) (s : Sto) : Bool :=
  !(decide (s.bears = 1) && decide (s.slot = none)) && (!(decide (s.last ≠ s.mark) && decide (s.last ≠ foreB n s)) && (rowPB s.letters (foreB n s) (letterB s) && (rowPB s.echoes (foreB n s) (s.mark, some s.took) &&
    (!(decide (s.last = s.mark) && s.letters.any fun e => decide (e.1 = foreB n s)) && !(decide (s.last ≠ s.mark) && s.echoes.any fun e => decide (e.1 = s.mark))))))
def owedB (s : Sto) : List Int := s.box.toList ++ (if s.bears = 1 ∧ s.took = 1 ∧ s.last = s.mark then [] else s.slot.toList)
abbrev sIsPlain : Stmt := inClass (top 19) 6
abbrev nmIP : List Str := ["self", "mark", "bears", "slot", "letters", "last", "took", "box", "echoes", "ahead", "letter", "echo"]
theorem scIP : FnScope nmIP ["self"] (defScope sIsPlain) := ⟨rfl, rfl, rfl, by decide +kernel, rfl, by decide +kernel, by decide +kernel⟩
def spIsPlain (C : Addr) : Sp := fun vs H Q _ => ∃ (x : Addr) (n : Num) (s : Sto) (g : Int × Int), vs = [.ref x] ∧ WayAt C H x n s g ∧ NumOk n ∧ StoOk n s ∧ ∀ H', Same H H' → Q (.bl (plainB n s)) H'
theorem in_firsts (i : Int) : ∀ r : Row, inV (.int i) (r.map fun e => V.int e.1) = r.any fun e => decide (e.1 = i)
  | [] => rfl
  | e :: r => by
    have ih := in_firsts i r
    unfold inV at ih ⊢
    rw [List.map_cons, List.any_cons, List.any_cons, ih]
    congr 1
theorem firsts_flat : ∀ r : Row, (r.map fun e => V.int e.1).all flatV = true
  | [] => rfl
  | e :: r => by
    rw [List.map_cons, List.all_cons, firsts_flat r]
    rfl
theorem fm_none : ∀ r : Row, (r.map fun _ => (none : Option V)).filterMap id = []
  | [] => rfl
  | e :: r => by
    rw [List.map_cons, ← fm_none r]
    rfl
section
variable {P : Program} {w : World} {K : PySem.W.Frag} {mg : Str → Option Value} {base : Heap} {f C : Addr} {fd : FuncData}
set_option maxHeartbeats 2000000 in
theorem ok_isplain (O : Own mg) (T : WayC K C) (F : Fun K "is_plain" "Way.is_plain" sIsPlain f fd) (D1 : Df P w K mg base 1 "marks" ["hold"] spMarks) (D2 : Df P w K mg base 1 "row_is_plain" ["row", "ahead", "own"] spRowP) : FnOk P w K mg base CX0 2 f fd ["self"] (spIsPlain C) := by
  refine F.ok scIP (fun vs H Q E h => ?_) (fun cdv A outer s H vs Q E hr h => ?_)
  · obtain ⟨x, n, s, g, rfl, _⟩ := h
    rfl
  obtain ⟨x, n, st, g, rfl, ⟨dx, k, ga, hx, ⟨L, Ec, hk, hL, hE⟩, hg⟩, hN, hS, q⟩ := h
  have hh := hN.h1
  have hh0 := hN.h0
  have zl : st.letters.length ≤ 1000 := by have := hS.let0; omega
  have ze : st.echoes.length ≤ 1000 := by have := hS.ech0; omega
  let X := (cxOf CX0 P w K mg base nmIP "Way.is_plain" (defScope sIsPlain) f cdv A outer s H E).nox
  let σ0 : L2.St := [some (.ref x), some (.int st.mark), some (.int st.bears), some (ov st.slot), some (.ref L), some (.int st.last), some (.int st.took), some (ov st.box), some (.ref Ec), some (.int (foreB n st)), none, none]
  obtain ⟨tE, hEnd, leafE⟩ : ∃ t, PSs X ((defBody sIsPlain).drop 4) t ∧ ((∀ H', Same H H' → Q (.bl (rowPB st.letters (foreB n st) (letterB st) && (rowPB st.echoes (foreB n st) (st.mark, some st.took) &&
    (!(decide (st.last = st.mark) && st.letters.any fun e => decide (e.1 = foreB n st)) && !(decide (st.last ≠ st.mark) && st.echoes.any fun e => decide (e.1 = st.mark)))))) H') → t { nx := fun _ H' => Q .non H', rt := Q } σ0 H) := by
    refine ⟨_, (pss_one (ps_ret (pe_and (pe_D D2 hr rfl (pa_cons (pv 4) (pa_cons (pv 9) (pa_cons (pe_tup (pa_cons (pv 1) (pa_cons (pe_ifExp (pt_cmpR op_eq (pv 2) pe_int (nomark _)) (pv 3) pe_non) pa_nil))) pa_nil))))
      (pe_and (pe_D D2 hr rfl (pa_cons (pv 8) (pa_cons (pv 9) (pa_cons (pe_tup (pa_cons (pv 1) (pa_cons (pv 6) pa_nil))) pa_nil))))
      (pe_and (pe_cmpR op_notIn_seq (pv 9) (pe_lc (own := [("letter", 10)]) (g := gName 10) rfl scIP.nd (pi_tup (pv 4)) (blkOk_by (N := nmIP) (sc := defScope sIsPlain) (by decide +kernel)) (fun _ _ _ _ _ => pg_name (i := 10) scIP.nd rfl (Or.inl rfl)) (fun _ _ _ _ _ => pts_one (pt_cmpR op_eq (pv 5) (pv 1) (nomark _))) (fun _ _ _ _ _ => pe_ix (show IxR _ (rIxT K) from ix_tup) (pv 10) pe_int (fun _ _ => rfl))) (by rfl))
      (pe_one (pe_cmpR op_notIn_seq (pv 1) (pe_lc (own := [("echo", 11)]) (g := gName 11) rfl scIP.nd (pi_tup (pv 8)) (blkOk_by (N := nmIP) (sc := defScope sIsPlain) (by decide +kernel)) (fun _ _ _ _ _ => pg_name (i := 11) scIP.nd rfl (Or.inl rfl)) (fun _ _ _ _ _ => pts_one (pt_cmpR op_ne (pv 5) (pv 1) (nomark _))) (fun _ _ _ _ _ => pe_ix (show IxR _ (rIxT K) from ix_tup) (pv 11) pe_int (fun _ _ => rfl))) (by rfl)))))))), ?_⟩
    intro q
    have gsm : ∀ (b : Bool) (r : Row) (j : Int), (((r.map fun e => if b = true then some (V.int e.1) else none).filterMap id).all flatV = true) ∧ (!inV (.int j) ((r.map fun e => if b = true then some (V.int e.1) else none).filterMap id)) = (!(b && r.any fun e => decide (e.1 = j))) := fun b r j => by
      cases b with
      | true =>
        have e : (r.map fun e => if true = true then some (V.int e.1) else none).filterMap id = r.map fun e => V.int e.1 := fm_some (fun e : Int × Option Int => V.int e.1) r
        rw [e, in_firsts]
        exact ⟨firsts_flat r, rfl⟩
      | false =>
        have e : (r.map fun e => if false = true then some (V.int e.1) else none).filterMap id = [] := fm_none r
        rw [e]
        exact ⟨rfl, rfl⟩
    refine ⟨_, rfl, _, rfl, _, rfl, _, rfl, rfl, _, rfl, itEq (fun b1 => ⟨_, rfl, two, fun p1 hp1 => ?_⟩) (fun b1 => ⟨two, fun p1 hp1 => ?_⟩)⟩
    all_goals
      have e1 : ∀ v : V, v = ov (letterB st).2 → upd H p1 (.tup [.int st.mark, v]) p1 = some (.tup (pairV (letterB st))) := fun v hv => by rw [upd_same, hv]; rfl
      refine ⟨L, p1, st.letters, foreB n st, letterB st, rfl, hL.keep (Same.tups (same_new hp1 _)), zl, e1 _ (by show _ = ov (if st.bears = 1 then st.slot else none); first | rw [if_pos b1] | (rw [if_neg b1]; rfl)), fun H1 s1 => ⟨_, rfl, ?_⟩⟩
      have s1 := (same_new hp1 _).trans s1
      cases hb3 : rowPB st.letters (foreB n st) (letterB st) with
      | false =>
        rw [hb3] at q
        exact itF rfl (q H1 s1)
      | true =>
        rw [hb3] at q
        refine itT rfl ⟨_, rfl, _, rfl, _, rfl, _, rfl, two, fun p2 hp2 => ?_⟩
        have s2 := s1.trans (same_new hp2 (.tup [.int st.mark, .int st.took]))
        refine ⟨Ec, p2, st.echoes, foreB n st, (st.mark, some st.took), rfl, hE.keep (Same.tups s2), ze, upd_same, fun H3 s3 => ⟨_, rfl, ?_⟩⟩
        have s3 := s2.trans s3
        cases hb4 : rowPB st.echoes (foreB n st) (st.mark, some st.took) with
        | false =>
          rw [hb4] at q
          exact itF rfl (q H3 s3)
        | true =>
          rw [hb4] at q
          obtain ⟨as, hLL, hpL⟩ := hL.keep (Same.tups s3)
          have hlL := paired_len hpL
          refine itT rfl ⟨_, rfl, _, rfl, L, rfl, ⟨_, SqT.of hLL⟩, fun D hD => ?_⟩
          refine turns_tup (K := K) (a := L) (xs := as.map V.ref) (st.letters.map fun e => if decide (st.last = st.mark) = true then some (V.int e.1) else none) hD (fun Hc sm => SqT.of (sm _ _ hLL)) (by rw [List.length_map, List.length_map]; exact hlL.symm) (small (by rw [List.length_map]; omega)) ?_ ?_
          · intro i z o Hc Y N hz2 ho sm hY hN'
            obtain ⟨e, he, rfl⟩ := refs_at hz2
            obtain ⟨b, hb, hat⟩ := paired_get hpL he
            rw [List.getElem?_map, hb] at ho
            have ho : (if decide (st.last = st.mark) = true then some (V.int b.1) else none) = o := Option.some.inj ho
            refine ⟨rfl, _, rfl, _, rfl, rfl, _, rfl, itEq (fun c => ?_) (fun c => ?_)⟩
            · rw [if_pos (dec_true c)] at ho
              exact ⟨_, rfl, e, _, _, _, rfl, rfl, SqT.of (sm _ _ hat), atI_nat (j := 0) rfl, hY _ ho.symm Hc same_refl⟩
            · rw [if_neg (by rw [decide_eq_false c]; decide)] at ho
              exact hN' ho.symm Hc same_refl
          · intro H4 hc4 s4
            obtain ⟨fl, iv⟩ := gsm (decide (st.last = st.mark)) st.letters (foreB n st)
            refine ⟨D, _, rfl, .inl (SqL.of hc4), rfl, fl, _, rfl, ?_⟩
            have s4 := s3.trans s4
            show if (!inV (.int (foreB n st)) ((st.letters.map fun e => if decide (st.last = st.mark) = true then some (V.int e.1) else none).filterMap id)) = true then _ else _
            rw [iv]
            cases hb5 : (decide (st.last = st.mark) && st.letters.any fun e => decide (e.1 = foreB n st)) with
            | true =>
              rw [hb5] at q
              exact itF rfl (q H4 s4)
            | false =>
              rw [hb5] at q
              obtain ⟨bs, hEE, hpE⟩ := hE.keep (Same.tups s4)
              have hlE := paired_len hpE
              refine itT rfl ⟨_, rfl, _, rfl, Ec, rfl, ⟨_, SqT.of hEE⟩, fun D2 hD2 => ?_⟩
              refine turns_tup (K := K) (a := Ec) (xs := bs.map V.ref) (st.echoes.map fun e => if decide (st.last ≠ st.mark) = true then some (V.int e.1) else none) hD2 (fun Hc sm => SqT.of (sm _ _ hEE)) (by rw [List.length_map, List.length_map]; exact hlE.symm) (small (by rw [List.length_map]; omega)) ?_ ?_
              · intro i z o Hc Y N hz2 ho sm hY hN'
                obtain ⟨e, he, rfl⟩ := refs_at hz2
                obtain ⟨b, hb, hat⟩ := paired_get hpE he
                rw [List.getElem?_map, hb] at ho
                have ho : (if decide (st.last ≠ st.mark) = true then some (V.int b.1) else none) = o := Option.some.inj ho
                refine ⟨rfl, _, rfl, _, rfl, rfl, _, rfl, itNe (fun c => ?_) (fun c => ?_)⟩
                · rw [if_pos (dec_true c)] at ho
                  exact ⟨_, rfl, e, _, _, _, rfl, rfl, SqT.of (sm _ _ hat), atI_nat (j := 0) rfl, hY _ ho.symm Hc same_refl⟩
                · rw [if_neg (by rw [decide_eq_false (fun z => z c)]; decide)] at ho
                  exact hN' ho.symm Hc same_refl
              · intro H5 hc5 s5
                obtain ⟨fl, iv⟩ := gsm (decide (st.last ≠ st.mark)) st.echoes st.mark
                refine ⟨D2, _, rfl, .inl (SqL.of hc5), rfl, fl, ?_⟩
                show Q (.bl (!inV (.int st.mark) ((st.echoes.map fun e => if decide (st.last ≠ st.mark) = true then some (V.int e.1) else none).filterMap id))) H5
                rw [iv]
                exact q H5 (s4.trans s5)
  obtain ⟨tD, hD3, leafD⟩ : ∃ t, PSs X ((defBody sIsPlain).drop 3) t ∧ ((decide (st.bears = 1) && decide (st.slot = none)) = false → t { nx := fun _ H' => Q .non H', rt := Q } σ0 H) := by
    refine ⟨_, pss_cons (ps_if (PW.pt (pw_and (pt_cmpR op_ne (pv 5) (pv 1) (nomark _)) (pw_and1 (pt_cmpR op_ne (pv 5) (pv 9) (nomark _))))) (pss_one (ps_ret pe_bl)) pss_nil) hEnd, ?_⟩
    intro h1
    have q1 := q
    unfold plainB at q1
    rw [h1] at q1
    have leaf : (decide (st.last ≠ st.mark) && decide (st.last ≠ foreB n st)) = false → tE { nx := fun _ H' => Q .non H', rt := Q } σ0 H := fun h2 => by
      rw [h2] at q1
      exact leafE q1
    refine ⟨_, rfl, _, rfl, rfl, _, rfl, itNe (fun c => ?_) (fun c => ?_)⟩
    · refine ⟨_, rfl, _, rfl, rfl, _, rfl, itNe (fun c2 => ?_) (fun c2 => ?_)⟩
      · rw [dec_true c, dec_true c2] at q1
        exact q1 H same_refl
      · exact leaf (by rw [show decide (st.last ≠ foreB n st) = false from decide_eq_false (fun z => z c2), Bool.and_false])
    · exact itF rfl (leaf (by rw [decide_eq_false (fun z => z c), Bool.false_and]))
  refine ⟨_, pss_cons (ps_asg (pe_fld (pv 0) rfl) (pg_tup rfl (pgs_cons (pg_name (i := 1) scIP.nd rfl (Or.inr rfl)) (pgs_cons (pg_name (i := 2) scIP.nd rfl (Or.inl rfl)) (pgs_cons (pg_name (i := 3) scIP.nd rfl (Or.inl rfl)) (pgs_cons (pg_name (i := 4) scIP.nd rfl (Or.inl rfl))
        (pgs_cons (pg_name (i := 5) scIP.nd rfl (Or.inr rfl)) (pgs_cons (pg_name (i := 6) scIP.nd rfl (Or.inl rfl)) (pgs_cons (pg_name (i := 7) scIP.nd rfl (Or.inl rfl)) (pgs_cons (pg_name (i := 8) scIP.nd rfl (Or.inl rfl)) pgs_nil))))))))))
    (pss_cons (ps_set (i := 9) scIP.nd rfl (Or.inl rfl) (pe_op op_mod (pe_op op_sub (pv 1) pe_int) (pe_D D1 hr rfl (pa_cons (pe_fld (pv 0) rfl) pa_nil))))
    (pss_cons (ps_if (PW.pt (pw_and (pt_cmpR op_eq (pv 2) pe_int (nomark _)) (pw_and1 (pt_cmpR op_isN (pv 3) pe_non (nomark _))))) (pss_one (ps_ret pe_bl)) pss_nil) hD3)), ?_⟩
  refine ⟨_, rfl, x, C, dx, _, _, rfl, hx, T.cl, T.n4, wf_kept, k, _, rfl, SqT.of hk, rfl, _, _, rfl, _, _, rfl, _, _, rfl, _, _, rfl, _, _, rfl, _, _, rfl, _, _, rfl, _, _, rfl, rfl, ?_⟩
  refine ⟨_, rfl, _, _, rfl, rfl, _, rfl, x, C, dx, _, _, rfl, hx, T.cl, T.n1, wf_hold, n.hold, rfl, _, _, rfl, rfl, by omega, ?_⟩
  refine ⟨_, rfl, rfl, _, rfl, itEq (fun c => ?_) (fun c => ?_)⟩
  · refine ⟨_, rfl, rfl, _, rfl, itO (fun c2 => ?_) (fun c2 => ?_)⟩
    · have q1 := q
      unfold plainB at q1
      rw [dec_true c, dec_true c2] at q1
      exact q1 H same_refl
    · exact leafD (by rw [decide_eq_false c2, Bool.and_false])
  · exact itF rfl (leafD (by rw [decide_eq_false c, Bool.false_and]))
end
end Any
namespace Any
open L2 PySem PySem.Spec PyProof.Rows
abbrev sUnder : Stmt := inClass (top 19) 7
abbrev nmUW : List Str := ["self", "mark", "bears", "slot", "letters", "last", "took", "box", "echoes", "word"]
theorem scUW : FnScope nmUW ["self"] (defScope sUnder) := ⟨rfl, rfl, rfl, by decide +kernel, rfl, by decide +kernel, by decide +kernel⟩
def spUnder (C : Addr) : Sp := fun vs H Q _ => ∃ (x : Addr) (n : Num) (s : Sto) (g : Int × Int), vs = [.ref x] ∧ WayAt C H x n s g ∧ NumOk n ∧ StoOk n s ∧ (plainB n s = false → ∀ H', Same H H' → Q .non H') ∧ (plainB n s = true → ∀ p H', H p = none → Same H H' → H' p = some (.lst ((owedB s).map V.int)) → Q (.ref p) H')
theorem two_fm (a b : Option Int) : (([a, b].map fun o => match o with | none => (none : Option V) | some i => some (V.int i)).filterMap id) = (a.toList ++ b.toList).map V.int := by
  cases a <;> cases b <;> rfl
section
variable {P : Program} {w : World} {K : PySem.W.Frag} {mg : Str → Option Value} {base : Heap} {f C : Addr} {fd : FuncData}
theorem ok_under (T : WayC K C) (F : Fun K "under_way" "Way.under_way" sUnder f fd) (D1 : Mf0 P w K mg base C 2 "is_plain" ["self"] [] (spIsPlain C)) : FnOk P w K mg base CX0 3 f fd ["self"] (spUnder C) := by
  refine F.ok scUW (fun vs H Q E h => ?_) (fun cdv A outer s H vs Q E hr h => ?_)
  · obtain ⟨x, n, s, g, rfl, _⟩ := h
    rfl
  obtain ⟨x, n, st, g, rfl, hW, hN, hS, q0, q1⟩ := h
  obtain ⟨dx, k, ga, hx, ⟨L, Ec, hk, hL, hE⟩, hg⟩ := id hW
  let X := (cxOf CX0 P w K mg base nmUW "Way.under_way" (defScope sUnder) f cdv A outer s H E).nox
  obtain ⟨tE, hEnd, leafE⟩ : ∃ t, PSs X ((defBody sUnder).drop 3) t ∧ ∀ (sl : Option Int) (H1 : Hp), Same H H1 → plainB n st = true → st.box.toList ++ sl.toList = owedB st →
      t { nx := fun _ H' => Q .non H', rt := Q } [some (.ref x), some (.int st.mark), some (.int st.bears), some (ov sl), some (.ref L), some (.int st.last), some (.int st.took), some (ov st.box), some (.ref Ec), none] H1 := by
    refine ⟨_, pss_one (ps_ret (pe_lc (own := [("word", 9)]) (g := gName 9) rfl scUW.nd (pi_tup (pe_tup (pa_cons (pv 7) (pa_cons (pv 3) pa_nil)))) (blkOk_by (N := nmUW) (sc := defScope sUnder) (by decide +kernel)) (fun _ _ _ _ _ => pg_name (i := 9) scUW.nd rfl (Or.inl rfl)) (fun _ _ _ _ _ => pts_one (pt_cmpR op_notN (pv 9) pe_non (nomark _))) (fun _ _ _ _ _ => pv 9))), ?_⟩
    intro sl H1 s1 hp he
    refine ⟨_, rfl, _, rfl, two, fun p2 hp2 => ⟨p2, rfl, ⟨_, SqT.of upd_same⟩, fun D hD => ?_⟩⟩
    have s2 := same_new hp2 (.tup [ov st.box, ov sl])
    refine turns_tup (K := K) (a := p2) (xs := [ov st.box, ov sl]) ([st.box, sl].map fun o => match o with | none => (none : Option V) | some i => some (V.int i)) hD (fun Hc sm => SqT.of (sm _ _ upd_same)) rfl two ?_ ?_
    · intro i z o Hc Y N hz2 ho sm hY hN'
      have key : ∃ o' : Option Int, z = ov o' ∧ o = (match o' with | none => (none : Option V) | some i => some (V.int i)) := by
        match i, hz2, ho with
        | 0, h1, h2 => cases h1; cases h2; exact ⟨_, rfl, rfl⟩
        | 1, h1, h2 => cases h1; cases h2; exact ⟨_, rfl, rfl⟩
        | i + 2, h1, _ => simp at h1
      obtain ⟨o', rfl, rfl⟩ := key
      refine ⟨rfl, _, rfl, rfl, _, rfl, itS (fun c => ?_) (fun c => ?_)⟩
      · cases o' with
        | none => exact absurd rfl c
        | some i => exact ⟨_, rfl, hY _ rfl Hc same_refl⟩
      · cases o' with
        | some i => cases c
        | none => exact hN' rfl Hc same_refl
    · intro H4 hc4 s4
      rw [two_fm, he] at hc4
      exact q1 hp D H4 ((s1.trans s2).free hD) (s1.trans (s2.trans s4)) hc4
  refine ⟨_, pss_cons (ps_if (pt_not (pt_val (pe_M0 D1 T.cl (pv 0) hr))) (pss_one (ps_ret pe_non)) pss_nil)
    (pss_cons (ps_asg (pe_fld (pv 0) rfl) (pg_tup rfl (pgs_cons (pg_name (i := 1) scUW.nd rfl (Or.inl rfl)) (pgs_cons (pg_name (i := 2) scUW.nd rfl (Or.inl rfl)) (pgs_cons (pg_name (i := 3) scUW.nd rfl (Or.inl rfl)) (pgs_cons (pg_name (i := 4) scUW.nd rfl (Or.inl rfl))
        (pgs_cons (pg_name (i := 5) scUW.nd rfl (Or.inl rfl)) (pgs_cons (pg_name (i := 6) scUW.nd rfl (Or.inl rfl)) (pgs_cons (pg_name (i := 7) scUW.nd rfl (Or.inl rfl)) (pgs_cons (pg_name (i := 8) scUW.nd rfl (Or.inl rfl)) pgs_nil))))))))))
    (pss_cons (ps_if (PW.pt (pw_and (pt_cmpR op_eq (pv 2) pe_int (nomark _)) (pw_and (pt_cmpR op_eq (pv 6) pe_int (nomark _)) (pw_and1 (pt_cmpR op_eq (pv 5) (pv 1) (nomark _)))))) (pss_one (ps_set (i := 3) scUW.nd rfl (Or.inl rfl) pe_non)) pss_nil) hEnd)), ?_⟩
  refine ⟨_, rfl, x, dx, _, rfl, hx, wf_none (by decide +kernel), x, n, st, g, rfl, hW, hN, hS, fun H1 s1 => ⟨_, rfl, ?_⟩⟩
  cases hp : plainB n st with
  | false => exact itT rfl (q0 hp H1 s1)
  | true =>
    refine itF rfl ?_
    refine ⟨_, rfl, x, C, dx, _, _, rfl, s1 _ _ hx, T.cl, T.n4, wf_kept, k, _, rfl, SqT.of (s1 _ _ hk), rfl, _, _, rfl, _, _, rfl, _, _, rfl, _, _, rfl, _, _, rfl, _, _, rfl, _, _, rfl, _, _, rfl, rfl, ?_⟩
    have no : ¬ (st.bears = 1 ∧ st.took = 1 ∧ st.last = st.mark) → st.box.toList ++ st.slot.toList = owedB st := fun z => by unfold owedB; rw [if_neg z]
    refine ⟨_, rfl, rfl, _, rfl, itEq (fun c1 => ?_) (fun c1 => ?_)⟩
    · refine ⟨_, rfl, rfl, _, rfl, itEq (fun c2 => ?_) (fun c2 => ?_)⟩
      · refine ⟨_, rfl, _, rfl, rfl, _, rfl, itEq (fun c3 => ?_) (fun c3 => ?_)⟩
        · exact leafE none H1 s1 hp (by unfold owedB; rw [if_pos ⟨c1, c2, c3⟩]; rfl)
        · exact leafE st.slot H1 s1 hp (no fun z => c3 z.2.2)
      · exact itF rfl (leafE st.slot H1 s1 hp (no fun z => c2 z.2.1))
    · exact itF rfl (leafE st.slot H1 s1 hp (no fun z => c1 z.1))
end
end Any
namespace Any
open L2 PySem PySem.Spec PyProof.Rows
instance decSto (s t : Sto) : Decidable (s = t) :=
  decidable_of_iff (s.mark = t.mark ∧ s.bears = t.bears ∧ s.slot = t.slot ∧ s.letters = t.letters ∧ s.last = t.last ∧ s.took = t.took ∧ s.box = t.box ∧ s.echoes = t.echoes) ⟨fun h => by
    cases s; cases t
    obtain ⟨h1, h2, h3, h4, h5, h6, h7, h8⟩ := h
    simp only at h1 h2 h3 h4 h5 h6 h7 h8
    subst h1 h2 h3 h4 h5 h6 h7 h8
    rfl, fun h => by subst h; exact ⟨rfl, rfl, rfl, rfl, rfl, rfl, rfl, rfl⟩⟩
instance decNum (s t : Num) : Decidable (s = t) :=
  decidable_of_iff (s.hold = t.hold ∧ s.miss = t.miss ∧ s.bound = t.bound) ⟨fun h => by
    cases s; cases t
    obtain ⟨h1, h2, h3⟩ := h
    simp only at h1 h2 h3
    subst h1 h2 h3
    rfl, fun h => by subst h; exact ⟨rfl, rfl, rfl⟩⟩
/-! ### stores by their texts -/
def tl (x : Str) : List Nat := x.cps.toList
theorem tl_app (x y : Str) : tl (x ++ y) = tl x ++ tl y := by
  show (x.cps ++ y.cps).toList = _
  exact Array.toList_append
theorem tl_inj {x y : Str} (h : tl x = tl y) : x = y := by
  cases x; cases y
  exact congrArg Str.mk (Array.toList_inj.mp h)
/-- whatever stands behind, they are unlike -/
def Off (a b : List Nat) : Prop := ∀ r r', a ++ r ≠ b ++ r'
def hdOff : List Nat → List Nat → Bool
  | c :: _, d :: _ => c != d
  | _, _ => false
theorem off_head : ∀ {a b : List Nat}, hdOff a b = true → Off a b
  | c :: _, d :: _, h => fun r r' e => by
    have h : (c != d) = true := h
    have e1 := (List.cons.inj e).1
    rw [e1] at h
    simp at h
  | [], _, h => by cases h
  | _ :: _, [], h => by cases h
theorem off_cons {c : Nat} {a b : List Nat} (h : Off a b) : Off (c :: a) (c :: b) := fun r r' e => h r r' (List.cons.inj e).2
theorem off_app {a b z y : List Nat} (h : Off a b) : Off (a ++ z) (b ++ y) := fun r r' e => h (z ++ r) (y ++ r') (by rw [← List.append_assoc, ← List.append_assoc]; exact e)
theorem off_ne {a b : List Nat} (h : Off a b) : a ≠ b := fun e => h [] [] (by rw [e])
theorem join2 (x y : Str) (r : List Str) : Str.join ", " (x :: y :: r) = x ++ ", " ++ Str.join ", " (y :: r) := rfl
/-- texts one behind another: they are the same only if each is -/
theorem join_same : ∀ {ts us : List Str} {r r' : List Nat}, Paired (fun t u => t = u ∨ Off (tl t) (tl u)) ts us → ts ≠ [] → tl (Str.join ", " ts) ++ r = tl (Str.join ", " us) ++ r' → ts = us
  | _, _, _, _, .nil, h, _ => absurd rfl h
  | _, _, r, r', .cons h .nil, _, e => by
    rcases h with h | h
    · rw [h]
    · exact absurd e (h r r')
  | _, _, r, r', .cons h (.cons h2 t), _, e => by
    rw [join2, join2, tl_app, tl_app, tl_app, tl_app] at e
    rcases h with h | h
    · subst h
      simp only [List.append_assoc] at e
      have e1 := List.append_cancel_left (List.append_cancel_left e)
      rw [join_same (.cons h2 t) (by simp) e1]
    · refine absurd e ?_
      simp only [List.append_assoc]
      exact h _ _
theorem tup_same {ds es : List PyData} (hl : (ds.length == 1) = false) (he : (es.length == 1) = false) (hn : ds ≠ []) (h : Paired (fun d e => PyData.shown d = PyData.shown e ∨ Off (tl (PyData.shown d)) (tl (PyData.shown e))) ds es) (e : (PyData.tuple ds).shown = (PyData.tuple es).shown) :
    PyData.shownAll ds = PyData.shownAll es := by
  rw [PyData.shown_tuple, PyData.shown_tuple, hl, he] at e
  have e := congrArg tl e
  rw [tl_app, tl_app, tl_app, tl_app, List.append_assoc, List.append_assoc] at e
  have e1 := List.append_cancel_left e
  have ps : ∀ {ds es : List PyData}, Paired (fun d e => PyData.shown d = PyData.shown e ∨ Off (tl (PyData.shown d)) (tl (PyData.shown e))) ds es → Paired (fun t u => t = u ∨ Off (tl t) (tl u)) (PyData.shownAll ds) (PyData.shownAll es) := fun h => by
    induction h with
    | nil => rw [PyData.shownAll_nil]; exact .nil
    | cons a _ ih => rw [PyData.shownAll_cons, PyData.shownAll_cons]; exact .cons a ih
  refine join_same (ps h) ?_ e1
  cases ds with
  | nil => exact absurd rfl hn
  | cons d ds => rw [PyData.shownAll_cons]; simp
theorem int_all : ∀ n : Fin 64, n.val = 0 ∨ hdOff (tl ((toString ((n.val : Nat) : Int) : String) : Str)) (tl ("0" : Str)) = true := by decide +kernel
theorem int_nn : ∀ n : Fin 64, hdOff (tl ((toString ((n.val : Nat) : Int) : String) : Str)) (tl ("None" : Str)) = true := by decide +kernel
theorem int_off {i : Int} (h0 : 0 ≤ i) (h1 : i < 64) : i = 0 ∨ Off (tl (PyData.shown (.int i))) (tl (PyData.shown (.int 0))) := by
  have z := int_all ⟨i.toNat, by omega⟩
  have e : (((⟨i.toNat, by omega⟩ : Fin 64).val : Nat) : Int) = i := by show ((i.toNat : Nat) : Int) = i; omega
  rw [e] at z
  rcases z with z | z
  · exact .inl (by have : i.toNat = 0 := z; omega)
  · refine .inr ?_
    rw [PyData.shown_int, PyData.shown_int]
    exact off_head z
theorem ov_off {o : Option Int} (h : ∀ i, o = some i → 0 ≤ i ∧ i < 64) : o = none ∨ Off (tl (PyData.shown (ovD o))) (tl (PyData.shown (ovD none))) := by
  cases o with
  | none => exact .inl rfl
  | some i =>
    obtain ⟨h0, h1⟩ := h i rfl
    have z := int_nn ⟨i.toNat, by omega⟩
    have e : (((⟨i.toNat, by omega⟩ : Fin 64).val : Nat) : Int) = i := by show ((i.toNat : Nat) : Int) = i; omega
    rw [e] at z
    refine .inr ?_
    show Off (tl (PyData.shown (.int i))) (tl (PyData.shown .none))
    rw [PyData.shown_int, PyData.shown_none]
    exact off_head z
theorem join_head (x : Str) (r : List Str) : ∃ z, Str.join ", " (x :: r) = x ++ z := by
  cases r with
  | nil => exact ⟨Str.empty, (Str.append_empty x).symm⟩
  | cons y r => exact ⟨", " ++ Str.join ", " (y :: r), by rw [join2, Str.append_assoc]⟩
theorem row_off (r : Row) : r = [] ∨ Off (tl (PyData.shown (rowD r))) (tl (PyData.shown (rowD []))) := by
  cases r with
  | nil => exact .inl rfl
  | cons e r =>
    refine .inr ?_
    have e0 : tl (PyData.shown (rowD [])) = [40, 41] := by decide +kernel
    rw [e0]
    show Off (tl (PyData.shown (.tuple (pairD e :: r.map pairD)))) _
    rw [PyData.shown_tuple, PyData.shownAll_cons]
    obtain ⟨z, hz⟩ := join_head (PyData.shown (pairD e)) (PyData.shownAll (r.map pairD))
    have p1 : ∃ y, tl (PyData.shown (pairD e)) = 40 :: y := by
      show ∃ y, tl (PyData.shown (.tuple [.int e.1, ovD e.2])) = 40 :: y
      rw [PyData.shown_tuple, tl_app, tl_app]
      exact ⟨_, rfl⟩
    obtain ⟨y, hy⟩ := p1
    rw [hz, tl_app, tl_app, tl_app, hy]
    show Off (([40] ++ (40 :: y ++ tl z)) ++ _) [40, 41]
    intro r1 r2 h
    have h2 := (List.cons.inj h).2
    have h3 := (List.cons.inj h2).1
    cases h3
theorem row_shown {r : Row} (h : PyData.shown (rowD r) = PyData.shown (rowD [])) : r = [] := (row_off r).elim id fun z => absurd (congrArg tl h) (off_ne z)
theorem sto_text {n : Num} {s : Sto} (hN : NumOk n) (h : StoOk n s) (e : (stoD s).shown = (stoD sto0).shown) : s = sto0 := by
  have h6 := hN.h1
  have b1 := hN.b1
  have m1 := h.m1
  have l1 := h.l1
  have hb : 0 ≤ s.bears ∧ s.bears < 64 := by rcases h.b with z | z <;> omega
  have ht : 0 ≤ s.took ∧ s.took < 64 := by rcases h.t with z | z <;> omega
  have ow : ∀ {o : Option Int}, (∀ i, o = some i → 0 ≤ i ∧ i < n.bound) → ∀ i, o = some i → 0 ≤ i ∧ i < 64 := fun k i z => by have := k i z; omega
  have q1 := int_off h.m0 (show s.mark < 64 by omega)
  have q2 := int_off hb.1 hb.2
  have q3 := ov_off (ow h.slot)
  have q4 := row_off s.letters
  have q5 := int_off h.l0 (show s.last < 64 by omega)
  have q6 := int_off ht.1 ht.2
  have q7 := ov_off (ow h.box)
  have q8 := row_off s.echoes
  have ii : ∀ {i : Int}, (i = 0 ∨ Off (tl (PyData.shown (.int i))) (tl (PyData.shown (.int 0)))) → (PyData.shown (.int i) = PyData.shown (.int 0) ∨ Off (tl (PyData.shown (.int i))) (tl (PyData.shown (.int 0)))) := fun z => z.imp (fun z => by rw [z]) id
  have oo : ∀ {o : Option Int}, (o = none ∨ Off (tl (PyData.shown (ovD o))) (tl (PyData.shown (ovD none)))) → (PyData.shown (ovD o) = PyData.shown (ovD none) ∨ Off (tl (PyData.shown (ovD o))) (tl (PyData.shown (ovD none)))) := fun z => z.imp (fun z => by rw [z]) id
  have rr : ∀ {o : Row}, (o = [] ∨ Off (tl (PyData.shown (rowD o))) (tl (PyData.shown (rowD [])))) → (PyData.shown (rowD o) = PyData.shown (rowD []) ∨ Off (tl (PyData.shown (rowD o))) (tl (PyData.shown (rowD [])))) := fun z => z.imp (fun z => by rw [z]) id
  have z := tup_same rfl rfl (by simp) (.cons (ii q1) (.cons (ii q2) (.cons (oo q3) (.cons (rr q4) (.cons (ii q5) (.cons (ii q6) (.cons (oo q7) (.cons (rr q8) .nil)))))))) e
  simp only [PyData.shownAll_cons, PyData.shownAll_nil, List.cons.injEq, and_true] at z
  obtain ⟨z1, z2, z3, z4, z5, z6, z7, z8⟩ := z
  have i0 : ∀ {i : Int}, (i = 0 ∨ Off (tl (PyData.shown (.int i))) (tl (PyData.shown (.int 0)))) → PyData.shown (.int i) = PyData.shown (.int 0) → i = 0 := fun a b => a.elim id fun a => absurd (congrArg tl b) (off_ne a)
  have o0 : ∀ {o : Option Int}, (o = none ∨ Off (tl (PyData.shown (ovD o))) (tl (PyData.shown (ovD none)))) → PyData.shown (ovD o) = PyData.shown (ovD none) → o = none := fun a b => a.elim id fun a => absurd (congrArg tl b) (off_ne a)
  obtain ⟨mark, bears, slot, letters, last, took, box, echoes⟩ := s
  have e1 : mark = 0 := i0 q1 z1
  have e2 : bears = 0 := i0 q2 z2
  have e3 : slot = none := o0 q3 z3
  have e4 : letters = [] := row_shown z4
  have e5 : last = 0 := i0 q5 z5
  have e6 : took = 0 := i0 q6 z6
  have e7 : box = none := o0 q7 z7
  have e8 : echoes = [] := row_shown z8
  rw [e1, e2, e3, e4, e5, e6, e7, e8]
  rfl
/-! ### stores as data are the same -/
theorem sto_eqv (s t : Sto) : PyData.eqv (stoD s) (stoD t) = decide (s = t) := by
  show ((s.mark == t.mark) && ((s.bears == t.bears) && (PyData.eqv (ovD s.slot) (ovD t.slot) && (PyData.eqvAll (s.letters.map pairD) (t.letters.map pairD) && ((s.last == t.last) && ((s.took == t.took) && (PyData.eqv (ovD s.box) (ovD t.box) && (PyData.eqvAll (s.echoes.map pairD) (t.echoes.map pairD) && true)))))))) = decide (s = t)
  rw [ov_eqv, ov_eqv, rows_eqv, rows_eqv]
  obtain ⟨m1, b1, s1, l1, a1, t1, x1, e1⟩ := s
  obtain ⟨m2, b2, s2, l2, a2, t2, x2, e2⟩ := t
  rw [Bool.eq_iff_iff]
  simp only [Bool.and_eq_true, beq_iff_eq, decide_eq_true_eq, and_true, Sto.mk.injEq]
theorem gone_eqv (a b c d : Int) : PyData.eqv (.tuple [.int a, .int b]) (.tuple [.int c, .int d]) = decide ((a, b) = (c, d)) := by
  show ((a == c) && ((b == d) && true)) = _
  rw [Bool.eq_iff_iff]
  simp only [Bool.and_eq_true, beq_iff_eq, decide_eq_true_eq, and_true, Prod.mk.injEq]
theorem gone_shaped (a b : Int) : SeqAt.shaped (.tuple [.int a, .int b]) = true := rfl
end Any
namespace Any
open L2 PySem PySem.Spec PyProof.Rows
abbrev sEqW : Stmt := inClass (top 19) 8
abbrev sReprW : Stmt := inClass (top 19) 10
theorem scEqW : FnScope ["self", "other"] ["self", "other"] (defScope sEqW) := ⟨rfl, rfl, rfl, by decide +kernel, rfl, by decide +kernel, by decide +kernel⟩
theorem scReprW : FnScope ["self"] ["self"] (defScope sReprW) := ⟨rfl, rfl, rfl, by decide +kernel, rfl, by decide +kernel, by decide +kernel⟩
/-- what isinstance asks of the class -/
structure WayI (K : PySem.W.Frag) (C : Addr) : Prop where
  cls : PySem.W.findIn K (.ref C) "__class__" = some (some (.builtin "object.__class__"))
  get : PySem.W.specialIn K (.builtin "object.__class__") "__get__" = some (some (.builtin "getset_descriptor.__get__"))
  tk : PySem.W.takesIn K (.builtin "object.__class__") = some true
  mro : PySem.W.mroIn K C (.type "object") = some true
  ty : PySem.W.typeIn K (.ref C) = some (.type "type")
theorem WayI.not {K : PySem.W.Frag} {C : Addr} (I : WayI K C) {T : String} {l : List Value} (h : fastBuiltinMro T = some l) (hl : l.contains (.ref C) = false) : PySem.W.kitOne K (.type T) (.ref C) = some false := by
  obtain ⟨cd, hc, _⟩ := Option.bind_eq_some_iff.mp I.mro
  unfold PySem.W.kitOne PySem.W.kitCls
  rw [if_neg (by simp)]
  dsimp only
  rw [hc, I.ty, if_pos (by simp)]
  unfold PySem.W.subIn
  dsimp only
  rw [h, Option.map_some, hl]
theorem WayI.yes {K : PySem.W.Frag} {C : Addr} : PySem.W.kitOne K (.ref C) (.ref C) = some true := by
  unfold PySem.W.kitOne
  rw [if_pos (by simp)]
def spEqW (C : Addr) : Sp := fun vs H Q _ => ∃ (x : Addr) (y : V) (n : Num) (s : Sto) (g : Int × Int), vs = [.ref x, y] ∧ WayAt C H x n s g ∧ NumOk n ∧ StoOk n s ∧
  ((∃ (y' : Addr) (n' : Num) (s' : Sto) (g' : Int × Int), y = .ref y' ∧ WayAt C H y' n' s' g' ∧ NumOk n' ∧ StoOk n' s' ∧ Q (.bl (decide (n = n' ∧ s = s' ∧ g = g'))) H) ∨
   (((∃ i, y = .int i) ∨ (∃ a xs, y = .ref a ∧ H a = some (.tup xs)) ∨ y = .non) ∧ Q (.bl false) H))
theorem way_dec (n n' : Num) (s s' : Sto) (g g' : Int × Int) : decide (n = n' ∧ s = s' ∧ g = g') = (decide (V.int n.hold = V.int n'.hold) && (decide (V.int n.miss = V.int n'.miss) && (decide (V.int n.bound = V.int n'.bound) && (PyData.eqv (stoD s) (stoD s') && PyData.eqv (.tuple [.int g.1, .int g.2]) (.tuple [.int g'.1, .int g'.2]))))) := by
  rw [sto_eqv, gone_eqv, Bool.eq_iff_iff]
  obtain ⟨h1, m1, b1⟩ := n
  obtain ⟨h2, m2, b2⟩ := n'
  simp only [Bool.and_eq_true, decide_eq_true_eq, V.int.injEq, Num.mk.injEq]
  constructor
  · rintro ⟨⟨a, b, c⟩, d, e⟩
    exact ⟨a, b, c, d, e⟩
  · rintro ⟨a, b, c, d, e⟩
    exact ⟨⟨a, b, c⟩, d, e⟩
def numT (i : Int) : Str := ((toString i : String) : Str)
theorem num_len_all : ∀ n : Fin 64, (numT ((n.val : Nat) : Int)).length ≤ 2 := by decide +kernel
theorem num_len {i : Int} (h0 : 0 ≤ i) (h1 : i < 64) : (numT i).length ≤ 2 := by
  have z := num_len_all ⟨i.toNat, by omega⟩
  have e : (((⟨i.toNat, by omega⟩ : Fin 64).val : Nat) : Int) = i := by show ((i.toNat : Nat) : Int) = i; omega
  rw [e] at z
  exact z
theorem num_log {i : Int} (h0 : 0 ≤ i) (h1 : i < 64) : i.natAbs.log2 < 1920 := by
  by_cases z : i.natAbs = 0
  · rw [z]; decide
  · have := (Nat.log2_lt z).mpr (show i.natAbs < 2 ^ 10 by omega)
    omega
/-- a way's repr -/
def wayT (n : Num) : Str := Str.empty ++ "Way(" ++ numT n.hold ++ ", " ++ numT n.miss ++ ", " ++ numT n.bound ++ ")"
def spReprW (C : Addr) : Sp := fun vs H Q _ => ∃ (x : Addr) (n : Num) (s : Sto) (g : Int × Int), vs = [.ref x] ∧ WayAt C H x n s g ∧ NumOk n ∧ Q (.str (wayT n)) H
section
variable {P : Program} {w : World} {K : PySem.W.Frag} {mg : Str → Option Value} {base : Heap} {f C : Addr} {fd : FuncData}
theorem ok_eqW (O : Own mg) (T : WayC K C) (TI : WayI K C) (mC : mg "Way" = some (.ref C)) (F : Fun K "__eq__" "Way.__eq__" sEqW f fd) : FnOk P w K mg base CX0 1 f fd ["self", "other"] (spEqW C) := by
  refine F.ok scEqW (fun vs H Q E h => ?_) (fun cdv A outer s H vs Q E hr h => ?_)
  · obtain ⟨x, y, n, s, g, rfl, _⟩ := h
    rfl
  obtain ⟨x, y, n, st, g, rfl, hW, hN, hS, q⟩ := h
  obtain ⟨dx, k, ga, hx, hK, hg⟩ := id hW
  refine ⟨_, pss_one (ps_ret (pe_and (pe_callB call_isi rfl O.isi (by decide +kernel) (pa_cons (pv 1) (pa_cons (pe_glob (v := .ref C) rfl mC rfl) pa_nil)))
    (pe_and (pe_cmpR op_eq (pe_fld (pv 0) rfl) (pe_fld (pv 1) rfl) (nomark _)) (pe_and (pe_cmpR op_eq (pe_fld (pv 0) rfl) (pe_fld (pv 1) rfl) (nomark _)) (pe_and (pe_cmpR op_eq (pe_fld (pv 0) rfl) (pe_fld (pv 1) rfl) (nomark _))
    (pe_and (pe_cmpR (op_eqD hr.units) (pe_fld (pv 0) rfl) (pe_fld (pv 1) rfl) (nomark _)) (pe_one (pe_cmpR (op_eqD hr.units) (pe_fld (pv 0) rfl) (pe_fld (pv 1) rfl) (nomark _))))))))), ?_⟩
  rcases q with ⟨y', n', s', g', rfl, hW', hN', hS', q⟩ | ⟨hy, q⟩
  · obtain ⟨dx', k', ga', hx', hK', hg'⟩ := id hW'
    rw [way_dec] at q
    refine ⟨_, rfl, _, _, _, _, true, rfl, .own C, .base (.ins hx' T.cl TI.cls TI.get TI.tk TI.mro), WayI.yes, _, rfl, itT rfl ?_⟩
    refine ⟨_, rfl, x, C, dx, _, _, rfl, hx, T.cl, T.n1, wf_hold, _, rfl, y', C, dx', _, _, rfl, hx', T.cl, T.n1, wf_hold, rfl, _, rfl, ?_⟩
    cases h1 : decide (V.int n.hold = V.int n'.hold) with
    | false => rw [h1] at q; exact itF rfl q
    | true =>
      rw [h1] at q
      refine itT rfl ⟨_, rfl, x, C, dx, _, _, rfl, hx, T.cl, T.n2, wf_miss, _, rfl, y', C, dx', _, _, rfl, hx', T.cl, T.n2, wf_miss, rfl, _, rfl, ?_⟩
      cases h2 : decide (V.int n.miss = V.int n'.miss) with
      | false => rw [h2] at q; exact itF rfl q
      | true =>
        rw [h2] at q
        refine itT rfl ⟨_, rfl, x, C, dx, _, _, rfl, hx, T.cl, T.n3, wf_bound, _, rfl, y', C, dx', _, _, rfl, hx', T.cl, T.n3, wf_bound, rfl, _, rfl, ?_⟩
        cases h3 : decide (V.int n.bound = V.int n'.bound) with
        | false => rw [h3] at q; exact itF rfl q
        | true =>
          rw [h3] at q
          refine itT rfl ⟨_, rfl, x, C, dx, _, _, rfl, hx, T.cl, T.n4, wf_kept, _, rfl, y', C, dx', _, _, rfl, hx', T.cl, T.n4, wf_kept, _, _, hK.dp, hK'.dp, (sto_tm hN hS).shaped (by decide), (sto_tm hN' hS').shaped (by decide), _, rfl, ?_⟩
          cases h4 : PyData.eqv (stoD st) (stoD s') with
          | false => rw [h4] at q; exact itF rfl q
          | true =>
            rw [h4] at q
            exact itT rfl ⟨_, rfl, x, C, dx, _, _, rfl, hx, T.cl, T.n5, wf_gone, _, rfl, y', C, dx', _, _, rfl, hx', T.cl, T.n5, wf_gone, _, _, .tup (SqT.of hg) (.cons (.int _) (.cons (.int _) .nil)), .tup (SqT.of hg') (.cons (.int _) (.cons (.int _) .nil)), gone_shaped _ _, gone_shaped _ _, q⟩
  · rcases hy with ⟨i, rfl⟩ | ⟨a, xs, rfl, ha⟩ | rfl
    · exact ⟨_, rfl, _, _, _, _, false, rfl, .own C, .base (.int i), TI.not mro_int (by simp), _, rfl, itF rfl q⟩
    · exact ⟨_, rfl, _, _, _, _, false, rfl, .own C, .base (.tup ha), TI.not mro_tuple (by simp), _, rfl, itF rfl q⟩
    · exact ⟨_, rfl, _, _, _, _, false, rfl, .own C, .base .non, TI.not mro_none (by simp), _, rfl, itF rfl q⟩
theorem ok_reprW (T : WayC K C) (F : Fun K "__repr__" "Way.__repr__" sReprW f fd) : FnOk P w K mg base CX0 1 f fd ["self"] (spReprW C) := by
  refine F.ok scReprW (fun vs H Q E h => ?_) (fun cdv A outer s H vs Q E hr h => ?_)
  · obtain ⟨x, n, s, g, rfl, _⟩ := h
    rfl
  obtain ⟨x, n, st, g, rfl, ⟨dx, k, ga, hx, hK, hg⟩, hN, q⟩ := h
  have a1 := hN.h1
  have a2 := hN.m1
  have a3 := hN.b1
  have z1 := hN.h0
  have z2 := hN.m0
  have z3 := hN.b0
  have l1 := num_len (i := n.hold) (by omega) (by omega)
  have l2 := num_len (i := n.miss) (by omega) (by omega)
  have l3 := num_len (i := n.bound) (by omega) (by omega)
  have c0 : (Str.empty : Str).length = 0 := rfl
  have c1 : ("Way(" : Str).length = 4 := by decide +kernel
  have c2 : (", " : Str).length = 2 := by decide +kernel
  have c3 : (")" : Str).length = 1 := by decide +kernel
  have few : ∀ {m : Nat}, m ≤ 100 → m ≤ sizeLine := fun h => small (by omega)
  refine ⟨_, pss_one (ps_ret (pe_joined (.cons pe_str (.cons (pe_fmt (pe_fld (pv 0) rfl)) (.cons pe_str (.cons (pe_fmt (pe_fld (pv 0) rfl)) (.cons pe_str (.cons (pe_fmt (pe_fld (pv 0) rfl)) (.cons pe_str .nil))))))))), ?_⟩
  refine ⟨_, rfl, few (by rw [Str.length_append, c0, c1]; decide), _, rfl, x, C, dx, _, _, rfl, hx, T.cl, T.n1, wf_hold, .inr ⟨n.hold, rfl, num_log (by omega) (by omega), ?_⟩⟩
  refine ⟨_, rfl, few (by show (Str.empty ++ "Way(" ++ numT n.hold).length ≤ 100; rw [Str.length_append, Str.length_append, c0, c1]; omega), ?_⟩
  refine ⟨_, rfl, few (by show (Str.empty ++ "Way(" ++ numT n.hold ++ ", ").length ≤ 100; rw [Str.length_append, Str.length_append, Str.length_append, c0, c1, c2]; omega), _, rfl, x, C, dx, _, _, rfl, hx, T.cl, T.n2, wf_miss, .inr ⟨n.miss, rfl, num_log (by omega) (by omega), ?_⟩⟩
  refine ⟨_, rfl, few (by show (Str.empty ++ "Way(" ++ numT n.hold ++ ", " ++ numT n.miss).length ≤ 100; rw [Str.length_append, Str.length_append, Str.length_append, Str.length_append, c0, c1, c2]; omega), ?_⟩
  refine ⟨_, rfl, few (by show (Str.empty ++ "Way(" ++ numT n.hold ++ ", " ++ numT n.miss ++ ", ").length ≤ 100; rw [Str.length_append, Str.length_append, Str.length_append, Str.length_append, Str.length_append, c0, c1, c2]; omega), _, rfl, x, C, dx, _, _, rfl, hx, T.cl, T.n3, wf_bound, .inr ⟨n.bound, rfl, num_log (by omega) (by omega), ?_⟩⟩
  refine ⟨_, rfl, few (by show (Str.empty ++ "Way(" ++ numT n.hold ++ ", " ++ numT n.miss ++ ", " ++ numT n.bound).length ≤ 100; rw [Str.length_append, Str.length_append, Str.length_append, Str.length_append, Str.length_append, Str.length_append, c0, c1, c2]; omega), ?_⟩
  exact ⟨_, rfl, few (by show (Str.empty ++ "Way(" ++ numT n.hold ++ ", " ++ numT n.miss ++ ", " ++ numT n.bound ++ ")").length ≤ 100; rw [Str.length_append, Str.length_append, Str.length_append, Str.length_append, Str.length_append, Str.length_append, Str.length_append, c0, c1, c2, c3]; omega), q⟩
end
/-- what else a way can be asked -/
structure WayE (P : Program) (w : World) (K : PySem.W.Frag) (mg : Str → Option Value) (base : Heap) (C : Addr) : Prop where
  eq : EqD P w K mg base C 1 (spEqW C)
  re : ReD P w K mg base C 1 (spReprW C)
  ln : LenD P w K mg base C
  pl : Mf0 P w K mg base C 2 "is_plain" ["self"] [] (spIsPlain C)
end Any
namespace Any
open L2 PySem PySem.Spec PyProof.Rows
abbrev psInit : List Str := ["self", "hold", "miss", "bound"]
abbrev kwsI : List (Str × V) := [("miss", .int 1), ("bound", .int 10)]
abbrev kwsB (lz : Addr) : List (Str × V) := [("word", .non), ("taking", .bl false), ("lost", .ref lz)]
/-- a class made with what stands in the call, the rest by default -/
def Mk0 (P : Program) (w : World) (K : PySem.W.Frag) (mg : Str → Option Value) (base : Heap) (k : Nat) (x : Str) (C : Addr) (ps : List Str) (dvs : List V) (sp : Sp) : Prop :=
  ∃ f fd ds, mg x = some (.ref C) ∧ Mk K C f ∧ FnOk P w K mg base CX0 k f fd ps sp ∧ Binds K fd ps ds ∧ Vals dvs ds
section
variable {X : Cx} {k n : Nat} {x m : Str} {C : Addr} {ps ks : List Str} {sp : Sp} {dvs : List V} {p pos apos : Pos} {e o : Expr} {es : List Expr} {t tk : TA} {ta : TE}
theorem pe_C0 (D : Mk0 X.prog X.w X.K X.mg X.base k x C ps dvs sp) (hr : Room (k + 1) X.A) (hg : Gl X x) (ha : PA X (e :: es) t) (hdb : (x == ("__debug__" : Str)) = false := by decide)
    (he : starEach (e :: es) X.env = (false, eval e X.env) :: starEach es X.env := by rfl) (hpl : (backTo pos (starEach es X.env)).any (·.1) = false := by rfl) : PE X (.Call (.Name x p) (e :: es) [] pos) (tMake C sp dvs E0 t) := by
  obtain ⟨f, fd, ds, hm, M, F, hb, hd⟩ := D
  exact pe_make M F hr hg hm hb hd pass0 ha hdb he hpl
end
/-- how ways are made -/
structure WayM (P : Program) (w : World) (K : PySem.W.Frag) (mg : Str → Option Value) (base : Heap) (C : Addr) : Prop where
  mb : MkK P w K mg base 3 "Way" C 1 psInit ["miss", "bound"] (fun vs zs => vs ++ zs) (spInit C)
  bm : MkK P w K mg base 3 "Way" C 1 psInit ["bound", "miss"] (fun vs zs => vs ++ zs.reverse) (spInit C)
  b : MkK P w K mg base 3 "Way" C 1 psInit ["bound"] (fun vs zs => vs ++ [.int 1] ++ zs) (spInit C)
  m : MkK P w K mg base 3 "Way" C 1 psInit ["miss"] (fun vs zs => vs ++ zs ++ [.int 10]) (spInit C)
  o : Mk0 P w K mg base 3 "Way" C psInit [.int 1, .int 10] (spInit C)
section
variable {K : PySem.W.Frag} {f : Addr} {fd : FuncData}
theorem kb_init {kws : List (Str × V)} (F : FunD K "__init__" "Way.__init__" (defArgs sInit) (defBody sInit) (defScope sInit) [] kws f fd) : KBn K fd psInit 2 ["miss", "bound"] (fun us ws => us ++ ws) (fun us ws => us ++ ws) := by
  obtain ⟨oc, od, dV, kV, doc, pm, an, cdv, ct, osl, rfl, lk, hcd, hD, hK⟩ := F.ex
  have hd : dV = .none := hD.elim (fun z => z.2) (fun z => absurd rfl z.1)
  subst hd
  refine ⟨fun s us ws _ l1 l2 => ?_, fun r1 r2 => r1.append r2⟩
  match us, ws, l1, l2 with
  | [u1, u2], [w1, w2], _, _ => exact .of_eq rfl
theorem kb_initR {kws : List (Str × V)} (F : FunD K "__init__" "Way.__init__" (defArgs sInit) (defBody sInit) (defScope sInit) [] kws f fd) : KBn K fd psInit 2 ["bound", "miss"] (fun us ws => us ++ ws.reverse) (fun us ws => us ++ ws.reverse) := by
  obtain ⟨oc, od, dV, kV, doc, pm, an, cdv, ct, osl, rfl, lk, hcd, hD, hK⟩ := F.ex
  have hd : dV = .none := hD.elim (fun z => z.2) (fun z => absurd rfl z.1)
  subst hd
  refine ⟨fun s us ws _ l1 l2 => ?_, fun r1 r2 => r1.append r2.reverse⟩
  match us, ws, l1, l2 with
  | [u1, u2], [w1, w2], _, _ => exact .of_eq rfl
theorem kb_initB (F : FunD K "__init__" "Way.__init__" (defArgs sInit) (defBody sInit) (defScope sInit) [] kwsI f fd) : ∃ mv : List Value, KBn K fd psInit 2 ["bound"] (fun us ws => us ++ mv ++ ws) (fun vs zs => vs ++ [.int 1] ++ zs) := by
  refine F.kbinds0 2 ["bound"] [("miss", .int 1)] (fun us mv ws => us ++ mv ++ ws) (by simp) (by simp) (fun r1 r2 r3 => (r1.append r2).append r3) fun D doc pm an cdv ct us mv ws l1 l2 l3 => ?_
  match us, mv, ws, l1, l2, l3 with
  | [u1, u2], [m1], [w1], _, _, _ => exact ⟨_, _, _, _, _, _, rfl, rfl, rfl⟩
theorem kb_initM (F : FunD K "__init__" "Way.__init__" (defArgs sInit) (defBody sInit) (defScope sInit) [] kwsI f fd) : ∃ mv : List Value, KBn K fd psInit 2 ["miss"] (fun us ws => us ++ ws ++ mv) (fun vs zs => vs ++ zs ++ [.int 10]) := by
  refine F.kbinds0 2 ["miss"] [("bound", .int 10)] (fun us mv ws => us ++ ws ++ mv) (by simp) (by simp) (fun r1 r2 r3 => (r1.append r3).append r2) fun D doc pm an cdv ct us mv ws l1 l2 l3 => ?_
  match us, mv, ws, l1, l2, l3 with
  | [u1, u2], [m1], [w1], _, _, _ => exact ⟨_, _, _, _, _, _, rfl, rfl, rfl⟩
theorem kb_init0 (F : FunD K "__init__" "Way.__init__" (defArgs sInit) (defBody sInit) (defScope sInit) [] kwsI f fd) : ∃ ds, Vals [.int 1, .int 10] ds ∧ Binds K fd psInit ds := by
  refine F.binds0 2 (by simp) rfl fun D doc pm an cdv ct us ks l1 l2 => ?_
  match us, ks, l1, l2 with
  | [u1, u2], [w1, w2], _, _ => exact ⟨_, _, _, _, _, _, rfl, rfl, _, _, _, _, _, _, rfl, rfl, rfl⟩
theorem kb_beatA {kws : List (Str × V)} (F : FunD K "beat" "Way.beat" (defArgs sBeat) (defBody sBeat) (defScope sBeat) [] kws f fd) : KBn K fd psBeat 1 ["word", "taking", "lost"] (fun us ws => us ++ ws) (fun us ws => us ++ ws) := by
  obtain ⟨oc, od, dV, kV, doc, pm, an, cdv, ct, osl, rfl, lk, hcd, hD, hK⟩ := F.ex
  have hd : dV = .none := hD.elim (fun z => z.2) (fun z => absurd rfl z.1)
  subst hd
  refine ⟨fun s us ws _ l1 l2 => ?_, fun r1 r2 => r1.append r2⟩
  match us, ws, l1, l2 with
  | [u1], [w1, w2, w3], _, _ => exact .of_eq rfl
theorem kb_beatLW {lz : Addr} (F : FunD K "beat" "Way.beat" (defArgs sBeat) (defBody sBeat) (defScope sBeat) [] (kwsB lz) f fd) : ∃ mv : List Value, KBn K fd psBeat 1 ["lost", "word"] (fun us ws => us ++ ws.drop 1 ++ mv ++ ws.take 1) (fun vs zs => vs ++ zs.drop 1 ++ [.bl false] ++ zs.take 1) := by
  refine F.kbinds0 1 ["lost", "word"] [("taking", .bl false)] (fun us mv ws => us ++ ws.drop 1 ++ mv ++ ws.take 1) (by simp) (by simp) (fun r1 r2 r3 => ((r1.append (r3.drop 1)).append r2).append (r3.take 1)) fun D doc pm an cdv ct us mv ws l1 l2 l3 => ?_
  match us, mv, ws, l1, l2, l3 with
  | [u1], [m1], [w1, w2], _, _, _ => exact ⟨_, _, _, _, _, _, rfl, rfl, rfl⟩
theorem kb_beat0 {lz : Addr} (F : FunD K "beat" "Way.beat" (defArgs sBeat) (defBody sBeat) (defScope sBeat) [] (kwsB lz) f fd) : ∃ ds, Vals [.non, .bl false, .ref lz] ds ∧ Binds K fd psBeat ds := by
  refine F.binds0 1 (by simp) rfl fun D doc pm an cdv ct us ks l1 l2 => ?_
  match us, ks, l1, l2 with
  | [u1], [w1, w2, w3], _, _ => exact ⟨_, _, _, _, _, _, rfl, rfl, _, _, _, _, _, _, rfl, rfl, _, _, _, _, _, _, rfl, rfl, rfl⟩
theorem kb_initA {kws : List (Str × V)} (F : FunD K "__init__" "Way.__init__" (defArgs sInit) (defBody sInit) (defScope sInit) [] kws f fd) : KBn K fd psInit 1 ["hold", "miss", "bound"] (fun us ws => us ++ ws) (fun us ws => us ++ ws) := by
  obtain ⟨oc, od, dV, kV, doc, pm, an, cdv, ct, osl, rfl, lk, hcd, hD, hK⟩ := F.ex
  have hd : dV = .none := hD.elim (fun z => z.2) (fun z => absurd rfl z.1)
  subst hd
  refine ⟨fun s us ws _ l1 l2 => ?_, fun r1 r2 => r1.append r2⟩
  match us, ws, l1, l2 with
  | [u1], [w1, w2, w3], _, _ => exact .of_eq rfl
end
end Any
set_option maxHeartbeats 1000000
namespace Any
open L2 PySem PySem.Spec PyProof.Rows
/-! ### things of any kind -/
def wholeV : V → Bool
  | .int _ => true
  | _ => false
def withinV (v : V) (l m : Int) : Bool := match v with
  | .int i => decide (l ≤ i) && decide (i ≤ m)
  | _ => false
inductive Odd (H : Hp) : V → Prop
  | non : Odd H .non
  | str (x : Str) : Odd H (.str x)
  | dct {a : Addr} {kvs : List (Key × V)} (h : H a = some (.dK kvs)) : Odd H (.ref a)
  | tup {a : Addr} {xs : List V} (h : H a = some (.tup xs)) : Odd H (.ref a)
  | lst {a : Addr} {xs : List V} (h : H a = some (.lst xs)) : Odd H (.ref a)
inductive Thg (H : Hp) : V → Prop
  | int (i : Int) : Thg H (.int i)
  | bl (b : Bool) : Thg H (.bl b)
  | odd {v : V} (h : Odd H v) : Thg H v
theorem Odd.ty {K : PySem.W.Frag} {H : Hp} {v : V} (h : Odd H v) : ∃ t, TyX K H v t ∧ PySem.W.kitOne K t (.type "int") = some false ∧ wholeV v = false := by
  cases h with
  | non => exact ⟨_, .base .non, kb "NoneType" "int" false, rfl⟩
  | str x => exact ⟨_, .base (.str x), kb "str" "int" false, rfl⟩
  | dct h => exact ⟨_, .base (.dK h), kb "dict" "int" false, rfl⟩
  | tup h => exact ⟨_, .base (.tup h), kb "tuple" "int" false, rfl⟩
  | lst h => exact ⟨_, .base (.lst h), kb "list" "int" false, rfl⟩
theorem Odd.keep {H H' : Hp} {v : V} (h : Odd H v) (s : Same H H') : Odd H' v := by
  cases h with
  | non => exact .non
  | str x => exact .str x
  | dct h => exact .dct (s _ _ h)
  | tup h => exact .tup (s _ _ h)
  | lst h => exact .lst (s _ _ h)
theorem Thg.keep {H H' : Hp} {v : V} (h : Thg H v) (s : Same H H') : Thg H' v := by
  cases h with
  | int i => exact .int i
  | bl b => exact .bl b
  | odd h => exact .odd (h.keep s)
theorem within_no {v : V} (n : wholeV v = false) (l m : Int) : withinV v l m = false := by cases v <;> first | rfl | cases n
def spWholeX : Sp := fun vs H Q _ => ∃ v, vs = [v] ∧ Thg H v ∧ Q (.bl (wholeV v)) H
def spWithinX : Sp := fun vs H Q _ => ∃ v l m, vs = [v, .int l, .int m] ∧ Thg H v ∧ Q (.bl (withinV v l m)) H
/-- why no way is made of these -/
def whyB (v1 v2 v3 : V) : Option Str := if withinV v1 1 6 = true then if withinV v2 1 4 = true then if withinV v3 1 40 = true then none else some "bound" else some "miss" else some "hold"
section
variable {P : Program} {w : World} {K : PySem.W.Frag} {mg : Str → Option Value} {base : Heap} {f g C CN : Addr} {fd gd : FuncData}
theorem ok_wholeX (O : Own mg) (F : Fun K "is_whole" "is_whole" sWhole f fd) : FnOk P w K mg base CX0 1 f fd ["thing"] spWholeX := by
  refine F.ok scWhole (fun vs H Q E h => ?_) (fun cdv A outer s H vs Q E hr h => ?_)
  · obtain ⟨i, rfl, _⟩ := h
    rfl
  obtain ⟨v, rfl, th, q⟩ := h
  refine ⟨_, pss_one (ps_ret (pe_and (pe_callB call_isi rfl O.isi (by decide +kernel) (pa_cons (pv 0) (pa_cons (pe_bltn (v := .ty "int") rfl O.int (by decide +kernel) rfl) pa_nil)))
    (pe_one (pe_not (pe_callB call_isi rfl O.isi (by decide +kernel) (pa_cons (pv 0) (pa_cons (pe_bltn (v := .ty "bool") rfl O.bool (by decide +kernel) rfl) pa_nil))))))), ?_⟩
  cases th with
  | int i => exact ⟨_, rfl, _, _, _, _, true, rfl, .ty "int", .base (.int i), kb "int" "int" true, _, rfl, _, rfl, _, _, _, _, false, rfl, .ty "bool", .base (.int i), kb "int" "bool" false, _, rfl, q⟩
  | bl b => exact ⟨_, rfl, _, _, _, _, true, rfl, .ty "int", .base (.bl b), kb "bool" "int" true, _, rfl, _, rfl, _, _, _, _, true, rfl, .ty "bool", .base (.bl b), kb "bool" "bool" true, _, rfl, q⟩
  | odd h =>
    obtain ⟨t, ty, k, n⟩ := h.ty (K := K)
    rw [n] at q
    exact ⟨_, rfl, _, _, _, _, false, rfl, .ty "int", ty, k, _, rfl, q⟩
theorem ok_withinX (F : Fun K "is_within" "is_within" sWithin f fd) (G : Df P w K mg base 1 "is_whole" ["thing"] spWholeX) : FnOk P w K mg base CX0 2 f fd ["thing", "least", "most"] spWithinX := by
  refine F.ok scWithin (fun vs H Q E h => ?_) (fun cdv A outer s H vs Q E hr h => ?_)
  · obtain ⟨i, l, m, rfl, _⟩ := h
    rfl
  obtain ⟨v, l, m, rfl, th, q⟩ := h
  refine ⟨_, pss_one (ps_ret (pe_and (pe_D G hr rfl (pa_cons (pv 0) pa_nil)) (pe_one (pe_chain op_le op_le (pv 1) (pv 0) (pv 2))))), ?_⟩
  refine ⟨_, rfl, v, rfl, th, _, rfl, ?_⟩
  cases th with
  | int i =>
    refine itT rfl ⟨_, rfl, _, rfl, _, _, rfl, rfl, _, rfl, ?_⟩
    have q : Q (.bl (decide (l ≤ i) && decide (i ≤ m))) H := q
    refine ite2 (fun c => ?_) (fun c => ?_)
    · rw [c] at q
      exact ⟨_, rfl, _, _, rfl, rfl, q⟩
    · rw [Bool.eq_false_iff.mpr c] at q
      exact q
  | bl b => exact itF rfl q
  | odd h =>
    obtain ⟨t, ty, k, n⟩ := h.ty (K := K)
    rw [within_no n] at q
    exact itF n q
/-! ### the exception -/
abbrev sNW : Stmt := inClass (top 2) 0
theorem scNW : FnScope ["self", "why"] ["self", "why"] (defScope sNW) := ⟨rfl, rfl, rfl, by decide +kernel, rfl, by decide +kernel, by decide +kernel⟩
def spNW (CN : Addr) : Sp := fun vs H Q _ => ∃ a y, vs = [.ref a, .str y] ∧ y.length ≤ 100 ∧ H a = some (exo a CN none) ∧
  ∀ dx, H dx = none → dx ≠ a → Q .non (upd (upd H dx (exd dx [("why", .str y)])) a (exo a CN (some dx)))
/-- what is known of NoWay -/
structure NoWayC (K : PySem.W.Frag) (CN : Addr) : Prop where
  oex : OexC K CN
  no : PySem.W.findIn K (.ref CN) "why" = some none
  xf : XfC K CN
  ex : ExcC K CN
  ve : PySem.W.kitOne K (.ref CN) (.type "ValueError") = some true
  me : PySem.W.exmOne K (.ref CN) (.ref CN) = some true
theorem ok_nw (T : NoWayC K CN) (mV : mg "ValueError" = none) (vV : PySem.W.findCls K (.type "ValueError") (.type "type") "__init__" = some (.val (.builtin "ValueError.__init__"))) (F : Fun K "__init__" "NoWay.__init__" sNW f fd) : FnOk P w K mg base CX0 1 f fd ["self", "why"] (spNW CN) := by
  refine F.ok scNW (fun vs H Q E h => ?_) (fun cdv A outer s H vs Q E hr h => ?_)
  · obtain ⟨a, y, rfl, _⟩ := h
    rfl
  obtain ⟨a, y, rfl, hy, ha, q⟩ := h
  have few : ∀ {m : Nat}, m ≤ 1000 → m ≤ sizeLine := fun h => small h
  refine ⟨_, PSs.nox (pss_cons (ps_expr (pe_veinit rfl mV vV (pa_cons (pv 0) (pa_cons (pe_joined (.cons pe_str (.cons (pe_fmt (pv 1)) .nil))) pa_nil)))) (pss_one (ps_ost (pv 0) (pv 1)))), ?_⟩
  have c0 : (Str.empty : Str).length = 0 := rfl
  have c1 : ("no way: " : Str).length = 8 := by decide +kernel
  refine ⟨_, rfl, ?_⟩
  refine ⟨_, rfl, few (by rw [Str.length_append, c0, c1]; decide), _, rfl, .inl ⟨y, rfl, ?_⟩⟩
  refine ⟨few (by omega), _, rfl, few (by show (Str.empty ++ "no way: " ++ y).length ≤ 1000; rw [Str.length_append, Str.length_append, c0, c1]; omega), ?_⟩
  refine ⟨a, CN, _, rfl, by show 1 ≤ 1000; decide, T.oex, ha, ?_⟩
  exact ⟨_, rfl, _, rfl, a, CN, rfl, T.oex, T.no, .inl ⟨ha, fun dx h1 h2 => q dx h1 h2⟩⟩
end
end Any
set_option maxHeartbeats 1000000
namespace Any
open L2 PySem PySem.Spec PyProof.Rows
def spInitX (C CN : Addr) : Sp := fun vs H Q E => ∃ (x dx : Addr) (v1 v2 v3 : V), vs = [.ref x, v1, v2, v3] ∧ Thg H v1 ∧ Thg H v2 ∧ Thg H v3 ∧ H x = some (.ins C dx []) ∧
  (whyB v1 v2 v3 = none → ∀ H', Kept x H H' → Q .non H') ∧ ∀ y, whyB v1 v2 v3 = some y → ∀ d H', Same H H' → H' d = some (.xd [("why", .str y)]) → E (.ref CN) (some d) H'
theorem within_yes {v : V} {l m : Int} (h : withinV v l m = true) : ∃ i, v = .int i ∧ l ≤ i ∧ i ≤ m := by
  cases v <;> first | cases h | skip
  rename_i i
  unfold withinV at h
  rw [Bool.and_eq_true, decide_eq_true_eq, decide_eq_true_eq] at h
  exact ⟨i, rfl, h.1, h.2⟩
section
variable {P : Program} {w : World} {K : PySem.W.Frag} {mg : Str → Option Value} {base : Heap} {f g C CN nf : Addr} {fd gd nd : FuncData}
/-- what comes of raise NoWay(y) -/
theorem nw_made {H : Hp} {y : Str} {E : XK} (hy : y.length ≤ 100) (h : ∀ d H', Same H H' → H' d = some (.xd [("why", .str y)]) → E (.ref CN) (some d) H') :
    ([V.str y] : List V).length ≤ 1000 ∧ ∀ a, H a = none → spNW CN (.ref a :: ([V.str y] ++ [])) (upd H a (exo a CN none))
      (fun v H2 => v = .non ∧ ∃ (d : Addr) (fs : List (Str × V)), H2 a = some (exo a CN (some d)) ∧ H2 d = some (exd d fs) ∧ H d = none ∧ E (.ref CN) (some d) (upd (del H2 a) d (.xd fs))) (fun _ _ _ => False) := by
  refine ⟨by show 1 ≤ 1000; decide, fun a ha => ⟨a, y, rfl, hy, upd_same, fun dx h1 h2 => ⟨rfl, dx, [("why", .str y)], upd_same, ?_, ?_, ?_⟩⟩⟩
  · rw [upd_ne h2]
    exact upd_same
  · rw [upd_ne h2] at h1
    exact h1
  · refine h dx _ (fun b o hb => ?_) upd_same
    have hbd : b ≠ dx := by
      rw [upd_ne h2] at h1
      exact ne_of_none hb h1
    have hba : b ≠ a := ne_of_none hb ha
    rw [upd_ne hbd, del_ne hba, upd_ne hba, upd_ne hbd, upd_ne hba]
    exact hb
theorem ok_initX (M : Most mg) (T : WayC K C) (TN : NoWayC K CN) (iN : PySem.W.findIn K (.ref CN) "__init__" = some (some (.ref nf))) (tN : PySem.W.typeIn K (.ref nf) = some (.type "function")) (GN : FnOk P w K mg base CX0 1 nf nd ["self", "why"] (spNW CN)) (bN : Binds K nd ["self", "why"] []) (mN : mg "NoWay" = some (.ref CN))
    {kws : List (Str × V)} (F : FunD K "__init__" "Way.__init__" (defArgs sInit) (defBody sInit) (defScope sInit) [] kws f fd) (D1 : Df P w K mg base 2 "is_within" ["thing", "least", "most"] spWithinX) :
    FnOk P w K mg base (L2.CX P w) 3 f fd ["self", "hold", "miss", "bound"] (spInitX C CN) := by
  refine F.ok scInit (fun vs H Q E h => ?_) (fun cdv A outer s H vs Q E hr h => ?_)
  · obtain ⟨x, dx, v1, v2, v3, rfl, _⟩ := h
    rfl
  obtain ⟨x, dx, v1, v2, v3, rfl, t1', t2', t3', hx, q, qE⟩ := h
  obtain ⟨t1, m1⟩ := M.hold
  obtain ⟨t2, m2⟩ := M.miss
  obtain ⟨t3, m3⟩ := M.bound
  let X := cxOf (L2.CX P w) P w K mg base ["self", "hold", "miss", "bound"] "Way.__init__" (defScope sInit) f cdv A outer s H E
  have tk : Takes X (fun cls d _ H => E cls d H) := takes_of rfl rfl rfl rfl
  have hr2 : Room 2 X.A := hr
  refine ⟨_, pss_cons (ps_if (pt_not (pt_val (pe_D D1 hr rfl (pa_cons (pv 1) (pa_cons pe_int (pa_cons (pe_glob (v := .int 6) rfl m1 ⟨_, rfl⟩) pa_nil)))))) (pss_one (ps_raise rfl tk (pmk_oex TN.oex iN tN GN hr2 bN .nil pass0 rfl mN (pa_cons pe_str pa_nil)))) pss_nil)
    (pss_cons (ps_if (pt_not (pt_val (pe_D D1 hr rfl (pa_cons (pv 2) (pa_cons pe_int (pa_cons (pe_glob (v := .int 4) rfl m2 ⟨_, rfl⟩) pa_nil)))))) (pss_one (ps_raise rfl tk (pmk_oex TN.oex iN tN GN hr2 bN .nil pass0 rfl mN (pa_cons pe_str pa_nil)))) pss_nil)
    (pss_cons (ps_if (pt_not (pt_val (pe_D D1 hr rfl (pa_cons (pv 3) (pa_cons pe_int (pa_cons (pe_glob (v := .int 40) rfl m3 ⟨_, rfl⟩) pa_nil)))))) (pss_one (ps_raise rfl tk (pmk_oex TN.oex iN tN GN hr2 bN .nil pass0 rfl mN (pa_cons pe_str pa_nil)))) pss_nil)
    (pss_cons (ps_fld (pv 0) (pv 1) rfl) (pss_cons (ps_fld (pv 0) (pv 2) rfl) (pss_cons (ps_fld (pv 0) (pv 3) rfl)
    (pss_cons (ps_fld (pv 0) (pe_tup (pa_cons pe_int (pa_cons pe_int (pa_cons pe_non (pa_cons (pe_tup pa_nil) (pa_cons pe_int (pa_cons pe_int (pa_cons pe_non (pa_cons (pe_tup pa_nil) pa_nil))))))))) rfl)
    (pss_one (ps_fld (pv 0) (pe_tup (pa_cons pe_int (pa_cons pe_int pa_nil))) rfl)))))))), ?_⟩
  refine ⟨_, rfl, v1, 1, 6, rfl, t1', _, rfl, ?_⟩
  cases w1 : withinV v1 1 6 with
  | false => exact itT rfl (nw_made (by decide) (qE "hold" (by unfold whyB; rw [w1]; rfl)))
  | true =>
  refine itF rfl ⟨_, rfl, v2, 1, 4, rfl, t2', _, rfl, ?_⟩
  cases w2 : withinV v2 1 4 with
  | false => exact itT rfl (nw_made (by decide) (qE "miss" (by unfold whyB; rw [w1, w2]; rfl)))
  | true =>
  refine itF rfl ⟨_, rfl, v3, 1, 40, rfl, t3', _, rfl, ?_⟩
  cases w3 : withinV v3 1 40 with
  | false => exact itT rfl (nw_made (by decide) (qE "bound" (by unfold whyB; rw [w1, w2, w3]; rfl)))
  | true =>
  refine itF rfl ?_
  have q0 := q (by unfold whyB; rw [w1, w2, w3]; rfl)
  clear q qE
  obtain ⟨i1, rfl, _⟩ := within_yes w1
  obtain ⟨i2, rfl, _⟩ := within_yes w2
  obtain ⟨i3, rfl, _⟩ := within_yes w3
  obtain ⟨n, rfl, rfl, rfl⟩ : ∃ n : Num, i1 = n.hold ∧ i2 = n.miss ∧ i3 = n.bound := ⟨⟨i1, i2, i3⟩, rfl, rfl, rfl⟩
  refine ⟨_, rfl, _, rfl, x, C, dx, _, rfl, hx, T.cl, T.n1, (by show 0 < 1000; decide), ?_⟩
  rw [fld0]
  refine ⟨_, rfl, _, rfl, x, C, dx, [("hold", .int n.hold)], rfl, upd_same, T.cl, T.n2, (by show 1 < 1000; decide), ?_⟩
  rw [fld1, upd2]
  refine ⟨_, rfl, _, rfl, x, C, dx, [("hold", .int n.hold), ("miss", .int n.miss)], rfl, upd_same, T.cl, T.n3, (by show 2 < 1000; decide), ?_⟩
  rw [fld2, upd2]
  have k1 : Kept x H (upd H x (.ins C dx [("hold", .int n.hold), ("miss", .int n.miss), ("bound", .int n.bound)])) := Kept.put _
  have e1 := @upd_same H x (.ins C dx [("hold", .int n.hold), ("miss", .int n.miss), ("bound", .int n.bound)])
  generalize upd H x (.ins C dx [("hold", .int n.hold), ("miss", .int n.miss), ("bound", .int n.bound)]) = H1 at *
  refine ⟨by show 0 ≤ sizeLine; decide, fun p1 hp1 => ⟨by show 0 ≤ sizeLine; decide, fun p2 hp2 => ⟨eight, fun p3 hp3 => ?_⟩⟩⟩
  have s1 := same_new hp1 (.tup [])
  have s2 := same_new hp2 (.tup [])
  have s3 := same_new hp3 (.tup [.int 0, .int 0, .non, .ref p1, .int 0, .int 0, .non, .ref p2])
  have a1 := s3 _ _ (s2 _ _ (@upd_same H1 p1 (.tup [])))
  have a2 := s3 _ _ (@upd_same (upd H1 p1 (.tup [])) p2 (.tup []))
  have a3 := @upd_same (upd (upd H1 p1 (.tup [])) p2 (.tup [])) p3 (.tup [.int 0, .int 0, .non, .ref p1, .int 0, .int 0, .non, .ref p2])
  have s13 := s1.trans (s2.trans s3)
  clear s3
  generalize upd (upd (upd H1 p1 (.tup [])) p2 (.tup [])) p3 (.tup [.int 0, .int 0, .non, .ref p1, .int 0, .int 0, .non, .ref p2]) = H4 at *
  refine ⟨_, rfl, x, C, dx, _, rfl, s13 _ _ e1, T.cl, T.n4, (by show 3 < 1000; decide), ?_⟩
  rw [fld3]
  have kX : Tups H4 (upd H4 x (.ins C dx [("hold", .int n.hold), ("miss", .int n.miss), ("bound", .int n.bound), ("kept", .ref p3)])) := fun b xs h => by rw [upd_ne (ne_of h (s13 _ _ e1) (by intro z; cases z))]; exact h
  have k5 : Kept x H (upd H4 x (.ins C dx [("hold", .int n.hold), ("miss", .int n.miss), ("bound", .int n.bound), ("kept", .ref p3)])) := k1.trans ((Kept.of s13).trans (Kept.put _))
  have e5 := @upd_same H4 x (.ins C dx [("hold", .int n.hold), ("miss", .int n.miss), ("bound", .int n.bound), ("kept", .ref p3)])
  have a1 := kX _ _ a1
  have a2 := kX _ _ a2
  have a3 := kX _ _ a3
  clear kX
  generalize upd H4 x (.ins C dx [("hold", .int n.hold), ("miss", .int n.miss), ("bound", .int n.bound), ("kept", .ref p3)]) = H5 at *
  refine ⟨two, fun p6 hp6 => ?_⟩
  have s6 := same_new hp6 (.tup [.int 0, .int 0])
  refine ⟨_, rfl, x, C, dx, _, rfl, s6 _ _ e5, T.cl, T.n5, (by show 4 < 1000; decide), ?_⟩
  rw [fld4]
  have kY : Tups (upd H5 p6 (.tup [.int 0, .int 0])) (upd (upd H5 p6 (.tup [.int 0, .int 0])) x (.ins C dx (wayF n p3 p6))) := fun b xs h => by rw [upd_ne (ne_of h (s6 _ _ e5) (by intro z; cases z))]; exact h
  exact q0 _ (k5.trans ((Kept.of s6).trans (Kept.put _)))
end
end Any
set_option maxHeartbeats 1000000
namespace Any
open L2 PySem PySem.Spec PyProof.Rows
/-! ### isinstance of a caught exception that has a dict -/
section
variable {X : Cx} {a D : Addr} {oe : Obj} {cls : Value} {d : Option Addr} {pn : List (Addr × Obj)}
/-- the class and the dict of what was caught -/
def Held (cls : Value) (d : Option Addr) (D : Addr) (H : Hp) : Prop := cls = .ref D ∧ ∃ (b : Addr) (fs : List (Str × V)), d = some b ∧ H b = some (.xd fs)
theorem held_kit (C : ExcC X.K D) (hz : Zc cls d oe) (hf : ∃ vs, oe.data = .fields vs) {pins : List (Addr × Obj)} {σ : L2.St} {H : Hp} {s : Shared} (I : Inv (X.suite a ((a, oe) :: pn)) pins σ H s) (h : Held cls d D H) :
    ∃ Pr : Heap → Prop, PySem.W.KitX X.K (.ref a) (.ref D) Pr ∧ Pr s.heap := by
  obtain ⟨rfl, b, fs, rfl, hb⟩ := h
  have at_ := (I.pin (a, oe) (List.mem_append_left _ List.mem_cons_self)).1
  obtain ⟨vs, ev⟩ := hf
  obtain ⟨mA, ns, _⟩ := (show ObjOk X.prog X.w H s.heap b (.xd fs) from I.hok b _ hb)
  obtain ⟨od, ho, _⟩ := lookIn_ns ns
  have hcl : (PySem.W.clsIn X.K D).isSome = true := by
    obtain ⟨cd, hc, _⟩ := PySem.W.any_some C.hd
    rw [hc]
    rfl
  refine ⟨_, PySem.W.kitx_exc (ox := oe) (od := some od) hcl C.hg C.hk C.hs C.ha C.hn C.ht C.hm, at_, hz.1, ?_, ?_⟩
  · unfold PySem.W.notCls
    rw [ev]
  · rw [hz.2]
    exact ho
theorem call_isX1 (C : ExcC X.K D) (hz : Zc cls d oe) (hf : ∃ vs, oe.data = .fields vs) : CallR (X.suite a ((a, oe) :: pn)) (.builtin "isinstance")
    (fun xs H Q => ∃ (c : V) (u : Value) (b : Bool), xs = [.ref a, c] ∧ Held cls d D H ∧ ClsV c u ∧ PySem.W.kitOne X.K (.ref D) u = some b ∧ Q (.bl b) H) := by
  intro pins s σ H xs us Q I r h
  obtain ⟨c, u, b, rfl, hh, cv, e, q⟩ := h
  obtain ⟨u1, u2, rfl, r1, r2⟩ := vals2 r
  obtain rfl := cv.eq r2
  cases r1
  obtain ⟨Pr, Z, z⟩ := held_kit C hz hf I hh
  exact PySem.W.kia_one Z I.kIn z e (fun z => nomatch z) fun tk => ⟨.bl b, H, I.tok tk, rfl, q⟩
theorem call_isXT (C : ExcC X.K D) (hz : Zc cls d oe) (hf : ∃ vs, oe.data = .fields vs) : CallR (X.suite a ((a, oe) :: pn)) (.builtin "isinstance")
    (fun xs H Q => ∃ (tp : Addr) (cs : List V) (us : List Value) (b : Bool), xs = [.ref a, .ref tp] ∧ Held cls d D H ∧ H tp = some (.tup cs) ∧ Paired ClsV cs us ∧ PySem.W.kitAny X.K (.ref D) us = some b ∧ Q (.bl b) H) := by
  intro pins s σ H xs us Q I r h
  obtain ⟨tp, cs, ws, b, rfl, hh, ht, pc, e, q⟩ := h
  obtain ⟨u1, u2, rfl, r1, r2⟩ := vals2 r
  cases r1
  cases r2
  obtain ⟨Pr, Z, z⟩ := held_kit C hz hf I hh
  obtain ⟨_, its, rv, ot, g1, g2, n, g3⟩ := (show ObjOk X.prog X.w H s.heap tp (.tup cs) from I.hok tp _ ht)
  obtain rfl := ClsV.all pc rv
  obtain ⟨tc, td, tdat, tsl⟩ := ot
  simp only at g2 g3
  subst g2 g3
  exact PySem.W.kia_tup Z I.kIn z g1 e (fun z => nomatch z) fun tk => ⟨.bl b, H, I.tok tk, rfl, q⟩
end
/-! ### _law_why -/
abbrev sWhy : Stmt := top 31
abbrev nmWhy : List Str := ["_law_size", "_law_gap", "_law_top", "e"]
abbrev psWhy : List Str := ["_law_size", "_law_gap", "_law_top"]
theorem scWhy : FnScope nmWhy psWhy (defScope sWhy) := ⟨rfl, rfl, rfl, by decide +kernel, rfl, by decide +kernel, by decide +kernel⟩
def whyV : Option Str → V
  | none => .non
  | some y => .str y
def spWhy : Sp := fun vs H Q _ => ∃ v1 v2 v3 : V, vs = [v1, v2, v3] ∧ Thg H v1 ∧ Thg H v2 ∧ Thg H v3 ∧ ∀ H', Same H H' → Q (whyV (whyB v1 v2 v3)) H'
section
variable {P : Program} {w : World} {K : PySem.W.Frag} {mg : Str → Option Value} {base : Heap} {f g C CN CS CM CY fI : Addr} {fd gd iD : FuncData}
theorem ok_why (O : Own mg) (TN : NoWayC K CN) (mN : mg "NoWay" = some (.ref CN)) (mV : mg "ValueError" = none) (mS : mg "NoStore" = some (.ref CS)) (mM : mg "NoNumber" = some (.ref CM)) (mY : mg "NoYard" = some (.ref CY))
    (no : PySem.W.kitAny K (.ref CN) [.ref CS, .ref CM, .ref CY] = some false) (mC : mg "Way" = some (.ref C)) (M : Mk K C fI) (GI : FnOk P w K mg base (L2.CX P w) 3 fI iD psInit (spInitX C CN)) (bI : KBn K iD psInit 2 ["miss", "bound"] (fun us ws => us ++ ws) (fun us ws => us ++ ws))
    (F : Fun K "_law_why" "_law_why" sWhy f fd) : FnOk P w K mg base CX0 5 f fd psWhy spWhy := by
  refine F.ok scWhy (fun vs H Q E h => ?_) (fun cdv A outer s H vs Q E hr h => ?_)
  · obtain ⟨v1, v2, v3, rfl, _⟩ := h
    rfl
  obtain ⟨v1, v2, v3, rfl, t1, t2, t3, q⟩ := h
  refine ⟨_, pss_cons (ps_try_as (i := 3) rfl rfl scWhy.nd rfl rfl ⟨rfl, by decide, .inl mN⟩ takes0
      (fun W pn xe tk _ => pss_one (ps_expr (pe_makeK (E := fun cls d H => ∀ σ : L2.St, σ.length = 4 → W cls d σ H) M GI hr rfl mC bI (fun pins σ H s e s' I c => tk e s' (XE.of_call I (fun cls d H' h => h σ I.len) c)) (pa_cons (pv 0) pa_nil) (pk_cons (pv 1) (pk_cons (pv 2) pk_nil)))))
      (fun a oe cls d pn hz hf => pss_cons (ps_if (PW.pt (pw_or (pt_not (pt_val (pe_callB (call_isX1 TN.ex hz hf) rfl O.isi (by decide +kernel) (pa_cons (pv 3) (pa_cons (pe_bltn (v := .ty "ValueError") rfl mV (by decide +kernel) rfl) pa_nil)))))
          (pw_or1 (pt_val (pe_callB (call_isXT TN.ex hz hf) rfl O.isi (by decide +kernel) (pa_cons (pv 3) (pa_cons (pe_tup (pa_cons (pe_glob (v := .ref CS) rfl mS rfl) (pa_cons (pe_glob (v := .ref CM) rfl mM rfl) (pa_cons (pe_glob (v := .ref CY) rfl mY rfl) pa_nil)))) pa_nil))))))) (pss_one (ps_ret pe_str)) pss_nil)
        (pss_one (ps_ret (pe_xf TN.xf TN.no hz hf (pv 3))))))
    (pss_one (ps_ret pe_non)), ?_⟩
  refine ⟨_, rfl, _, rfl, _, rfl, rfl, rfl, fun x dx hx hdx ne => ?_⟩
  have s1 : Same H (upd (upd H dx (.own x)) x (.ins C dx [])) := (same_new hdx _).trans (same_new (by rw [upd_ne ne.symm]; exact hx) _)
  refine ⟨x, dx, v1, v2, v3, rfl, t1.keep s1, t2.keep s1, t3.keep s1, upd_same, fun e H' k => ⟨rfl, ?_⟩, fun y e d H' s2 hd σ hl => ?_⟩
  · have z := q H' (fun b o hb => k b o (ne_of_none hb hx) (s1 _ _ hb))
    rw [e] at z
    exact z
  · have s2 := s1.trans s2
    match σ, hl with
    | [z0, z1, z2, z3], _ =>
      refine ⟨true, TN.me, fun _ a ha => ?_, fun z => nomatch z⟩
      have held : ∀ {Hx : Hp}, Hx d = some (.xd [("why", .str y)]) → Held (.ref CN) (some d) CN Hx := fun h => ⟨rfl, d, _, rfl, h⟩
      refine ⟨_, rfl, _, _, true, rfl, held hd, .ty "ValueError", TN.ve, _, rfl, itF rfl ?_⟩
      refine ⟨_, rfl, three, fun p hp => ?_⟩
      have s3 := same_new hp (.tup [.ref CS, .ref CM, .ref CY])
      refine ⟨p, _, _, false, rfl, held (s3 _ _ hd), upd_same, .cons (.own CS) (.cons (.own CM) (.cons (.own CY) .nil)), no, _, rfl, itF rfl ?_⟩
      have z := q _ (s2.trans s3)
      rw [e] at z
      exact ⟨_, rfl, rfl, rfl, d, _, _, rfl, s3 _ _ hd, lk_hit, z⟩
end
end Any
set_option maxHeartbeats 1000000
namespace Any
open L2 PySem PySem.Spec PyProof.Rows
theorem WayAt.keepX {C : Addr} {H H' : Hp} {x y : Addr} {n : Num} {s : Sto} {g : Int × Int} {o : HO} (h : WayAt C H y n s g) (k : Kept x H H') (hx : H x = some o) (ho : ∀ xs, o ≠ .tup xs) (ne : y ≠ x) : WayAt C H' y n s g := by
  obtain ⟨dx, a, ga, h1, h2, h3⟩ := h
  have t : Tups H H' := fun a xs q => k a _ (fun z => by rw [z, hx] at q; exact ho xs (Option.some.inj q)) q
  exact ⟨dx, a, ga, k _ _ ne h1, h2.keep t, t _ _ h3⟩
theorem WayAt.keepB {C : Addr} {H H' : Hp} {b y : Addr} {n : Num} {s : Sto} {g : Int × Int} {m : Nat} (h : WayAt C H y n s g) (k : Kept b H H') (B : Bag H b m) : WayAt C H' y n s g := by
  obtain ⟨xs, hb⟩ := B.lst
  refine h.keepX k hb (by intro _ z; cases z) ?_
  obtain ⟨dx, a, ga, h1, _⟩ := h
  exact ne_of h1 hb (by intro z; cases z)
theorem same_one {H H1 H2 : Hp} {x : Addr} (s : Same H H1) (k : Kept x H1 H2) (n : H x = none) : Same H H2 := Same.since s (k.ks (S := [x]) (by simp)) (fun a ha => by rw [List.mem_singleton.mp ha]; exact n)
/-! ### counts -/
abbrev sRound : Stmt := top 17
abbrev sWayB : Stmt := top 18
abbrev psHM : List Str := ["hold", "miss"]
theorem scRound : FnScope psHM psHM (defScope sRound) := ⟨rfl, rfl, rfl, by decide +kernel, rfl, by decide +kernel, by decide +kernel⟩
theorem scWayB : FnScope psHM psHM (defScope sWayB) := ⟨rfl, rfl, rfl, by decide +kernel, rfl, by decide +kernel, by decide +kernel⟩
abbrev kwsM : List (Str × V) := [("miss", .int 1)]
def spBeats (c : Int) : Sp := fun vs H Q _ => ∃ h m : Int, vs = [.int h, .int m] ∧ (0 ≤ m ∧ m ≤ 4) ∧ (0 ≤ h ∧ h ≤ 6) ∧ Q (.int (m * m + c * h)) H
section
variable {P : Program} {w : World} {K : PySem.W.Frag} {mg : Str → Option Value} {base : Heap} {f C : Addr} {fd : FuncData}
theorem ok_round {kws : List (Str × V)} (F : FunD K "round_beats" "round_beats" (defArgs sRound) (defBody sRound) (defScope sRound) [] kws f fd) : FnOk P w K mg base CX0 1 f fd psHM (spBeats 2) := by
  refine F.ok scRound (fun vs H Q E h => ?_) (fun cdv A outer s H vs Q E hr h => ?_)
  · obtain ⟨h, m, rfl, _⟩ := h
    rfl
  obtain ⟨h, m, rfl, hm, hh, q⟩ := h
  refine ⟨_, PSs.nox (pss_one (ps_ret (pe_op op_add (pe_op op_mul (pv 1) (pv 1)) (pe_op op_mul pe_int (pv 0))))), ?_⟩
  exact ⟨_, rfl, _, rfl, _, _, rfl, rfl, .inl ⟨by omega, by omega⟩, _, rfl, _, _, rfl, rfl, .inl ⟨by decide, by decide⟩, _, _, rfl, rfl, q⟩
theorem ok_wayb {kws : List (Str × V)} (F : FunD K "way_beats" "way_beats" (defArgs sWayB) (defBody sWayB) (defScope sWayB) [] kws f fd) : FnOk P w K mg base CX0 1 f fd psHM (spBeats 4) := by
  refine F.ok scWayB (fun vs H Q E h => ?_) (fun cdv A outer s H vs Q E hr h => ?_)
  · obtain ⟨h, m, rfl, _⟩ := h
    rfl
  obtain ⟨h, m, rfl, hm, hh, q⟩ := h
  refine ⟨_, PSs.nox (pss_one (ps_ret (pe_op op_add (pe_op op_mul (pv 1) (pv 1)) (pe_op op_mul pe_int (pv 0))))), ?_⟩
  exact ⟨_, rfl, _, rfl, _, _, rfl, rfl, .inl ⟨by omega, by omega⟩, _, rfl, _, _, rfl, rfl, .inl ⟨by decide, by decide⟩, _, _, rfl, rfl, q⟩
theorem kb_marks (F : Fun K "marks" "marks" sMarks f fd) : KBn K fd ["hold"] 0 ["hold"] (fun us ws => us ++ ws) (fun us ws => us ++ ws) := by
  obtain ⟨oc, od, kV, doc, pm, an, cdv, ct, osl, rfl, lk, hcd⟩ := F.ex
  refine ⟨fun s us ws _ l1 l2 => ?_, fun r1 r2 => r1.append r2⟩
  match us, ws, l1, l2 with
  | [], [w1], _, _ => exact .of_eq rfl
theorem kb_round {kws : List (Str × V)} (F : FunD K "round_beats" "round_beats" (defArgs sRound) (defBody sRound) (defScope sRound) [] kws f fd) : KBn K fd psHM 1 ["miss"] (fun us ws => us ++ ws) (fun us ws => us ++ ws) := by
  obtain ⟨oc, od, dV, kV, doc, pm, an, cdv, ct, osl, rfl, lk, hcd, hD, hK⟩ := F.ex
  have hd : dV = .none := hD.elim (fun z => z.2) (fun z => absurd rfl z.1)
  subst hd
  refine ⟨fun s us ws _ l1 l2 => ?_, fun r1 r2 => r1.append r2⟩
  match us, ws, l1, l2 with
  | [u1], [w1], _, _ => exact .of_eq rfl
theorem kb_roundH (F : FunD K "round_beats" "round_beats" (defArgs sRound) (defBody sRound) (defScope sRound) [] kwsM f fd) : ∃ mv : List Value, KBn K fd psHM 0 ["hold"] (fun us ws => us ++ ws ++ mv) (fun vs zs => vs ++ zs ++ [.int 1]) := by
  refine F.kbinds0 0 ["hold"] [("miss", .int 1)] (fun us mv ws => us ++ ws ++ mv) (by simp) (by simp) (fun r1 r2 r3 => (r1.append r3).append r2) fun D doc pm an cdv ct us mv ws l1 l2 l3 => ?_
  match us, mv, ws, l1, l2, l3 with
  | [], [m1], [w1], _, _, _ => exact ⟨_, _, _, _, _, _, rfl, rfl, rfl⟩
theorem kb_wayB {kws : List (Str × V)} (F : FunD K "way_beats" "way_beats" (defArgs sWayB) (defBody sWayB) (defScope sWayB) [] kws f fd) : KBn K fd psHM 0 ["miss", "hold"] (fun us ws => us ++ ws.reverse) (fun us ws => us ++ ws.reverse) := by
  obtain ⟨oc, od, dV, kV, doc, pm, an, cdv, ct, osl, rfl, lk, hcd, hD, hK⟩ := F.ex
  have hd : dV = .none := hD.elim (fun z => z.2) (fun z => absurd rfl z.1)
  subst hd
  refine ⟨fun s us ws _ l1 l2 => ?_, fun r1 r2 => r1.append r2.reverse⟩
  match us, ws, l1, l2 with
  | [], [w1, w2], _, _ => exact .of_eq rfl
theorem kb_wayH (F : FunD K "way_beats" "way_beats" (defArgs sWayB) (defBody sWayB) (defScope sWayB) [] kwsM f fd) : ∃ mv : List Value, KBn K fd psHM 0 ["hold"] (fun us ws => us ++ ws ++ mv) (fun vs zs => vs ++ zs ++ [.int 1]) := by
  refine F.kbinds0 0 ["hold"] [("miss", .int 1)] (fun us mv ws => us ++ ws ++ mv) (by simp) (by simp) (fun r1 r2 r3 => (r1.append r3).append r2) fun D doc pm an cdv ct us mv ws l1 l2 l3 => ?_
  match us, mv, ws, l1, l2, l3 with
  | [], [m1], [w1], _, _, _ => exact ⟨_, _, _, _, _, _, rfl, rfl, rfl⟩
end
/-- a def called with values and keywords -/
def DfK (P : Program) (w : World) (K : PySem.W.Frag) (mg : Str → Option Value) (base : Heap) (k : Nat) (x : Str) (n : Nat) (ps ks : List Str) (gV : List V → List V → List V) (sp : Sp) : Prop :=
  ∃ f fd g, mg x = some (.ref f) ∧ PySem.W.keepIn K (.ref f) = true ∧ FnOk P w K mg base CX0 k f fd ps sp ∧ KBn K fd ps n ks g gV
section
variable {X : Cx} {k n : Nat} {x m : Str} {C : Addr} {ps ks : List Str} {sp : Sp} {p pos : Pos} {e : Expr} {es : List Expr} {t tk : TA} {kws : List Keyword} {gV : List V → List V → List V}
theorem pe_DK0 (D : DfK X.prog X.w X.K X.mg X.base k x 0 ps ks gV sp) (hr : Room k X.A) (hg : Gl X x) (hkw : PK X kws tk) (hall : (backToKw pos (keywordEach kws X.env)).all (·.1.isSome) = true := by rfl)
    (hks : (backToKw pos (keywordEach kws X.env)).filterMap (·.1) = ks := by rfl) (h1 : (x == ("__debug__" : Str)) = false := by decide)
    (h3 : ((backTo pos (starEach [] X.env)).any (·.1) || (backToKw pos (keywordEach kws X.env)).any (·.1.isNone)) = false := by rfl) :
    PE X (.Call (.Name x p) [] kws pos) (fun σ H Q => tk σ H fun zs H1 => zs.length = ks.length ∧ sp (gV [] zs) H1 Q E0) := by
  obtain ⟨f, fd, g, hm, hk, F, hb⟩ := D
  exact pe_callK0 F hr hg hm hk hb pass0 hkw hall hks h1 h3
theorem pe_DKN (D : DfK X.prog X.w X.K X.mg X.base k x n ps ks gV sp) (hr : Room k X.A) (hg : Gl X x) (ha : PA X (e :: es) t) (hkw : PK X kws tk) (hall : (backToKw pos (keywordEach kws X.env)).all (·.1.isSome) = true := by rfl)
    (hks : (backToKw pos (keywordEach kws X.env)).filterMap (·.1) = ks := by rfl) (hdb : (x == ("__debug__" : Str)) = false := by decide) (he : starEach (e :: es) X.env = (false, eval e X.env) :: starEach es X.env := by rfl)
    (hpl : ((backTo pos (starEach (e :: es) X.env)).any (·.1) || (backToKw pos (keywordEach kws X.env)).any (·.1.isNone)) = false := by rfl) :
    PE X (.Call (.Name x p) (e :: es) kws pos) (tCallN n ks.length sp gV E0 t tk) := by
  obtain ⟨f, fd, g, hm, hk, F, hb⟩ := D
  exact pe_callN F hr hg hm hk hb pass0 ha hkw hall hks hdb he hpl
theorem pe_CK0 (D : MkK X.prog X.w X.K X.mg X.base k x C 0 ps ks gV sp) (hr : Room (k + 1) X.A) (hg : Gl X x) (hkw : PK X kws tk)
    (hall : (backToKw pos (keywordEach kws X.env)).all (·.1.isSome) = true := by rfl) (hks : (backToKw pos (keywordEach kws X.env)).filterMap (·.1) = ks := by rfl) (hdb : (x == ("__debug__" : Str)) = false := by decide)
    (hpl : ((backTo pos (starEach [] X.env)).any (·.1) || (backToKw pos (keywordEach kws X.env)).any (·.1.isNone)) = false := by rfl) :
    PE X (.Call (.Name x p) [] kws pos) (tMakeK C 0 ks.length sp gV E0 tNil tk) := by
  obtain ⟨f, fd, g, hm, M, F, hb⟩ := D
  exact pe_makeK0 M F hr hg hm hb pass0 hkw hall hks hdb hpl
end
/-- a new way -/
theorem way_new {C : Addr} {n : Num} {H : Hp} {Q : VK} (hN : NumOk n) (q : ∀ x H', H x = none → Same H H' → WayAt C H' x n sto0 (0, 0) → Q (.ref x) H') (x dx : Addr) (hx : H x = none) (hdx : H dx = none) (ne : dx ≠ x) :
    spInit C [.ref x, .int n.hold, .int n.miss, .int n.bound] (upd (upd H dx (.own x)) x (.ins C dx [])) (fun v H3 => v = .non ∧ Q (.ref x) H3) E0 := by
  have s1 : Same H (upd (upd H dx (.own x)) x (.ins C dx [])) := (same_new hdx _).trans (same_new (by rw [upd_ne ne.symm]; exact hx) _)
  exact ⟨x, dx, n, rfl, hN, upd_same, fun H' k W => ⟨rfl, q x H' hx (same_one s1 k hx) W⟩⟩
end Any
set_option maxHeartbeats 1000000
namespace Any
open L2 PySem PySem.Spec PyProof.Rows
abbrev sLWh : Stmt := top 32
abbrev sCR : Stmt := top 33
abbrev sLN : Stmt := top 29
abbrev sMade : Stmt := top 30
abbrev sOdd : Stmt := top 28
abbrev psWD : List Str := ["_law_thing", "_law_due"]
abbrev psSG : List Str := ["_law_size", "_law_gap"]
abbrev psMade : List Str := ["_law_size", "_law_gap", "_law_top", "_law_way"]
abbrev nmOdd : List Str := ["_law_bag_here", "_law_most", "_law_some"]
abbrev psOdd : List Str := ["_law_bag_here", "_law_most"]
theorem scLWh : FnScope psWD psWD (defScope sLWh) := ⟨rfl, rfl, rfl, by decide +kernel, rfl, by decide +kernel, by decide +kernel⟩
theorem scCR : FnScope psSG psSG (defScope sCR) := ⟨rfl, rfl, rfl, by decide +kernel, rfl, by decide +kernel, by decide +kernel⟩
theorem scLN : FnScope ["_law_bag_here"] ["_law_bag_here"] (defScope sLN) := ⟨rfl, rfl, rfl, by decide +kernel, rfl, by decide +kernel, by decide +kernel⟩
theorem scMade : FnScope psMade psMade (defScope sMade) := ⟨rfl, rfl, rfl, by decide +kernel, rfl, by decide +kernel, by decide +kernel⟩
theorem scOdd : FnScope nmOdd psOdd (defScope sOdd) := ⟨rfl, rfl, rfl, by decide +kernel, rfl, by decide +kernel, by decide +kernel⟩
def spLWh : Sp := fun vs H Q _ => ∃ i j : Int, vs = [.int i, .int j] ∧ i = j ∧ Q (.bl true) H
def spCR : Sp := fun vs H Q _ => ∃ n : Num, vs = [.int n.hold, .int n.miss] ∧ NumOk n ∧ Q (.bl true) H
def spLN : Sp := fun vs H Q _ => ∃ (b : Addr) (k : Nat), vs = [.ref b] ∧ Bag H b (k + 3) ∧ ∀ (p : Addr) (n : Num) (H' : Hp), H p = none → p ≠ b → Kept b H H' → Bag H' b k → NumOk n → H' p = some (.tup [.int n.hold, .int n.miss, .int n.bound]) → Q (.ref p) H'
def spMade (C : Addr) : Sp := fun vs H Q _ => ∃ (n : Num) (k : Int), vs = [.int n.hold, .int n.miss, .int n.bound, .int k] ∧ NumOk n ∧ ∀ x H', H x = none → Same H H' → WayAt C H' x n sto0 (0, 0) → Q (.ref x) H'
def spOdd : Sp := fun vs H Q _ => ∃ (b : Addr) (k : Nat) (m : Int), vs = [.ref b, .int m] ∧ Bag H b (k + 1) ∧ (1 ≤ m ∧ m ≤ 100) ∧ ∀ (v : V) (H' : Hp), Kept b H H' → Bag H' b k → Thg H' v → withinV v 1 m = false → Q v H'
/-- how ways are made -/
structure WayN (P : Program) (w : World) (K : PySem.W.Frag) (mg : Str → Option Value) (base : Heap) (C : Addr) : Prop where
  mb : MkK P w K mg base 3 "Way" C 1 psInit ["miss", "bound"] (fun vs zs => vs ++ zs) (spInit C)
  bm : MkK P w K mg base 3 "Way" C 1 psInit ["bound", "miss"] (fun vs zs => vs ++ zs.reverse) (spInit C)
  b : MkK P w K mg base 3 "Way" C 1 psInit ["bound"] (fun vs zs => vs ++ [.int 1] ++ zs) (spInit C)
  m : MkK P w K mg base 3 "Way" C 1 psInit ["miss"] (fun vs zs => vs ++ zs ++ [.int 10]) (spInit C)
  o : Mk0 P w K mg base 3 "Way" C psInit [.int 1, .int 10] (spInit C)
  a : MkK P w K mg base 3 "Way" C 0 psInit ["hold", "miss", "bound"] (fun vs zs => vs ++ zs) (spInit C)
section
variable {P : Program} {w : World} {K : PySem.W.Frag} {mg : Str → Option Value} {base : Heap} {f C : Addr} {fd : FuncData}
theorem ok_lwh (O : Own mg) (F : Fun K "_law_whole" "_law_whole" sLWh f fd) : FnOk P w K mg base CX0 1 f fd psWD spLWh := by
  refine F.ok scLWh (fun vs H Q E h => ?_) (fun cdv A outer s H vs Q E hr h => ?_)
  · obtain ⟨i, j, rfl, _⟩ := h
    rfl
  obtain ⟨i, j, rfl, rfl, q⟩ := h
  refine ⟨_, pss_one (ps_ret (pe_and (pe_callB call_isi rfl O.isi (by decide +kernel) (pa_cons (pv 0) (pa_cons (pe_bltn (v := .ty "int") rfl O.int (by decide +kernel) rfl) pa_nil)))
    (pe_and (pe_not (pe_callB call_isi rfl O.isi (by decide +kernel) (pa_cons (pv 0) (pa_cons (pe_bltn (v := .ty "bool") rfl O.bool (by decide +kernel) rfl) pa_nil)))) (pe_one (pe_cmpR op_eq (pv 0) (pv 1) (nomark _)))))), ?_⟩
  refine ⟨_, rfl, _, _, _, _, true, rfl, .ty "int", .base (.int i), kb "int" "int" true, _, rfl, itT rfl ⟨_, rfl, _, _, _, _, false, rfl, .ty "bool", .base (.int i), kb "int" "bool" false, _, rfl, _, rfl, itT rfl ⟨_, rfl, _, rfl, rfl, ?_⟩⟩⟩
  rw [decide_eq_true (show V.int i = V.int i from rfl)]
  exact q
theorem ok_cr (F : Fun K "_law_counts_right" "_law_counts_right" sCR f fd) (D1 : Df P w K mg base 1 "_law_whole" psWD spLWh) (D2 : Df P w K mg base 1 "marks" ["hold"] spMarks) (D3 : DfK P w K mg base 1 "marks" 0 ["hold"] ["hold"] (fun us ws => us ++ ws) spMarks)
    (D4 : DfK P w K mg base 1 "round_beats" 1 psHM ["miss"] (fun us ws => us ++ ws) (spBeats 2)) (D5 : DfK P w K mg base 1 "round_beats" 0 psHM ["hold"] (fun vs zs => vs ++ zs ++ [.int 1]) (spBeats 2))
    (D6 : DfK P w K mg base 1 "way_beats" 0 psHM ["miss", "hold"] (fun us ws => us ++ ws.reverse) (spBeats 4)) (D7 : DfK P w K mg base 1 "way_beats" 0 psHM ["hold"] (fun vs zs => vs ++ zs ++ [.int 1]) (spBeats 4)) : FnOk P w K mg base CX0 2 f fd psSG spCR := by
  refine F.ok scCR (fun vs H Q E h => ?_) (fun cdv A outer s H vs Q E hr h => ?_)
  · obtain ⟨n, rfl, _⟩ := h
    rfl
  obtain ⟨n, rfl, hN, q⟩ := h
  have a0 := hN.h0
  have a1 := hN.h1
  have a2 := hN.m0
  have a3 := hN.m1
  refine ⟨_, pss_cons (ps_if (PW.pt (pw_or (pt_not (pt_val (pe_D D1 hr rfl (pa_cons (pe_D D2 hr rfl (pa_cons (pv 0) pa_nil)) (pa_cons (pe_op op_add (pe_op op_mul pe_int (pv 0)) pe_int) pa_nil))))) (pw_or1 (pt_cmpR op_ne (pe_DK0 D3 hr rfl (pk_cons (pv 0) pk_nil)) (pe_op op_add (pe_op op_mul pe_int (pv 0)) pe_int) (nomark _))))) (pss_one (ps_ret pe_bl)) pss_nil)
    (pss_cons (ps_if (pt_not (pt_val (pe_D D1 hr rfl (pa_cons (pe_DKN D4 hr rfl (pa_cons (pv 0) pa_nil) (pk_cons (pv 1) pk_nil)) (pa_cons (pe_op op_add (pe_op op_mul (pv 1) (pv 1)) (pe_op op_mul pe_int (pv 0))) pa_nil))))) (pss_one (ps_ret pe_bl)) pss_nil)
    (pss_cons (ps_if (pt_not (pt_val (pe_D D1 hr rfl (pa_cons (pe_DK0 D6 hr rfl (pk_cons (pv 1) (pk_cons (pv 0) pk_nil))) (pa_cons (pe_op op_add (pe_op op_mul (pv 1) (pv 1)) (pe_op op_mul pe_int (pv 0))) pa_nil))))) (pss_one (ps_ret pe_bl)) pss_nil)
    (pss_one (ps_ret (pe_and (pe_cmpR op_eq (pe_DK0 D5 hr rfl (pk_cons (pv 0) pk_nil)) (pe_op op_add pe_int (pe_op op_mul pe_int (pv 0))) (nomark _)) (pe_one (pe_cmpR op_eq (pe_DK0 D7 hr rfl (pk_cons (pv 0) pk_nil)) (pe_op op_add pe_int (pe_op op_mul pe_int (pv 0))) (nomark _)))))))), ?_⟩
  refine ⟨_, rfl, n.hold, rfl, _, rfl, _, _, rfl, rfl, .inl ⟨by decide, by decide⟩, _, _, rfl, rfl, _, _, rfl, rfl, _, rfl, itF rfl ?_⟩
  refine ⟨_, rfl, rfl, n.hold, rfl, _, rfl, _, _, rfl, rfl, .inl ⟨by decide, by decide⟩, _, _, rfl, rfl, rfl, _, rfl, itNe (fun c => absurd rfl c) (fun _ => ?_)⟩
  refine ⟨_, rfl, _, rfl, rfl, rfl, n.hold, n.miss, rfl, ⟨by omega, by omega⟩, ⟨by omega, by omega⟩, _, rfl, _, rfl, _, _, rfl, rfl, .inl ⟨by omega, by omega⟩, _, rfl, _, _, rfl, rfl, .inl ⟨by decide, by decide⟩, _, _, rfl, rfl, _, _, rfl, rfl, _, rfl, itF rfl ?_⟩
  refine ⟨_, rfl, _, rfl, rfl, n.hold, n.miss, rfl, ⟨by omega, by omega⟩, ⟨by omega, by omega⟩, _, rfl, _, rfl, _, _, rfl, rfl, .inl ⟨by omega, by omega⟩, _, rfl, _, _, rfl, rfl, .inl ⟨by decide, by decide⟩, _, _, rfl, rfl, _, _, rfl, rfl, _, rfl, itF rfl ?_⟩
  refine ⟨_, rfl, rfl, n.hold, 1, rfl, ⟨by decide, by decide⟩, ⟨by omega, by omega⟩, _, rfl, _, _, rfl, rfl, .inl ⟨by decide, by decide⟩, _, _, rfl, rfl, rfl, _, rfl, itEq (fun _ => ?_) (fun c => absurd (by omega) c)⟩
  refine ⟨_, rfl, rfl, n.hold, 1, rfl, ⟨by decide, by decide⟩, ⟨by omega, by omega⟩, _, rfl, _, _, rfl, rfl, .inl ⟨by decide, by decide⟩, _, _, rfl, rfl, rfl, ?_⟩
  rw [decide_eq_true (show V.int (1 * 1 + 4 * n.hold) = V.int (1 + 4 * n.hold) by rw [Int.one_mul])]
  exact q
theorem ok_ln (F : Fun K "_law_numbers" "_law_numbers" sLN f fd) (D1 : Df P w K mg base 1 "_law_take" ["_law_bag_here", "_law_many"] spTake) : FnOk P w K mg base CX0 2 f fd ["_law_bag_here"] spLN := by
  refine F.ok scLN (fun vs H Q E h => ?_) (fun cdv A outer s H vs Q E hr h => ?_)
  · obtain ⟨b, k, rfl, _⟩ := h
    rfl
  obtain ⟨b, k, rfl, hB, q⟩ := h
  refine ⟨_, pss_one (ps_ret (pe_tup (pa_cons (pe_op op_add pe_int (pe_D D1 hr rfl (pa_cons (pv 0) (pa_cons pe_int pa_nil)))) (pa_cons (pe_op op_add pe_int (pe_D D1 hr rfl (pa_cons (pv 0) (pa_cons pe_int pa_nil)))) (pa_cons (pe_op op_add pe_int (pe_D D1 hr rfl (pa_cons (pv 0) (pa_cons pe_int pa_nil)))) pa_nil))))), ?_⟩
  refine ⟨_, rfl, b, 6, k + 2, rfl, hB, by decide, by decide, fun d1 H1 k1 B1 x1 y1 => ⟨_, _, rfl, rfl, ?_⟩⟩
  refine ⟨_, rfl, b, 4, k + 1, rfl, B1, by decide, by decide, fun d2 H2 k2 B2 x2 y2 => ⟨_, _, rfl, rfl, ?_⟩⟩
  refine ⟨_, rfl, b, 40, k, rfl, B2, by decide, by decide, fun d3 H3 k3 B3 x3 y3 => ⟨_, _, rfl, rfl, three, fun p hp => ?_⟩⟩
  have kk := k1.trans (k2.trans k3)
  have np : p ≠ b := B3.ne hp
  have hp0 : H p = none := by
    cases z : H p with
    | none => rfl
    | some o => rw [kk _ _ np z] at hp; cases hp
  have s4 := same_new hp (.tup [.int (1 + d1), .int (1 + d2), .int (1 + d3)])
  exact q p ⟨1 + d1, 1 + d2, 1 + d3⟩ _ hp0 np (kk.trans (.of s4)) (B3.keep s4) ⟨by show 1 ≤ 1 + d1; omega, by show 1 + d1 ≤ 6; omega, by show 1 ≤ 1 + d2; omega, by show 1 + d2 ≤ 4; omega, by show 1 ≤ 1 + d3; omega, by show 1 + d3 ≤ 40; omega⟩ upd_same
theorem ok_made (N : WayN P w K mg base C) (F : Fun K "_law_made" "_law_made" sMade f fd) : FnOk P w K mg base CX0 5 f fd psMade (spMade C) := by
  refine F.ok scMade (fun vs H Q E h => ?_) (fun cdv A outer s H vs Q E hr h => ?_)
  · obtain ⟨n, k, rfl, _⟩ := h
    rfl
  obtain ⟨n, k, rfl, hN, q⟩ := h
  have e1 : n.miss = 1 → ∀ x H', H x = none → Same H H' → WayAt C H' x ⟨n.hold, 1, n.bound⟩ sto0 (0, 0) → Q (.ref x) H' := fun h => by rw [← h]; exact q
  have e2 : n.bound = 10 → ∀ x H', H x = none → Same H H' → WayAt C H' x ⟨n.hold, n.miss, 10⟩ sto0 (0, 0) → Q (.ref x) H' := fun h => by rw [← h]; exact q
  have e3 : n.miss = 1 → n.bound = 10 → ∀ x H', H x = none → Same H H' → WayAt C H' x ⟨n.hold, 1, 10⟩ sto0 (0, 0) → Q (.ref x) H' := fun h h' => by rw [← h, ← h']; exact q
  have o1 : n.miss = 1 → NumOk ⟨n.hold, 1, n.bound⟩ := fun _ => ⟨hN.h0, hN.h1, (by show (1 : Int) ≤ 1; decide), (by show (1 : Int) ≤ 4; decide), hN.b0, hN.b1⟩
  have o2 : n.bound = 10 → NumOk ⟨n.hold, n.miss, 10⟩ := fun _ => ⟨hN.h0, hN.h1, hN.m0, hN.m1, (by show (1 : Int) ≤ 10; decide), (by show (10 : Int) ≤ 40; decide)⟩
  have o3 : NumOk ⟨n.hold, 1, 10⟩ := ⟨hN.h0, hN.h1, (by show (1 : Int) ≤ 1; decide), (by show (1 : Int) ≤ 4; decide), (by show (1 : Int) ≤ 10; decide), (by show (10 : Int) ≤ 40; decide)⟩
  let X := (cxOf CX0 P w K mg base psMade "_law_made" (defScope sMade) f cdv A outer s H E).nox
  obtain ⟨t3, h3, r3⟩ : ∃ t, PSs X ((defBody sMade).drop 2) t ∧ t { nx := fun _ H' => Q .non H', rt := Q } (L2.start psMade [.int n.hold, .int n.miss, .int n.bound, .int k]) H := by
    refine ⟨_, pss_cons (ps_if (PW.pt (pw_and (pt_cmpR op_lt (pv 3) pe_int (nomark _)) (pw_and1 (pt_cmpR op_eq (pv 2) pe_int (nomark _))))) (pss_one (ps_ret (pe_CK N.m hr rfl (pa_cons (pv 0) pa_nil) (pk_cons (pv 1) pk_nil)))) pss_nil)
      (pss_one (ps_ret (pe_ifExp (pt_cmpR op_lt (pv 3) pe_int (nomark _)) (pe_CK N.bm hr rfl (pa_cons (pv 0) pa_nil) (pk_cons (pv 2) (pk_cons (pv 1) pk_nil))) (pe_CK0 N.a hr rfl (pk_cons (pv 0) (pk_cons (pv 1) (pk_cons (pv 2) pk_nil))))))), ?_⟩
    refine ⟨_, rfl, _, _, rfl, rfl, _, rfl, itD (fun c => ⟨_, rfl, rfl, _, rfl, itEq (fun c2 => ⟨_, rfl, _, rfl, rfl, rfl, way_new (o2 c2) (e2 c2)⟩) (fun c2 => ?_)⟩) (fun c => itF rfl ?_)⟩
    · exact ⟨_, rfl, _, _, rfl, rfl, _, rfl, itD (fun _ => ⟨_, rfl, _, rfl, _, rfl, rfl, rfl, way_new hN q⟩) (fun _ => ⟨_, rfl, _, rfl, _, rfl, rfl, rfl, way_new hN q⟩)⟩
    · exact ⟨_, rfl, _, _, rfl, rfl, _, rfl, itD (fun _ => ⟨_, rfl, _, rfl, _, rfl, rfl, rfl, way_new hN q⟩) (fun _ => ⟨_, rfl, _, rfl, _, rfl, rfl, rfl, way_new hN q⟩)⟩
  obtain ⟨t2, h2, r2⟩ : ∃ t, PSs X ((defBody sMade).drop 1) t ∧ t { nx := fun _ H' => Q .non H', rt := Q } (L2.start psMade [.int n.hold, .int n.miss, .int n.bound, .int k]) H := by
    refine ⟨_, pss_cons (ps_if (PW.pt (pw_and (pt_cmpR op_lt (pv 3) pe_int (nomark _)) (pw_and1 (pt_cmpR op_eq (pv 1) pe_int (nomark _))))) (pss_one (ps_ret (pe_CK N.b hr rfl (pa_cons (pv 0) pa_nil) (pk_cons (pv 2) pk_nil)))) pss_nil) h3, ?_⟩
    exact ⟨_, rfl, _, _, rfl, rfl, _, rfl, itD (fun c => ⟨_, rfl, rfl, _, rfl, itEq (fun c2 => ⟨_, rfl, _, rfl, rfl, rfl, way_new (o1 c2) (e1 c2)⟩) (fun c2 => r3)⟩) (fun c => itF rfl r3)⟩
  refine ⟨_, pss_cons (ps_if (PW.pt (pw_and (pt_cmpR op_eq (pv 3) pe_int (nomark _)) (pw_and (pt_cmpR op_eq (pv 1) pe_int (nomark _)) (pw_and1 (pt_cmpR op_eq (pv 2) pe_int (nomark _)))))) (pss_one (ps_ret (pe_C0 N.o hr rfl (pa_cons (pv 0) pa_nil)))) pss_nil) h2, ?_⟩
  exact ⟨_, rfl, rfl, _, rfl, itEq (fun c => ⟨_, rfl, rfl, _, rfl, itEq (fun c2 => ⟨_, rfl, rfl, _, rfl, itEq (fun c3 => ⟨_, rfl, way_new o3 (e3 c2 c3)⟩) (fun _ => r2)⟩) (fun _ => itF rfl r2)⟩) (fun _ => itF rfl r2)⟩
theorem ok_odd (O : Own mg) (F : Fun K "_law_odd" "_law_odd" sOdd f fd) (D1 : Df P w K mg base 1 "_law_take" ["_law_bag_here", "_law_many"] spTake) : FnOk P w K mg base CX0 2 f fd psOdd spOdd := by
  refine F.ok scOdd (fun vs H Q E h => ?_) (fun cdv A outer s H vs Q E hr h => ?_)
  · obtain ⟨b, k, m, rfl, _⟩ := h
    rfl
  obtain ⟨b, k, m, rfl, hB, hm, q⟩ := h
  refine ⟨_, pss_cons (ps_set (i := 2) scOdd.nd rfl (Or.inl rfl) (pe_lst (pa_cons pe_int (pa_cons (pe_un un_neg pe_int) (pa_cons (pe_op op_add (pv 1) pe_int) (pa_cons pe_bl (pa_cons pe_bl (pa_cons pe_non (pa_cons pe_str (pa_cons pe_dnewK (pa_cons (pe_tup (pa_cons pe_int pa_nil)) (pa_cons (pe_lst (pa_cons pe_int pa_nil)) (pa_cons (pe_op op_powW pe_int pe_int) (pa_cons (pe_un un_neg (pe_op op_powW pe_int pe_int)) pa_nil))))))))))))))
    (pss_one (ps_ret (pe_ix ix_list (pv 2) (pe_D D1 hr rfl (pa_cons (pv 0) (pa_cons (pe_callB call_len_seq rfl O.len PySem.boot_len (pa_cons (pv 2) pa_nil)) pa_nil))) (fun _ _ => rfl)))), ?_⟩
  have pw : CPowW 10 20 := ⟨by decide, by decide +kernel⟩
  refine ⟨_, rfl, _, rfl, _, _, rfl, rfl, fun p1 n1 => ⟨one_, fun p2 n2 => ⟨one_, fun p3 n3 => ⟨_, _, rfl, rfl, pw, _, _, rfl, rfl, pw, _, rfl, small (by show 12 ≤ 1000; decide), fun p4 n4 => ?_⟩⟩⟩⟩
  have s1 := same_new n1 (.dK [])
  have s2 := same_new n2 (.tup [.int 2])
  have s3 := same_new n3 (.lst [.int 2])
  have s4 := same_new n4 (.lst [.int 0, .int (-1), .int (m + 1), .bl true, .bl false, .non, .str "3", .ref p1, .ref p2, .ref p3, .int (10 ^ Int.toNat 20), .int (-(10 ^ Int.toNat 20))])
  have sA := s1.trans (s2.trans (s3.trans s4))
  refine ⟨_, rfl, _, rfl, _, rfl, p4, _, rfl, .inl (SqL.of upd_same), b, 12, k, rfl, hB.keep sA, by decide, by decide, fun d H5 k5 B5 d0 d1 => ?_⟩
  have BA := hB.keep sA
  have g1 := k5 _ _ (hB.ne n1) (s4 _ _ (s3 _ _ (s2 _ _ (@upd_same H p1 (.dK [])))))
  have g2 := k5 _ _ ((hB.keep s1).ne n2) (s4 _ _ (s3 _ _ (@upd_same _ p2 (.tup [.int 2]))))
  have g3 := k5 _ _ (((hB.keep s1).keep s2).ne n3) (s4 _ _ (@upd_same _ p3 (.lst [.int 2])))
  have g4 := k5 _ _ ((((hB.keep s1).keep s2).keep s3).ne n4) (@upd_same _ p4 (.lst [.int 0, .int (-1), .int (m + 1), .bl true, .bl false, .non, .str "3", .ref p1, .ref p2, .ref p3, .int (10 ^ Int.toNat 20), .int (-(10 ^ Int.toNat 20))]))
  have big : (10 : Int) ^ Int.toNat 20 = 100000000000000000000 := by decide +kernel
  obtain ⟨v, hv, tv, wv⟩ : ∃ v, atI [V.int 0, .int (-1), .int (m + 1), .bl true, .bl false, .non, .str "3", .ref p1, .ref p2, .ref p3, .int (10 ^ Int.toNat 20), .int (-(10 ^ Int.toNat 20))] d = some v ∧ Thg H5 v ∧ withinV v 1 m = false := by
    have : d = 0 ∨ d = 1 ∨ d = 2 ∨ d = 3 ∨ d = 4 ∨ d = 5 ∨ d = 6 ∨ d = 7 ∨ d = 8 ∨ d = 9 ∨ d = 10 ∨ d = 11 := by omega
    rcases this with rfl | rfl | rfl | rfl | rfl | rfl | rfl | rfl | rfl | rfl | rfl | rfl
    · exact ⟨_, rfl, .int _, rfl⟩
    · exact ⟨_, rfl, .int _, rfl⟩
    · refine ⟨_, rfl, .int _, ?_⟩
      show (decide (1 ≤ m + 1) && decide (m + 1 ≤ m)) = false
      rw [decide_eq_false (show ¬ m + 1 ≤ m by omega), Bool.and_false]
    · exact ⟨_, rfl, .bl _, rfl⟩
    · exact ⟨_, rfl, .bl _, rfl⟩
    · exact ⟨_, rfl, .odd .non, rfl⟩
    · exact ⟨_, rfl, .odd (.str _), rfl⟩
    · exact ⟨_, rfl, .odd (.dct g1), rfl⟩
    · exact ⟨_, rfl, .odd (.tup g2), rfl⟩
    · exact ⟨_, rfl, .odd (.lst g3), rfl⟩
    · refine ⟨_, rfl, .int _, ?_⟩
      show (decide (1 ≤ (10 : Int) ^ Int.toNat 20) && decide ((10 : Int) ^ Int.toNat 20 ≤ m)) = false
      rw [big, decide_eq_false (show ¬ (100000000000000000000 : Int) ≤ m by omega), Bool.and_false]
    · refine ⟨_, rfl, .int _, ?_⟩
      show (decide (1 ≤ -(10 : Int) ^ Int.toNat 20) && decide (-(10 : Int) ^ Int.toNat 20 ≤ m)) = false
      rw [big]
      rfl
  exact ⟨p4, _, _, _, rfl, rfl, SqL.of g4, hv, q v H5 (fun a o n h => k5 a o n (sA _ _ h)) B5 tv wv⟩
end
end Any
set_option maxHeartbeats 1000000
namespace Any
open L2 PySem PySem.Spec PyProof.Rows
abbrev sFirst : Stmt := top 34
theorem scFirst : FnScope ["_law_way", "_law_due"] ["_law_way"] (defScope sFirst) := ⟨rfl, rfl, rfl, by decide +kernel, rfl, by decide +kernel, by decide +kernel⟩
def spFirst (C : Addr) : Sp := fun vs H Q _ => ∃ (x : Addr) (n : Num), vs = [.ref x] ∧ WayAt C H x n sto0 (0, 0) ∧ NumOk n ∧ ∀ H', Kept x H H' → Q (.bl true) H'
theorem plain0 (n : Num) : plainB n sto0 = true := by
  have e : foreB n sto0 = foreB n sto0 := rfl
  unfold plainB
  simp [sto0, rowPB, laterR]
section
variable {P : Program} {w : World} {K : PySem.W.Frag} {mg : Str → Option Value} {base : Heap} {f C : Addr} {fd : FuncData}
theorem ok_first (O : Own mg) (W : WayD P w K mg base C) (WE : WayE P w K mg base C) (WU : Mf0 P w K mg base C 3 "under_way" ["self"] [] (spUnder C)) (F : Fun K "_law_first" "_law_first" sFirst f fd) : FnG P w K mg base CX0 5 f fd ["_law_way"] (spFirst C) := by
  refine fun_g F scFirst (fun vs H Q E h => ?_) (fun cdv A outer s H vs Q E hG hr h => ?_)
  · obtain ⟨x, n, rfl, _⟩ := h
    rfl
  obtain ⟨x, n, rfl, hX, hN, q⟩ := h
  have hr1 := hr.mono (show 1 ≤ 4 by decide)
  have hr2 := hr.mono (show 2 ≤ 4 by decide)
  have hr3 := hr.mono (show 3 ≤ 4 by decide)
  have hG' : (A.deeper (envOfC "_law_first" (defScope sFirst) s.heap.objs.size f cdv)).guards = some [] := hG
  have hu : (A.deeper (envOfC "_law_first" (defScope sFirst) s.heap.objs.size f cdv)).units + 70 < cLine := by have := hr.un; omega
  obtain ⟨lz, hlz, beat⟩ := W.beat0
  have hS := sto0_ok hN
  refine ⟨_, pss_cons (ps_set (i := 1) scFirst.nd rfl (Or.inl rfl) (pe_tup (pa_cons pe_int (pa_cons pe_int (pa_cons pe_non (pa_cons (pe_tup pa_nil) (pa_cons pe_int (pa_cons pe_int (pa_cons pe_non (pa_cons (pe_tup pa_nil) pa_nil))))))))))
    (pss_cons (ps_if (PW.pt (pw_or (pt_cmpR op_ne (pe_callB (call_repr hG' hu) rfl O.repr (by decide +kernel) (pa_cons (pe_M0 W.store W.cls.cl (pv 0) hr1) pa_nil)) (pe_callB (call_repr hG' hu) rfl O.repr (by decide +kernel) (pa_cons (pv 1) pa_nil)) (nomark _))
        (pw_or (pt_cmpR op_notBl (pe_M0 WE.pl W.cls.cl (pv 0) hr2) pe_bl (nomark _)) (pw_or1 (pt_cmpR (op_neD hr.units) (pe_M0 WU W.cls.cl (pv 0) hr3) (pe_lst pa_nil) (nomark _)))))) (pss_one (ps_ret pe_bl)) pss_nil)
    (pss_one (ps_ret (pe_and (pe_cmpR op_eq (pe_callB (call_lenW WE.ln hr2) rfl O.len PySem.boot_len (pa_cons (pv 0) pa_nil)) pe_int (nomark _)) (pe_one (pe_cmpR (op_eqD hr.units) (pe_M0 beat W.cls.cl (pv 0) hr) (pe_tup (pa_cons pe_non (pa_cons pe_non pa_nil))) (nomark _))))))), ?_⟩
  refine ⟨nil_, fun p1 n1 => ⟨nil_, fun p2 n2 => ⟨eight, fun p3 n3 => ?_⟩⟩⟩
  have s1 := same_new n1 (.tup [])
  have s2 := same_new n2 (.tup [])
  have s3 := same_new n3 (.tup [.int 0, .int 0, .non, .ref p1, .int 0, .int 0, .non, .ref p2])
  have sA := s1.trans (s2.trans s3)
  have due : StoAt _ p3 sto0 := ⟨p1, p2, @upd_same (upd (upd H p1 (.tup [])) p2 (.tup [])) p3 (.tup [.int 0, .int 0, .non, .ref p1, .int 0, .int 0, .non, .ref p2]), ⟨[], s3 _ _ (s2 _ _ upd_same), .nil⟩, ⟨[], s3 _ _ upd_same, .nil⟩⟩
  clear s3
  generalize upd (upd (upd H p1 (.tup [])) p2 (.tup [])) p3 (.tup [.int 0, .int 0, .non, .ref p1, .int 0, .int 0, .non, .ref p2]) = H3 at *
  have X3 := hX.keep sA
  obtain ⟨dx, kx, gx, hx, hKx, hgx⟩ := id X3
  obtain ⟨dd, v1, v2, v3, shS⟩ := sto_shows (K := K) (H := H3) hN hS
  refine ⟨_, rfl, x, dx, _, rfl, hx, wf_none (by decide +kernel), x, n, _, _, rfl, X3, fun kc hkc => ⟨kc, dd, rfl, shS _ hkc, v1, v2, v3, ?_⟩⟩
  refine ⟨_, rfl, p3, dd, rfl, shS _ due, v1, v2, v3, rfl, _, rfl, itN (fun c => absurd rfl c) (fun _ => ?_)⟩
  refine ⟨_, rfl, x, dx, _, rfl, hx, wf_none (by decide +kernel), x, n, sto0, (0, 0), rfl, X3, hN, hS, fun H4 s4 => ⟨_, _, rfl, rfl, _, rfl, ?_⟩⟩
  rw [plain0]
  refine itF rfl ?_
  refine ⟨_, rfl, x, dx, _, rfl, s4 _ _ hx, wf_none (by decide +kernel), x, n, sto0, (0, 0), rfl, X3.keep s4, hN, hS, (fun z => by rw [plain0] at z; cases z), fun _ p5 H5 n5 s5 e5 => ?_⟩
  refine ⟨nil_, fun p6 n6 => ?_⟩
  have s6 := same_new n6 (.lst [])
  refine ⟨.list [], .list [], .lst (SqL.of (s6 _ _ e5)) .nil, .lst (SqL.of upd_same) .nil, rfl, rfl, _, rfl, itF rfl ?_⟩
  have s06 := s4.trans (s5.trans s6)
  have X6 := X3.keep s06
  refine ⟨_, rfl, x, dx, _, rfl, s06 _ _ hx, x, n, sto0, (0, 0), rfl, X6, by decide, by decide, fun H7 s7 => ⟨_, rfl, by decide, by decide, rfl, _, rfl, itT rfl ?_⟩⟩
  have s07 := s06.trans s7
  have X7 := X3.keep s07
  refine ⟨_, rfl, x, dx, _, rfl, s07 _ _ hx, wf_none (by decide +kernel), x, lz, n, sto0, (0, 0), ⟨none, false, (false, false)⟩, rfl, X7, hN, hS, hlz _, (fun i z => by cases z), ?_, ?_, fun p8 H8 k8 X8 n8 e8 => ?_⟩
  · have := hN.m0
    show (0 : Int) < n.miss
    omega
  · have := hN.m0
    show (0 : Int) < n.miss
    omega
  refine ⟨two, fun p9 n9 => ?_⟩
  have s9 := same_new n9 (.tup [.non, .non])
  refine ⟨.tuple [.none, .none], .tuple [.none, .none], .tup (SqT.of (s9 _ _ e8)) (.cons .non (.cons .non .nil)), .tup (SqT.of upd_same) (.cons .non (.cons .non .nil)), rfl, rfl, ?_⟩
  exact q _ ((Kept.of (sA.trans s07)).trans (k8.trans (.of s9)))
end
end Any
set_option maxHeartbeats 2000000
namespace Any
open L2 PySem PySem.Spec PyProof.Rows
abbrev sLaw : Stmt := top 35
abbrev nmLaw : List Str := ["_law_script", "_law_at", "_law_bag_here", "_law_size", "_law_gap", "_law_top", "_law_way", "_law_twin", "_law_others", "_law_things", "_law_odd_here", "_law_mask", "_law_some", "_law_due", "_law_other", "_law_most", "_law_k"]
theorem scLaw : FnScope nmLaw ["_law_script"] (defScope sLaw) := ⟨rfl, rfl, rfl, by decide +kernel, rfl, by decide +kernel, by decide +kernel⟩
def spLaw (K : PySem.W.Frag) : Sp := fun vs H Q _ => ∃ (a : Addr) (ns : List Int), vs = [.ref a] ∧ SqL K H a (ns.map V.int) ∧ ns.length ≤ 63 ∧ ∀ H', Q (.bl true) H'
abbrev bodyT : List Stmt := forBody (stAt (defBody sLaw) 0)
abbrev bodyM : List Stmt := forBody (stAt bodyT 11)
/-- a mask's bit -/
def bitB (i : Nat) (p : Int) : Bool := decide (V.int ((0 + (i : Int)) / p % 2) = V.int 1)
def pickB (i : Nat) (p : Int) (o t : V) : V := if bitB i p = true then o else t
abbrev dueL : List V := [.non, .str "hold", .str "miss", .str "hold", .str "bound", .str "hold", .str "miss", .str "hold"]
theorem why_pick {i : Nat} (hi : i < 8) {o1 o2 o3 t1 t2 t3 : V} (h1 : withinV o1 1 6 = false) (h2 : withinV o2 1 4 = false) (h3 : withinV o3 1 40 = false) (g1 : withinV t1 1 6 = true) (g2 : withinV t2 1 4 = true) (g3 : withinV t3 1 40 = true) :
    atI dueL (0 + (i : Int)) = some (whyV (whyB (pickB i 1 o1 t1) (pickB i 2 o2 t2) (pickB i 4 o3 t3))) := by
  have e : whyB (pickB i 1 o1 t1) (pickB i 2 o2 t2) (pickB i 4 o3 t3) = if bitB i 1 = true then some "hold" else if bitB i 2 = true then some "miss" else if bitB i 4 = true then some "bound" else none := by
    unfold whyB pickB
    cases bitB i 1 <;> cases bitB i 2 <;> cases bitB i 4 <;> simp [h1, h2, h3, g1, g2, g3]
  rw [e]
  have : i = 0 ∨ i = 1 ∨ i = 2 ∨ i = 3 ∨ i = 4 ∨ i = 5 ∨ i = 6 ∨ i = 7 := by omega
  rcases this with rfl | rfl | rfl | rfl | rfl | rfl | rfl | rfl <;> rfl
theorem Thg.pick {H : Hp} {i : Nat} {p : Int} {o t : V} (h : Thg H o) (k : Thg H t) : Thg H (pickB i p o t) := by
  unfold pickB
  split
  · exact h
  · exact k
theorem num_within {n : Num} (h : NumOk n) : withinV (.int n.hold) 1 6 = true ∧ withinV (.int n.miss) 1 4 = true ∧ withinV (.int n.bound) 1 40 = true := ⟨in_true h.h0 h.h1, in_true h.m0 h.m1, in_true h.b0 h.b1⟩
section
variable {P : Program} {w : World} {K : PySem.W.Frag} {mg : Str → Option Value} {base : Heap} {f C : Addr} {fd : FuncData}
theorem blkM (O : Own mg) (D9 : Df P w K mg base 5 "_law_why" psWhy spWhy) {cdv : Value} {A : Around} {outer : List Env} {s : Shared} {H : Hp} {E : XK} (hr : Room 5 (A.deeper (envOfC "law" (defScope sLaw) s.heap.objs.size f cdv))) :
    ∃ t, PSs (cxOf CX0 P w K mg base nmLaw "law" (defScope sLaw) f cdv A outer s H E).nox bodyM t ∧ ∀ (i : Nat) (n : Num) (pt po : Addr) (o1 o2 o3 : V) (H8 : Hp) (z0 z1 z2 z3 z4 z5 z6 z7 z8 z12 z13 z14 z15 z16 : Option V) (D : Ends), i < 8 → NumOk n →
      H8 pt = some (.lst [.int n.hold, .int n.miss, .int n.bound]) → H8 po = some (.lst [o1, o2, o3]) → Thg H8 o1 → Thg H8 o2 → Thg H8 o3 → withinV o1 1 6 = false → withinV o2 1 4 = false → withinV o3 1 40 = false →
      (∀ z12 z13 H', Same H8 H' → D.nx [z0, z1, z2, z3, z4, z5, z6, z7, z8, some (.ref pt), some (.ref po), some (.int (0 + (i : Int))), z12, z13, z14, z15, z16] H') →
      t D [z0, z1, z2, z3, z4, z5, z6, z7, z8, some (.ref pt), some (.ref po), some (.int (0 + (i : Int))), z12, z13, z14, z15, z16] H8 := by
  refine ⟨_, pss_cons (ps_setLc (i := 12) (own := [("_law_k", 16)]) (g := gName 16) (tt := tYes) (by rfl) scLaw.nd rfl rfl (sw_true rfl rfl rfl (by decide +kernel)) (pi_range1 rfl O.range (pa_cons pe_int pa_nil)) (blkOk_by (N := nmLaw) (sc := defScope sLaw) (by decide +kernel))
        (fun _ _ _ _ _ => pg_name (i := 16) scLaw.nd rfl (Or.inl rfl)) (fun _ _ _ _ _ => pts_nil) (fun _ _ _ _ _ => pe_ifExp (pt_cmpR op_eq (pe_op op_mod (pe_op op_fdiv (pv 11) (pe_ix (show IxR _ (rIxL K) from ix_list) (pe_lst (pa_cons pe_int (pa_cons pe_int (pa_cons pe_int pa_nil)))) (pv 16) (fun _ _ => rfl))) pe_int) pe_int (nomark _))
          (pe_ix (show IxR _ (rIxL K) from ix_list) (pv 10) (pv 16) (fun _ _ => rfl)) (pe_ix (show IxR _ (rIxL K) from ix_list) (pv 9) (pv 16) (fun _ _ => rfl))))
    (pss_cons (ps_set (i := 13) scLaw.nd rfl (Or.inl rfl) (pe_ix ix_list (pe_lst (pa_cons pe_non (pa_cons pe_str (pa_cons pe_str (pa_cons pe_str (pa_cons pe_str (pa_cons pe_str (pa_cons pe_str (pa_cons pe_str pa_nil))))))))) (pv 11) (fun _ _ => rfl)))
    (pss_one (ps_if (pt_cmpR op_ne (pe_D D9 hr rfl (pa_cons (pe_ix ix_list (pv 12) pe_int (fun _ _ => rfl)) (pa_cons (pe_ix ix_list (pv 12) pe_int (fun _ _ => rfl)) (pa_cons (pe_ix ix_list (pv 12) pe_int (fun _ _ => rfl)) pa_nil)))) (pv 13) (nomark _)) (pss_one (ps_ret pe_bl)) pss_nil))), ?_⟩
  intro i n pt po o1 o2 o3 H8 z0 z1 z2 z3 z4 z5 z6 z7 z8 z12 z13 z14 z15 z16 D hi hN ht ho t1 t2 t3 w1 w2 w3 nx
  obtain ⟨g1, g2, g3⟩ := num_within hN
  refine ⟨3, rfl, by decide, by decide, fun C4 hC4 => ?_⟩
  refine lc_range (lo := 0) (n := 3) (fun k Hc => Hc C4 = some (.lst ([pickB i 1 o1 (.int n.hold), pickB i 2 o2 (.int n.miss), pickB i 4 o3 (.int n.bound)].take k)) ∧ Same H8 Hc) ⟨upd_same, same_new hC4 _⟩ ?_ ?_
  · rintro k Hc hk ⟨hc, sm⟩
    match k, hk with
    | 0, _ =>
      have fin : ∀ y, pickB i 1 o1 (.int n.hold) = y → ∀ H4, Same Hc H4 → ∃ acc, H4 C4 = some (.lst acc) ∧ acc.length < sizeLine ∧ upd H4 C4 (.lst (acc ++ [y])) C4 = some (.lst ([pickB i 1 o1 (.int n.hold), pickB i 2 o2 (.int n.miss), pickB i 4 o3 (.int n.bound)].take (0 + 1))) ∧ Same H8 (upd H4 C4 (.lst (acc ++ [y]))) := fun y ey H4 s4 => ey ▸
        ⟨_, s4 _ _ hc, (by show 0 < sizeLine; decide), upd_same, fun b u hb => by rw [upd_ne (ne_of_none hb hC4)]; exact s4 _ _ (sm _ _ hb)⟩
      refine ⟨rfl, _, rfl, three, fun p5 n5 => ⟨_, rfl, p5, _, _, _, rfl, rfl, SqL.of upd_same, rfl, _, _, rfl, rfl, ⟨by decide, by decide⟩, _, _, rfl, rfl, (by show (0 : Int) < 2; decide), rfl, _, rfl, ite2 (fun c => ?_) (fun c => ?_)⟩⟩
      · have e : pickB i 1 o1 (.int n.hold) = o1 := if_pos c
        have s5 := same_new n5 (.lst [.int 1, .int 2, .int 4])
        have z := fin _ e _ s5
        exact ⟨_, rfl, _, rfl, po, _, _, _, rfl, rfl, SqL.of (s5 _ _ (sm _ _ ho)), rfl, z⟩
      · have e : pickB i 1 o1 (.int n.hold) = .int n.hold := if_neg c
        have s5 := same_new n5 (.lst [.int 1, .int 2, .int 4])
        have z := fin _ e _ s5
        exact ⟨_, rfl, _, rfl, pt, _, _, _, rfl, rfl, SqL.of (s5 _ _ (sm _ _ ht)), rfl, z⟩
    | 1, _ =>
      have fin : ∀ y, pickB i 2 o2 (.int n.miss) = y → ∀ H4, Same Hc H4 → ∃ acc, H4 C4 = some (.lst acc) ∧ acc.length < sizeLine ∧ upd H4 C4 (.lst (acc ++ [y])) C4 = some (.lst ([pickB i 1 o1 (.int n.hold), pickB i 2 o2 (.int n.miss), pickB i 4 o3 (.int n.bound)].take (1 + 1))) ∧ Same H8 (upd H4 C4 (.lst (acc ++ [y]))) := fun y ey H4 s4 => ey ▸
        ⟨_, s4 _ _ hc, (by show 1 < sizeLine; decide), upd_same, fun b u hb => by rw [upd_ne (ne_of_none hb hC4)]; exact s4 _ _ (sm _ _ hb)⟩
      refine ⟨rfl, _, rfl, three, fun p5 n5 => ⟨_, rfl, p5, _, _, _, rfl, rfl, SqL.of upd_same, rfl, _, _, rfl, rfl, ⟨by decide, by decide⟩, _, _, rfl, rfl, (by show (0 : Int) < 2; decide), rfl, _, rfl, ite2 (fun c => ?_) (fun c => ?_)⟩⟩
      · have e : pickB i 2 o2 (.int n.miss) = o2 := if_pos c
        have s5 := same_new n5 (.lst [.int 1, .int 2, .int 4])
        have z := fin _ e _ s5
        exact ⟨_, rfl, _, rfl, po, _, _, _, rfl, rfl, SqL.of (s5 _ _ (sm _ _ ho)), rfl, z⟩
      · have e : pickB i 2 o2 (.int n.miss) = .int n.miss := if_neg c
        have s5 := same_new n5 (.lst [.int 1, .int 2, .int 4])
        have z := fin _ e _ s5
        exact ⟨_, rfl, _, rfl, pt, _, _, _, rfl, rfl, SqL.of (s5 _ _ (sm _ _ ht)), rfl, z⟩
    | 2, _ =>
      have fin : ∀ y, pickB i 4 o3 (.int n.bound) = y → ∀ H4, Same Hc H4 → ∃ acc, H4 C4 = some (.lst acc) ∧ acc.length < sizeLine ∧ upd H4 C4 (.lst (acc ++ [y])) C4 = some (.lst ([pickB i 1 o1 (.int n.hold), pickB i 2 o2 (.int n.miss), pickB i 4 o3 (.int n.bound)].take (2 + 1))) ∧ Same H8 (upd H4 C4 (.lst (acc ++ [y]))) := fun y ey H4 s4 => ey ▸
        ⟨_, s4 _ _ hc, (by show 2 < sizeLine; decide), upd_same, fun b u hb => by rw [upd_ne (ne_of_none hb hC4)]; exact s4 _ _ (sm _ _ hb)⟩
      refine ⟨rfl, _, rfl, three, fun p5 n5 => ⟨_, rfl, p5, _, _, _, rfl, rfl, SqL.of upd_same, rfl, _, _, rfl, rfl, ⟨by decide, by decide⟩, _, _, rfl, rfl, (by show (0 : Int) < 2; decide), rfl, _, rfl, ite2 (fun c => ?_) (fun c => ?_)⟩⟩
      · have e : pickB i 4 o3 (.int n.bound) = o3 := if_pos c
        have s5 := same_new n5 (.lst [.int 1, .int 2, .int 4])
        have z := fin _ e _ s5
        exact ⟨_, rfl, _, rfl, po, _, _, _, rfl, rfl, SqL.of (s5 _ _ (sm _ _ ho)), rfl, z⟩
      · have e : pickB i 4 o3 (.int n.bound) = .int n.bound := if_neg c
        have s5 := same_new n5 (.lst [.int 1, .int 2, .int 4])
        have z := fin _ e _ s5
        exact ⟨_, rfl, _, rfl, pt, _, _, _, rfl, rfl, SqL.of (s5 _ _ (sm _ _ ht)), rfl, z⟩
  · rintro Hc ⟨hc, sm⟩
    have hc : Hc C4 = some (.lst [pickB i 1 o1 (.int n.hold), pickB i 2 o2 (.int n.miss), pickB i 4 o3 (.int n.bound)]) := hc
    refine ⟨small (by show 8 ≤ 1000; decide), fun p6 n6 => ⟨_, rfl, p6, _, _, _, rfl, rfl, SqL.of upd_same, why_pick hi w1 w2 w3 g1 g2 g3, ?_⟩⟩
    have s6 := same_new n6 (.lst dueL)
    have hc6 := s6 _ _ hc
    have s06 := sm.trans s6
    refine ⟨_, rfl, C4, _, _, _, rfl, rfl, SqL.of hc6, atI_nat (j := 0) rfl, _, rfl, C4, _, _, _, rfl, rfl, SqL.of hc6, atI_nat (j := 1) rfl, _, rfl, C4, _, _, _, rfl, rfl, SqL.of hc6, atI_nat (j := 2) rfl, ?_⟩
    refine ⟨_, _, _, rfl, (t1.keep s06).pick (.int _), (t2.keep s06).pick (.int _), (t3.keep s06).pick (.int _), fun H7 s7 => ⟨_, rfl, ?_, _, rfl, itN (fun c => absurd rfl c) (fun _ => nx _ _ H7 (s06.trans s7))⟩⟩
    cases whyB (pickB i 1 o1 (.int n.hold)) (pickB i 2 o2 (.int n.miss)) (pickB i 4 o3 (.int n.bound)) <;> rfl
end
end Any
set_option maxHeartbeats 2000000
namespace Any
open L2 PySem PySem.Spec PyProof.Rows
/-- what is not a way with these numbers, fresh -/
def Unl (C : Addr) (H : Hp) (n : Num) (y : V) : Prop := (∃ (y' : Addr) (n' : Num), y = .ref y' ∧ WayAt C H y' n' sto0 (0, 0) ∧ NumOk n' ∧ n ≠ n') ∨ y = .non ∨ ∃ a xs, y = .ref a ∧ H a = some (.tup xs)
theorem Unl.keep {C : Addr} {H H' : Hp} {n : Num} {y : V} (u : Unl C H n y) (s : Same H H') : Unl C H' n y := by
  rcases u with ⟨y', n', rfl, h1, h2, h3⟩ | rfl | ⟨a, xs, rfl, h⟩
  · exact .inl ⟨y', n', rfl, h1.keep s, h2, h3⟩
  · exact .inr (.inl rfl)
  · exact .inr (.inr ⟨a, xs, rfl, s _ _ h⟩)
theorem Unl.oth {C : Addr} {H : Hp} {n : Num} {y : V} (u : Unl C H n y) : Oth C H y := by
  rcases u with ⟨y', n', rfl, ⟨dx, k, g, hx, _⟩, h2, h3⟩ | rfl | ⟨a, xs, rfl, h⟩
  · exact .ins hx
  · exact .non
  · exact .tup h
theorem Unl.sp {C : Addr} {H : Hp} {n : Num} {x : Addr} {y : V} {Q : VK} {E : XK} (u : Unl C H n y) (hX : WayAt C H x n sto0 (0, 0)) (hN : NumOk n) (q : Q (.bl false) H) : spEqW C [.ref x, y] H Q E := by
  refine ⟨x, y, n, sto0, (0, 0), rfl, hX, hN, sto0_ok hN, ?_⟩
  rcases u with ⟨y', n', rfl, h1, h2, h3⟩ | rfl | ⟨a, xs, rfl, h⟩
  · refine .inl ⟨y', n', sto0, (0, 0), rfl, h1, h2, sto0_ok h2, ?_⟩
    rw [decide_eq_false (fun z => h3 z.1)]
    exact q
  · exact .inr ⟨.inr (.inr rfl), q⟩
  · exact .inr ⟨.inr (.inl ⟨a, xs, rfl, h⟩), q⟩
theorem any_no (k : Nat) : ((List.replicate k false).any id) = false := by
  induction k with
  | zero => rfl
  | succ k ih => rw [List.replicate_succ, List.any_cons, ih]; rfl
theorem all_yes' (k : Nat) : ((List.replicate k true).all id) = true := by
  induction k with
  | zero => rfl
  | succ k ih => rw [List.replicate_succ, List.all_cons, ih]; rfl
section
variable {P : Program} {w : World} {K : PySem.W.Frag} {mg : Str → Option Value} {base : Heap} {f C : Addr} {fd : FuncData}
/-- if any([way == other ..]) or not all([way != other ..]) -/
theorem blkC (O : Own mg) (mA : mg "any" = none) (WE : WayE P w K mg base C) {cdv : Value} {A : Around} {outer : List Env} {s : Shared} {H : Hp} {E : XK} (hr : Room 5 (A.deeper (envOfC "law" (defScope sLaw) s.heap.objs.size f cdv))) :
    ∃ t, PS (cxOf CX0 P w K mg base nmLaw "law" (defScope sLaw) f cdv A outer s H E).nox (stAt bodyT 8) t ∧ ∀ (n : Num) (x po : Addr) (ys : List V) (H8 : Hp) (z0 z1 z2 z3 z4 z5 z7 z9 z10 z11 z12 z13 z14 z15 z16 : Option V) (D : Ends), NumOk n → ys.length ≤ 10 →
      H8 po = some (.lst ys) → WayAt C H8 x n sto0 (0, 0) → (∀ y ∈ ys, Unl C H8 n y) →
      (∀ H', Same H8 H' → D.nx [z0, z1, z2, z3, z4, z5, some (.ref x), z7, some (.ref po), z9, z10, z11, z12, z13, z14, z15, z16] H') →
      t D [z0, z1, z2, z3, z4, z5, some (.ref x), z7, some (.ref po), z9, z10, z11, z12, z13, z14, z15, z16] H8 := by
  have hr1 := hr.mono (show 1 ≤ 5 by decide)
  have hr2 := hr.mono (show 2 ≤ 5 by decide)
  refine ⟨_, ps_if (PW.pt (pw_or (pt_val (pe_callB (cr_any rfl) rfl mA (by decide +kernel) (pa_cons (pe_lc (own := [("_law_other", 14)]) (g := gName 14) (tt := tYes) rfl scLaw.nd (pi_list (pv 8)) (blkOk_by (N := nmLaw) (sc := defScope sLaw) (by decide +kernel))
        (fun _ _ _ _ _ => pg_name (i := 14) scLaw.nd rfl (Or.inl rfl)) (fun _ _ _ _ _ => pts_nil) (fun _ _ _ _ _ => pe_cmpR (op_eqO WE.eq hr1) (pv 6) (pv 14) (nomark _))) pa_nil)))
      (pw_or1 (pt_not (pt_val (pe_callB (cr_all rfl) rfl O.all (by decide +kernel) (pa_cons (pe_lc (own := [("_law_other", 14)]) (g := gName 14) (tt := tYes) rfl scLaw.nd (pi_list (pv 8)) (blkOk_by (N := nmLaw) (sc := defScope sLaw) (by decide +kernel))
        (fun _ _ _ _ _ => pg_name (i := 14) scLaw.nd rfl (Or.inl rfl)) (fun _ _ _ _ _ => pts_nil) (fun _ _ _ _ _ => pe_cmpR (op_neO WE.eq hr2) (pv 6) (pv 14) (nomark _))) pa_nil))))))) (pss_one (ps_ret pe_bl)) pss_nil, ?_⟩
  intro n x po ys H8 z0 z1 z2 z3 z4 z5 z7 z9 z10 z11 z12 z13 z14 z15 z16 D hN hl ho hX un nx
  refine ⟨_, rfl, po, rfl, ⟨_, SqL.of ho⟩, fun C1 hC1 => ?_⟩
  refine lc_list (K := K) (a := po) (xs := ys) (fun i Hc => Hc C1 = some (.lst ((List.replicate i false).map V.bl)) ∧ Same H8 Hc) ⟨upd_same, same_new hC1 _⟩ (fun i Hc _ z => SqL.of (z.2 _ _ ho)) ?_ ?_
  · rintro i y Hc hy ⟨hc, sm⟩
    have hi : i < ys.length := (List.getElem?_eq_some_iff.mp hy).1
    have u := (un y (List.mem_of_getElem? hy)).keep sm
    have X1 := hX.keep sm
    obtain ⟨dx, kx, gx, hx, _⟩ := id X1
    refine ⟨rfl, _, rfl, _, rfl, x, dx, _, rfl, hx, u.oth, u.sp X1 hN ⟨_, rfl, _, hc, by rw [List.length_map, List.length_replicate]; exact small1000 (by omega), ?_, fun b o hb => ?_⟩⟩
    · rw [upd_same, List.replicate_succ', List.map_append]
      rfl
    · rw [upd_ne (ne_of_none hb hC1)]
      exact sm _ _ hb
  rintro H1 ⟨hc1, s1⟩
  refine ⟨C1, _, rfl, SqL.of hc1, _, rfl, ?_⟩
  rw [any_no]
  refine itF rfl ?_
  refine ⟨_, rfl, po, rfl, ⟨_, SqL.of (s1 _ _ ho)⟩, fun C2 hC2 => ?_⟩
  refine lc_list (K := K) (a := po) (xs := ys) (fun i Hc => Hc C2 = some (.lst ((List.replicate i true).map V.bl)) ∧ Same H1 Hc) ⟨upd_same, same_new hC2 _⟩ (fun i Hc _ z => SqL.of (z.2 _ _ (s1 _ _ ho))) ?_ ?_
  · rintro i y Hc hy ⟨hc, sm⟩
    have hi : i < ys.length := (List.getElem?_eq_some_iff.mp hy).1
    have u := ((un y (List.mem_of_getElem? hy)).keep s1).keep sm
    have X1 := (hX.keep s1).keep sm
    obtain ⟨dx, kx, gx, hx, _⟩ := id X1
    refine ⟨rfl, _, rfl, _, rfl, x, dx, _, rfl, hx, u.oth, u.sp X1 hN ⟨_, rfl, _, hc, by rw [List.length_map, List.length_replicate]; exact small1000 (by omega), ?_, fun b o hb => ?_⟩⟩
    · rw [upd_same, List.replicate_succ', List.map_append]
      rfl
    · rw [upd_ne (ne_of_none hb hC2)]
      exact sm _ _ hb
  rintro H2 ⟨hc2, s2⟩
  refine ⟨C2, _, rfl, SqL.of hc2, _, rfl, ?_⟩
  rw [all_yes']
  exact itF rfl (nx H2 (s1.trans s2))
/-- if repr(way) != .. or not way == twin or way != twin -/
theorem blkR (O : Own mg) (mS : mg "str" = none) (WE : WayE P w K mg base C) {cdv : Value} {A : Around} {outer : List Env} {s : Shared} {H : Hp} {E : XK} (hr : Room 5 (A.deeper (envOfC "law" (defScope sLaw) s.heap.objs.size f cdv))) :
    ∃ t, PS (cxOf CX0 P w K mg base nmLaw "law" (defScope sLaw) f cdv A outer s H E).nox (stAt bodyT 5) t ∧ ∀ (n : Num) (x y : Addr) (H8 : Hp) (z0 z1 z2 z8 z9 z10 z11 z12 z13 z14 z15 z16 : Option V) (D : Ends), NumOk n → WayAt C H8 x n sto0 (0, 0) → WayAt C H8 y n sto0 (0, 0) →
      D.nx [z0, z1, z2, some (.int n.hold), some (.int n.miss), some (.int n.bound), some (.ref x), some (.ref y), z8, z9, z10, z11, z12, z13, z14, z15, z16] H8 →
      t D [z0, z1, z2, some (.int n.hold), some (.int n.miss), some (.int n.bound), some (.ref x), some (.ref y), z8, z9, z10, z11, z12, z13, z14, z15, z16] H8 := by
  have hr1 := hr.mono (show 1 ≤ 5 by decide)
  have hr2 := hr.mono (show 2 ≤ 5 by decide)
  refine ⟨_, ps_if (PW.pt (pw_or (pt_cmpR op_ne (pe_callB (call_reprO WE.re hr2) rfl O.repr (by decide +kernel) (pa_cons (pv 6) pa_nil))
        (pe_op op_add_str (pe_op op_add_str (pe_op op_add_str (pe_op op_add_str (pe_op op_add_str (pe_op op_add_str pe_str (pe_callTy call_str_int rfl mS (by decide +kernel) (pa_cons (pv 3) pa_nil))) pe_str) (pe_callTy call_str_int rfl mS (by decide +kernel) (pa_cons (pv 4) pa_nil))) pe_str) (pe_callTy call_str_int rfl mS (by decide +kernel) (pa_cons (pv 5) pa_nil))) pe_str) (nomark _))
      (pw_or (pt_not (pt_cmpR (op_eqO WE.eq hr1) (pv 6) (pv 7) (nomark _))) (pw_or1 (pt_cmpR (op_neO WE.eq hr2) (pv 6) (pv 7) (nomark _)))))) (pss_one (ps_ret pe_bl)) pss_nil, ?_⟩
  intro n x y H8 z0 z1 z2 z8 z9 z10 z11 z12 z13 z14 z15 z16 D hN hX hY nx
  obtain ⟨dx, kx, gx, hx, _⟩ := id hX
  obtain ⟨dy, ky, gy, hy, _⟩ := id hY
  have a1 := hN.h1
  have a2 := hN.m1
  have a3 := hN.b1
  have z1' := hN.h0
  have z2' := hN.m0
  have z3' := hN.b0
  have l1 := num_len (i := n.hold) (by omega) (by omega)
  have l2 := num_len (i := n.miss) (by omega) (by omega)
  have l3 := num_len (i := n.bound) (by omega) (by omega)
  have c1 : ("Way(" : Str).length = 4 := by decide +kernel
  have c2 : (", " : Str).length = 2 := by decide +kernel
  have c3 : (")" : Str).length = 1 := by decide +kernel
  have few : ∀ {m : Nat}, m ≤ 100 → m ≤ sizeLine := fun h => small (by omega)
  have e : wayT n = "Way(" ++ numT n.hold ++ ", " ++ numT n.miss ++ ", " ++ numT n.bound ++ ")" := by
    unfold wayT
    rw [show Str.empty ++ ("Way(" : Str) = "Way(" by decide +kernel]
  refine ⟨_, rfl, x, dx, _, rfl, hx, x, n, sto0, (0, 0), rfl, hX, hN, _, rfl, ?_⟩
  refine ⟨_, rfl, n.hold, rfl, num_log (by omega) (by omega), _, _, rfl, rfl, few (by show ("Way(" : Str).length + (numT n.hold).length ≤ 100; omega), ?_⟩
  refine ⟨_, _, rfl, rfl, few (by show ("Way(" ++ numT n.hold : Str).length + (", " : Str).length ≤ 100; rw [Str.length_append]; omega), ?_⟩
  refine ⟨_, rfl, n.miss, rfl, num_log (by omega) (by omega), _, _, rfl, rfl, few (by show ("Way(" ++ numT n.hold ++ ", " : Str).length + (numT n.miss).length ≤ 100; rw [Str.length_append, Str.length_append]; omega), ?_⟩
  refine ⟨_, _, rfl, rfl, few (by show ("Way(" ++ numT n.hold ++ ", " ++ numT n.miss : Str).length + (", " : Str).length ≤ 100; rw [Str.length_append, Str.length_append, Str.length_append]; omega), ?_⟩
  refine ⟨_, rfl, n.bound, rfl, num_log (by omega) (by omega), _, _, rfl, rfl, few (by show ("Way(" ++ numT n.hold ++ ", " ++ numT n.miss ++ ", " : Str).length + (numT n.bound).length ≤ 100; rw [Str.length_append, Str.length_append, Str.length_append, Str.length_append]; omega), ?_⟩
  refine ⟨_, _, rfl, rfl, few (by show ("Way(" ++ numT n.hold ++ ", " ++ numT n.miss ++ ", " ++ numT n.bound : Str).length + (")" : Str).length ≤ 100; rw [Str.length_append, Str.length_append, Str.length_append, Str.length_append, Str.length_append]; omega), ?_⟩
  refine ⟨rfl, _, rfl, itN (fun c => absurd (congrArg V.str e) c) (fun _ => ?_)⟩
  refine ⟨_, rfl, _, rfl, x, dx, _, rfl, hx, .ins hy, x, .ref y, n, sto0, (0, 0), rfl, hX, hN, sto0_ok hN, .inl ⟨y, n, sto0, (0, 0), rfl, hY, hN, sto0_ok hN, _, rfl, _, rfl, ?_⟩⟩
  rw [decide_eq_true (show n = n ∧ sto0 = sto0 ∧ ((0 : Int), (0 : Int)) = (0, 0) from ⟨rfl, rfl, rfl⟩)]
  refine itF rfl ?_
  refine ⟨_, rfl, _, rfl, x, dx, _, rfl, hx, .ins hy, x, .ref y, n, sto0, (0, 0), rfl, hX, hN, sto0_ok hN, .inl ⟨y, n, sto0, (0, 0), rfl, hY, hN, sto0_ok hN, _, rfl, _, rfl, ?_⟩⟩
  rw [decide_eq_true (show n = n ∧ sto0 = sto0 ∧ ((0 : Int), (0 : Int)) = (0, 0) from ⟨rfl, rfl, rfl⟩)]
  exact itF rfl nx
end
end Any
set_option maxHeartbeats 4000000
namespace Any
open L2 PySem PySem.Spec PyProof.Rows
theorem Thg.keepL {H H' : Hp} {b : Addr} {v : V} {xs ys : List V} (h : Thg H v) (k : Kept b H H') (hb : H b = some (.lst xs)) (hb' : H' b = some (.lst ys)) : Thg H' v := by
  cases h with
  | int i => exact .int i
  | bl b => exact .bl b
  | odd h =>
    cases h with
    | non => exact .odd .non
    | str x => exact .odd (.str x)
    | dct h => exact .odd (.dct (k _ _ (ne_of h hb (by intro z; cases z)) h))
    | tup h => exact .odd (.tup (k _ _ (ne_of h hb (by intro z; cases z)) h))
    | @lst a zs h =>
      by_cases e : a = b
      · rw [e]
        exact .odd (.lst hb')
      · exact .odd (.lst (k _ _ e h))
theorem num_up {n : Num} (h : NumOk n) : NumOk ⟨n.hold % 6 + 1, n.miss, n.bound⟩ ∧ NumOk ⟨n.hold, n.miss % 4 + 1, n.bound⟩ ∧ NumOk ⟨n.hold, n.miss, n.bound % 40 + 1⟩ ∧ n ≠ ⟨n.hold % 6 + 1, n.miss, n.bound⟩ ∧ n ≠ ⟨n.hold, n.miss % 4 + 1, n.bound⟩ ∧ n ≠ ⟨n.hold, n.miss, n.bound % 40 + 1⟩ := by
  obtain ⟨a, b, c⟩ := n
  obtain ⟨h1, h2, h3, h4, h5, h6⟩ := h
  simp only at h1 h2 h3 h4 h5 h6
  refine ⟨⟨?_, ?_, h3, h4, h5, h6⟩, ⟨h1, h2, ?_, ?_, h5, h6⟩, ⟨h1, h2, h3, h4, ?_, ?_⟩, fun z => ?_, fun z => ?_, fun z => ?_⟩
  · show 1 ≤ a % 6 + 1; omega
  · show a % 6 + 1 ≤ 6; omega
  · show 1 ≤ b % 4 + 1; omega
  · show b % 4 + 1 ≤ 4; omega
  · show 1 ≤ c % 40 + 1; omega
  · show c % 40 + 1 ≤ 40; omega
  · have q : a = a % 6 + 1 := (Num.mk.inj z).1
    omega
  · have q : b = b % 4 + 1 := (Num.mk.inj z).2.1
    omega
  · have q : c = c % 40 + 1 := (Num.mk.inj z).2.2
    omega
theorem new_same {C x dx : Addr} {H H' : Hp} (k : Kept x (upd (upd H dx (.own x)) x (.ins C dx [])) H') (hx : H x = none) (hdx : H dx = none) (ne : dx ≠ x) : Same H H' :=
  same_one ((same_new hdx _).trans (same_new (by rw [upd_ne ne.symm]; exact hx) _)) k hx
section
variable {P : Program} {w : World} {K : PySem.W.Frag} {mg : Str → Option Value} {base : Heap} {f C : Addr} {fd : FuncData}
theorem blkE (O : Own mg) (mA : mg "any" = none) (W : WayD P w K mg base C) (WE : WayE P w K mg base C) (N : WayN P w K mg base C) (D6 : DfG P w K mg base 5 "_law_first" ["_law_way"] (spFirst C)) (D7 : Df P w K mg base 2 "_law_odd" psOdd spOdd) (D9 : Df P w K mg base 5 "_law_why" psWhy spWhy)
    {cdv : Value} {A : Around} {outer : List Env} {s : Shared} {H : Hp} {E : XK} (hG : (A.deeper (envOfC "law" (defScope sLaw) s.heap.objs.size f cdv)).guards = some []) (hr : Room 5 (A.deeper (envOfC "law" (defScope sLaw) s.heap.objs.size f cdv))) :
    ∃ t, PSs (cxOf CX0 P w K mg base nmLaw "law" (defScope sLaw) f cdv A outer s H E).nox (bodyT.drop 6) t ∧ ∀ (n : Num) (b x y : Addr) (k : Nat) (H6 : Hp) (z0 z1 z8 z9 z10 z11 z12 z13 z14 z15 z16 : Option V) (D : Ends), NumOk n → Same H H6 → Bag H6 b (k + 3) → WayAt C H6 x n sto0 (0, 0) → WayAt C H6 y n sto0 (0, 0) → x ≠ y → H b = none → H x = none → H y = none →
      (∀ z8 z9 z10 z11 z12 z13 H', Same H H' → D.nx [z0, z1, some (.ref b), some (.int n.hold), some (.int n.miss), some (.int n.bound), some (.ref x), some (.ref y), z8, z9, z10, z11, z12, z13, z14, z15, z16] H') →
      t D [z0, z1, some (.ref b), some (.int n.hold), some (.int n.miss), some (.int n.bound), some (.ref x), some (.ref y), z8, z9, z10, z11, z12, z13, z14, z15, z16] H6 := by
  have hr1 := hr.mono (show 1 ≤ 5 by decide)
  have hr2 := hr.mono (show 2 ≤ 5 by decide)
  have hr4 := hr.mono (show 4 ≤ 5 by decide)
  obtain ⟨tC, hC, leafC⟩ := blkC (P := P) (w := w) (K := K) (base := base) (f := f) (C := C) O mA WE (cdv := cdv) (A := A) (outer := outer) (s := s) (H := H) (E := E) hr
  obtain ⟨tM, hM, leafM⟩ := blkM (P := P) (w := w) (K := K) (base := base) (f := f) O D9 (cdv := cdv) (A := A) (outer := outer) (s := s) (H := H) (E := E) hr
  refine ⟨_, pss_cons (ps_set (i := 8) scLaw.nd rfl (Or.inl rfl) (pe_lst (pa_cons (pe_CK N.mb hr4 rfl (pa_cons (pe_op op_add (pe_op op_mod (pv 3) pe_int) pe_int) pa_nil) (pk_cons (pv 4) (pk_cons (pv 5) pk_nil))) (pa_cons (pe_CK N.mb hr4 rfl (pa_cons (pv 3) pa_nil) (pk_cons (pe_op op_add (pe_op op_mod (pv 4) pe_int) pe_int) (pk_cons (pv 5) pk_nil))) (pa_cons pe_non (pa_cons (pe_M0 W.store W.cls.cl (pv 6) hr1) pa_nil))))))
    (pss_cons (ps_expr (pe_bm PySem.F.plainAttrs_list PySem.F.slot_list_append PySem.F.type_list_append mt_append (pv 8) (pa_cons (pe_CK N.mb hr4 rfl (pa_cons (pv 3) pa_nil) (pk_cons (pv 4) (pk_cons (pe_op op_add (pe_op op_mod (pv 5) pe_int) pe_int) pk_nil))) pa_nil)))
    (pss_cons hC
    (pss_cons (ps_if (PW.pt (pw_or (pt_not (pt_val (pe_DG D6 hG hr rfl (pa_cons (pv 6) pa_nil)))) (pw_or1 (pt_not (pt_val (pe_DG D6 hG hr rfl (pa_cons (pv 7) pa_nil))))))) (pss_one (ps_ret pe_bl)) pss_nil)
    (pss_cons (ps_asg (pe_tup (pa_cons (pe_lst (pa_cons (pv 3) (pa_cons (pv 4) (pa_cons (pv 5) pa_nil)))) (pa_cons (pe_lc (own := [("_law_most", 15)]) (g := gName 15) (tt := tYes) rfl scLaw.nd (pi_tup (pe_tup (pa_cons pe_int (pa_cons pe_int (pa_cons pe_int pa_nil))))) (blkOk_by (N := nmLaw) (sc := defScope sLaw) (by decide +kernel))
        (fun _ _ _ _ _ => pg_name (i := 15) scLaw.nd rfl (Or.inl rfl)) (fun _ _ _ _ _ => pts_nil) (fun _ _ _ _ _ => pe_D D7 hr2 rfl (pa_cons (pv 2) (pa_cons (pv 15) pa_nil)))) pa_nil))) (pg_tup rfl (pgs_cons (pg_name (i := 9) scLaw.nd rfl (Or.inr rfl)) (pgs_cons (pg_name (i := 10) scLaw.nd rfl (Or.inr rfl)) pgs_nil))))
    (pss_one (ps_for PassesOwn.never rfl (pi_range1 rfl O.range (pa_cons pe_int pa_nil)) (pg_name (i := 11) scLaw.nd rfl (Or.inr rfl)) hM)))))), ?_⟩
  intro n b x y k H6 z0 z1 z8 z9 z10 z11 z12 z13 z14 z15 z16 D hN s6 hB hX hY xy nb nx_ ny nx
  obtain ⟨ok1, ok2, ok3, ne1, ne2, ne3⟩ := num_up hN
  have tl : ∀ {xs ys : List V}, HO.lst xs ≠ .tup ys := by intro _ _ z; cases z
  have ti : ∀ {fs : List (Str × V)} {d : Addr} ys, HO.ins C d fs ≠ .tup ys := by intro _ _ _ z; cases z
  refine ⟨_, rfl, _, _, rfl, rfl, (by show (0 : Int) < 6; decide), _, _, rfl, rfl, _, rfl, _, rfl, rfl, rfl, fun w1 d1 a1 b1 c1 => ?_⟩
  refine ⟨w1, d1, ⟨n.hold % 6 + 1, n.miss, n.bound⟩, rfl, ok1, upd_same, fun H7 k1_ W7 => ⟨rfl, ?_⟩⟩
  have s7 := new_same k1_ a1 b1 c1
  refine ⟨_, rfl, _, rfl, _, _, rfl, rfl, (by show (0 : Int) < 4; decide), _, _, rfl, rfl, _, rfl, rfl, rfl, fun w2 d2 a2 b2 c2 => ?_⟩
  refine ⟨w2, d2, ⟨n.hold, n.miss % 4 + 1, n.bound⟩, rfl, ok2, upd_same, fun H8 k2_ W8 => ⟨rfl, ?_⟩⟩
  have s8 := new_same k2_ a2 b2 c2
  have X8 := (hX.keep s7).keep s8
  obtain ⟨dx, kx, gx, hx, hKx, hgx⟩ := id X8
  refine ⟨_, rfl, x, dx, _, rfl, hx, wf_none (by decide +kernel), x, n, sto0, (0, 0), rfl, X8, fun kc hkc => ⟨four, fun p9 n9 => ?_⟩⟩
  obtain ⟨Lc, Ec, hkt, _⟩ := id hkc
  have s9 := same_new n9 (.lst [.ref w1, .ref w2, .non, .ref kc])
  refine ⟨_, rfl, .inl ⟨rfl, _, SqL.of upd_same⟩, _, rfl, _, rfl, _, rfl, _, _, rfl, rfl, (by show (0 : Int) < 40; decide), _, _, rfl, rfl, rfl, rfl, fun w3 d3 a3 b3 c3 => ?_⟩
  refine ⟨w3, d3, ⟨n.hold, n.miss, n.bound % 40 + 1⟩, rfl, ok3, upd_same, fun H10 k3_ W10 => ⟨rfl, ?_⟩⟩
  have s10 := new_same k3_ a3 b3 c3
  have h9 := s10 _ _ (@upd_same H8 p9 (.lst [.ref w1, .ref w2, .non, .ref kc]))
  refine ⟨p9, _, _, rfl, rfl, h9, (by show 4 < sizeLine; decide), ?_⟩
  have s810 := s9.trans s10
  have s610 := s7.trans (s8.trans s810)
  have k11 : Kept p9 H10 (upd H10 p9 (.lst ([.ref w1, .ref w2, .non, .ref kc] ++ [.ref w3]))) := Kept.put _
  have h11 := @upd_same H10 p9 (.lst ([.ref w1, .ref w2, .non, .ref kc] ++ [.ref w3]))
  have np9 : H6 p9 = none := (s7.trans s8).free n9
  have s611 : Same H6 (upd H10 p9 (.lst ([.ref w1, .ref w2, .non, .ref kc] ++ [.ref w3]))) := same_one s610 k11 np9
  have nl : ∀ {z : Addr} {o : HO}, H10 z = some o → (∀ xs, o ≠ .lst xs) → z ≠ p9 := fun h d e => by
    rw [e, h9] at h
    exact d _ (Option.some.inj h).symm
  have il : ∀ {fs : List (Str × V)} {d : Addr} ys, HO.ins C d fs ≠ .lst ys := by intro _ _ _ z; cases z
  have W7' := (W7.keep (s8.trans s810))
  have W8' := W8.keep s810
  have wn : ∀ {z : Addr} {m : Num}, WayAt C H10 z m sto0 (0, 0) → WayAt C (upd H10 p9 (.lst ([.ref w1, .ref w2, .non, .ref kc] ++ [.ref w3]))) z m sto0 (0, 0) := fun hw => by
    obtain ⟨d, _, _, hz, _⟩ := id hw
    exact hw.keepX k11 h9 (fun _ => tl) (nl hz il)
  have U1 := wn W7'
  have U2 := wn W8'
  have U3 := wn W10
  have kc11 := k11 _ _ (nl (s810 _ _ hkt) (by intro _ z; cases z)) (s810 _ _ hkt)
  have X11 := hX.keep s611
  have Y11 := hY.keep s611
  have B11 := hB.keep s611
  clear k11 wn
  generalize upd H10 p9 (.lst ([.ref w1, .ref w2, .non, .ref kc] ++ [.ref w3])) = H11 at *
  have h11 : H11 p9 = some (.lst [.ref w1, .ref w2, .non, .ref kc, .ref w3]) := h11
  refine leafC n x p9 _ H11 _ _ _ _ _ _ _ _ _ _ _ _ _ _ _ _ hN (by show 5 ≤ 10; decide) h11 X11 (fun v hv => ?_) fun H12 s12 => ?_
  · simp only [List.mem_cons, List.not_mem_nil, or_false] at hv
    rcases hv with rfl | rfl | rfl | rfl | rfl
    · exact .inl ⟨w1, _, rfl, U1, ok1, ne1⟩
    · exact .inl ⟨w2, _, rfl, U2, ok2, ne2⟩
    · exact .inr (.inl rfl)
    · exact .inr (.inr ⟨kc, _, rfl, kc11⟩)
    · exact .inl ⟨w3, _, rfl, U3, ok3, ne3⟩
  have s012 := s6.trans (s611.trans s12)
  have X12 := X11.keep s12
  have Y12 := Y11.keep s12
  have B12 := B11.keep s12
  obtain ⟨dx12, _, _, hx12, _⟩ := id X12
  obtain ⟨dy12, _, _, hy12, _⟩ := id Y12
  have bx : b ≠ x := by
    obtain ⟨g1, g2, g3, h1, _⟩ := B12
    exact ne_of h1 hx12 (by intro z; cases z)
  refine ⟨_, rfl, x, n, rfl, X12, hN, fun H13 k13 => ⟨_, rfl, itF rfl ?_⟩⟩
  have Y13 := Y12.keepX k13 hx12 ti xy.symm
  have B13 := B12.keepX k13 bx
  have s013 := same_one s012 k13 nx_
  obtain ⟨dy13, _, _, hy13, _⟩ := id Y13
  have by_ : b ≠ y := by
    obtain ⟨g1, g2, g3, h1, _⟩ := B13
    exact ne_of h1 hy13 (by intro z; cases z)
  refine ⟨_, rfl, y, n, rfl, Y13, hN, fun H14 k14 => ⟨_, rfl, itF rfl ?_⟩⟩
  have B14 := B13.keepX k14 by_
  have s014 := same_one s013 k14 ny
  refine ⟨_, rfl, _, rfl, _, rfl, three, fun p15 n15 => ⟨three, fun p16 n16 => ⟨p16, rfl, ⟨_, SqT.of upd_same⟩, fun C17 hC17 => ?_⟩⟩⟩
  have s15 := same_new n15 (.lst [.int n.hold, .int n.miss, .int n.bound])
  have s16 := same_new n16 (.tup [.int 6, .int 4, .int 40])
  have e15 := s16 _ _ (@upd_same H14 p15 (.lst [.int n.hold, .int n.miss, .int n.bound]))
  have e16 := @upd_same (upd H14 p15 (.lst [.int n.hold, .int n.miss, .int n.bound])) p16 (.tup [.int 6, .int 4, .int 40])
  have B16 := (B14.keep s15).keep s16
  have s016 := s014.trans (s15.trans s16)
  have n15b : p15 ≠ b := B14.ne n15
  clear s16
  generalize upd (upd H14 p15 (.lst [.int n.hold, .int n.miss, .int n.bound])) p16 (.tup [.int 6, .int 4, .int 40]) = H16 at *
  have nC : C17 ≠ b := B16.ne hC17
  refine lc_tup (K := K) (a := p16) (xs := [.int 6, .int 4, .int 40]) (fun i Hc => ∃ os : List V, Hc C17 = some (.lst os) ∧ os.length = i ∧ (∀ (j : Nat) (o : V) (M : Int), os[j]? = some o → ([6, 4, 40] : List Int)[j]? = some M → Thg Hc o ∧ withinV o 1 M = false) ∧ Bag Hc b (k + 3 - i) ∧ Kept b H16 Hc)
    ⟨[], upd_same, rfl, (fun j o M h => by simp at h), B16.keep (same_new hC17 _), Kept.new hC17 _⟩ ?_ ?_ ?_
  · rintro i Hc _ ⟨os, _, _, _, _, kc⟩
    exact SqT.of (B16.tups kc _ _ e16)
  · rintro i v Hc hv ⟨os, o1, o2, o3, o4, o5⟩
    obtain ⟨M, rfl, hM', M1, M2⟩ : ∃ M : Int, v = .int M ∧ ([6, 4, 40] : List Int)[i]? = some M ∧ 1 ≤ M ∧ M ≤ 100 := by
      match i, hv with
      | 0, hv => cases hv; exact ⟨6, rfl, rfl, by decide, by decide⟩
      | 1, hv => cases hv; exact ⟨4, rfl, rfl, by decide, by decide⟩
      | 2, hv => cases hv; exact ⟨40, rfl, rfl, by decide, by decide⟩
      | i + 3, hv => simp at hv
    have hi : i < 3 := (List.getElem?_eq_some_iff.mp hv).1
    refine ⟨rfl, _, rfl, _, rfl, b, k + 3 - (i + 1), M, rfl, o4.less (by omega), ⟨M1, M2⟩, fun o H18 k18 B18 to wo => ?_⟩
    have hc18 := k18 _ _ nC o1
    refine ⟨_, hc18, by rw [o2]; exact small1000 (by omega), os ++ [o], upd_same, by rw [List.length_append, o2]; rfl, fun j o' M' hj hM2 => ?_, B18.put nC.symm, ?_⟩
    · have keep : ∀ {u : V}, Thg H18 u → Thg (upd H18 C17 (.lst (os ++ [o]))) u := fun h => h.keepL (Kept.put _) hc18 upd_same
      by_cases e : j < os.length
      · rw [List.getElem?_append_left e] at hj
        obtain ⟨g1, g2⟩ := o3 j o' M' hj hM2
        obtain ⟨xs, hb1⟩ := o4.lst
        obtain ⟨ys, hb2⟩ := B18.lst
        exact ⟨keep (g1.keepL k18 hb1 hb2), g2⟩
      · rw [List.getElem?_append_right (by omega)] at hj
        have hj0 : j - os.length = 0 := by
          by_cases z : j - os.length = 0
          · exact z
          · obtain ⟨q, hq⟩ : ∃ q, j - os.length = q + 1 := ⟨j - os.length - 1, by omega⟩
            rw [hq] at hj
            simp at hj
        rw [hj0] at hj
        cases hj
        have : j = i := by omega
        rw [this, hM'] at hM2
        cases hM2
        exact ⟨keep to, wo⟩
    · intro a u na ha
      rw [upd_ne (ne_of_none ha hC17)]
      exact k18 _ _ na (o5 _ _ na ha)
  rintro H19 ⟨os, o1, o2, o3, o4, o5⟩
  obtain ⟨oa, ob, oc, rfl⟩ : ∃ oa ob oc, os = [oa, ob, oc] := by
    match os, o2 with
    | [oa, ob, oc], _ => exact ⟨_, _, _, rfl⟩
  obtain ⟨ta, wa⟩ := o3 0 oa 6 rfl rfl
  obtain ⟨tb, wb⟩ := o3 1 ob 4 rfl rfl
  obtain ⟨tc, wc⟩ := o3 2 oc 40 rfl rfl
  have s019 := same_one s016 o5 nb
  have e19 := o5 _ _ n15b e15
  refine ⟨two, fun p20 n20 => ⟨p20, _, rfl, SqT.of upd_same, rfl, _, _, rfl, _, _, rfl, rfl, ?_⟩⟩
  have s20 := same_new n20 (.tup [.ref p15, .ref C17])
  refine ⟨8, rfl, by decide, by decide, ?_⟩
  refine for_range (lo := 0) (fun i σ H' => ∃ y11 y12 y13 : Option V, σ = [z0, z1, some (.ref b), some (.int n.hold), some (.int n.miss), some (.int n.bound), some (.ref x), some (.ref y), some (.ref p9), some (.ref p15), some (.ref C17), y11, y12, y13, z14, z15, z16] ∧ Same H19 H') ⟨_, _, _, rfl, s20⟩ ?_ (fun σ H' ⟨y11, y12, y13, e, sm⟩ => by rw [e]; exact nx _ _ _ _ _ _ H' (s019.trans sm))
  rintro i σ H21 hi ⟨y11, y12, y13, rfl, sm⟩
  exact leafM i n p15 C17 oa ob oc H21 _ _ _ _ _ _ _ _ _ _ _ _ _ _ _ hi hN (sm _ _ e19) (sm _ _ o1) (ta.keep sm) (tb.keep sm) (tc.keep sm) wa wb wc fun y12 y13 H22 s22 => ⟨_, _, _, rfl, sm.trans s22⟩
end
end Any
set_option maxHeartbeats 4000000
namespace Any
open L2 PySem PySem.Spec PyProof.Rows
theorem two_of {x y r : Int} {l m : Int} (h0 : 0 ≤ r) (h1 : r < 2) (hx : l ≤ x ∧ x ≤ m) (hy : l ≤ y ∧ y ≤ m) : ∃ z : Int, atI [V.int x, .int y] r = some (.int z) ∧ l ≤ z ∧ z ≤ m := by
  have : r = 0 ∨ r = 1 := by omega
  rcases this with rfl | rfl
  · exact ⟨x, rfl, hx.1, hx.2⟩
  · exact ⟨y, rfl, hy.1, hy.2⟩
theorem num110 (i : Int) (h0 : 1 ≤ i) (h1 : i ≤ 6) : NumOk ⟨i, 1, 10⟩ := ⟨h0, h1, (by show (1 : Int) ≤ 1; decide), (by show (1 : Int) ≤ 4; decide), (by show (1 : Int) ≤ 10; decide), (by show (10 : Int) ≤ 40; decide)⟩
section
variable {P : Program} {w : World} {K : PySem.W.Frag} {mg : Str → Option Value} {base : Heap} {f C : Addr} {fd : FuncData}
theorem ok_law (O : Own mg) (mA : mg "any" = none) (mS : mg "str" = none) (W : WayD P w K mg base C) (WE : WayE P w K mg base C) (N : WayN P w K mg base C) (F : Fun K "law" "law" sLaw f fd)
    (D1 : Df P w K mg base 1 "_law_bag" ["_law_script", "_law_at"] (spBag K)) (D2 : Df P w K mg base 1 "_law_take" ["_law_bag_here", "_law_many"] spTake) (D3 : Df P w K mg base 2 "_law_numbers" ["_law_bag_here"] spLN) (D4 : Df P w K mg base 2 "_law_counts_right" psSG spCR) (D5 : Df P w K mg base 5 "_law_made" psMade (spMade C))
    (D6 : DfG P w K mg base 5 "_law_first" ["_law_way"] (spFirst C)) (D7 : Df P w K mg base 2 "_law_odd" psOdd spOdd) (D9 : Df P w K mg base 5 "_law_why" psWhy spWhy) : FnG P w K mg base CX0 6 f fd ["_law_script"] (spLaw K) := by
  refine fun_g F scLaw (fun vs H Q E h => ?_) (fun cdv A outer s H vs Q E hG hr h => ?_)
  · obtain ⟨a, ns, rfl, _⟩ := h
    rfl
  obtain ⟨a, ns, rfl, hS, h63, q⟩ := h
  have hr1 := hr.mono (show 1 ≤ 5 by decide)
  have hr2 := hr.mono (show 2 ≤ 5 by decide)
  have hr4 := hr.mono (show 4 ≤ 5 by decide)
  have hG' : (A.deeper (envOfC "law" (defScope sLaw) s.heap.objs.size f cdv)).guards = some [] := hG
  obtain ⟨tR, hR, leafR⟩ := blkR (P := P) (w := w) (K := K) (base := base) (f := f) (C := C) O mS WE (cdv := cdv) (A := A) (outer := outer) (s := s) (H := H) (E := E) hr
  obtain ⟨tE, hE, leafE⟩ := blkE (P := P) (w := w) (K := K) (base := base) (f := f) (C := C) O mA W WE N D6 D7 D9 (cdv := cdv) (A := A) (outer := outer) (s := s) (H := H) (E := E) hG' hr
  refine ⟨_, pss_cons (ps_for PassesOwn.never rfl (pi_range1 rfl O.range (pa_cons (pe_callB (call_max2 rfl) rfl O.max (by decide +kernel) (pa_cons pe_int (pa_cons (pe_callB (call_min2 rfl) rfl O.min (by decide +kernel) (pa_cons pe_int (pa_cons (pe_callB call_len_seq rfl O.len PySem.boot_len (pa_cons (pv 0) pa_nil)) pa_nil))) pa_nil))) pa_nil))
      (pg_name (i := 1) scLaw.nd rfl (Or.inl rfl))
      (pss_cons (ps_set (i := 2) scLaw.nd rfl (Or.inr rfl) (pe_D D1 hr1 rfl (pa_cons (pv 0) (pa_cons (pv 1) pa_nil))))
      (pss_cons (ps_asg (pe_D D3 hr2 rfl (pa_cons (pv 2) pa_nil)) (pg_tup rfl (pgs_cons (pg_name (i := 3) scLaw.nd rfl (Or.inl rfl)) (pgs_cons (pg_name (i := 4) scLaw.nd rfl (Or.inl rfl)) (pgs_cons (pg_name (i := 5) scLaw.nd rfl (Or.inl rfl)) pgs_nil)))))
      (pss_cons (ps_par (i := 4) (j := 5) (by rfl) scLaw.nd rfl rfl (by decide) rfl rfl (pa_cons (pe_ix ix_list (pe_lst (pa_cons (pv 4) (pa_cons pe_int pa_nil))) (pe_D D2 hr1 rfl (pa_cons (pv 2) (pa_cons pe_int pa_nil))) (fun _ _ => rfl)) (pa_cons (pe_ix ix_list (pe_lst (pa_cons (pv 5) (pa_cons pe_int pa_nil))) (pe_D D2 hr1 rfl (pa_cons (pv 2) (pa_cons pe_int pa_nil))) (fun _ _ => rfl)) pa_nil)) (by rfl))
      (pss_cons (ps_if (pt_not (pt_val (pe_D D4 hr2 rfl (pa_cons (pv 3) (pa_cons (pv 4) pa_nil))))) (pss_one (ps_ret pe_bl)) pss_nil)
      (pss_cons (ps_asg (pe_tup (pa_cons (pe_D D5 hr rfl (pa_cons (pv 3) (pa_cons (pv 4) (pa_cons (pv 5) (pa_cons (pe_D D2 hr1 rfl (pa_cons (pv 2) (pa_cons pe_int pa_nil))) pa_nil))))) (pa_cons (pe_CK N.mb hr4 rfl (pa_cons (pv 3) pa_nil) (pk_cons (pv 4) (pk_cons (pv 5) pk_nil))) pa_nil))) (pg_tup rfl (pgs_cons (pg_name (i := 6) scLaw.nd rfl (Or.inr rfl)) (pgs_cons (pg_name (i := 7) scLaw.nd rfl (Or.inl rfl)) pgs_nil))))
      (pss_cons hR hE)))))))
    (pss_one (ps_ret (pe_and (pe_cmpR (op_eqO WE.eq hr1) (pe_C0 N.o hr4 rfl (pa_cons pe_int pa_nil)) (pe_CK N.mb hr4 rfl (pa_cons pe_int pa_nil) (pk_cons pe_int (pk_cons pe_int pk_nil))) (nomark _))
      (pe_one (pe_cmpR op_eq (pe_callB (call_reprO WE.re hr2) rfl O.repr (by decide +kernel) (pa_cons (pe_C0 N.o hr4 rfl (pa_cons pe_int pa_nil)) pa_nil)) pe_str (nomark _)))))), ?_⟩
  refine ⟨_, rfl, a, _, rfl, .inl hS, _, _, rfl, _, _, rfl, _, rfl, ?_, ?_, ?_⟩
  · split <;> (try split) <;> omega
  · rw [List.length_map]
    split <;> (try split) <;> omega
  refine for_range (lo := 0) (fun i σ H' => ∃ x1 x2 x3 x4 x5 x6 x7 x8 x9 x10 x11 x12 x13 x14 x15 x16 : Option V, σ = [some (.ref a), x1, x2, x3, x4, x5, x6, x7, x8, x9, x10, x11, x12, x13, x14, x15, x16] ∧ Same H H') ⟨_, _, _, _, _, _, _, _, _, _, _, _, _, _, _, _, rfl, same_refl⟩ ?_ ?_
  · rintro i σ H1 hi ⟨x1, x2, x3, x4, x5, x6, x7, x8, x9, x10, x11, x12, x13, x14, x15, x16, rfl, s1⟩
    have hi6 : i < 6 := by
      rw [List.length_map] at hi
      split at hi <;> (try split at hi) <;> omega
    refine ⟨_, rfl, _, rfl, a, ns, _, rfl, s1.seq hS, by omega, by omega, fun b H2 nb s2 B2 => ?_⟩
    have nb0 : H b = none := s1.free nb
    have s2 := s1.trans s2
    refine ⟨_, rfl, b, 100, rfl, B2.less (by decide), fun p3 n H3 np3 ne3 k3 B3 hN e3 => ?_⟩
    refine ⟨p3, _, rfl, SqT.of e3, rfl, _, _, rfl, _, _, rfl, _, _, rfl, rfl, ?_⟩
    have s3 := same_one s2 k3 nb0
    refine ⟨_, rfl, two, fun p4 n4 => ⟨_, rfl, b, 2, 99, rfl, B3.keep (same_new n4 _), by decide, by decide, fun d5 H5 k5 B5 d50 d51 => ?_⟩⟩
    obtain ⟨m', em, m0, m1⟩ := two_of (l := 1) (m := 4) (x := n.miss) (y := 1) d50 d51 ⟨hN.m0, hN.m1⟩ ⟨by decide, by decide⟩
    refine ⟨p4, _, _, _, rfl, rfl, SqL.of (k5 _ _ (B3.ne n4) upd_same), em, ?_⟩
    have s5 := same_one (s3.trans (same_new n4 (.lst [.int n.miss, .int 1]))) k5 nb0
    refine ⟨_, rfl, two, fun p6 n6 => ⟨_, rfl, b, 2, 98, rfl, B5.keep (same_new n6 _), by decide, by decide, fun d7 H7 k7 B7 d70 d71 => ?_⟩⟩
    obtain ⟨t', et, t0, t1⟩ := two_of (l := 1) (m := 40) (x := n.bound) (y := 10) d70 d71 ⟨hN.b0, hN.b1⟩ ⟨by decide, by decide⟩
    refine ⟨p6, _, _, _, rfl, rfl, SqL.of (k7 _ _ (B5.ne n6) upd_same), et, _, _, rfl, ?_⟩
    have s7 := same_one (s5.trans (same_new n6 (.lst [.int n.bound, .int 10]))) k7 nb0
    obtain ⟨n', e1, e2, e3'⟩ : ∃ n' : Num, n'.hold = n.hold ∧ n'.miss = m' ∧ n'.bound = t' := ⟨⟨n.hold, m', t'⟩, rfl, rfl, rfl⟩
    have hN' : NumOk n' := ⟨by rw [e1]; exact hN.h0, by rw [e1]; exact hN.h1, by rw [e2]; exact m0, by rw [e2]; exact m1, by rw [e3']; exact t0, by rw [e3']; exact t1⟩
    rw [← e1, ← e2, ← e3']
    refine ⟨_, rfl, _, rfl, n', rfl, hN', _, rfl, itF rfl ?_⟩
    refine ⟨_, rfl, _, rfl, _, rfl, _, rfl, b, 6, 97, rfl, B7, by decide, by decide, fun d9 H9 k9 B9 _ _ => ?_⟩
    have s9 := same_one s7 k9 nb0
    refine ⟨n', d9, rfl, hN', fun x H10 nx10 s10 X10 => ?_⟩
    refine ⟨_, rfl, _, rfl, _, rfl, rfl, rfl, fun y dy a1 a2 a3 => ⟨y, dy, n', rfl, hN', upd_same, fun H11 k11 Y11 => ⟨rfl, two, fun p12 n12 => ⟨p12, _, rfl, SqT.of upd_same, rfl, _, _, rfl, _, _, rfl, rfl, ?_⟩⟩⟩⟩
    have s11 := new_same k11 a1 a2 a3
    have s12 := same_new n12 (.tup [.ref x, .ref y])
    have xy : x ≠ y := by
      obtain ⟨dx, _, _, hx, _⟩ := id X10
      exact fun e => by rw [← e, hx] at a1; cases a1
    have X12 := (X10.keep s11).keep s12
    have Y12 := Y11.keep s12
    have s010 := s9.trans s10
    refine leafR n' x y _ _ _ _ _ _ _ _ _ _ _ _ _ _ hN' X12 Y12 ?_
    exact leafE n' b x y 94 _ _ _ _ _ _ _ _ _ _ _ _ _ hN' (s010.trans (s11.trans s12)) (((B9.keep s10).keep s11).keep s12) X12 Y12 xy nb0 (s9.free nx10) (s010.free a1) fun z8 z9 z10 z11 z12 z13 H' s' => ⟨_, _, _, _, _, _, _, _, _, _, _, _, _, _, _, _, rfl, s'⟩
  · rintro σ H1 ⟨x1, x2, x3, x4, x5, x6, x7, x8, x9, x10, x11, x12, x13, x14, x15, x16, rfl, s1⟩
    have ok1 := num110 1 (by decide) (by decide)
    have ok6 := num110 6 (by decide) (by decide)
    refine fun x dx a1 a2 a3 => ⟨x, dx, ⟨1, 1, 10⟩, rfl, ok1, upd_same, fun H2 k2 X2 => ⟨rfl, ?_⟩⟩
    refine ⟨rfl, rfl, fun y dy b1 b2 b3 => ⟨y, dy, ⟨1, 1, 10⟩, rfl, ok1, upd_same, fun H3 k3 Y3 => ⟨rfl, ?_⟩⟩⟩
    have X3 := X2.keep (new_same k3 b1 b2 b3)
    obtain ⟨dx3, _, _, hx3, _⟩ := id X3
    obtain ⟨dy3, _, _, hy3, _⟩ := id Y3
    refine ⟨x, dx3, _, rfl, hx3, .ins hy3, x, .ref y, _, sto0, (0, 0), rfl, X3, ok1, sto0_ok ok1, .inl ⟨y, _, sto0, (0, 0), rfl, Y3, ok1, sto0_ok ok1, _, rfl, _, rfl, ?_⟩⟩
    rw [decide_eq_true (show (⟨1, 1, 10⟩ : Num) = ⟨1, 1, 10⟩ ∧ sto0 = sto0 ∧ ((0 : Int), (0 : Int)) = (0, 0) from ⟨rfl, rfl, rfl⟩)]
    refine itT rfl ?_
    refine fun z dz c1 c2 c3 => ⟨z, dz, ⟨6, 1, 10⟩, rfl, ok6, upd_same, fun H4 k4 Z4 => ⟨rfl, ?_⟩⟩
    obtain ⟨dz4, _, _, hz4, _⟩ := id Z4
    refine ⟨z, dz4, _, rfl, hz4, z, ⟨6, 1, 10⟩, sto0, (0, 0), rfl, Z4, ok6, _, rfl, rfl, ?_⟩
    rw [decide_eq_true (show V.str (wayT ⟨6, 1, 10⟩) = V.str "Way(6, 1, 10)" by decide +kernel)]
    exact q H4
end
end Any
namespace Any
open L2 PySem PySem.Spec PyProof.Rows
theorem kit_ve {K : PySem.W.Frag} {D : Addr} (h : PySem.W.subIn K (.ref D) (.type "ValueError") = some true) : PySem.W.kitOne K (.ref D) (.type "ValueError") = some true := by
  have e : PySem.W.kitMeta "ValueError" = true := by decide +kernel
  unfold PySem.W.kitOne PySem.W.kitCls
  rw [if_neg (by simp)]
  dsimp only
  rw [if_pos e]
  exact h
theorem kit_off {K : PySem.W.Frag} {D B : Addr} (d : (Value.ref D == Value.ref B) = false) (h2 : PySem.W.isClsIn K B = true) (h3 : PySem.W.typeIn K (.ref B) = some (.type "type")) (h4 : PySem.W.subIn K (.ref D) (.ref B) = some false) : PySem.W.kitOne K (.ref D) (.ref B) = some false := by
  have h2' : (PySem.W.clsIn K B).isSome = true := h2
  unfold PySem.W.kitOne PySem.W.kitCls
  rw [if_neg (by rw [d]; decide)]
  dsimp only
  rw [if_pos (by rw [h2', h3]; rfl)]
  exact h4
theorem kit_off3 {K : PySem.W.Frag} {D B1 B2 B3 : Addr} (h1 : PySem.W.kitOne K (.ref D) (.ref B1) = some false) (h2 : PySem.W.kitOne K (.ref D) (.ref B2) = some false) (h3 : PySem.W.kitOne K (.ref D) (.ref B3) = some false) : PySem.W.kitAny K (.ref D) [.ref B1, .ref B2, .ref B3] = some false := by
  unfold PySem.W.kitAny
  rw [h1]
  dsimp only
  unfold PySem.W.kitAny
  rw [h2]
  dsimp only
  unfold PySem.W.kitAny
  rw [h3]
  rfl
theorem fnr {P : Program} {w : World} {K : PySem.W.Frag} {mg : Str → Option Value} {base : Heap} {k : Nat} {f : Addr} {fd : FuncData} {ps : List Str} {sp : Sp} (F : FnOk P w K mg base CX0 k f fd ps sp) (hb : Binds K fd ps []) : FnR P w K mg base CX0 k f sp :=
  (F.raw hb .nil).imp fun vs H Q E h => by rw [List.append_nil]; exact h
end Any
namespace Any
open L2 PySem PySem.Spec PyProof.Rows
theorem all_mk {l : PySem.W.OpenLaw} {w : World} {K : PySem.W.Frag} {h : Heap} {mg : Str → Option Value} {fa C lz : Addr} (X : K.In h) (G : h.Ns mainGlobals mg) (hfa : mg "law" = some (.ref fa))
    {f1 f2 f3 f4 f5 f6 f7 f8 f9 f10 f11 f12 f13 f14 f15 f16 f17 f18 f19 f20 f21 f22 f23 f24 f25 f26 f27 f28 f29 f30 f31 D28 D29 D30 D31 : Addr} {od1 an1 od2 an2 od3 an3 od4 an4 od5 an5 od6 an6 od7 an7 od8 an8 od9 an9 od10 an10 od11 an11 od12 an12 od13 an13 od14 an14 od15 an15 od16 an16 od17 an17 od18 an18 od19 an19 od20 an20 od21 an21 od22 an22 od23 an23 od24 an24 od25 an25 od26 an26 od27 an27 od28 an28 od29 an29 od30 an30 od31 an31 : Option Addr} {sl1 sl2 sl3 sl4 sl5 sl6 sl7 sl8 sl9 sl10 sl11 sl12 sl13 sl14 sl15 sl16 sl17 sl18 sl19 sl20 sl21 sl22 sl23 sl24 sl25 sl26 sl27 sl28 sl29 sl30 sl31 : Array (Option Value)}
    {oc1 kV1 dc1 pm1 cd1 ct1 oc2 kV2 dc2 pm2 cd2 ct2 oc3 kV3 dc3 pm3 cd3 ct3 oc4 kV4 dc4 pm4 cd4 ct4 oc5 kV5 dc5 pm5 cd5 ct5 oc6 kV6 dc6 pm6 cd6 ct6 oc7 kV7 dc7 pm7 cd7 ct7 oc8 kV8 dc8 pm8 cd8 ct8 oc9 kV9 dc9 pm9 cd9 ct9 oc10 kV10 dc10 pm10 cd10 ct10 oc11 kV11 dc11 pm11 cd11 ct11 oc12 kV12 dc12 pm12 cd12 ct12 oc13 kV13 dc13 pm13 cd13 ct13 oc14 kV14 dc14 pm14 cd14 ct14 oc15 kV15 dc15 pm15 cd15 ct15 oc16 kV16 dc16 pm16 cd16 ct16 oc17 kV17 dc17 pm17 cd17 ct17 oc18 kV18 dc18 pm18 cd18 ct18 oc19 kV19 dc19 pm19 cd19 ct19 oc20 kV20 dc20 pm20 cd20 ct20 oc21 kV21 dc21 pm21 cd21 ct21 oc22 kV22 dc22 pm22 cd22 ct22 oc23 kV23 dc23 pm23 cd23 ct23 oc24 kV24 dc24 pm24 cd24 ct24 oc25 kV25 dc25 pm25 cd25 ct25 oc26 kV26 dc26 pm26 cd26 ct26 oc27 kV27 dc27 pm27 cd27 ct27 oc28 dc28 pm28 cd28 ct28 oc29 dc29 pm29 cd29 ct29 oc30 dc30 pm30 cd30 ct30 oc31 dc31 pm31 cd31 ct31 : Value} {ot : Obj} {nt : Nat} {t1 t2 t3 tk28_0 tk28_1 tk30_0 tk31_0 : Tok} {CN nf CS CM CY NN : Addr} {nmN qN : Str} {bsN subN : List Value} {snN : List Str} {abN : Bool} {colN : Option Bool} {ddN nod nan : Option Addr} {e0 e1 e2 e3 e5 : Option Value} {nsl : Array (Option Value)} {noc nkV ndc npm ncd nct : Value}
    (aC : PySem.W.nsIn K mainGlobals "Way" = some (some (.ref C)))
    (a1 : PySem.W.nsIn K mainGlobals "is_whole" = some (some (.ref f1)))
    (l1 : K.lookup f1 = some ⟨oc1, od1, .func (PySem.W.fnOf "is_whole" "is_whole" (defArgs sWhole) (defBody sWhole) (defScope sWhole) .none kV1 dc1 pm1 an1 cd1 ct1), sl1⟩)
    (c1 : PySem.W.codeIn K cd1 "is_whole" = true)
    (k1 : PySem.W.keepIn K (.ref f1) = true)
    (a2 : PySem.W.nsIn K mainGlobals "is_within" = some (some (.ref f2)))
    (l2 : K.lookup f2 = some ⟨oc2, od2, .func (PySem.W.fnOf "is_within" "is_within" (defArgs sWithin) (defBody sWithin) (defScope sWithin) .none kV2 dc2 pm2 an2 cd2 ct2), sl2⟩)
    (c2 : PySem.W.codeIn K cd2 "is_within" = true)
    (k2 : PySem.W.keepIn K (.ref f2) = true)
    (a3 : PySem.W.nsIn K mainGlobals "put" = some (some (.ref f3)))
    (l3 : K.lookup f3 = some ⟨oc3, od3, .func (PySem.W.fnOf "put" "put" (defArgs sPut) (defBody sPut) (defScope sPut) .none kV3 dc3 pm3 an3 cd3 ct3), sl3⟩)
    (c3 : PySem.W.codeIn K cd3 "put" = true)
    (k3 : PySem.W.keepIn K (.ref f3) = true)
    (a4 : PySem.W.nsIn K mainGlobals "marks" = some (some (.ref f4)))
    (l4 : K.lookup f4 = some ⟨oc4, od4, .func (PySem.W.fnOf "marks" "marks" (defArgs sMarks) (defBody sMarks) (defScope sMarks) .none kV4 dc4 pm4 an4 cd4 ct4), sl4⟩)
    (c4 : PySem.W.codeIn K cd4 "marks" = true)
    (k4 : PySem.W.keepIn K (.ref f4) = true)
    (a5 : PySem.W.nsIn K mainGlobals "sender_behind" = some (some (.ref f5)))
    (l5 : K.lookup f5 = some ⟨oc5, od5, .func (PySem.W.fnOf "sender_behind" "sender_behind" (defArgs sSender) (defBody sSender) (defScope sSender) .none kV5 dc5 pm5 an5 cd5 ct5), sl5⟩)
    (c5 : PySem.W.codeIn K cd5 "sender_behind" = true)
    (k5 : PySem.W.keepIn K (.ref f5) = true)
    (a6 : PySem.W.nsIn K mainGlobals "taker_behind" = some (some (.ref f6)))
    (l6 : K.lookup f6 = some ⟨oc6, od6, .func (PySem.W.fnOf "taker_behind" "taker_behind" (defArgs sTaker) (defBody sTaker) (defScope sTaker) .none kV6 dc6 pm6 an6 cd6 ct6), sl6⟩)
    (c6 : PySem.W.codeIn K cd6 "taker_behind" = true)
    (k6 : PySem.W.keepIn K (.ref f6) = true)
    (a7 : PySem.W.nsIn K mainGlobals "row_behind" = some (some (.ref f7)))
    (l7 : K.lookup f7 = some ⟨oc7, od7, .func (PySem.W.fnOf "row_behind" "row_behind" (defArgs sRowB) (defBody sRowB) (defScope sRowB) .none kV7 dc7 pm7 an7 cd7 ct7), sl7⟩)
    (c7 : PySem.W.codeIn K cd7 "row_behind" = true)
    (k7 : PySem.W.keepIn K (.ref f7) = true)
    (a8 : PySem.W.nsIn K mainGlobals "is_word" = some (some (.ref f8)))
    (l8 : K.lookup f8 = some ⟨oc8, od8, .func (PySem.W.fnOf "is_word" "is_word" (defArgs sIsWord) (defBody sIsWord) (defScope sIsWord) .none kV8 dc8 pm8 an8 cd8 ct8), sl8⟩)
    (c8 : PySem.W.codeIn K cd8 "is_word" = true)
    (k8 : PySem.W.keepIn K (.ref f8) = true)
    (a9 : PySem.W.nsIn K mainGlobals "row_is_plain" = some (some (.ref f9)))
    (l9 : K.lookup f9 = some ⟨oc9, od9, .func (PySem.W.fnOf "row_is_plain" "row_is_plain" (defArgs sRowP) (defBody sRowP) (defScope sRowP) .none kV9 dc9 pm9 an9 cd9 ct9), sl9⟩)
    (c9 : PySem.W.codeIn K cd9 "row_is_plain" = true)
    (k9 : PySem.W.keepIn K (.ref f9) = true)
    (a10 : PySem.W.nsIn K mainGlobals "_law_bag" = some (some (.ref f10)))
    (l10 : K.lookup f10 = some ⟨oc10, od10, .func (PySem.W.fnOf "_law_bag" "_law_bag" (defArgs sBag) (defBody sBag) (defScope sBag) .none kV10 dc10 pm10 an10 cd10 ct10), sl10⟩)
    (c10 : PySem.W.codeIn K cd10 "_law_bag" = true)
    (k10 : PySem.W.keepIn K (.ref f10) = true)
    (a11 : PySem.W.nsIn K mainGlobals "_law_take" = some (some (.ref f11)))
    (l11 : K.lookup f11 = some ⟨oc11, od11, .func (PySem.W.fnOf "_law_take" "_law_take" (defArgs sTake) (defBody sTake) (defScope sTake) .none kV11 dc11 pm11 an11 cd11 ct11), sl11⟩)
    (c11 : PySem.W.codeIn K cd11 "_law_take" = true)
    (k11 : PySem.W.keepIn K (.ref f11) = true)
    (a12 : PySem.W.nsIn K mainGlobals "_law_odd" = some (some (.ref f12)))
    (l12 : K.lookup f12 = some ⟨oc12, od12, .func (PySem.W.fnOf "_law_odd" "_law_odd" (defArgs sOdd) (defBody sOdd) (defScope sOdd) .none kV12 dc12 pm12 an12 cd12 ct12), sl12⟩)
    (c12 : PySem.W.codeIn K cd12 "_law_odd" = true)
    (k12 : PySem.W.keepIn K (.ref f12) = true)
    (a13 : PySem.W.nsIn K mainGlobals "_law_numbers" = some (some (.ref f13)))
    (l13 : K.lookup f13 = some ⟨oc13, od13, .func (PySem.W.fnOf "_law_numbers" "_law_numbers" (defArgs sLN) (defBody sLN) (defScope sLN) .none kV13 dc13 pm13 an13 cd13 ct13), sl13⟩)
    (c13 : PySem.W.codeIn K cd13 "_law_numbers" = true)
    (k13 : PySem.W.keepIn K (.ref f13) = true)
    (a14 : PySem.W.nsIn K mainGlobals "_law_made" = some (some (.ref f14)))
    (l14 : K.lookup f14 = some ⟨oc14, od14, .func (PySem.W.fnOf "_law_made" "_law_made" (defArgs sMade) (defBody sMade) (defScope sMade) .none kV14 dc14 pm14 an14 cd14 ct14), sl14⟩)
    (c14 : PySem.W.codeIn K cd14 "_law_made" = true)
    (k14 : PySem.W.keepIn K (.ref f14) = true)
    (a15 : PySem.W.nsIn K mainGlobals "_law_why" = some (some (.ref f15)))
    (l15 : K.lookup f15 = some ⟨oc15, od15, .func (PySem.W.fnOf "_law_why" "_law_why" (defArgs sWhy) (defBody sWhy) (defScope sWhy) .none kV15 dc15 pm15 an15 cd15 ct15), sl15⟩)
    (c15 : PySem.W.codeIn K cd15 "_law_why" = true)
    (k15 : PySem.W.keepIn K (.ref f15) = true)
    (a16 : PySem.W.nsIn K mainGlobals "_law_whole" = some (some (.ref f16)))
    (l16 : K.lookup f16 = some ⟨oc16, od16, .func (PySem.W.fnOf "_law_whole" "_law_whole" (defArgs sLWh) (defBody sLWh) (defScope sLWh) .none kV16 dc16 pm16 an16 cd16 ct16), sl16⟩)
    (c16 : PySem.W.codeIn K cd16 "_law_whole" = true)
    (k16 : PySem.W.keepIn K (.ref f16) = true)
    (a17 : PySem.W.nsIn K mainGlobals "_law_counts_right" = some (some (.ref f17)))
    (l17 : K.lookup f17 = some ⟨oc17, od17, .func (PySem.W.fnOf "_law_counts_right" "_law_counts_right" (defArgs sCR) (defBody sCR) (defScope sCR) .none kV17 dc17 pm17 an17 cd17 ct17), sl17⟩)
    (c17 : PySem.W.codeIn K cd17 "_law_counts_right" = true)
    (k17 : PySem.W.keepIn K (.ref f17) = true)
    (a18 : PySem.W.nsIn K mainGlobals "_law_first" = some (some (.ref f18)))
    (l18 : K.lookup f18 = some ⟨oc18, od18, .func (PySem.W.fnOf "_law_first" "_law_first" (defArgs sFirst) (defBody sFirst) (defScope sFirst) .none kV18 dc18 pm18 an18 cd18 ct18), sl18⟩)
    (c18 : PySem.W.codeIn K cd18 "_law_first" = true)
    (k18 : PySem.W.keepIn K (.ref f18) = true)
    (a19 : PySem.W.nsIn K mainGlobals "law" = some (some (.ref f19)))
    (l19 : K.lookup f19 = some ⟨oc19, od19, .func (PySem.W.fnOf "law" "law" (defArgs sLaw) (defBody sLaw) (defScope sLaw) .none kV19 dc19 pm19 an19 cd19 ct19), sl19⟩)
    (c19 : PySem.W.codeIn K cd19 "law" = true)
    (k19 : PySem.W.keepIn K (.ref f19) = true)
    (a20 : PySem.W.findIn K (.ref C) "side_lost" = some (some (.ref f20)))
    (i20 : PySem.W.isFn K (.ref f20) = true)
    (l20 : K.lookup f20 = some ⟨oc20, od20, .func (PySem.W.fnOf "side_lost" "Way.side_lost" (defArgs sSide) (defBody sSide) (defScope sSide) .none kV20 dc20 pm20 an20 cd20 ct20), sl20⟩)
    (c20 : PySem.W.codeIn K cd20 "Way.side_lost" = true)
    (k20 : PySem.W.keepIn K (.ref f20) = true)
    (a21 : PySem.W.findIn K (.ref C) "gone_behind" = some (some (.ref f21)))
    (i21 : PySem.W.isFn K (.ref f21) = true)
    (l21 : K.lookup f21 = some ⟨oc21, od21, .func (PySem.W.fnOf "gone_behind" "Way.gone_behind" (defArgs sGoneB) (defBody sGoneB) (defScope sGoneB) .none kV21 dc21 pm21 an21 cd21 ct21), sl21⟩)
    (c21 : PySem.W.codeIn K cd21 "Way.gone_behind" = true)
    (k21 : PySem.W.keepIn K (.ref f21) = true)
    (a22 : PySem.W.findIn K (.ref C) "store" = some (some (.ref f22)))
    (i22 : PySem.W.isFn K (.ref f22) = true)
    (l22 : K.lookup f22 = some ⟨oc22, od22, .func (PySem.W.fnOf "store" "Way.store" (defArgs sStore) (defBody sStore) (defScope sStore) .none kV22 dc22 pm22 an22 cd22 ct22), sl22⟩)
    (c22 : PySem.W.codeIn K cd22 "Way.store" = true)
    (k22 : PySem.W.keepIn K (.ref f22) = true)
    (a23 : PySem.W.findIn K (.ref C) "is_plain" = some (some (.ref f23)))
    (i23 : PySem.W.isFn K (.ref f23) = true)
    (l23 : K.lookup f23 = some ⟨oc23, od23, .func (PySem.W.fnOf "is_plain" "Way.is_plain" (defArgs sIsPlain) (defBody sIsPlain) (defScope sIsPlain) .none kV23 dc23 pm23 an23 cd23 ct23), sl23⟩)
    (c23 : PySem.W.codeIn K cd23 "Way.is_plain" = true)
    (k23 : PySem.W.keepIn K (.ref f23) = true)
    (a24 : PySem.W.findIn K (.ref C) "__len__" = some (some (.ref f24)))
    (i24 : PySem.W.isFn K (.ref f24) = true)
    (l24 : K.lookup f24 = some ⟨oc24, od24, .func (PySem.W.fnOf "__len__" "Way.__len__" (defArgs sLen) (defBody sLen) (defScope sLen) .none kV24 dc24 pm24 an24 cd24 ct24), sl24⟩)
    (c24 : PySem.W.codeIn K cd24 "Way.__len__" = true)
    (k24 : PySem.W.keepIn K (.ref f24) = true)
    (a25 : PySem.W.findIn K (.ref C) "__eq__" = some (some (.ref f25)))
    (i25 : PySem.W.isFn K (.ref f25) = true)
    (l25 : K.lookup f25 = some ⟨oc25, od25, .func (PySem.W.fnOf "__eq__" "Way.__eq__" (defArgs sEqW) (defBody sEqW) (defScope sEqW) .none kV25 dc25 pm25 an25 cd25 ct25), sl25⟩)
    (c25 : PySem.W.codeIn K cd25 "Way.__eq__" = true)
    (k25 : PySem.W.keepIn K (.ref f25) = true)
    (a26 : PySem.W.findIn K (.ref C) "__repr__" = some (some (.ref f26)))
    (i26 : PySem.W.isFn K (.ref f26) = true)
    (l26 : K.lookup f26 = some ⟨oc26, od26, .func (PySem.W.fnOf "__repr__" "Way.__repr__" (defArgs sReprW) (defBody sReprW) (defScope sReprW) .none kV26 dc26 pm26 an26 cd26 ct26), sl26⟩)
    (c26 : PySem.W.codeIn K cd26 "Way.__repr__" = true)
    (k26 : PySem.W.keepIn K (.ref f26) = true)
    (a27 : PySem.W.findIn K (.ref C) "under_way" = some (some (.ref f27)))
    (i27 : PySem.W.isFn K (.ref f27) = true)
    (l27 : K.lookup f27 = some ⟨oc27, od27, .func (PySem.W.fnOf "under_way" "Way.under_way" (defArgs sUnder) (defBody sUnder) (defScope sUnder) .none kV27 dc27 pm27 an27 cd27 ct27), sl27⟩)
    (c27 : PySem.W.codeIn K cd27 "Way.under_way" = true)
    (k27 : PySem.W.keepIn K (.ref f27) = true)
    (a28 : PySem.W.findIn K (.ref C) "__init__" = some (some (.ref f28)))
    (i28 : PySem.W.isFn K (.ref f28) = true)
    (l28 : K.lookup f28 = some ⟨oc28, od28, .func (PySem.W.fnOf "__init__" "Way.__init__" (defArgs sInit) (defBody sInit) (defScope sInit) .none (.ref D28) dc28 pm28 an28 cd28 ct28), sl28⟩)
    (c28 : PySem.W.codeIn K cd28 "Way.__init__" = true)
    (k28 : PySem.W.keepIn K (.ref f28) = true)
    (w28_0 : PySem.W.nsIn K D28 "miss" = some (some (.int 1 tk28_0)))
    (w28_1 : PySem.W.nsIn K D28 "bound" = some (some (.int 10 tk28_1)))
    (a29 : PySem.W.findIn K (.ref C) "beat" = some (some (.ref f29)))
    (i29 : PySem.W.isFn K (.ref f29) = true)
    (l29 : K.lookup f29 = some ⟨oc29, od29, .func (PySem.W.fnOf "beat" "Way.beat" (defArgs sBeat) (defBody sBeat) (defScope sBeat) .none (.ref D29) dc29 pm29 an29 cd29 ct29), sl29⟩)
    (c29 : PySem.W.codeIn K cd29 "Way.beat" = true)
    (k29 : PySem.W.keepIn K (.ref f29) = true)
    (w29_0 : PySem.W.nsIn K D29 "word" = some (some .none))
    (w29_1 : PySem.W.nsIn K D29 "taking" = some (some (.bool false)))
    (w29_2 : PySem.W.nsIn K D29 "lost" = some (some (.ref lz)))
    (a30 : PySem.W.nsIn K mainGlobals "round_beats" = some (some (.ref f30)))
    (l30 : K.lookup f30 = some ⟨oc30, od30, .func (PySem.W.fnOf "round_beats" "round_beats" (defArgs sRound) (defBody sRound) (defScope sRound) .none (.ref D30) dc30 pm30 an30 cd30 ct30), sl30⟩)
    (c30 : PySem.W.codeIn K cd30 "round_beats" = true)
    (k30 : PySem.W.keepIn K (.ref f30) = true)
    (w30_0 : PySem.W.nsIn K D30 "miss" = some (some (.int 1 tk30_0)))
    (a31 : PySem.W.nsIn K mainGlobals "way_beats" = some (some (.ref f31)))
    (l31 : K.lookup f31 = some ⟨oc31, od31, .func (PySem.W.fnOf "way_beats" "way_beats" (defArgs sWayB) (defBody sWayB) (defScope sWayB) .none (.ref D31) dc31 pm31 an31 cd31 ct31), sl31⟩)
    (c31 : PySem.W.codeIn K cd31 "way_beats" = true)
    (k31 : PySem.W.keepIn K (.ref f31) = true)
    (w31_0 : PySem.W.nsIn K D31 "miss" = some (some (.int 1 tk31_0)))
    (lt : K.lookup lz = some ot)
    (lc : ot.cls = .type "tuple")
    (ld : ot.data = .seq #[.bool false, .bool false] nt)
    (pg : PySem.W.plainGet K C Str.empty = true)
    (hd : PySem.W.hasDictIn K C = true)
    (po : PySem.W.plainOver K C = true)
    (mk : PySem.W.makesIn K C = true)
    (kc : PySem.W.keepIn K (.ref C) = true)
    (sa : PySem.W.findIn K (.ref C) "__setattr__" = some (some (.builtin "object.__setattr__")))
    (n_hold : PySem.W.findIn K (.ref C) "hold" = some none)
    (n_miss : PySem.W.findIn K (.ref C) "miss" = some none)
    (n_bound : PySem.W.findIn K (.ref C) "bound" = some none)
    (n_kept : PySem.W.findIn K (.ref C) "kept" = some none)
    (n_gone : PySem.W.findIn K (.ref C) "gone" = some none)
    (q1 : PySem.W.nsIn K mainGlobals "MOST_HOLD" = some (some (.int 6 t1)))
    (q2 : PySem.W.nsIn K mainGlobals "MOST_MISS" = some (some (.int 4 t2)))
    (q3 : PySem.W.nsIn K mainGlobals "MOST_BOUND" = some (some (.int 40 t3)))
    (x_ne : PySem.W.findIn K (.ref C) "__ne__" = some (some (.builtin "object.__ne__")))
    (x_cl : PySem.W.findIn K (.ref C) "__class__" = some (some (.builtin "object.__class__")))
    (x_get : PySem.W.specialIn K (.builtin "object.__class__") "__get__" = some (some (.builtin "getset_descriptor.__get__")))
    (x_tk : PySem.W.takesIn K (.builtin "object.__class__") = some true)
    (x_mro : PySem.W.mroIn K C (.type "object") = some true)
    (x_ty : PySem.W.typeIn K (.ref C) = some (.type "type"))
    (nC : PySem.W.nsIn K mainGlobals "NoWay" = some (some (.ref CN)))
    (nL : K.lookup CN = some (excClassObj nmN qN CN NN bsN [.type "ValueError", .type "Exception", .type "BaseException", .type "object"] true snN subN abN colN ddN e0 e1 e2 e3 e5 "ValueError.__new__"))
    (nsa : PySem.W.findIn K (.ref CN) "__setattr__" = some (some (.builtin "object.__setattr__")))
    (nga : PySem.W.findIn K (.ref CN) "__getattribute__" = some (some (.builtin "BaseException.__getattribute__")))
    (ngg : PySem.W.findIn K (.ref CN) "__getattr__" = some (none))
    (nwhy : PySem.W.findIn K (.ref CN) "why" = some (none))
    (ni : PySem.W.findIn K (.ref CN) "__init__" = some (some (.ref nf)))
    (nft : PySem.W.typeIn K (.ref nf) = some (.type "function"))
    (nl : K.lookup nf = some ⟨noc, nod, .func (PySem.W.fnOf "__init__" "NoWay.__init__" (defArgs sNW) (defBody sNW) (defScope sNW) .none nkV ndc npm nan ncd nct), nsl⟩)
    (nc : PySem.W.codeIn K ncd "NoWay.__init__" = true)
    (nk : PySem.W.keepIn K (.ref nf) = true)
    (nkC : PySem.W.keepIn K (.ref CN) = true)
    (nex : PySem.W.subIn K (.ref CN) (.type "BaseException") = some true)
    (nty : PySem.W.typeIn K (.ref CN) = some (.type "type"))
    (nhd : PySem.W.hasDictIn K CN = true)
    (nsub : PySem.W.subIn K (.ref CN) (.ref CN) = some true)
    (ncl : PySem.W.findIn K (.ref CN) "__class__" = some (some (.builtin "object.__class__")))
    (nmro : PySem.W.mroIn K CN (.type "object") = some true)
    (aS : PySem.W.nsIn K mainGlobals "NoStore" = some (some (.ref CS)))
    (aM : PySem.W.nsIn K mainGlobals "NoNumber" = some (some (.ref CM)))
    (aY : PySem.W.nsIn K mainGlobals "NoYard" = some (some (.ref CY)))
    (nsv : PySem.W.subIn K (.ref CN) (.type "ValueError") = some true)
    (dS : (Value.ref CN == Value.ref CS) = false)
    (iS : PySem.W.isClsIn K CS = true)
    (tS : PySem.W.typeIn K (.ref CS) = some (.type "type"))
    (sS : PySem.W.subIn K (.ref CN) (.ref CS) = some false)
    (dM : (Value.ref CN == Value.ref CM) = false)
    (iM : PySem.W.isClsIn K CM = true)
    (tM : PySem.W.typeIn K (.ref CM) = some (.type "type"))
    (sM : PySem.W.subIn K (.ref CN) (.ref CM) = some false)
    (dY : (Value.ref CN == Value.ref CY) = false)
    (iY : PySem.W.isClsIn K CY = true)
    (tY : PySem.W.typeIn K (.ref CY) = some (.type "type"))
    (sY : PySem.W.subIn K (.ref CN) (.ref CY) = some false)
    (vV : PySem.W.findCls K (.type "ValueError") (.type "type") "__init__" = some (.val (.builtin "ValueError.__init__")))
    (z1 : PySem.W.nsIn K mainGlobals "isinstance" = some none)
    (z2 : PySem.W.nsIn K mainGlobals "int" = some none)
    (z3 : PySem.W.nsIn K mainGlobals "bool" = some none)
    (z4 : PySem.W.nsIn K mainGlobals "tuple" = some none)
    (z5 : PySem.W.nsIn K mainGlobals "len" = some none)
    (z6 : PySem.W.nsIn K mainGlobals "all" = some none)
    (z7 : PySem.W.nsIn K mainGlobals "abs" = some none)
    (z8 : PySem.W.nsIn K mainGlobals "range" = some none)
    (z9 : PySem.W.nsIn K mainGlobals "max" = some none)
    (z10 : PySem.W.nsIn K mainGlobals "min" = some none)
    (z11 : PySem.W.nsIn K mainGlobals "repr" = some none)
    (z12 : PySem.W.nsIn K mainGlobals "list" = some none)
    (z13 : PySem.W.nsIn K mainGlobals "sorted" = some none)
    (z14 : PySem.W.nsIn K mainGlobals "any" = some none)
    (z15 : PySem.W.nsIn K mainGlobals "str" = some none)
    (z16 : PySem.W.nsIn K mainGlobals "ValueError" = some none)
    :
    ∃ fd : FuncData, (∀ (s : Shared) (v : Value), BindsTo s fd ⟨[v], []⟩ [("_law_script", v)]) ∧ ∀ base : Heap, K.In base → base.Ns mainGlobals mg → FnG l.prog w K mg base CX0 6 fa fd ["_law_script"] (spLaw K) := by
  have e := hfa.symm.trans (PySem.W.mg_of X G a19)
  cases e
  have F1 := fun_mk (st := sWhole) l1 c1 k1
  have b1 := F1.binds (ps := ["thing"]) fun _ _ _ _ _ _ us hl => match us, hl with | [_], _ => rfl
  have m1 := PySem.W.mg_of X G a1
  have F2 := fun_mk (st := sWithin) l2 c2 k2
  have b2 := F2.binds (ps := ["thing", "least", "most"]) fun _ _ _ _ _ _ us hl => match us, hl with | [_, _, _], _ => rfl
  have m2 := PySem.W.mg_of X G a2
  have F3 := fun_mk (st := sPut) l3 c3 k3
  have b3 := F3.binds (ps := ["numbers", "at", "number"]) fun _ _ _ _ _ _ us hl => match us, hl with | [_, _, _], _ => rfl
  have m3 := PySem.W.mg_of X G a3
  have F4 := fun_mk (st := sMarks) l4 c4 k4
  have b4 := F4.binds (ps := ["hold"]) fun _ _ _ _ _ _ us hl => match us, hl with | [_], _ => rfl
  have m4 := PySem.W.mg_of X G a4
  have F5 := fun_mk (st := sSender) l5 c5 k5
  have b5 := F5.binds (ps := ["mark", "bears", "slot", "echoes", "many"]) fun _ _ _ _ _ _ us hl => match us, hl with | [_, _, _, _, _], _ => rfl
  have m5 := PySem.W.mg_of X G a5
  have F6 := fun_mk (st := sTaker) l6 c6 k6
  have b6 := F6.binds (ps := ["last", "took", "box", "letters"]) fun _ _ _ _ _ _ us hl => match us, hl with | [_, _, _, _], _ => rfl
  have m6 := PySem.W.mg_of X G a6
  have F7 := fun_mk (st := sRowB) l7 c7 k7
  have b7 := F7.binds (ps := ["row", "sent", "is_lost"]) fun _ _ _ _ _ _ us hl => match us, hl with | [_, _, _], _ => rfl
  have m7 := PySem.W.mg_of X G a7
  have F8 := fun_mk (st := sIsWord) l8 c8 k8
  have b8 := F8.binds (ps := ["thing", "bound"]) fun _ _ _ _ _ _ us hl => match us, hl with | [_, _], _ => rfl
  have m8 := PySem.W.mg_of X G a8
  have F9 := fun_mk (st := sRowP) l9 c9 k9
  have b9 := F9.binds (ps := ["row", "ahead", "own"]) fun _ _ _ _ _ _ us hl => match us, hl with | [_, _, _], _ => rfl
  have m9 := PySem.W.mg_of X G a9
  have F10 := fun_mk (st := sBag) l10 c10 k10
  have b10 := F10.binds (ps := ["_law_script", "_law_at"]) fun _ _ _ _ _ _ us hl => match us, hl with | [_, _], _ => rfl
  have m10 := PySem.W.mg_of X G a10
  have F11 := fun_mk (st := sTake) l11 c11 k11
  have b11 := F11.binds (ps := ["_law_bag_here", "_law_many"]) fun _ _ _ _ _ _ us hl => match us, hl with | [_, _], _ => rfl
  have m11 := PySem.W.mg_of X G a11
  have F12 := fun_mk (st := sOdd) l12 c12 k12
  have b12 := F12.binds (ps := ["_law_bag_here", "_law_most"]) fun _ _ _ _ _ _ us hl => match us, hl with | [_, _], _ => rfl
  have m12 := PySem.W.mg_of X G a12
  have F13 := fun_mk (st := sLN) l13 c13 k13
  have b13 := F13.binds (ps := ["_law_bag_here"]) fun _ _ _ _ _ _ us hl => match us, hl with | [_], _ => rfl
  have m13 := PySem.W.mg_of X G a13
  have F14 := fun_mk (st := sMade) l14 c14 k14
  have b14 := F14.binds (ps := ["_law_size", "_law_gap", "_law_top", "_law_way"]) fun _ _ _ _ _ _ us hl => match us, hl with | [_, _, _, _], _ => rfl
  have m14 := PySem.W.mg_of X G a14
  have F15 := fun_mk (st := sWhy) l15 c15 k15
  have b15 := F15.binds (ps := ["_law_size", "_law_gap", "_law_top"]) fun _ _ _ _ _ _ us hl => match us, hl with | [_, _, _], _ => rfl
  have m15 := PySem.W.mg_of X G a15
  have F16 := fun_mk (st := sLWh) l16 c16 k16
  have b16 := F16.binds (ps := ["_law_thing", "_law_due"]) fun _ _ _ _ _ _ us hl => match us, hl with | [_, _], _ => rfl
  have m16 := PySem.W.mg_of X G a16
  have F17 := fun_mk (st := sCR) l17 c17 k17
  have b17 := F17.binds (ps := ["_law_size", "_law_gap"]) fun _ _ _ _ _ _ us hl => match us, hl with | [_, _], _ => rfl
  have m17 := PySem.W.mg_of X G a17
  have F18 := fun_mk (st := sFirst) l18 c18 k18
  have b18 := F18.binds (ps := ["_law_way"]) fun _ _ _ _ _ _ us hl => match us, hl with | [_], _ => rfl
  have m18 := PySem.W.mg_of X G a18
  have F19 := fun_mk (st := sLaw) l19 c19 k19
  have m19 := PySem.W.mg_of X G a19
  have F20 := fun_mk (st := sSide) l20 c20 k20
  have b20 := F20.binds (ps := ["self", "lost"]) fun _ _ _ _ _ _ us hl => match us, hl with | [_, _], _ => rfl
  have F21 := fun_mk (st := sGoneB) l21 c21 k21
  have b21 := F21.binds (ps := ["self", "lost"]) fun _ _ _ _ _ _ us hl => match us, hl with | [_, _], _ => rfl
  have F22 := fun_mk (st := sStore) l22 c22 k22
  have b22 := F22.binds (ps := ["self"]) fun _ _ _ _ _ _ us hl => match us, hl with | [_], _ => rfl
  have F23 := fun_mk (st := sIsPlain) l23 c23 k23
  have b23 := F23.binds (ps := ["self"]) fun _ _ _ _ _ _ us hl => match us, hl with | [_], _ => rfl
  have F24 := fun_mk (st := sLen) l24 c24 k24
  have b24 := F24.binds (ps := ["self"]) fun _ _ _ _ _ _ us hl => match us, hl with | [_], _ => rfl
  have F25 := fun_mk (st := sEqW) l25 c25 k25
  have b25 := F25.binds (ps := ["self", "other"]) fun _ _ _ _ _ _ us hl => match us, hl with | [_, _], _ => rfl
  have F26 := fun_mk (st := sReprW) l26 c26 k26
  have b26 := F26.binds (ps := ["self"]) fun _ _ _ _ _ _ us hl => match us, hl with | [_], _ => rfl
  have F27 := fun_mk (st := sUnder) l27 c27 k27
  have b27 := F27.binds (ps := ["self"]) fun _ _ _ _ _ _ us hl => match us, hl with | [_], _ => rfl
  have F28 : FunD K "__init__" "Way.__init__" (defArgs sInit) (defBody sInit) (defScope sInit) [] [("miss", .int 1), ("bound", .int 10)] f28 (PySem.W.fnOf "__init__" "Way.__init__" (defArgs sInit) (defBody sInit) (defScope sInit) .none (.ref D28) dc28 pm28 an28 cd28 ct28) :=
    ⟨⟨oc28, od28, .none, .ref D28, dc28, pm28, an28, cd28, ct28, sl28, rfl, l28, c28, .inl ⟨rfl, rfl⟩, .inr ⟨D28, rfl, fun q hq => by
      simp only [List.mem_cons, List.not_mem_nil, or_false] at hq
      rcases hq with rfl | rfl
      · exact ⟨_, w28_0, ⟨_, rfl⟩⟩
      · exact ⟨_, w28_1, ⟨_, rfl⟩⟩⟩⟩, k28⟩
  have F29 : FunD K "beat" "Way.beat" (defArgs sBeat) (defBody sBeat) (defScope sBeat) [] [("word", .non), ("taking", .bl false), ("lost", .ref lz)] f29 (PySem.W.fnOf "beat" "Way.beat" (defArgs sBeat) (defBody sBeat) (defScope sBeat) .none (.ref D29) dc29 pm29 an29 cd29 ct29) :=
    ⟨⟨oc29, od29, .none, .ref D29, dc29, pm29, an29, cd29, ct29, sl29, rfl, l29, c29, .inl ⟨rfl, rfl⟩, .inr ⟨D29, rfl, fun q hq => by
      simp only [List.mem_cons, List.not_mem_nil, or_false] at hq
      rcases hq with rfl | rfl | rfl
      · exact ⟨_, w29_0, rfl⟩
      · exact ⟨_, w29_1, rfl⟩
      · exact ⟨_, w29_2, rfl⟩⟩⟩, k29⟩
  have F30 : FunD K "round_beats" "round_beats" (defArgs sRound) (defBody sRound) (defScope sRound) [] [("miss", .int 1)] f30 (PySem.W.fnOf "round_beats" "round_beats" (defArgs sRound) (defBody sRound) (defScope sRound) .none (.ref D30) dc30 pm30 an30 cd30 ct30) :=
    ⟨⟨oc30, od30, .none, .ref D30, dc30, pm30, an30, cd30, ct30, sl30, rfl, l30, c30, .inl ⟨rfl, rfl⟩, .inr ⟨D30, rfl, fun q hq => by
      simp only [List.mem_cons, List.not_mem_nil, or_false] at hq
      rcases hq with rfl
      · exact ⟨_, w30_0, ⟨_, rfl⟩⟩⟩⟩, k30⟩
  have m30 := PySem.W.mg_of X G a30
  have F31 : FunD K "way_beats" "way_beats" (defArgs sWayB) (defBody sWayB) (defScope sWayB) [] [("miss", .int 1)] f31 (PySem.W.fnOf "way_beats" "way_beats" (defArgs sWayB) (defBody sWayB) (defScope sWayB) .none (.ref D31) dc31 pm31 an31 cd31 ct31) :=
    ⟨⟨oc31, od31, .none, .ref D31, dc31, pm31, an31, cd31, ct31, sl31, rfl, l31, c31, .inl ⟨rfl, rfl⟩, .inr ⟨D31, rfl, fun q hq => by
      simp only [List.mem_cons, List.not_mem_nil, or_false] at hq
      rcases hq with rfl
      · exact ⟨_, w31_0, ⟨_, rfl⟩⟩⟩⟩, k31⟩
  have m31 := PySem.W.mg_of X G a31
  have O : Own mg := ⟨PySem.W.mg_none_of X G z1, PySem.W.mg_none_of X G z2, PySem.W.mg_none_of X G z3, PySem.W.mg_none_of X G z4, PySem.W.mg_none_of X G z5, PySem.W.mg_none_of X G z6, PySem.W.mg_none_of X G z7, PySem.W.mg_none_of X G z8, PySem.W.mg_none_of X G z9, PySem.W.mg_none_of X G z10, PySem.W.mg_none_of X G z11, PySem.W.mg_none_of X G z12, PySem.W.mg_none_of X G z13⟩
  have o_any := PySem.W.mg_none_of X G z14
  have o_str := PySem.W.mg_none_of X G z15
  have o_ValueError := PySem.W.mg_none_of X G z16
  have M : Most mg := ⟨⟨_, PySem.W.mg_of X G q1⟩, ⟨_, PySem.W.mg_of X G q2⟩, ⟨_, PySem.W.mg_of X G q3⟩⟩
  have T : WayC K C := ⟨⟨pg, hd, po, sa⟩, n_hold, n_miss, n_bound, n_kept, n_gone⟩
  have mC := PySem.W.mg_of X G aC
  have hlz : ∀ H, SqT K H lz [.bl false, .bl false] := fun H => .inr ⟨ot, _, nt, lt, lc, ld, by decide, .cons rfl (.cons rfl .nil)⟩
  refine ⟨PySem.W.fnOf "law" "law" (defArgs sLaw) (defBody sLaw) (defScope sLaw) .none kV19 dc19 pm19 an19 cd19 ct19, fun s v => .of_eq rfl, fun base _ _ => ?_⟩
  have Dwhole : Df l.prog w K mg base 1 "is_whole" _ spWhole := ⟨f1, _, m1, k1, ok_whole O F1, b1⟩
  have Dwithin : Df l.prog w K mg base 2 "is_within" _ spWithin := ⟨f2, _, m2, k2, ok_within F2 Dwhole, b2⟩
  have Dput : Df l.prog w K mg base 1 "put" _ spPut := ⟨f3, _, m3, k3, ok_put F3, b3⟩
  have Dmarks : Df l.prog w K mg base 1 "marks" _ spMarks := ⟨f4, _, m4, k4, ok_marks F4, b4⟩
  have Dsend : Df l.prog w K mg base 1 "sender_behind" _ spSender := ⟨f5, _, m5, k5, ok_sender O F5, b5⟩
  have Dtake : Df l.prog w K mg base 1 "taker_behind" _ spTaker := ⟨f6, _, m6, k6, ok_taker O F6, b6⟩
  have Drow : Df l.prog w K mg base 1 "row_behind" _ spRowB := ⟨f7, _, m7, k7, ok_rowb F7, b7⟩
  have Dword : Df l.prog w K mg base 3 "is_word" _ spIsWord := ⟨f8, _, m8, k8, ok_isword F8 Dwithin, b8⟩
  have Mgone : Mf l.prog w K mg base C 1 "gone_behind" _ (spGoneB K C) := ⟨f21, _, ⟨a21, i21, k21⟩, ok_goneb O T F21, b21⟩
  have Mside : Mf l.prog w K mg base C 2 "side_lost" _ (spSide K C) := ⟨f20, _, ⟨a20, i20, k20⟩, ok_side T F20 Mgone, b20⟩
  have Gbeat := ok_beat O T F29 Dword Mside Dsend Dmarks Dtake Dput Mgone Drow
  have mB : Meth K C "beat" f29 := ⟨a29, i29, k29⟩
  obtain ⟨mv, kLW⟩ := kb_beatLW F29
  obtain ⟨ds, v0, k0⟩ := kb_beat0 F29
  have W : WayD l.prog w K mg base C := ⟨T, ⟨f22, _, [], ⟨a22, i22, k22⟩, ok_store T F22, b22, .nil⟩, ⟨lz, hlz, f29, _, ds, mB, Gbeat, k0, v0⟩, ⟨f29, _, _, mB, Gbeat, kLW⟩, ⟨f29, _, _, mB, Gbeat, kb_beatA F29⟩⟩
  have Lbag : Df l.prog w K mg base 1 "_law_bag" _ (spBag K) := ⟨f10, _, m10, k10, ok_bag O F10, b10⟩
  have Ltake : Df l.prog w K mg base 1 "_law_take" _ spTake := ⟨f11, _, m11, k11, ok_take F11, b11⟩
  have Drp2 : Df l.prog w K mg base 1 "row_is_plain" _ spRowP := ⟨f9, _, m9, k9, ok_rowp O F9, b9⟩
  have WP : Mf0 l.prog w K mg base C 2 "is_plain" ["self"] [] (spIsPlain C) := ⟨f23, _, [], ⟨a23, i23, k23⟩, ok_isplain O T F23 Dmarks Drp2, b23, .nil⟩
  obtain ⟨mvB, kB⟩ := kb_initB F28
  obtain ⟨mvM, kM⟩ := kb_initM F28
  obtain ⟨dsI, vI, kI⟩ := kb_init0 F28
  have mI : Mk K C f28 := ⟨mk, a28, i28, kc⟩
  have GI := ok_init M T F28 Dwithin
  have WN : WayN l.prog w K mg base C := ⟨⟨f28, _, _, mC, mI, GI, kb_init F28⟩, ⟨f28, _, _, mC, mI, GI, kb_initR F28⟩, ⟨f28, _, _, mC, mI, GI, kB⟩, ⟨f28, _, _, mC, mI, GI, kM⟩, ⟨f28, _, dsI, mC, mI, GI, kI, vI⟩, ⟨f28, _, _, mC, mI, GI, kb_initA F28⟩⟩
  have TI : WayI K C := ⟨x_cl, x_get, x_tk, x_mro, x_ty⟩
  have WE : WayE l.prog w K mg base C := ⟨⟨⟨f25, a25, i25, fnr (ok_eqW O T TI mC F25) b25⟩, x_ne, x_mro⟩, ⟨⟨f26, a26, i26, fnr (ok_reprW T F26) b26⟩⟩, ⟨f24, _, a24, i24, ok_len O T F24, b24⟩, WP⟩
  have WU : Mf0 l.prog w K mg base C 3 "under_way" ["self"] [] (spUnder C) := ⟨f27, _, [], ⟨a27, i27, k27⟩, ok_under T F27 WP, b27, .nil⟩
  have DwholeX : Df l.prog w K mg base 1 "is_whole" _ spWholeX := ⟨f1, _, m1, k1, ok_wholeX O F1, b1⟩
  have DwithinX : Df l.prog w K mg base 2 "is_within" _ spWithinX := ⟨f2, _, m2, k2, ok_withinX F2 DwholeX, b2⟩
  have NF := fun_mk (st := sNW) nl nc nk
  have bN := NF.binds (ps := ["self", "why"]) fun _ _ _ _ _ _ us hl => match us, hl with | [_, _], _ => rfl
  have TN : NoWayC K CN := ⟨⟨⟨nmN, qN, NN, bsN, _, snN, subN, abN, colN, ddN, e0, e1, e2, e3, e5, nL, by decide +kernel⟩, nsa, nex, nty, nkC⟩, nwhy, ⟨nga, ngg, nex, nhd⟩, ⟨nga, ngg, nex, nhd, ncl, x_get, x_tk, nmro⟩, kit_ve nsv, PySem.W.exm_ref nex nhd nty nsub⟩
  have mN := PySem.W.mg_of X G nC
  have GN := ok_nw (P := l.prog) (w := w) (base := base) TN o_ValueError vV NF
  have GX := ok_initX M T TN ni nft GN bN mN F28 DwithinX
  have Lwhy : Df l.prog w K mg base 5 "_law_why" _ spWhy := ⟨f15, _, m15, k15, ok_why O TN mN o_ValueError (PySem.W.mg_of X G aS) (PySem.W.mg_of X G aM) (PySem.W.mg_of X G aY) (kit_off3 (kit_off dS iS tS sS) (kit_off dM iM tM sM) (kit_off dY iY tY sY)) mC mI GX (kb_init F28) F15, b15⟩
  have Lwh : Df l.prog w K mg base 1 "_law_whole" _ spLWh := ⟨f16, _, m16, k16, ok_lwh O F16, b16⟩
  obtain ⟨mvR, kR⟩ := kb_roundH F30
  obtain ⟨mvW, kW⟩ := kb_wayH F31
  have Lcr : Df l.prog w K mg base 2 "_law_counts_right" _ spCR := ⟨f17, _, m17, k17, ok_cr F17 Lwh Dmarks ⟨f4, _, _, m4, k4, ok_marks F4, kb_marks F4⟩ ⟨f30, _, _, m30, k30, ok_round F30, kb_round F30⟩ ⟨f30, _, _, m30, k30, ok_round F30, kR⟩ ⟨f31, _, _, m31, k31, ok_wayb F31, kb_wayB F31⟩ ⟨f31, _, _, m31, k31, ok_wayb F31, kW⟩, b17⟩
  have Lnum : Df l.prog w K mg base 2 "_law_numbers" _ spLN := ⟨f13, _, m13, k13, ok_ln F13 Ltake, b13⟩
  have Lmade : Df l.prog w K mg base 5 "_law_made" _ (spMade C) := ⟨f14, _, m14, k14, ok_made WN F14, b14⟩
  have Lodd : Df l.prog w K mg base 2 "_law_odd" _ spOdd := ⟨f12, _, m12, k12, ok_odd O F12 Ltake, b12⟩
  have Lfirst : DfG l.prog w K mg base 5 "_law_first" _ (spFirst C) := ⟨f18, _, m18, k18, ok_first O W WE WU F18, b18⟩
  exact ok_law O o_any o_str W WE WN F19 Lbag Ltake Lnum Lcr Lmade Lfirst Lodd Lwhy
end Any
open PySem PySem.W PyProof.Rows
set_option maxRecDepth 100000 in
set_option maxHeartbeats 0 in
theorem PySem.Challenge.cw_anystore_k55_ways_made_holds : PySem.Challenge.rw_anystore_k55_ways_made.Holds := by
  w_on; o_law; k_head; (case hw => w_witness2)
  k_fill
  refine Any.walk_g (l := PySem.Challenge.rw_anystore_k55_ways_made) (n := 63) (k := 6) (x := "_law_script") (sp := Any.spLaw) rfl (by decide) rfl ⟨rfl, by decide, by decide⟩ (fun w h Y => PySem.W.kIn_of Y) ?F (fun K H a ns hl _ hS => ⟨a, ns, rfl, hS, hl, fun _ => rfl⟩)
  case F =>
    intro w mg fa h KX G hmg
    refine' Any.all_mk KX G hmg ?aC ?a1 ?l1 ?c1 ?k1 ?a2 ?l2 ?c2 ?k2 ?a3 ?l3 ?c3 ?k3 ?a4 ?l4 ?c4 ?k4 ?a5 ?l5 ?c5 ?k5 ?a6 ?l6 ?c6 ?k6 ?a7 ?l7 ?c7 ?k7 ?a8 ?l8 ?c8 ?k8 ?a9 ?l9 ?c9 ?k9 ?a10 ?l10 ?c10 ?k10 ?a11 ?l11 ?c11 ?k11 ?a12 ?l12 ?c12 ?k12 ?a13 ?l13 ?c13 ?k13 ?a14 ?l14 ?c14 ?k14 ?a15 ?l15 ?c15 ?k15 ?a16 ?l16 ?c16 ?k16 ?a17 ?l17 ?c17 ?k17 ?a18 ?l18 ?c18 ?k18 ?a19 ?l19 ?c19 ?k19 ?a20 ?i20 ?l20 ?c20 ?k20 ?a21 ?i21 ?l21 ?c21 ?k21 ?a22 ?i22 ?l22 ?c22 ?k22 ?a23 ?i23 ?l23 ?c23 ?k23 ?a24 ?i24 ?l24 ?c24 ?k24 ?a25 ?i25 ?l25 ?c25 ?k25 ?a26 ?i26 ?l26 ?c26 ?k26 ?a27 ?i27 ?l27 ?c27 ?k27 ?a28 ?i28 ?l28 ?c28 ?k28 ?w28_0 ?w28_1 ?a29 ?i29 ?l29 ?c29 ?k29 ?w29_0 ?w29_1 ?w29_2 ?a30 ?l30 ?c30 ?k30 ?w30_0 ?a31 ?l31 ?c31 ?k31 ?w31_0 ?lt ?lc ?ld ?pg ?hd ?po ?mk ?kc ?sa ?n_hold ?n_miss ?n_bound ?n_kept ?n_gone ?q1 ?q2 ?q3 ?x_ne ?x_cl ?x_get ?x_tk ?x_mro ?x_ty ?nC ?nL ?nsa ?nga ?ngg ?nwhy ?ni ?nft ?nl ?nc ?nk ?nkC ?nex ?nty ?nhd ?nsub ?ncl ?nmro ?aS ?aM ?aY ?nsv ?dS ?iS ?tS ?sS ?dM ?iM ?tM ?sM ?dY ?iY ?tY ?sY ?vV ?z1 ?z2 ?z3 ?z4 ?z5 ?z6 ?z7 ?z8 ?z9 ?z10 ?z11 ?z12 ?z13 ?z14 ?z15 ?z16
    (case aC => k_is)
    (case a1 => k_is)
    (case l1 => k_is)
    (case c1 => k_is)
    (case k1 => k_is)
    (case a2 => k_is)
    (case l2 => k_is)
    (case c2 => k_is)
    (case k2 => k_is)
    (case a3 => k_is)
    (case l3 => k_is)
    (case c3 => k_is)
    (case k3 => k_is)
    (case a4 => k_is)
    (case l4 => k_is)
    (case c4 => k_is)
    (case k4 => k_is)
    (case a5 => k_is)
    (case l5 => k_is)
    (case c5 => k_is)
    (case k5 => k_is)
    (case a6 => k_is)
    (case l6 => k_is)
    (case c6 => k_is)
    (case k6 => k_is)
    (case a7 => k_is)
    (case l7 => k_is)
    (case c7 => k_is)
    (case k7 => k_is)
    (case a8 => k_is)
    (case l8 => k_is)
    (case c8 => k_is)
    (case k8 => k_is)
    (case a9 => k_is)
    (case l9 => k_is)
    (case c9 => k_is)
    (case k9 => k_is)
    (case a10 => k_is)
    (case l10 => k_is)
    (case c10 => k_is)
    (case k10 => k_is)
    (case a11 => k_is)
    (case l11 => k_is)
    (case c11 => k_is)
    (case k11 => k_is)
    (case a12 => k_is)
    (case l12 => k_is)
    (case c12 => k_is)
    (case k12 => k_is)
    (case a13 => k_is)
    (case l13 => k_is)
    (case c13 => k_is)
    (case k13 => k_is)
    (case a14 => k_is)
    (case l14 => k_is)
    (case c14 => k_is)
    (case k14 => k_is)
    (case a15 => k_is)
    (case l15 => k_is)
    (case c15 => k_is)
    (case k15 => k_is)
    (case a16 => k_is)
    (case l16 => k_is)
    (case c16 => k_is)
    (case k16 => k_is)
    (case a17 => k_is)
    (case l17 => k_is)
    (case c17 => k_is)
    (case k17 => k_is)
    (case a18 => k_is)
    (case l18 => k_is)
    (case c18 => k_is)
    (case k18 => k_is)
    (case a19 => k_is)
    (case l19 => k_is)
    (case c19 => k_is)
    (case k19 => k_is)
    (case a20 => k_is)
    (case i20 => k_is)
    (case l20 => k_is)
    (case c20 => k_is)
    (case k20 => k_is)
    (case a21 => k_is)
    (case i21 => k_is)
    (case l21 => k_is)
    (case c21 => k_is)
    (case k21 => k_is)
    (case a22 => k_is)
    (case i22 => k_is)
    (case l22 => k_is)
    (case c22 => k_is)
    (case k22 => k_is)
    (case a23 => k_is)
    (case i23 => k_is)
    (case l23 => k_is)
    (case c23 => k_is)
    (case k23 => k_is)
    (case a24 => k_is)
    (case i24 => k_is)
    (case l24 => k_is)
    (case c24 => k_is)
    (case k24 => k_is)
    (case a25 => k_is)
    (case i25 => k_is)
    (case l25 => k_is)
    (case c25 => k_is)
    (case k25 => k_is)
    (case a26 => k_is)
    (case i26 => k_is)
    (case l26 => k_is)
    (case c26 => k_is)
    (case k26 => k_is)
    (case a27 => k_is)
    (case i27 => k_is)
    (case l27 => k_is)
    (case c27 => k_is)
    (case k27 => k_is)
    (case a28 => k_is)
    (case i28 => k_is)
    (case l28 => k_is)
    (case c28 => k_is)
    (case k28 => k_is)
    (case w28_0 => k_is)
    (case w28_1 => k_is)
    (case a29 => k_is)
    (case i29 => k_is)
    (case l29 => k_is)
    (case c29 => k_is)
    (case k29 => k_is)
    (case w29_0 => k_is)
    (case w29_1 => k_is)
    (case w29_2 => k_is)
    (case a30 => k_is)
    (case l30 => k_is)
    (case c30 => k_is)
    (case k30 => k_is)
    (case w30_0 => k_is)
    (case a31 => k_is)
    (case l31 => k_is)
    (case c31 => k_is)
    (case k31 => k_is)
    (case w31_0 => k_is)
    (case lt => k_is)
    (case lc => rfl)
    (case ld => rfl)
    (case pg => k_is)
    (case hd => k_is)
    (case po => k_is)
    (case mk => k_is)
    (case kc => k_is)
    (case sa => k_is)
    (case n_hold => k_is)
    (case n_miss => k_is)
    (case n_bound => k_is)
    (case n_kept => k_is)
    (case n_gone => k_is)
    (case q1 => k_is)
    (case q2 => k_is)
    (case q3 => k_is)
    (case x_ne => k_is)
    (case x_cl => k_is)
    (case x_get => k_is)
    (case x_tk => k_is)
    (case x_mro => k_is)
    (case x_ty => k_is)
    (case nC => k_is)
    (case nL => k_is)
    (case nsa => k_is)
    (case nga => k_is)
    (case ngg => k_is)
    (case nwhy => k_is)
    (case ni => k_is)
    (case nft => k_is)
    (case nl => k_is)
    (case nc => k_is)
    (case nk => k_is)
    (case nkC => k_is)
    (case nex => k_is)
    (case nty => k_is)
    (case nhd => k_is)
    (case nsub => first | rfl | k_is)
    (case ncl => k_is)
    (case nmro => k_is)
    (case aS => k_is)
    (case aM => k_is)
    (case aY => k_is)
    (case nsv => k_is)
    (case dS => first | rfl | decide)
    (case iS => k_is)
    (case tS => k_is)
    (case sS => k_is)
    (case dM => first | rfl | decide)
    (case iM => k_is)
    (case tM => k_is)
    (case sM => k_is)
    (case dY => first | rfl | decide)
    (case iY => k_is)
    (case tY => k_is)
    (case sY => k_is)
    (case vV => k_is)
    (case z1 => k_is)
    (case z2 => k_is)
    (case z3 => k_is)
    (case z4 => k_is)
    (case z5 => k_is)
    (case z6 => k_is)
    (case z7 => k_is)
    (case z8 => k_is)
    (case z9 => k_is)
    (case z10 => k_is)
    (case z11 => k_is)
    (case z12 => k_is)
    (case z13 => k_is)
    (case z14 => k_is)
    (case z15 => k_is)
    (case z16 => k_is)
#print axioms PySem.Challenge.cw_anystore_k55_ways_made_holds
