import PyProof.Rows.All
import Wide.All
import OpenK.AllK
import Wide.FinOn
import HandS.ForMost
import HandS.Wide
import HandS.Defaults
import HandS.More
import HandS.RaiseMore
import HandS.Style
import PyProof.ReprRoads
import PyProof.SliceMore
import HandS.IterVal
import HandS.Nested
import HandS.Conv
import KE.KDictList
import KE.KNestM
import HandS.EndTab
import HandS.NoneIn
import PyProof.ReprLen
import PyProof.Rows.RegStrFacts
import PySem.Challenge.RW_anystore_k02_tests
set_option Elab.async false
set_option linter.all false
set_option maxRecDepth 100000
namespace Any
open L2 PySem PyProof.Rows
open PySem.Spec

/-! ### the texts of data (repr) -/
/-- a thing without parts -/
inductive Flat : V → PyData → Prop
  | non : Flat .non .none
  | bl (b : Bool) : Flat (.bl b) (.bool b)
  | int (i : Int) : Flat (.int i) (.int i)
  | str (x : Str) : Flat (.str x) (.str x)
def keyD : Key → PyData
  | .inl i => .int i
  | .inr x => .str x
/-- what repr may be asked of: lists and tuples at any depth, dicts of flat things -/
inductive Shows (K : PySem.W.Frag) (H : Hp) : Addr → PyData → Prop
  | seq {a : Addr} {d : PyData} : Dp K H (.ref a) d → d.hasDict = false → Shows K H a d
  | dct {a : Addr} {kvs : List (Key × V)} {ds : List (PyData × PyData)} : H a = some (.dK kvs) →
      Paired (fun (p : Key × V) (q : PyData × PyData) => q.1 = keyD p.1 ∧ Flat p.2 q.2) kvs ds → Shows K H a (.dict ds)

section
variable {P : Program} {w : World} {h : Heap}
theorem flat_reads {v : V} {u : Value} {d : PyData} (f : Flat v d) (r : RelV v u) : Reads h u d [] := by
  cases f with
  | non => cases r; exact .none
  | bl b => cases r; exact .bool b
  | int i => obtain ⟨t, rfl⟩ := r; exact .int i t
  | str x => obtain ⟨t, rfl⟩ := r; exact .str x t
theorem key_reads {k : Key} {u : Value} (e : keyIs k u = true) : Reads h u (keyD k) [] := by
  rcases keyIs_shape e with ⟨i, t, rfl, rfl⟩ | ⟨x, t, rfl, rfl⟩
  · exact .int i t
  · exact .str x t
theorem dct_reads : ∀ {kvs : List (Key × V)} {ds : List (PyData × PyData)} {vs : List (Key × Value)} {es : List DictEntry},
    Paired (fun (p : Key × V) (q : PyData × PyData) => q.1 = keyD p.1 ∧ Flat p.2 q.2) kvs ds → KV kvs vs → Pairs (mixKind P w) es vs →
    ReadsAll h (es.map (·.key)) (ds.map (·.1)) [] ∧ ReadsAll h (es.map (·.val)) (ds.map (·.2)) []
  | _, _, _, _, .nil, r, q => by
    cases r; cases q; exact ⟨.nil, .nil⟩
  | _, _, _, _, .cons z zs, r, q => by
    cases r with
    | cons r1 r2 =>
      cases q with
      | cons q1 q2 q3 =>
        obtain ⟨a, b⟩ := dct_reads zs r2 q3
        rename_i p ps d dd vv vr e es
        have k1 : keyIs vv.1 e.key = true := q1
        refine ⟨?_, ?_⟩
        · have c := ReadsAll.cons (as := []) (bs := []) (key_reads (h := h) k1) a
          rw [← r1.1, ← z.1] at c
          exact c
        · have c := ReadsAll.cons (as := []) (bs := []) (flat_reads (h := h) z.2 r1.2) b
          rw [← q2] at c
          exact c
end

section
variable {X : Cx}
def rRepr (K : PySem.W.Frag) : List V → Hp → VK → Prop := fun vs H Q => ∃ a d, vs = [.ref a] ∧ Shows K H a d ∧ d.showable = true ∧ d.depth ≤ 60 ∧ d.shown.length ≤ sizeLine ∧ Q (.str d.shown) H
theorem call_repr (hG : X.A.guards = some []) (hu : X.A.units + 70 < cLine) : CallR X (.builtin "repr") (rRepr X.K) := by
  intro pins s σ H xs us Q I r h
  obtain ⟨a, d, rfl, hd, hs, hdp, hz, q⟩ := h
  obtain ⟨u, rfl, ru⟩ := vals1 r
  cases ru
  have key : ∃ as, Reads s.heap (.ref a) d as ∧ (d.hasDict = true → sysModules ∉ as) := by
    cases hd with
    | seq h1 h2 =>
      obtain ⟨as, q1⟩ := Dp.reads I d _ _ h1 rfl
      exact ⟨as, q1, fun z => by rw [h2] at z; cases z⟩
    | dct h1 h2 =>
      obtain ⟨_, ns, vs, kv, o, es, ep, e1, e2, e3, _, e5, _⟩ := I.hok a _ h1
      obtain ⟨q1, q2⟩ := dct_reads (h := s.heap) h2 kv e5
      refine ⟨_, Reads.dict e1 e2.1 e3 q1 q2, fun _ z => ?_⟩
      rcases List.mem_append.mp z with z | z
      · rcases List.mem_cons.mp z with z | z
        · rw [← z] at ns
          simp at ns
        · cases z
      · cases z
  obtain ⟨as, rd, sm⟩ := key
  refine repr_of_reads' rd hs sm hG (by omega) (fun _ _ e => e) (fun h' u tk hk => ?_) hz
  exact ⟨.str d.shown, H, I.kept hk, ⟨_, rfl⟩, q⟩

/-! ### xs[::e], e being 1 or -1 -/
theorem pick_one (items : Array Value) : slicePick items none none (some 1) = items := by
  have e : slicePick items none none (some 1) = slicePick items none none none := rfl
  rw [e, slicePick_all]
def tStep (K : PySem.W.Frag) (te ts : TE) : TE := fun σ H Q => te σ H fun x H1 => ts σ H1 fun y H2 => ∃ a xs, x = .ref a ∧ SqL K H2 a xs ∧
  ((y = .int 1 ∧ ∀ p, H2 p = none → Q (.ref p) (upd H2 p (.lst xs))) ∨ (y = .int (-1) ∧ ∀ p, H2 p = none → Q (.ref p) (upd H2 p (.lst xs.reverse))))
theorem pe_step {e st : Expr} {te ts : TE} {p3 pos : Pos} (he : PE X e te) (hst : PE X st ts) :
    PE X (.Subscript e (.Slice none none (some st) p3) pos) (tStep X.K te ts) := by
  refine ⟨fun pins s σ H Q I h => ?_⟩
  refine Subscript_ (thn (he.run pins s σ H _ I h) fun v s1 ⟨x, H1, I1, r1, q1⟩ => ?_)
  refine wpAny_Slice (thn (po_none.run pins s1 σ H1 (fun o H2 => o = none ∧ H2 = H1) I1 ⟨rfl, rfl⟩) fun vl s2 ⟨l, H2, I2, pl, el, e2⟩ => ?_)
  subst el e2
  refine thn (po_none.run pins s2 σ H2 (fun o H3 => o = none ∧ H3 = H2) I2 ⟨rfl, rfl⟩) fun vu s3 ⟨u, H3, I3, pu, eu, e3⟩ => ?_
  subst eu e3
  rw [evalPart_some]
  refine thn (hst.run pins s3 σ H3 _ I3 q1) fun vs s4 ⟨y, H4, I4, r4, a, xs, ex, hx, q⟩ => ?_
  subst ex
  cases r1
  have I5 : Inv X pins σ H4 { s4 with heap := s4.heap.push { cls := .type "slice", data := .fields #[vl, vu, vs] } } := I4.kept (t' := s4.toks) fun b ob q => Heap.get?_push_of_some _ q
  obtain ⟨its, r, ht, hz⟩ := I5.list hx
  have hlen := r.length
  have two : ∃ k : Int, y = .int k ∧ k ≠ 0 ∧ ∃ zs ws, Vals ws zs ∧ slicePick its.toArray none none (some k) = zs.toArray ∧ ws.length ≤ sizeLine ∧ ∀ p, H4 p = none → Q (.ref p) (upd H4 p (.lst ws)) := by
    rcases q with ⟨ey, q⟩ | ⟨ey, q⟩
    · exact ⟨1, ey, by decide, its, xs, r, pick_one _, hz, q⟩
    · exact ⟨-1, ey, by decide, its.reverse, xs.reverse, r.reverse, by rw [PySem.W.krv_pick], by rw [List.length_reverse]; exact hz, q⟩
  obtain ⟨k, ey, hk, zs, ws, rz, epk, hzs, qq⟩ := two
  subst ey
  obtain ⟨t, rfl⟩ := (show ∃ t, vs = Value.int k t from r4)
  show wpAny (model X.prog X.w) X.A (subscriptTail e (.Slice none none (some st) p3) (.ref a) (.ref s4.heap.objs.size)) (EP X pins σ Q) X.xe _
  refine tail_any (ops := [.ref a, .ref s4.heap.objs.size]) ht.isList.typeIs (PySem.slot_list_getitem.lookup) ?_ (by with_unfolding_all rfl)
  refine wpAny_getItem_list_slice ht.isList (Heap.IsSliceOf.new _ vl vu (.int k t)) pl pu (IsPart.int k t) (by intro z; exact hk (Option.some.inj z)) ?_ (by rw [List.size_toArray]; omega)
  rw [epk]
  refine ⟨.ref _, _, I5.laid (t' := s4.toks) (o := .lst ws) (fun b ob q => Heap.get?_push_of_some _ q) (Nat.le_refl _) ?_, rfl, qq _ (I5.hok.fresh (Nat.le_refl _))⟩
  exact ⟨hzs, _, 0, rz, Heap.get?_push_size _ rfl⟩

/-! ### great powers -/
def CPowW (i j : Int) : Prop := 0 ≤ j ∧ (Builtin.Int.intBits i : Int) * j ≤ 2 ^ 27
theorem op_powW : OpR X (binaryOp .Pow) (rI CPowW fun i j => .int (i ^ j.toNat)) := opI fun _ _ _ _ _ _ _ hc q => pow_int hc.1 hc.2 q
end
end Any
namespace Any
open L2 PySem PyProof.Rows
open PySem.Spec

/-! ### defs that run where no repr is under way -/
section
variable (P : Program) (w : World) (K : PySem.W.Frag) (mg : Str → Option Value) (base : Heap)
/-- as FnOk, for callers with no guard -/
structure FnG (C : CXT) (k : Nat) (f : Addr) (fd : FuncData) (ps : List Str) (sp : Sp) : Prop where
  len : ∀ vs H Q E, sp vs H Q E → vs.length = ps.length
  go : ∀ (A : Around) (out : List Env) (s : Shared) (H : Hp) (args : Args) (us : List Value) (vs : List V) (Q : VK) (E : XK), A.guards = some [] → Room k A →
    Env0 P w K mg base A out s H → BindsTo s fd args (ps.zip us) → Vals vs us → sp vs H Q E → codeAny (model P w) A (.call (.ref f) args) (CR C out P w H s Q E) s
end
section
variable {P : Program} {w : World} {K : PySem.W.Frag} {mg : Str → Option Value} {base : Heap}
theorem FnG.of {C : CXT} {k : Nat} {f : Addr} {fd : FuncData} {ps : List Str} {sp : Sp} (F : FnOk P w K mg base C k f fd ps sp) : FnG P w K mg base C k f fd ps sp :=
  ⟨F.len, fun A out s H args us vs Q E _ hr => F.run A out s H args us vs Q E hr⟩
theorem FnG.mono {C : CXT} {j k : Nat} {f : Addr} {fd : FuncData} {ps : List Str} {sp : Sp} (F : FnG P w K mg base C j f fd ps sp) (h : j ≤ k) : FnG P w K mg base C k f fd ps sp :=
  ⟨F.len, fun A out s H args us vs Q E hg hr => F.go A out s H args us vs Q E hg (hr.mono h)⟩

/-- a def's body, under no guard -/
theorem fn_g {C : CXT} {k : Nat} {f : Addr} {nm ql : Str} {ar : Arguments} {bd : List Stmt} {sc : Scope} {v1 v2 v3 v4 v5 v6 v7 : Value} {a1 a2 : Option Addr} {sl : Array (Option Value)} {N ps : List Str} {sp : Sp}
    (at_ : K.lookup f = some ⟨v7, a2, .func (PySem.W.fnOf nm ql ar bd sc v1 v2 v3 v4 a1 v5 v6), sl⟩) (code : PySem.W.codeIn K v5 ql = true) (S : FnScope N ps sc)
    (ln : ∀ vs H Q E, sp vs H Q E → vs.length = ps.length)
    (hb : ∀ (A : Around) (out : List Env) (s : Shared) (H : Hp) (vs : List V) (Q : VK) (E : XK), A.guards = some [] → Room k (A.deeper (envOfC ql sc s.heap.objs.size f v5)) → sp vs H Q E →
      ∃ t, PSs (cxOf C P w K mg base N ql sc f v5 A out s H E) bd t ∧ t ⟨fun _ H' => Q .non H', Q, fun _ _ => False, fun _ _ => False⟩ (start N vs) H) :
    FnG P w K mg base C (k + 1) f (PySem.W.fnOf nm ql ar bd sc v1 v2 v3 v4 a1 v5 v6) ps sp where
  len := ln
  go A out s H args us vs Q E hg hr e0 hbi rv hsp := by
    have kx : K.In s.heap := e0.mod.kin.keeps (fun b o z => (e0.bs b o z).1)
    have nl : s.heap.NoLimit := e0.mod.nolimit.keeps (fun b o z => (e0.bs b o z).1)
    have kd : ∀ y ∈ ps.zip us, sc.names.lookup y.1 = some .local ∨ (sc.names.lookup y.1 = some .cell ∧ ((cellsFrom (s.heap.objs.size + 1) sc.names []).lookup y.1).isSome = true) := by
      rintro ⟨n, v⟩ hy
      have z := S.par n (List.of_mem_zip hy).1
      exact z.elim .inl (fun z => .inr ⟨z, PySem.W.cellsFrom_some _ _ _ (.inl z)⟩)
    refine codeAny_call_function hr.depth (kx _ _ at_) rfl S.co S.gen rfl (PySem.W.codeRec_of kx code) (hbi _ _ _ _ (wpAny_newFunctionEnv_cells S.kind kd (fun env he s1 x => ?_)))
    subst he
    obtain ⟨t, ht, hq⟩ := hb A out s H vs Q E hg (hr.deeper _) hsp
    have I := inv_start (CX := C) (E := E) S hr.hd e0 (ln _ _ _ _ hsp) rv x
    refine ⟨nl.keeps x.toInCall.keep, codeAny_func (wpAny_mono (ht.run [] s1 (start N vs) H _ I hq) (fun fl s' hs => ?_) (fun _ _ z => z))⟩
    cases fl with
    | ret u => obtain ⟨v, σ', H', J, r', q⟩ := hs; exact ⟨v, H', J.os, J.bare, J.base, J.hok, r', q⟩
    | next => obtain ⟨σ', H', J, q⟩ := hs; exact ⟨.non, H', J.os, J.bare, J.base, J.hok, rfl, q⟩
    | brk => exact hs.elim fun _ z => z.elim fun _ z => z.2.elim
    | cont => exact hs.elim fun _ z => z.elim fun _ z => z.2.elim
theorem fun_g {x ql : Str} {st : Stmt} {f : Addr} {fd : FuncData} {N ps : List Str} {k : Nat} {sp : Sp} (F : Fun K x ql st f fd) (S : FnScope N ps (defScope st)) (ln : ∀ vs H Q E, sp vs H Q E → vs.length = ps.length)
    (hb : ∀ (cv : Value) (A : Around) (out : List Env) (s : Shared) (H : Hp) (vs : List V) (Q : VK) (E : XK), A.guards = some [] → Room k (A.deeper (envOfC ql (defScope st) s.heap.objs.size f cv)) → sp vs H Q E →
      ∃ t, PSs (cxOf CX0 P w K mg base N ql (defScope st) f cv A out s H E).nox (defBody st) t ∧ t ⟨fun _ H' => Q .non H', Q, fun _ _ => False, fun _ _ => False⟩ (start N vs) H) : FnG P w K mg base CX0 (k + 1) f fd ps sp := by
  obtain ⟨_, _, _, _, _, _, cv, _, _, rfl, lk, hc⟩ := F.ex
  refine fn_g lk hc S ln fun A out s H vs Q E hg hr hs => ?_
  obtain ⟨t, h, q⟩ := hb cv A out s H vs Q E hg hr hs
  exact ⟨t, h.nox, q⟩
end

section
variable {X : Cx} {C : CXT} {k : Nat} {f : Addr} {fd : FuncData} {ps : List Str} {sp : Sp} {ds : List V} {us0 : List Value} {E : XK} {x : Str} {p pos : Pos} {e : Expr} {es : List Expr} {t : TA}
/-- a call of such a def -/
theorem pe_callG (F : FnG X.prog X.w X.K X.mg X.base C k f fd ps sp) (hG : X.A.guards = some []) (hr : Room k X.A) (hg : Gl X x) (hm : X.mg x = some (.ref f)) (hk : PySem.W.keepIn X.K (.ref f) = true) (hb : Binds X.K fd ps us0) (hd : Vals ds us0)
    (hx : Passes C X E) (ha : PA X (e :: es) t) (h1 : (x == ("__debug__" : Str)) = false := by decide) (h2 : starEach (e :: es) X.env = (false, eval e X.env) :: starEach es X.env := by rfl)
    (h3 : (backTo pos (starEach es X.env)).any (·.1) = false := by rfl) : PE X (.Call (.Name x p) (e :: es) [] pos) (tCall sp ds E t) where
  run pins s σ H Q I h := by
    refine wpAny_Call_Name_kw (ld_glob I hg hm (PySem.W.callWith_K (h₀ := X.base) I.ok.mod.kin hk (thn (ha.run pos pins s σ H _ I h) ?_) h2 h3) h1)
    rintro us s1 ⟨vs, H1, I1, rv, q⟩
    have rr := rv.append hd
    have hl : (us ++ us0).length = ps.length := rr.length.symm.trans (F.len _ _ _ _ q)
    refine ⟨I1.kIn, wpAny_call (codeAny_mono (F.go X.A X.stack s1 H1 _ _ _ Q E hG hr I1.env0 (hb s1 us I1.kIn hl) rr q) ?_)⟩
    rintro (err | fl) s' hq
    · exact hx pins σ H1 s1 err s' I1 hq
    · cases fl with
      | ret u => exact I1.after hq
      | next => cases hq
      | brk => cases hq
      | cont => cases hq

/-- x(e, ..), x a name that holds one of several defs -/
def tCallS (X : Cx) (C : CXT) (k i : Nat) (E : XK) (t : TA) : TE := fun σ H Q => ∃ f sp, FnR X.prog X.w X.K X.mg X.base C k f sp ∧ PySem.W.keepIn X.K (.ref f) = true ∧ σ[i]? = some (some (.ref f)) ∧ t σ H fun vs H1 => sp vs H1 Q E
theorem pe_callS {i : Nat} (hr : Room k X.A) (hx : Passes C X E) (hN : X.N[i]? = some x) (hv : Vis X.env.scope x) (ha : PA X (e :: es) t)
    (h1 : (x == ("__debug__" : Str)) = false := by decide) (h4 : (x == ("__classdict__" : Str)) = false := by decide) (h2 : starEach (e :: es) X.env = (false, eval e X.env) :: starEach es X.env := by rfl)
    (h3 : (backTo pos (starEach es X.env)).any (·.1) = false := by rfl) : PE X (.Call (.Name x p) (e :: es) [] pos) (tCallS X C k i E t) where
  run pins s σ H Q I h := by
    obtain ⟨f, sp, F, hk, hs, h⟩ := h
    exact (ItX.pe_callV (i := i) (p := p) F hr hk hx hN hv ha h1 h4 h2 h3).run pins s σ H Q I ⟨hs, h⟩

/-- f(k = v, ..) alone -/
theorem pe_callK0 {ks : List Str} {g : List Value → List Value → List Value} {gV : List V → List V → List V} {kws : List Keyword} {tk : TA} (F : FnOk X.prog X.w X.K X.mg X.base C k f fd ps sp) (hr : Room k X.A) (hg : Gl X x) (hm : X.mg x = some (.ref f))
    (hk : PySem.W.keepIn X.K (.ref f) = true) (hb : KBn X.K fd ps 0 ks g gV) (hx : Passes C X E) (hkw : PK X kws tk) (hall : (backToKw pos (keywordEach kws X.env)).all (·.1.isSome) = true := by rfl)
    (hks : (backToKw pos (keywordEach kws X.env)).filterMap (·.1) = ks := by rfl) (h1 : (x == ("__debug__" : Str)) = false := by decide)
    (h3 : ((backTo pos (starEach [] X.env)).any (·.1) || (backToKw pos (keywordEach kws X.env)).any (·.1.isNone)) = false := by rfl) :
    PE X (.Call (.Name x p) [] kws pos) (fun σ H Q => tk σ H fun zs H1 => zs.length = ks.length ∧ sp (gV [] zs) H1 Q E) where
  run pins s σ H Q I h := by
    refine wpAny_Call_Name_kw (ld_glob I hg hm ?_ h1)
    refine PySem.W.callWith_KW0 (h₀ := X.base) I.ok.mod.kin hk hall (thn (hkw.run pos pins s σ H _ I h) ?_) h3
    rintro ws s1 ⟨zs, H1, I1, rz, l1, q⟩
    refine ⟨I1.kIn, ?_⟩
    rw [hks]
    exact run_fnN (us := []) (vs := []) F hr hb hx I1 .nil rz rfl l1 q
end

/-! ### the law's call, under no guard -/
section
variable {P : Program} {w : World} {K : PySem.W.Frag} {mg mb : Str → Option Value}
theorem law_g {C : CXT} {k : Nat} {fa a : Addr} {fd : FuncData} {x : Str} {sp : Sp} {s : Shared} {vs : List Value} {ns : List Int}
    (kx : K.In s.heap) (g1 : s.heap.Ns mainGlobals mg) (g2 : s.heap.Ns builtinsNs mb) (g3 : ∀ x : Str, x ≠ "__name__" → mb x = bootBuiltins x) (g4 : s.heap.NoLimit) (g5 : s.gens = #[])
    (la : s.heap.get? a = some { cls := .type "list", data := .seq vs.toArray }) (li : IntsAre vs ns) (ll : ns.length ≤ sizeLine) (hr : Room k callerA)
    (F : ∀ base : Heap, K.In base → base.Ns mainGlobals mg → FnG P w K mg base C k fa fd [x] sp) (bd : ∀ (s : Shared) (u : Value), BindsTo s fd ⟨[u], []⟩ [(x, u)])
    (want : ∀ H : Hp, Only H → SqL K H a (ns.map V.int) → sp [.ref a] H (fun v _ => v = .bl true) fun _ _ _ => False)
    (noC : ∀ H e s', C [] H s (fun _ _ _ => False) e s' → False) :
    codeAny (model P w) callerA (.call (.ref fa) ⟨[.ref a], []⟩) (fun r s' => r = .ok (.ret (.bool true)) ∧ OldK s.heap s'.heap ∧ s'.os = s.os ∧ AllBare s'.gens) s := by
  -- one abstract heap: the script, if the written part has it not
  have pick : ∃ H : Hp, Only H ∧ SqL K H a (ns.map V.int) ∧ HOk P w H s.heap ∧ (∀ b u, H b = some u → b = a) ∧ ((H a).isSome = true → K.lookup a = none) := by
    cases hk : K.lookup a with
    | some o =>
      have z := (kx a o hk).symm.trans la
      cases z
      exact ⟨fun _ => none, fun _ => .inl rfl, .inr ⟨_, vs.toArray, _, hk, rfl, rfl, rfl, by rw [List.size_toArray, li.length]; exact ll, by simpa using vals_ints li⟩, (fun b u z => by cases z), (fun b u z => by cases z), (fun z => by cases z)⟩
    | none =>
      let o : HO := .frz { cls := .type "list", data := .seq vs.toArray } (.lst (ns.map V.int))
      have at_a : ∀ b u, upd (fun _ => none) a o b = some u → b = a ∧ u = o := fun b u z => by
        by_cases hb : b = a
        · subst hb; rw [upd_same] at z; exact ⟨rfl, (Option.some.inj z).symm⟩
        · rw [upd_ne hb] at z; cases z
      refine ⟨upd (fun _ => none) a o, fun b => ?_, .inl (.inr ⟨_, upd_same⟩), fun b u z => ?_, fun b u z => (at_a b u z).1, fun _ => rfl⟩
      · by_cases hb : b = a
        · subst hb; exact .inr ⟨_, _, upd_same⟩
        · exact .inl (by rw [upd_ne hb])
      · obtain ⟨rfl, rfl⟩ := at_a b u z
        exact ⟨la, by rw [List.length_map]; exact ll, vs, _, vals_ints li, la⟩
  obtain ⟨H, hO, hS, hok, hA, hK⟩ := pick
  have free : ∀ {b : Addr} {ob : Obj} {es : Array DictEntry} {n : Nat}, s.heap.get? b = some ob → ob.data = .dict es n → H b = none := by
    intro b ob es n z d
    cases q : H b with
    | none => rfl
    | some u =>
      have z1 := hA b u q
      subst z1
      have z2 := z.symm.trans la
      cases z2
      have d' : Data.seq vs.toArray 0 = Data.dict es n := d
      cases d'
  have ns' : ∀ {b : Addr} {m : Str → Option Value}, s.heap.Ns b m → (hidT s.heap H).Ns b m := by
    rintro b m ⟨o, es, n, z, d, r⟩
    exact ⟨o, es, n, hidT_get z (free z d), d, r⟩
  have kb : K.In (hidT s.heap H) := by
    intro b o z
    refine hidT_get (kx b o z) ?_
    cases q : H b with
    | none => rfl
    | some u =>
      have z1 := hA b u q
      subst z1
      have z2 := hK (by rw [q]; rfl)
      rw [z2] at z
      cases z
  obtain ⟨mc, l1, l2⟩ := g4
  have e0 : Env0 P w K mg (hidT s.heap H) callerA [] s H :=
    { frames := rfl, mod := ⟨kb, ns' g1, ⟨mb, ns' g2, g3⟩, ⟨mc, ns' l1, l2⟩⟩, bs := fun b o z => of_hidT z, bsz := Nat.le_of_eq (hidT_size _ _), funs := trivial, frf := fun b z => (by cases z), hok := hok, bare := .of_eq g5 }
  refine codeAny_mono ((F _ kb (ns' g1)).go callerA [] s H ⟨[.ref a], []⟩ [.ref a] [.ref a] _ _ rfl hr e0 (bd s (.ref a)) (.cons rfl .nil) (want H hO hS)) ?_
  rintro (err | fl) s' h
  · exact (noC H err s' h).elim
  cases fl with
  | next => cases h
  | brk => cases h
  | cont => cases h
  | ret u =>
    obtain ⟨v, H', h1, h2, un, hok', rv, rfl⟩ := h
    cases rv
    refine ⟨rfl, OldK.of_keep (fun b o z => ?_), h1, h2⟩
    cases q : H b with
    | none => exact un.keep b o z q (fun z => by cases z) (fun z => by cases z)
    | some u =>
      rcases hO b with z1 | ⟨ob, xs, z1⟩
      · rw [q] at z1; cases z1
      · have z2 := (hok b _ z1).1
        rw [z] at z2
        cases z2
        exact (hok' b _ (un.frzs b _ _ z1)).1
theorem walk_g {l : PySem.W.OpenLaw} {n k : Nat} {q : Program} {loose : List Str} {XP : (Str → Option Value) → Heap → Prop} {YP : World → Heap → Prop} {d : DefRec} {K : Params → PySem.W.Frag} {sp : PySem.W.Frag → Sp} {x : Str}
    (h1 : l.most = some n) (h2 : n ≤ sizeLine) (h3 : d.params.defaults = []) (hr : Room k callerA) (hY : ∀ (w : World) (h : Heap), YP w h → (K w.params).In h)
    (F : ∀ (w : World) (mg : Str → Option Value) (fa : Addr) (h : Heap), (K w.params).In h → h.Ns mainGlobals mg → mg d.name = some (.ref fa) →
      ∃ fd : FuncData, (∀ (s : Shared) (u : Value), BindsTo s fd ⟨[u], []⟩ [(x, u)]) ∧ ∀ base : Heap, (K w.params).In base → base.Ns mainGlobals mg → FnG l.prog w (K w.params) mg base CX0 k fa fd [x] (sp (K w.params)))
    (want : ∀ (K : PySem.W.Frag) (H : Hp) (a : Addr) (ns : List Int), ns.length ≤ n → Only H → SqL K H a (ns.map V.int) → sp K [.ref a] H (fun v _ => v = .bl true) fun _ _ _ => False) :
    PySem.W.WalkO q loose XP YP l.row.toRowW d [] (fun f vs => PySem.call f vs) := by
  refine Att.attach_call h1 h3 fun w s₀ s₁ mg mb fa o pm cd doc a vs ns G Y _ _ _ hmg hobj hints hlen hg => ?_
  have kx := hY w _ Y
  obtain ⟨fd, hb, hF⟩ := F w mg fa _ kx G.T.g hmg
  exact law_g kx G.T.g G.T.b G.T.builtins G.T.nolimit hg hobj hints (Nat.le_trans hlen h2) hr hF hb (fun H hO hS => want _ H a ns hlen hO hS) (fun _ _ _ z => z)
end
end Any
set_option maxHeartbeats 1000000
namespace Any
open L2 PySem PyProof.Rows LamX NdefX
open PySem.Spec
/-! ### statements, the slots at the return told -/
structure EndR where
  nx : L2.St → Hp → Prop
  rt : V → L2.St → Hp → Prop
abbrev TR := EndR → L2.St → Hp → Prop
def SR (X : Cx) (pins : List (Addr × Obj)) (D : EndR) (f : Flow) (s' : Shared) : Prop :=
  match f with
  | .next => ∃ σ' H', Inv X pins σ' H' s' ∧ D.nx σ' H'
  | .ret u => ∃ v σ' H', Inv X pins σ' H' s' ∧ L2.RelV v u ∧ D.rt v σ' H'
  | _ => False
structure PR (X : Cx) (st : Stmt) (t : TR) : Prop where
  run : ∀ (pins : List (Addr × Obj)) (s : Shared) (σ : L2.St) (H : Hp) (D : EndR), Inv X pins σ H s → t D σ H → wpAny (model X.prog X.w) X.A (exec st X.env) (SR X pins D) X.xe s
structure PRs (X : Cx) (st : List Stmt) (t : TR) : Prop where
  run : ∀ (pins : List (Addr × Obj)) (s : Shared) (σ : L2.St) (H : Hp) (D : EndR), Inv X pins σ H s → t D σ H → wpAny (model X.prog X.w) X.A (execs st X.env) (SR X pins D) X.xe s
section
variable {X : Cx} {st : Stmt} {rest : List Stmt} {t u : TR} {e : Expr} {pos : Pos}
/-- a statement that only goes on -/
def tGo (t : TS) : TR := fun D σ H => t { nx := D.nx, rt := fun _ _ => False } σ H
theorem pr_go {t : TS} (h : PS X st t) : PR X st (tGo t) := by
  refine ⟨fun pins s σ H D I hq => thn (h.run pins s σ H _ I hq) fun f s1 q => ?_⟩
  cases f with
  | next => exact q
  | ret v =>
    obtain ⟨_, _, _, _, _, z⟩ := q
    exact z.elim
  | brk =>
    obtain ⟨_, _, _, z⟩ := q
    exact z.elim
  | cont =>
    obtain ⟨_, _, _, z⟩ := q
    exact z.elim
def tRetR (te : TE) : TR := fun D σ H => te σ H fun v H' => D.rt v σ H'
theorem pr_ret {te : TE} (he : PE X e te) : PR X (.Return (some e) pos) (tRetR te) := by
  refine ⟨fun pins s σ H D I h => ?_⟩
  exact wpAny_Return_some (thn (he.run pins s σ H _ I h) fun v s1 ⟨x, H1, I1, r1, q1⟩ => ⟨x, σ, H1, I1, r1, q1⟩)
def tIfR (c : TT) (t u : TR) : TR := fun D σ H => c σ H fun b H1 => if b = true then t D σ H1 else u D σ H1
theorem pr_if {c : Expr} {a b : List Stmt} {tc : TT} (hc : PT X c tc) (ha : PRs X a t) (hb : PRs X b u) : PR X (.If c a b pos) (tIfR tc t u) := by
  refine ⟨fun pins s σ H D I h => ?_⟩
  refine wpAny_If (thn (hc.run pins s σ H _ I h) fun d s1 ⟨H1, I1, q1⟩ => ?_)
  cases d with
  | true => exact ha.run pins s1 σ H1 D I1 q1
  | false => exact hb.run pins s1 σ H1 D I1 q1
def tSeqR (t u : TR) : TR := fun D σ H => t { D with nx := u D } σ H
def tNextR : TR := fun D σ H => D.nx σ H
theorem prs_nil : PRs X [] tNextR := ⟨fun _ _ σ H _ I h => wpAny_execs_nil ⟨σ, H, I, h⟩⟩
theorem prs_cons (h1 : PR X st t) (h2 : PRs X rest u) : PRs X (st :: rest) (tSeqR t u) := by
  refine ⟨fun pins s σ H D I h => ?_⟩
  refine wpAny_execs_cons (thn (h1.run pins s σ H { D with nx := u D } I h) fun f s1 q => ?_)
  cases f with
  | next =>
    obtain ⟨σ', H', I', q⟩ := q
    exact h2.run pins s1 σ' H' D I' q
  | ret v => exact q
  | brk => exact q.elim
  | cont => exact q.elim
theorem prs_one (h1 : PR X st t) : PRs X [st] t := by
  refine ⟨fun pins s σ H D I h => ?_⟩
  refine wpAny_execs_cons (thn (h1.run pins s σ H D I h) fun f s1 q => ?_)
  cases f with
  | next => exact wpAny_execs_nil q
  | ret v => exact q
  | brk => exact q.elim
  | cont => exact q.elim
end
/-! ### a made lambda -/
structure LF where
  qual : Str
  params : Arguments
  body : Expr
  scope : Scope
  cl : List (Str × Addr)
  c : Addr
/-- the object at f is the lambda F -/
def LamO (f : Addr) (F : LF) : HO := .ext fun h => ∃ (pm ctv : Value), h.get? f = some (PySem.W.kla_obj "<lambda>" F.qual F.params F.body F.scope F.cl pm F.c ctv)
theorem lamO_at {P : Program} {w : World} {H : Hp} {h : Heap} {f : Addr} {F : LF} (hok : HOk P w H h) (e : H f = some (LamO f F)) : ∃ (pm ctv : Value), h.get? f = some (PySem.W.kla_obj "<lambda>" F.qual F.params F.body F.scope F.cl pm F.c ctv) := by
  obtain ⟨z, _, _⟩ := hok f _ e
  exact z
theorem lamO_ne {f : Addr} {F : LF} (ps : Array Value) : LamO f F ≠ .tbl ps := fun z => by
  unfold LamO at z
  cases z
section
variable {X : Cx} {pins : List (Addr × Obj)} {σ : L2.St} {H : Hp} {s : Shared}
theorem inv_lam {F : LF} {t' : Nat} {pm ctv : Value} (I : Inv X pins σ H s) :
    Inv X pins σ (upd H s.heap.objs.size (LamO s.heap.objs.size F)) { s with heap := s.heap.push (PySem.W.kla_obj "<lambda>" F.qual F.params F.body F.scope F.cl pm F.c ctv), toks := t' } := by
  refine I.laid (a := s.heap.objs.size) (fun b u e => Heap.get?_push_of_some _ e) (Nat.le_refl _) ?_
  have e : (s.heap.push (PySem.W.kla_obj "<lambda>" F.qual F.params F.body F.scope F.cl pm F.c ctv)).get? s.heap.objs.size = some (PySem.W.kla_obj "<lambda>" F.qual F.params F.body F.scope F.cl pm F.c ctv) := Heap.get?_push_size _ rfl
  exact ⟨⟨pm, ctv, e⟩, ⟨_, e⟩, fun h1 h2 ⟨p, t, z⟩ st => ⟨p, t, st _ z⟩⟩
/-- a table with one code object more -/
def putTab (H : Hp) (P c' : Addr) (ps : Array Value) (pos : Pos) (q : Str) : Hp := upd (upd H P (.tbl (ps ++ #[rawInt pos.line, rawInt pos.col, .ref c']))) c' (CodeO c' q)
theorem putTab_ext {P c' : Addr} {ps : Array Value} {pos : Pos} {q : Str} (at_ : H P = some (.tbl ps)) (new : H c' = none) : ExtN H (putTab H P c' ps pos q) := fun b o e no => by
  have b1 : b ≠ c' := ne_of_none e new
  have b2 : b ≠ P := fun z => by
    rw [z, at_] at e
    exact no ps (Option.some.inj e).symm
  unfold putTab
  rw [upd_ne b1, upd_ne b2, e]
theorem putTab_tabs {T : List NTab} {nm : Nat → Nat → Str} {P c' : Addr} {ps : Array Value} {pos : Pos} {q : Str} (uni : ∀ p ∈ T, p.1 = P → p.2 = nm) (all : TabsN T H) (at_ : H P = some (.tbl ps)) (tri : TriplesOk ps.toList)
    (told : ∀ (pos : Pos) (cv : Value), codeAmong pos ps.toList = some cv → ∃ c, cv = .ref c ∧ H c = some (CodeO c (nm pos.line pos.col))) (new : H c' = none) (hq : nm pos.line pos.col = q) : TabsN T (putTab H P c' ps pos q) := by
  have ext := putTab_ext (pos := pos) (q := q) at_ new
  have own : putTab H P c' ps pos q c' = some (CodeO c' q) := upd_same
  intro p hp
  by_cases pP : p.1 = P
  · have lst : (ps ++ #[rawInt pos.line, rawInt pos.col, .ref c']).toList = ps.toList ++ [rawInt pos.line, rawInt pos.col, .ref c'] := by simp
    refine ⟨ps ++ #[rawInt pos.line, rawInt pos.col, .ref c'], ?_, ?_, fun at2 cv found => ?_⟩
    · rw [pP]
      unfold putTab
      rw [upd_ne (ne_of_none at_ new), upd_same]
    · rw [lst]
      exact PySem.TriplesOk_snoc _ _ _ _ tri
    · rw [lst] at found
      rw [uni p hp pP]
      rcases among_app2 _ tri found with z | ⟨z, l1, l2⟩
      · obtain ⟨c0, x1, x2⟩ := told at2 cv z
        exact ⟨c0, x1, ext _ _ x2 codeO_ne⟩
      · rw [← l1, ← l2, hq]
        exact ⟨c', z, own⟩
  · obtain ⟨qs, y1, y2, y3⟩ := all p hp
    refine ⟨qs, ?_, y2, fun at2 cv found => ?_⟩
    · unfold putTab
      rw [upd_ne (ne_of_none y1 new), upd_ne pP, y1]
    · obtain ⟨c0, x1, x2⟩ := y3 at2 cv found
      exact ⟨c0, x1, ext _ _ x2 codeO_ne⟩
/-- a lambda is made: it is known from now on, and so is its code object -/
theorem lam_make {T : List NTab} {nm : Nat → Nat → Str} {c P : Addr} {ar : Arguments} {bd : Expr} {sc : Scope} {pos : Pos} {E : Value → Shared → Prop} {Q : Value → Shared → Prop} (I : Inv X pins σ H s) (base : TabB X.base X.mg c P) (mine : X.env.code = .ref c)
    (listed : (P, nm) ∈ T) (named : nm pos.line pos.col = X.env.qual ++ "<lambda>") (uni : ∀ p ∈ T, p.1 = P → p.2 = nm) (all : TabsN T H) (nod : defaultsOf ar X.env = ([], [])) (capt : ∀ y ∈ sc.names, y.2 = .free → ∃ c, X.env.cells.lookup y.1 = some c)
    (go : ∀ (f c' : Addr) (H1 : Hp) (s' : Shared), Inv X pins σ H1 s' → ExtN H H1 → (∀ b, H1 b = Option.none → H b = Option.none) → TabsN T H1 → H f = none → H1 f = some (LamO f ⟨X.env.qual ++ "<lambda>", ar, bd, sc, cloFrom X.env.cells sc.names [], c'⟩) → H1 c' = some (CodeO c' (X.env.qual ++ "<lambda>")) → Q (.ref f) s') :
    wpAny (model X.prog X.w) X.A (eval (.Lambda ar bd sc pos) X.env) Q E s := by
  obtain ⟨ps, at_, tri, told⟩ := (show TabN H P nm from all _ listed)
  have raw : s.heap.get? P = some { cls := .none, data := .fields ps } := I.hok P _ at_
  have glob := I.mod.glob.keeps I.bk
  -- behind the making: the new function's object is laid last
  have last : ∀ (H1 : Hp) (s1 : Shared) (c' : Addr) (ctv : Value) (tk : Nat), Inv X pins σ H1 s1 → ExtN H H1 → (∀ b, H1 b = Option.none → H b = Option.none) → TabsN T H1 → H1 c' = some (CodeO c' (X.env.qual ++ "<lambda>")) →
      Q (.ref s1.heap.objs.size) { s1 with heap := s1.heap.push (PySem.W.kla_obj "<lambda>" (X.env.qual ++ "<lambda>") ar bd sc (cloFrom X.env.cells sc.names []) ((X.mg "__name__").getD .none) c' ctv), toks := tk } := fun H1 s1 c' ctv tk J x1 x2 x3 x4 => by
    have free1 := J.hok.fresh (Nat.le_refl _)
    have J2 := inv_lam (F := ⟨X.env.qual ++ "<lambda>", ar, bd, sc, cloFrom X.env.cells sc.names [], c'⟩) (t' := tk) (pm := (X.mg "__name__").getD .none) (ctv := ctv) J
    have up : ∀ b o, H1 b = some o → upd H1 s1.heap.objs.size (LamO s1.heap.objs.size ⟨X.env.qual ++ "<lambda>", ar, bd, sc, cloFrom X.env.cells sc.names [], c'⟩) b = some o := fun b o e => by
      rw [upd_ne (ne_of_none e free1)]
      exact e
    exact go _ c' _ _ J2 (fun b o e n => up b o (x1 b o e n)) (fun b e => x2 b (NdefX.upd_none e)) (x3.ext up) (x2 _ free1) upd_same (up _ _ x4)
  refine PySem.W.kla_eval nod ?_
  cases seen : codeAmong pos ps.toList with
  | some cv =>
    obtain ⟨c', rfl, known⟩ := told pos cv seen
    rw [named] at known
    refine PySem.W.kla_makeFunctionHit (mg := X.mg) (c := c) (P := P) (ps := ps) (closure_ok capt) I.ok.glob glob mine (base.code.keeps I.bk) raw tri seen (base.bm.keeps I.bk) fun ctv h' tk kp _ => ?_
    exact last H { s with heap := h', toks := tk } c' ctv tk (I.kept kp) (ExtN.refl H) (fun _ z => z) all known
  | none =>
    refine PySem.W.kla_makeFunction (mg := X.mg) (c := c) (P := P) (ps := ps) (closure_ok capt) I.ok.glob glob mine (base.code.keeps I.bk) raw tri seen base.gP (base.bm.keeps I.bk) fun c' ctv h' tk kp above _ rec tab => ?_
    obtain ⟨d, oc, vs, tok, ed, g1, g2, g3⟩ := rec
    cases ed
    have new : H c' = none := I.hok.fresh above
    have J := inv_table (t' := tk) (more := #[rawInt pos.line, rawInt pos.col, .ref c']) (h' := h') I at_ (fun b o n e => kp b o n e) tab above ⟨oc, vs, tok, g1, g2, g3⟩
    exact last (putTab H P c' ps pos (X.env.qual ++ "<lambda>")) { s with heap := h', toks := tk } c' ctv tk J (putTab_ext at_ new) (fun b z => NdefX.upd_none (NdefX.upd_none z)) (putTab_tabs uni all at_ tri told new named) upd_same
end
/-- the reading of a lambda -/
def tLamb (T : List NTab) (mk : Addr → LF) : TE := fun _ H Q => TabsN T H ∧ ∀ (f c' : Addr) (H1 : Hp), ExtN H H1 → (∀ b, H1 b = Option.none → H b = Option.none) → TabsN T H1 → H f = none → H1 f = some (LamO f (mk c')) → H1 c' = some (CodeO c' (mk c').qual) → Q (.ref f) H1
theorem pe_lamb {X : Cx} {T : List NTab} {nm : Nat → Nat → Str} {c P : Addr} {params : Arguments} {body : Expr} {scope : Scope} {pos : Pos} (TB : TabB X.base X.mg c P) (hcode : X.env.code = .ref c)
    (hm : (P, nm) ∈ T) (hn : nm pos.line pos.col = X.env.qual ++ "<lambda>") (hu : ∀ p ∈ T, p.1 = P → p.2 = nm) (hdef : defaultsOf params X.env = ([], []))
    (hfree : ∀ y ∈ scope.names, y.2 = .free → X.env.scope.names.lookup y.1 = some .cell ∨ X.env.scope.names.lookup y.1 = some .free) :
    PE X (.Lambda params body scope pos) (tLamb T fun c' => ⟨X.env.qual ++ "<lambda>", params, body, scope, cloFrom X.env.cells scope.names [], c'⟩) := by
  refine ⟨fun pins s σ H Q I h => ?_⟩
  obtain ⟨hT, h⟩ := h
  have hfr : ∀ y ∈ scope.names, y.2 = .free → ∃ c, X.env.cells.lookup y.1 = some c := fun y hy e => (hfree y hy e).elim (fun z => I.ok.has _ (.inl z)) fun z => I.ok.has _ (.inr z)
  exact lam_make I TB hcode hm hn hu hT hdef hfr fun f c' H1 s' I1 eN nn T1 f0 f1 c1 => ⟨.ref f, H1, I1, rfl, h f c' H1 eN nn T1 f0 f1 c1⟩
end Any
set_option maxHeartbeats 1000000
namespace Any
open L2 PySem PyProof.Rows LamX NdefX
open PySem.Spec
/-! ### cells that are known beyond their frame -/
def CellO (c : Addr) (v : V) : HO := .ext fun h => ∃ u, L2.RelV v u ∧ h.IsCell c (some u)
theorem cellO_ok {P : Program} {w : World} {H : Hp} {h : Heap} {c : Addr} {v : V} {u : Value} (r : L2.RelV v u) (hc : h.IsCell c (some u)) : ObjOk P w H h c (CellO c v) := by
  obtain ⟨o, ho, hd⟩ := id hc
  exact ⟨⟨u, r, hc⟩, ⟨o, ho⟩, fun h1 h2 ⟨u, r, o, ho, hd⟩ st => ⟨u, r, o, st _ ho, hd⟩⟩
theorem cellO_tbl {c : Addr} {v : V} (ps : Array Value) : CellO c v ≠ .tbl ps := fun z => by
  unfold CellO at z
  cases z
theorem cellO_own {c x : Addr} {v : V} : CellO c v ≠ .own x := fun z => by
  unfold CellO at z
  cases z
theorem cellO_tup {c : Addr} {v : V} {xs : List V} : CellO c v ≠ .tup xs := fun z => by
  unfold CellO at z
  cases z
theorem cellO_frz {c : Addr} {v : V} {o : Obj} {u : HO} : CellO c v ≠ .frz o u := fun z => by
  unfold CellO at z
  cases z
/-- the cell at b holds v, by the slots -/
def Capt (X : Cx) (σ : L2.St) (b : Addr) (v : V) : Prop := ∃ (x : Str) (i : Nat), X.env.cells.lookup x = some b ∧ X.N[i]? = some x ∧ σ[i]? = some (some v) ∧ X.env.scope.names.lookup x = some .cell
open Classical in
noncomputable def trkC (X : Cx) (σ : L2.St) (H : Hp) : Hp := fun b => if h : ∃ v, Capt X σ b v then some (CellO b h.choose) else H b
section
variable {X : Cx} {pins : List (Addr × Obj)} {σ : L2.St} {H : Hp} {s : Shared}
theorem capt_one (I : Inv X pins σ H s) (nd : X.N.Nodup) {b : Addr} {v v' : V} (h : Capt X σ b v) (h' : Capt X σ b v') : v = v' := by
  obtain ⟨x, i, e1, e2, e3, e4⟩ := h
  obtain ⟨x', i', f1, f2, f3, f4⟩ := h'
  have ex := I.ok.inj x x' b e1 f1
  subst ex
  have ei := nodup_ix nd e2 f2
  subst ei
  rw [e3] at f3
  exact Option.some.inj (Option.some.inj f3)
theorem trkC_at (I : Inv X pins σ H s) (nd : X.N.Nodup) {b : Addr} {v : V} (h : Capt X σ b v) : trkC X σ H b = some (CellO b v) := by
  have e : ∃ v, Capt X σ b v := ⟨v, h⟩
  unfold trkC
  rw [dif_pos e, capt_one I nd e.choose_spec h]
theorem capt_none (I : Inv X pins σ H s) {b : Addr} {v : V} (h : Capt X σ b v) : H b = none := by
  obtain ⟨x, i, e1, _⟩ := h
  exact I.freeC x b e1
theorem trkC_same (I : Inv X pins σ H s) : Same H (trkC X σ H) := fun b o e => by
  unfold trkC
  rw [dif_neg (fun ⟨v, h⟩ => by rw [capt_none I h] at e; cases e)]
  exact e
theorem trkC_cases (I : Inv X pins σ H s) (nd : X.N.Nodup) (b : Addr) : (∃ v, Capt X σ b v ∧ trkC X σ H b = some (CellO b v)) ∨ ((¬ ∃ v, Capt X σ b v) ∧ trkC X σ H b = H b) := by
  by_cases h : ∃ v, Capt X σ b v
  · obtain ⟨v, h⟩ := h
    exact .inl ⟨v, h, trkC_at I nd h⟩
  · refine .inr ⟨h, ?_⟩
    unfold trkC
    rw [dif_neg h]
theorem capt_cell (I : Inv X pins σ H s) {b : Addr} {v : V} (h : Capt X σ b v) : ∃ u, L2.RelV v u ∧ s.heap.IsCell b (some u) := by
  obtain ⟨x, i, e1, e2, e3, e4⟩ := h
  obtain ⟨m, hn, hl⟩ := I.loc
  obtain ⟨u, r, l⟩ := hl i x v e2 e3 (.inr (.inl e4))
  refine ⟨u, r, ?_⟩
  rcases l with ⟨k, _⟩ | ⟨_, c, e, z⟩
  · have k : X.env.scope.names.lookup x = some .local := k
    rw [e4] at k
    cases k
  · rw [e1] at e
    cases e
    exact z
/-- at a def's end its cells are known -/
theorem end_track (I : Inv X pins σ H s) (nd : X.N.Nodup) (hfn : ∀ x, X.fn x = true) (hex : X.ex = []) :
    Un X.fs [] X.H_0 (trkC X σ H) X.s_0.heap s.heap ∧ HOk X.prog X.w (trkC X σ H) s.heap := by
  have new : ∀ {b : Addr} {v : V}, Capt X σ b v → X.s_0.heap.objs.size ≤ b := fun {b v} h => by
    obtain ⟨x, i, e1, _⟩ := h
    exact I.ok.cab x b (hfn x) e1
  have un := I.base
  rw [hex] at un
  have sm := trkC_same I
  refine ⟨⟨un.keep, un.slot, fun b o e n hx => ?_, un.there, fun b xs e => sm _ _ (un.tups b xs e), fun b o u e => sm _ _ (un.frzs b o u e), fun b ps e => ?_⟩, fun b u e => ?_⟩
  · rcases trkC_cases I nd b with ⟨v, h, _⟩ | ⟨_, e2⟩
    · exact absurd (Heap.lt_size e) (Nat.not_lt.mpr (new h))
    · rw [e2]
      exact un.free b o e n hx
  · obtain ⟨more, e1⟩ := un.tbls b ps e
    exact ⟨more, sm _ _ e1⟩
  · rcases trkC_cases I nd b with ⟨v, h, e2⟩ | ⟨_, e2⟩
    · rw [e2] at e
      cases e
      obtain ⟨u, r, z⟩ := capt_cell I h
      exact cellO_ok r z
    · rw [e2] at e
      exact (I.hok b u e).stay (fun _ _ _ q => q) (fun c q => sm _ _ q) fun c xs q => sm _ _ q
end
/-- what is wanted at the end of a def whose cells stay known -/
def RetC (N : List Str) (sc : Scope) (L : Addr) (Q : VK) : V → L2.St → Hp → Prop := fun v σ H' => ∀ H'', Same H' H'' →
  (∀ (x : Str) (c : Addr) (i : Nat) (u : V), (cellsFrom (L + 1) sc.names []).lookup x = some c → N[i]? = some x → σ[i]? = some (some u) → sc.names.lookup x = some .cell → H' c = none ∧ H'' c = some (CellO c u)) →
  (∀ b o, H'' b = some o → H' b = some o ∨ ∃ u, o = CellO b u) → (∀ x y c, (cellsFrom (L + 1) sc.names []).lookup x = some c → (cellsFrom (L + 1) sc.names []).lookup y = some c → x = y) → Q v H''
section
variable {P : Program} {w : World} {K : PySem.W.Frag} {mg : Str → Option Value} {base : Heap}
theorem fn_c {C : CXT} {k : Nat} {f : Addr} {nm ql : Str} {ar : Arguments} {bd : List Stmt} {sc : Scope} {v1 v2 v3 v4 v5 v6 v7 : Value} {a1 a2 : Option Addr} {sl : Array (Option Value)} {N ps : List Str} {sp : Sp}
    (at_ : K.lookup f = some ⟨v7, a2, .func (PySem.W.fnOf nm ql ar bd sc v1 v2 v3 v4 a1 v5 v6), sl⟩) (code : PySem.W.codeIn K v5 ql = true) (S : FnScope N ps sc)
    (ln : ∀ vs H Q E, sp vs H Q E → vs.length = ps.length)
    (hb : ∀ (A : Around) (out : List Env) (s : Shared) (H : Hp) (vs : List V) (Q : VK) (E : XK), Room k (A.deeper (envOfC ql sc s.heap.objs.size f v5)) → sp vs H Q E →
      ∃ t, PRs (cxOf C P w K mg base N ql sc f v5 A out s H E) bd t ∧ t ⟨fun _ H' => Q .non H', RetC N sc s.heap.objs.size Q⟩ (L2.start N vs) H) :
    FnOk P w K mg base C (k + 1) f (PySem.W.fnOf nm ql ar bd sc v1 v2 v3 v4 a1 v5 v6) ps sp where
  len := ln
  run A out s H args us vs Q E hr e0 hbi rv hsp := by
    have kx : K.In s.heap := e0.mod.kin.keeps (fun b o z => (e0.bs b o z).1)
    have nl : s.heap.NoLimit := e0.mod.nolimit.keeps (fun b o z => (e0.bs b o z).1)
    have kd : ∀ y ∈ ps.zip us, sc.names.lookup y.1 = some .local ∨ (sc.names.lookup y.1 = some .cell ∧ ((cellsFrom (s.heap.objs.size + 1) sc.names []).lookup y.1).isSome = true) := by
      rintro ⟨n, v⟩ hy
      have z := S.par n (List.of_mem_zip hy).1
      exact z.elim .inl (fun z => .inr ⟨z, PySem.W.cellsFrom_some _ _ _ (.inl z)⟩)
    refine codeAny_call_function hr.depth (kx _ _ at_) rfl S.co S.gen rfl (PySem.W.codeRec_of kx code) (hbi _ _ _ _ (wpAny_newFunctionEnv_cells S.kind kd (fun env he s1 x => ?_)))
    subst he
    obtain ⟨t, ht, hq⟩ := hb A out s H vs Q E (hr.deeper _) hsp
    have I := inv_start (CX := C) (E := E) S hr.hd e0 (ln _ _ _ _ hsp) rv x
    refine ⟨nl.keeps x.toInCall.keep, codeAny_func (wpAny_mono (ht.run [] s1 (L2.start N vs) H _ I hq) (fun fl s' hs => ?_) (fun _ _ z => z))⟩
    cases fl with
    | ret u =>
      obtain ⟨v, σ', H', J, r', q⟩ := hs
      obtain ⟨un, hok⟩ := end_track J S.nd (fun _ => rfl) rfl
      refine ⟨v, _, J.os, J.bare, un, hok, r', q _ (trkC_same J) (fun x c i u e1 e2 e3 e4 => ?_) (fun b o e => ?_) J.ok.inj⟩
      · have h : Capt (cxOf C P w K mg base N ql sc f v5 A out s H E) σ' c u := ⟨x, i, e1, e2, e3, e4⟩
        exact ⟨capt_none J h, trkC_at J S.nd h⟩
      · rcases trkC_cases J S.nd b with ⟨v, h, e2⟩ | ⟨_, e2⟩
        · rw [e2] at e
          exact .inr ⟨v, (Option.some.inj e).symm⟩
        · rw [e2] at e
          exact .inl e
    | next => obtain ⟨σ', H', J, q⟩ := hs; exact ⟨.non, H', J.os, J.bare, J.base, J.hok, rfl, q⟩
    | brk => exact hs.elim
    | cont => exact hs.elim
end
/-! ### a made lambda is called -/
def hid (H : Hp) (cs : List Addr) : Hp := fun b => if b ∈ cs then none else H b
/-- the cells of cs as in H, all else as in H1 -/
def reT (H H1 : Hp) (cs : List Addr) : Hp := fun b => if b ∈ cs then H b else H1 b
theorem hid_in {H : Hp} {cs : List Addr} {b : Addr} (h : b ∈ cs) : hid H cs b = none := if_pos h
theorem hid_out {H : Hp} {cs : List Addr} {b : Addr} (h : b ∉ cs) : hid H cs b = H b := if_neg h
theorem hid_some {H : Hp} {cs : List Addr} {b : Addr} {o : HO} (h : hid H cs b = some o) : b ∉ cs ∧ H b = some o := by
  by_cases e : b ∈ cs
  · rw [hid_in e] at h
    cases h
  · rw [hid_out e] at h
    exact ⟨e, h⟩
theorem reT_in {H H1 : Hp} {cs : List Addr} {b : Addr} (h : b ∈ cs) : reT H H1 cs b = H b := if_pos h
theorem reT_out {H H1 : Hp} {cs : List Addr} {b : Addr} (h : b ∉ cs) : reT H H1 cs b = H1 b := if_neg h
/-- the captured names fr of F hold ws, in cells that are known -/
structure CapsAt (H : Hp) (F : LF) (fr : List Str) (ws : List V) : Prop where
  len : ws.length = fr.length
  all : ∀ y c, F.cl.lookup y = some c → ∃ w, H c = some (CellO c w)
  inj : ∀ x y c, F.cl.lookup x = some c → F.cl.lookup y = some c → x = y
  has : ∀ (i : Nat) (y : Str), fr[i]? = some y → ∃ c, F.cl.lookup y = some c ∧ ∀ v, ws[i]? = some v → H c = some (CellO c v)
def LF.cells (F : LF) : List Addr := F.cl.filterMap fun p => if F.cl.lookup p.1 = some p.2 then some p.2 else none
theorem LF.mem_cells {F : LF} {y : Str} {c : Addr} (h : F.cl.lookup y = some c) : c ∈ F.cells := by
  refine List.mem_filterMap.mpr ⟨(y, c), PySem.mem_of_lookup h, ?_⟩
  rw [if_pos h]
theorem LF.of_cells {F : LF} {c : Addr} (h : c ∈ F.cells) : ∃ y, F.cl.lookup y = some c := by
  obtain ⟨⟨y, d⟩, _, e⟩ := List.mem_filterMap.mp h
  split at e
  · rename_i z
    cases e
    exact ⟨y, z⟩
  · cases e
abbrev LF.nf (F : LF) : NF := ⟨"<lambda>", F.qual, F.params, [], F.scope, F.cl, F.c⟩
section
variable {P : Program} {w : World} {K : PySem.W.Frag} {mg : Str → Option Value} {base : Heap} {N ps fr : List Str} {F : LF} {f : Addr} {k : Nat}
theorem CapsAt.cell {H : Hp} {ws : List V} (C : CapsAt H F fr ws) {c : Addr} (h : c ∈ F.cells) : ∃ w, H c = some (CellO c w) := by
  obtain ⟨y, e⟩ := F.of_cells h
  exact C.all y c e
theorem lam_run (S : NScope N ps fr F.scope) (hbi : ∀ (pm ctv : Value) (us : List Value), us.length = ps.length → bindArgs (PySem.W.kla_fn "<lambda>" F.qual F.params F.body F.scope F.cl pm (.ref F.c) ctv) ⟨us, []⟩ = pure (ps.zip us))
    {A : Around} {outer : List Env} {s : Shared} {H : Hp} {us : List Value} {vs ws : List V} {Q : VK} (hr : Room (k + 1) A) (e0 : Env0 P w K mg base A outer s H) (hf : H f = some (LamO f F)) (hc : H F.c = some (CodeO F.c F.qual)) (C : CapsAt H F fr ws) (r : Vals vs us) (hl : vs.length = ps.length)
    (hbody : Room k (A.deeper (envF F.nf f s.heap.objs.size)) → ∃ t, PE (ncx CX0 P w K mg base N F.nf f A outer s (hid H F.cells) E0) F.body t ∧ t (startF N vs (ws.map some)) (hid H F.cells) fun v H1 => Q v (reT H H1 F.cells)) :
    codeAny (model P w) A (.call (.ref f) ⟨us, []⟩) (CR CX0 outer P w H s Q E0) s := by
  have lim : s.heap.NoLimit := e0.mod.nolimit.keeps fun b o e => (e0.bs b o e).1
  obtain ⟨pm, ctv, ho⟩ := lamO_at e0.hok hf
  have nown : ∀ {b x : Addr}, H b = some (.own x) → b ∉ F.cells := fun {b x} e z => by
    obtain ⟨w, h⟩ := C.cell z
    rw [e] at h
    exact cellO_own (Option.some.inj h).symm
  have ntup : ∀ {b : Addr} {xs : List V}, H b = some (.tup xs) → b ∉ F.cells := fun {b x} e z => by
    obtain ⟨w, h⟩ := C.cell z
    rw [e] at h
    exact cellO_tup (Option.some.inj h).symm
  have e1 : Env0 P w K mg base A outer s (hid H F.cells) := by
    refine ⟨e0.frames, e0.mod, fun b o e => ⟨(e0.bs b o e).1, ?_⟩, e0.bsz, e0.funs, fun b hb => ?_, fun b u e => ?_, e0.bare⟩
    · by_cases z : b ∈ F.cells
      · exact hid_in z
      · rw [hid_out z]
        exact (e0.bs b o e).2
    · by_cases z : b ∈ F.cells
      · exact hid_in z
      · rw [hid_out z]
        exact e0.frf b hb
    · obtain ⟨n, e⟩ := hid_some e
      exact (e0.hok b u e).stay (fun _ _ _ q => q) (fun c q => by rw [hid_out (nown q)]; exact q) fun c xs q => by rw [hid_out (ntup q)]; exact q
  have isC : ∀ {c : Addr} {v : V}, H c = some (CellO c v) → ∃ u, L2.RelV v u ∧ s.heap.IsCell c (some u) := fun {c v} h => (e0.hok c _ h).1
  have CA : CellsAt F.nf.cl fr (ws.map some) s.heap (hid H F.cells) := by
    refine ⟨by rw [List.length_map]; exact C.len, fun y c e => ⟨hid_in (F.mem_cells e), ?_⟩, C.inj, fun i y e => ?_⟩
    · obtain ⟨w, h⟩ := C.all y c e
      obtain ⟨u, _, z⟩ := isC h
      exact ⟨_, z⟩
    · obtain ⟨c, hc, hv⟩ := C.has i y e
      refine ⟨c, hc, fun v ev => ?_⟩
      rw [List.getElem?_map] at ev
      cases ew : ws[i]? with
      | none => rw [ew] at ev; cases ev
      | some v' =>
        rw [ew] at ev
        cases ev
        exact isC (hv _ ew)
  refine PySem.W.kla_callFunE hr.depth ho rfl S.co S.gen rfl (codeO_at e0.hok hc) ?_
  rw [hbi pm ctv us (by rw [← r.length]; exact hl)]
  refine wpAny_pure (wpAny_newFunctionEnv S.nocell (fun ⟨n, _⟩ hy => S.par n (List.of_mem_zip hy).1) (fun h₁ hns hsb => ⟨lim.fresh _ hsb, ?_⟩) S.kind)
  show codeAny _ _ (.expr F.body (envF F.nf f s.heap.objs.size)) _ _
  have kp : ∀ b o, s.heap.get? b = some o → h₁.get? b = some o := fun b o e => hsb.extBut b o (Nat.ne_of_lt (Heap.lt_size e)) (Heap.get?_push_of_some _ e)
  obtain ⟨t, ht, hq⟩ := hbody (hr.deeper _)
  have I : Inv (ncx CX0 P w K mg base N F.nf f A outer s (hid H F.cells) E0) [] (startF N vs (ws.map some)) (hid H F.cells) { s with heap := h₁, toks := s.toks + (ps.zip us).length } := inv_startN S hr.hd e1 hl r CA hns kp
  refine PySem.W.kla_codeExpr (wpAny_mono (ht.run [] _ _ _ _ I hq) (fun u s' hs => ?_) fun e s' hs => hs)
  obtain ⟨v, H1, J, rv, q⟩ := hs
  have un : Un (frs outer) [] (hid H F.cells) H1 s.heap s'.heap := J.base
  have cn : ∀ {c : Addr}, c ∈ F.cells → H1 c = none ∧ ∀ o, s.heap.get? c = some o → s'.heap.get? c = some o := fun {c} z => by
    obtain ⟨w, h⟩ := C.cell z
    obtain ⟨u, _, o, ho, hd⟩ := isC h
    have nf : c ∉ frs outer := fun z => by
      rw [e0.frf c z] at h
      cases h
    exact ⟨un.free c o ho (hid_in z) (by simp), fun o e => un.keep c o e (hid_in z) nf (by simp)⟩
  refine ⟨v, reT H H1 F.cells, J.os, J.bare, ⟨fun b o e n hb hx => ?_, fun b o e n hb hx => ?_, fun b o e n hx => ?_, un.there, fun b xs e => ?_, fun b o u e => ?_, fun b qs e => ?_⟩, fun b u e => ?_, rv, q⟩
  · have nb : b ∉ F.cells := fun z => by obtain ⟨w, h⟩ := C.cell z; rw [n] at h; cases h
    exact un.keep b o e (by rw [hid_out nb]; exact n) hb hx
  · have nb : b ∉ F.cells := fun z => by obtain ⟨w, h⟩ := C.cell z; rw [n] at h; cases h
    exact un.slot b o e (by rw [hid_out nb]; exact n) hb hx
  · have nb : b ∉ F.cells := fun z => by obtain ⟨w, h⟩ := C.cell z; rw [n] at h; cases h
    rw [reT_out nb]
    exact un.free b o e (by rw [hid_out nb]; exact n) hx
  · rw [reT_out (ntup e)]
    exact un.tups b xs (by rw [hid_out (ntup e)]; exact e)
  · have nb : b ∉ F.cells := fun z => by obtain ⟨w, h⟩ := C.cell z; rw [e] at h; exact cellO_frz (Option.some.inj h).symm
    rw [reT_out nb]
    exact un.frzs b o u (by rw [hid_out nb]; exact e)
  · have nb : b ∉ F.cells := fun z => by obtain ⟨w, h⟩ := C.cell z; rw [e] at h; exact cellO_tbl _ (Option.some.inj h).symm
    rw [reT_out nb]
    exact un.tbls b qs (by rw [hid_out nb]; exact e)
  · by_cases z : b ∈ F.cells
    · rw [reT_in z] at e
      obtain ⟨w, h⟩ := C.cell z
      rw [h] at e
      cases e
      obtain ⟨u, r, o, ho, hd⟩ := isC h
      exact cellO_ok r ⟨o, (cn z).2 o ho, hd⟩
    · rw [reT_out z] at e
      have out : ∀ {c : Addr} {o : HO}, H1 c = some o → reT H H1 F.cells c = some o := fun {c o} q => by
        rw [reT_out (fun z => by rw [(cn z).1] at q; cases q)]
        exact q
      exact (J.hok b u e).stay (fun _ _ _ q => q) (fun c q => out q) fun c xs q => out q
end
end Any
set_option maxHeartbeats 1000000
namespace Any
open L2 PySem PyProof.Rows LamX NdefX
open PySem.Spec
/-! ### a call of a name that holds a made lambda -/
/-- what made lambdas promise: sp f speaks of the one at f -/
def FnL (P : Program) (w : World) (K : PySem.W.Frag) (mg : Str → Option Value) (base : Heap) (k : Nat) (sp : Addr → Sp) : Prop :=
  ∀ (f : Addr) (A : Around) (outer : List Env) (s : Shared) (H : Hp) (us : List Value) (vs : List V) (Q : VK), Room k A → Env0 P w K mg base A outer s H → Vals vs us → sp f vs H Q E0 → codeAny (model P w) A (.call (.ref f) ⟨us, []⟩) (CR CX0 outer P w H s Q E0) s
theorem FnL.mono {P : Program} {w : World} {K : PySem.W.Frag} {mg : Str → Option Value} {base : Heap} {j k : Nat} {sp : Addr → Sp} (F : FnL P w K mg base j sp) (h : j ≤ k) : FnL P w K mg base k sp := fun f A outer s H us vs Q hr => F f A outer s H us vs Q (hr.mono h)
def IsLm (H : Hp) (f : Addr) : Prop := ∃ F, H f = some (LamO f F)
def tCallL (i : Nat) (sp : Addr → Sp) (t : TA) : TE := fun σ H Q => ∃ f, σ[i]? = some (some (.ref f)) ∧ IsLm H f ∧ t σ H fun vs H1 => IsLm H1 f ∧ sp f vs H1 Q E0
section
variable {X : Cx} {sp : Addr → Sp} {i k : Nat} {x : Str} {t : TA} {e : Expr} {es : List Expr} {p pos apos cpos : Pos} {te : TE}
theorem lmAt {pins : List (Addr × Obj)} {σ : L2.St} {H : Hp} {s : Shared} {f : Addr} (I : Inv X pins σ H s) (h : IsLm H f) : PySem.W.FnAt f s.heap := by
  obtain ⟨F, e⟩ := h
  obtain ⟨pm, ctv, ho⟩ := lamO_at I.hok e
  exact ⟨_, _, _, _, ho⟩
theorem pe_callL (Fn : FnL X.prog X.w X.K X.mg X.base k sp) (hr : Room k X.A) (hN : X.N[i]? = some x) (hv : Vis X.env.scope x) (ha : PA X (e :: es) t)
    (hd : (x == ("__debug__" : Str)) = false := by decide) (hcd : (x == ("__classdict__" : Str)) = false := by decide)
    (he : starEach (e :: es) X.env = (false, eval e X.env) :: starEach es X.env := by rfl) (hpl : (backTo pos (starEach es X.env)).any (·.1) = false := by rfl) :
    PE X (.Call (.Name x p) (e :: es) [] pos) (tCallL i sp t) := by
  refine ⟨fun pins s σ H Q I h => ?_⟩
  obtain ⟨f, hs, hf, ht⟩ := h
  refine wpAny_Call_Name_kw (thn ((pe_var (pos := p) hN hv hd hcd).run pins s σ H (fun v H1 => v = .ref f ∧ H1 = H) I ⟨.ref f, hs, rfl, rfl⟩) fun u s1 ⟨v, H1, I1, r1, q1⟩ => ?_)
  obtain ⟨ev, eH⟩ := q1
  subst ev
  rw [eH] at I1
  obtain rfl : u = Value.ref f := r1
  refine PySem.W.callWith_F (first := []) (lmAt I1 hf) (thn (ha.run pos pins s1 σ H _ I1 ht) fun us s2 ⟨vs, H2, I2, r, h1, q⟩ => ⟨lmAt I2 h1, ?_⟩) he hpl
  show wpAny _ _ (call (.ref f) us) _ _ _
  refine wpAny_call (codeAny_mono (Fn f X.A X.stack s2 H2 us vs Q hr I2.env0 r q) fun r s' hq => ?_)
  cases r with
  | error e => exact pass0 pins σ H2 s2 e s' I2 hq
  | ok fl =>
    cases fl with
    | ret u => exact I2.after hq
    | next => exact False.elim hq
    | brk => exact False.elim hq
    | cont => exact False.elim hq
/-! ### list(d.values()) -/
def tListVals (te : TE) : TE := fun σ H Q => te σ H fun x H1 => ∃ (d : Addr) (kvs : List (Key × V)), x = .ref d ∧ H1 d = some (.dK kvs) ∧ ∀ p, H1 p = none → Q (.ref p) (upd H1 p (.lst (kvs.map (·.2))))
theorem vals_get {κ : Type} : ∀ {kvs : List (κ × V)} {vs : List (κ × Value)}, KV kvs vs → Vals (kvs.map (·.2)) (vs.map (·.2))
  | _, _, .nil => .nil
  | _, _, .cons r t => .cons r.2 (vals_get t)
theorem pe_listVals (hc : X.calm = true) (he : PE X e te) (hg : Gl X "list") (hm : X.mg "list" = none) (hv : bootBuiltins "list" = some (.type "list")) (hbase : attributeBase e "values" X.env (eval e X.env) = eval e X.env := by rfl) (hline : (apos.endLine == cpos.line) = true := by rfl)
    (hs : starEach [.Call (.Attribute e "values" apos) [] [] cpos] X.env = (false, eval (.Call (.Attribute e "values" apos) [] [] cpos) X.env) :: starEach [] X.env := by rfl) :
    PE X (.Call (.Name "list" p) [.Call (.Attribute e "values" apos) [] [] cpos] [] pos) (tListVals te) := by
  refine ⟨fun pins s σ H Q I hq => ?_⟩
  refine wpAny_Call_Name_kw (ld_blt I hg hm hv ?_)
  refine PyProof.Rows.callWith_type1 ?_ hs rfl
  rw [hs]
  show wpAny _ _ (spliced ((false, eval (.Call (.Attribute e "values" apos) [] [] cpos) X.env) :: backTo pos (starEach [] X.env))) _ _ s
  refine Calls.spliced_cons ?_
  refine wpAny_Call_method (T := "dict") (id := "dict.values") hbase rfl hline F.plainAttrs_dict F.slot_dict_values F.type_dict_values (thn (he.run pins s σ H _ I hq) fun u s1 ⟨x, H1, I1, rx, d, kvs, ex, hd, q⟩ => ?_)
  subst ex
  obtain rfl : u = Value.ref d := rx
  obtain ⟨hz, hs0, vs, kv, hdo⟩ := I1.hok d _ hd
  obtain ⟨ep, hat⟩ := hdo.dictAt
  have lk : kvs.length = vs.length := Paired.length kv
  have I2 : Inv X pins σ H1 { s1 with heap := s1.heap.push { cls := .type "dict_values", data := .fields #[.ref d] } } := I1.kept (t' := s1.toks) fun b ob q => Heap.get?_push_of_some _ q
  refine ⟨hdo.typeIs, hdo.mapOf.noDict, ?_⟩
  show wpAny _ _ (callWith cpos (.builtin "dict.values") [.ref d] [] []) _ X.xe s1
  refine method_meetsIn F.slot_dict_values F.entry_dict_values rfl (PySem.evalArgs_none ⟨rfl, hdo.typeIs, F.args_dict_values_1 _, _, meets_dict_values (mixKind X.prog X.w) d hs0, ⟨vs, hdo⟩, ?_⟩)
  refine Calls.spliced_nil ?_
  refine PySem.W.kdl_call (PySem.W.kdl_values (knd := mixKind X.prog X.w) (kvs := vs) (ep := ep)) (I1.ok.hd hc) ⟨⟨_, Heap.get?_push_size _ rfl, rfl, rfl⟩, hat.push _⟩ (by omega) fun h' tk acc c hk hS hacc => ?_
  have ev : acc.toList = vs.map (·.2) := PySem.W.kdl_vals_eq acc.toList (by rw [Array.length_toList]; exact hacc.1) fun j v e => hacc.2 j v (by rw [← Array.getElem?_toList]; exact e)
  have hvv := vals_get kv
  rw [← ev] at hvv
  refine ⟨.ref _, upd H1 _ (.lst (kvs.map (·.2))), I2.laid (t' := tk) hk (Nat.le_refl _)
    (show ObjOk X.prog X.w _ _ _ (.lst (kvs.map (·.2))) from ⟨by rw [List.length_map]; exact hz, acc.toList, c, hvv, by rw [Array.toArray_toList]; exact hS⟩), rfl, q _ (I2.hok.fresh (Nat.le_refl _))⟩
end
end Any
set_option maxHeartbeats 1000000
namespace Any
open L2 PySem PyProof.Rows LamX NdefX
open PySem.Spec
/-! ### the law's call with tables of code objects, under no guard -/
section
variable {P : Program} {w : World} {K : PySem.W.Frag} {mg mb : Str → Option Value}
/-- a heap that knows the script, if the written part has it not, and the tables -/
theorem pick_T {a : Addr} {ts : List Addr} {s : Shared} {vs : List Value} {ns : List Int} (kx : K.In s.heap) (la : s.heap.get? a = some { cls := .type "list", data := .seq vs.toArray }) (li : IntsAre vs ns) (ll : ns.length ≤ sizeLine)
    (tab : ∀ t ∈ ts, s.heap.get? t = some { cls := .none, data := .fields #[] }) :
    ∃ H : Hp, (∀ t ∈ ts, H t = some (.tbl #[])) ∧ SqL K H a (ns.map V.int) ∧ HOk P w H s.heap ∧ (∀ b u, H b = some u → b ∉ ts → b = a ∧ K.lookup a = none ∧ ∃ o xs, u = .frz o (.lst xs)) := by
  have nat_ : a ∉ ts := fun z => by
    have q := tab a z
    rw [la] at q
    have d := congrArg Obj.data (Option.some.inj q)
    have d : Data.seq vs.toArray _ = Data.fields #[] := d
    cases d
  cases hk : K.lookup a with
  | some o =>
    have z := (kx a o hk).symm.trans la
    cases z
    refine ⟨fun b => if b ∈ ts then some (.tbl #[]) else none, fun t ht => if_pos ht, .inr ⟨_, vs.toArray, _, hk, rfl, rfl, rfl, by rw [List.size_toArray, li.length]; exact ll, by simpa using vals_ints li⟩, fun b u e => ?_, fun b u e nb => ?_⟩
    · have e : (if b ∈ ts then some (HO.tbl #[]) else none) = some u := e
      split at e
      · rename_i hb
        cases e
        exact tab b hb
      · cases e
    · have e : (if b ∈ ts then some (HO.tbl #[]) else none) = some u := e
      rw [if_neg nb] at e
      cases e
  | none =>
    let o : HO := .frz { cls := .type "list", data := .seq vs.toArray } (.lst (ns.map V.int))
    refine ⟨fun b => if b ∈ ts then some (.tbl #[]) else if b = a then some o else none, fun t ht => if_pos ht, .inl (.inr ⟨_, (if_neg nat_).trans (if_pos rfl)⟩), fun b u e => ?_, fun b u e nb => ?_⟩
    · have e : (if b ∈ ts then some (HO.tbl #[]) else if b = a then some o else none) = some u := e
      split at e
      · rename_i hb
        cases e
        exact tab b hb
      · split at e
        · rename_i hb
          cases e
          rw [hb]
          exact ⟨la, by rw [List.length_map]; exact ll, vs, _, vals_ints li, la⟩
        · cases e
    · have e : (if b ∈ ts then some (HO.tbl #[]) else if b = a then some o else none) = some u := e
      rw [if_neg nb] at e
      split at e
      · rename_i hb
        cases e
        exact ⟨hb, rfl, _, _, rfl⟩
      · cases e
theorem law_gT {C : CXT} {k : Nat} {fa a : Addr} {cs : List (Addr × Addr)} {fd : FuncData} {x : Str} {sp : Sp} {s : Shared} {vs : List Value} {ns : List Int}
    (kx : K.In s.heap) (g1 : s.heap.Ns mainGlobals mg) (g2 : s.heap.Ns builtinsNs mb) (g3 : ∀ x : Str, x ≠ "__name__" → mb x = bootBuiltins x) (g4 : s.heap.NoLimit) (g5 : s.gens = #[])
    (tab : ∀ p ∈ cs, s.heap.get? p.2 = some { cls := .none, data := .fields #[] }) (out : ∀ p ∈ cs, K.lookup p.2 = none) (cod : ∀ p ∈ cs, PySem.W.CodeHd s.heap p.1 p.2)
    (bmn : ∃ (bm : Addr) (ob : Obj), mg "__builtins__" = some (.ref bm) ∧ bm ≠ builtinsNs ∧ s.heap.get? bm = some ob ∧ ob.cls = .type "module" ∧ ob.dict = some builtinsNs ∧ ob.data = .plain)
    (la : s.heap.get? a = some { cls := .type "list", data := .seq vs.toArray }) (li : IntsAre vs ns) (ll : ns.length ≤ sizeLine) (hr : Room k callerA)
    (F : ∀ base : Heap, K.In base → base.Ns mainGlobals mg → (∀ p ∈ cs, TabB base mg p.1 p.2) → FnG P w K mg base C k fa fd [x] sp) (bd : ∀ (s : Shared) (u : Value), BindsTo s fd ⟨[u], []⟩ [(x, u)])
    (want : ∀ H : Hp, (∀ p ∈ cs, H p.2 = some (.tbl #[])) → SqL K H a (ns.map V.int) → sp [.ref a] H (fun v _ => v = .bl true) fun _ _ _ => False)
    (noC : ∀ H e s', C [] H s (fun _ _ _ => False) e s' → False) :
    codeAny (model P w) callerA (.call (.ref fa) ⟨[.ref a], []⟩) (fun r s' => r = .ok (.ret (.bool true)) ∧ OldK s.heap s'.heap ∧ s'.os = s.os ∧ AllBare s'.gens) s := by
  have mem : ∀ p ∈ cs, p.2 ∈ cs.map (·.2) := fun p hp => List.mem_map_of_mem hp
  have isT : ∀ t ∈ cs.map (·.2), s.heap.get? t = some { cls := .none, data := .fields #[] } := fun t ht => by
    obtain ⟨p, hp, rfl⟩ := List.mem_map.mp ht
    exact tab p hp
  obtain ⟨H, hT, hS, hok, hA⟩ := pick_T (P := P) (w := w) kx la li ll isT
  -- what is neither a list nor an empty table is not known
  have free : ∀ {b : Addr} {ob : Obj}, s.heap.get? b = some ob → (∀ us n, ob.data ≠ .seq us n) → ob.data ≠ .fields #[] → H b = none := fun {b ob} z d1 d2 => by
    cases q : H b with
    | none => rfl
    | some u =>
      by_cases ht : b ∈ cs.map (·.2)
      · have z2 := z.symm.trans (isT b ht)
        cases z2
        exact absurd rfl d2
      · obtain ⟨rfl, _⟩ := hA b u q ht
        have z2 := z.symm.trans la
        cases z2
        exact absurd rfl (d1 _ _)
  have freeD : ∀ {b : Addr} {ob : Obj} {es : Array DictEntry} {n : Nat}, s.heap.get? b = some ob → ob.data = .dict es n → H b = none := fun z d => free z (fun us n e => by rw [d] at e; cases e) fun e => by rw [d] at e; cases e
  have ns' : ∀ {b : Addr} {m : Str → Option Value}, s.heap.Ns b m → (hidT s.heap H).Ns b m := by
    rintro b m ⟨o, es, n, z, d, r⟩
    exact ⟨o, es, n, hidT_get z (freeD z d), d, r⟩
  have kb : K.In (hidT s.heap H) := by
    intro b o z
    refine hidT_get (kx b o z) ?_
    cases q : H b with
    | none => rfl
    | some u =>
      by_cases ht : b ∈ cs.map (·.2)
      · obtain ⟨p, hp, rfl⟩ := List.mem_map.mp ht
        rw [out p hp] at z
        cases z
      · obtain ⟨rfl, z2, _⟩ := hA b u q ht
        rw [z2] at z
        cases z
  have TB : ∀ p ∈ cs, TabB (hidT s.heap H) mg p.1 p.2 := fun p hp => by
    have tp := tab p hp
    have apart : ∀ {b : Addr} {ob : Obj}, s.heap.get? b = some ob → ob.data ≠ .fields #[] → b ≠ p.2 := fun z d e => by
      rw [e, tp] at z
      cases z
      exact d rfl
    obtain ⟨og, esg, ng, zg, dg, _⟩ := id g1
    refine ⟨?_, ?_, apart zg (fun e => by rw [dg] at e; cases e)⟩
    · obtain ⟨o, us, file, tf, flags, tg, inF, text, tt, y1, y2, y3, y4, rest⟩ := cod p hp
      refine ⟨o, us, file, tf, flags, tg, inF, text, tt, hidT_get y1 (free y1 (fun us n e => by rw [y3] at e; cases e) fun e => ?_), y2, y3, y4, rest⟩
      rw [y3] at e
      cases e
      simp at y4
    · obtain ⟨bm, ob, m1, m2, m3, m4, m5, m6⟩ := bmn
      refine ⟨bm, ob, m1, m2, fun e => ?_, apart m3 (fun e => by rw [m6] at e; cases e), hidT_get m3 (free m3 (fun us n e => by rw [m6] at e; cases e) fun e => by rw [m6] at e; cases e), m4, m5, m6⟩
      rw [e] at m3
      have z2 := m3.symm.trans zg
      cases z2
      rw [m6] at dg
      cases dg
  obtain ⟨mc, l1, l2⟩ := g4
  have e0 : Env0 P w K mg (hidT s.heap H) callerA [] s H :=
    { frames := rfl, mod := ⟨kb, ns' g1, ⟨mb, ns' g2, g3⟩, ⟨mc, ns' l1, l2⟩⟩, bs := fun b o z => of_hidT z, bsz := Nat.le_of_eq (hidT_size _ _), funs := trivial, frf := fun b z => (by cases z), hok := hok, bare := .of_eq g5 }
  refine codeAny_mono ((F _ kb (ns' g1) TB).go callerA [] s H ⟨[.ref a], []⟩ [.ref a] [.ref a] _ _ rfl hr e0 (bd s (.ref a)) (.cons rfl .nil) (want H (fun p hp => hT _ (mem p hp)) hS)) ?_
  rintro (err | fl) s' h
  · exact (noC H err s' h).elim
  cases fl with
  | next => cases h
  | brk => cases h
  | cont => cases h
  | ret u =>
    obtain ⟨v, H', h1, h2, un, hok', rv, rfl⟩ := h
    cases rv
    have grown : ∀ t ∈ cs.map (·.2), ∃ more : Array Value, s'.heap.get? t = some { cls := .none, data := .fields more } := fun t ht => by
      obtain ⟨more, z⟩ := un.tbls t #[] (hT t ht)
      exact ⟨_, hok' t _ z⟩
    have stay : ∀ b o, b ∉ cs.map (·.2) → s.heap.get? b = some o → s'.heap.get? b = some o := fun b o nb z => by
      cases q : H b with
      | none => exact un.keep b o z q (fun z => by cases z) (fun z => by cases z)
      | some u =>
        obtain ⟨rfl, _, ob, xs, rfl⟩ := hA b u q nb
        have z2 := (hok b _ q).1
        rw [z] at z2
        cases z2
        exact (hok' b _ (un.frzs b _ _ q)).1
    refine ⟨rfl, ⟨fun b o z => ?_, fun b o z => ?_⟩, h1, h2⟩
    · by_cases ht : b ∈ cs.map (·.2)
      · obtain ⟨more, hm⟩ := grown b ht
        obtain ⟨p, hp, rfl⟩ := List.mem_map.mp ht
        have z2 := z.symm.trans (tab p hp)
        cases z2
        exact .inr (.inl ⟨((cod p hp).tab (tab p hp)).isCodeTable, rfl, #[], more, rfl, by rw [Array.empty_append]; exact hm⟩)
      · exact .inl (stay b o ht z)
    · by_cases ht : b ∈ cs.map (·.2)
      · obtain ⟨more, hm⟩ := grown b ht
        exact ⟨_, hm⟩
      · exact ⟨o, stay b o ht z⟩
/-- what is known at the law's end: its promise, with the tables cs -/
def LawT (l : PySem.W.OpenLaw) (w : World) (K : PySem.W.Frag) (k n : Nat) (x : Str) (mg : Str → Option Value) (fa : Addr) (h : Heap) : Prop :=
  ∃ (fd : FuncData) (cs : List (Addr × Addr)) (sp : Sp), (∀ p ∈ cs, h.get? p.2 = some { cls := .none, data := .fields #[] }) ∧ (∀ p ∈ cs, K.lookup p.2 = none) ∧ (∀ p ∈ cs, PySem.W.CodeHd h p.1 p.2) ∧ (∀ (s : Shared) (u : Value), BindsTo s fd ⟨[u], []⟩ [(x, u)]) ∧
    (∀ (H : Hp) (a : Addr) (ns : List Int), ns.length ≤ n → (∀ p ∈ cs, H p.2 = some (.tbl #[])) → SqL K H a (ns.map V.int) → sp [.ref a] H (fun v _ => v = .bl true) fun _ _ _ => False) ∧
    ∀ base : Heap, K.In base → base.Ns mainGlobals mg → (∀ p ∈ cs, TabB base mg p.1 p.2) → FnG l.prog w K mg base CX0 k fa fd [x] sp
theorem walk_gT {l : PySem.W.OpenLaw} {n k : Nat} {q : Program} {loose : List Str} {XP : (Str → Option Value) → Heap → Prop} {YP : World → Heap → Prop} {d : DefRec} {K : Params → PySem.W.Frag} {x : Str}
    (h1 : l.most = some n) (h2 : n ≤ sizeLine) (h3 : d.params.defaults = []) (hr : Room k callerA) (hY : ∀ (w : World) (h : Heap), YP w h → (K w.params).In h)
    (F : ∀ (w : World) (mg : Str → Option Value) (fa : Addr) (h : Heap), YP w h → (K w.params).In h → h.Ns mainGlobals mg → mg d.name = some (.ref fa) → LawT l w (K w.params) k n x mg fa h) :
    PySem.W.WalkO q loose XP YP l.row.toRowW d [] (fun f vs => PySem.call f vs) := by
  refine Att.attach_call h1 h3 fun w s₀ s₁ mg mb fa o pm cd doc a vs ns G Y _ _ _ hmg hobj hints hlen hg => ?_
  have kx := hY w _ Y
  obtain ⟨fd, cs, sp, c1, c2, c3, hb, want, hF⟩ := F w mg fa _ Y kx G.T.g hmg
  exact law_gT kx G.T.g G.T.b G.T.builtins G.T.nolimit hg c1 c2 c3 G.T.bmain hobj hints (Nat.le_trans hlen h2) hr hF hb (fun H t hS => want H a ns hlen t hS) (fun _ _ _ z => z)
end
end Any
namespace Any
open L2 PySem

/-! ### expressions as trees -/
inductive Dd | plus | less | times | over | rest
  deriving DecidableEq
def Dd.word : Dd → Str
  | .plus => "plus" | .less => "less" | .times => "times" | .over => "over" | .rest => "rest"
def Dd.fn : Dd → Int → Int → Int
  | .plus, i, j => i + j
  | .less, i, j => if i < j then 0 else i - j
  | .times, i, j => i * j
  | .over, i, j => if j = 0 then 0 else i / j
  | .rest, i, j => if j = 0 then 0 else i % j
inductive Ex
  | num (n : Int) | box (x : Str) | asked | told | op (d : Dd) (l r : Ex)
def Ex.deep : Ex → Nat
  | .op _ l r => max l.deep r.deep + 1
  | _ => 1
def Ex.size : Ex → Nat
  | .op _ l r => l.size + r.size
  | _ => 1
/-- the number of a box -/
def look (kvs : List (Str × Int)) (x : Str) : Option Int := (kvs.find? fun kv => decide (kv.1 = x)).map (·.2)
def Ex.val (kvs : List (Str × Int)) (a t : Int) : Ex → Int
  | .num n => n
  | .box x => (look kvs x).getD 0
  | .asked => a
  | .told => t
  | .op d l r => d.fn (l.val kvs a t) (r.val kvs a t)
/-- of these boxes, with small numbers -/
def Ex.good (xs : List Str) : Ex → Prop
  | .num n => 0 ≤ n ∧ n < 1024
  | .box x => x ∈ xs
  | .op _ l r => l.good xs ∧ r.good xs
  | _ => True
/-- boxes with small numbers, for each of these names -/
structure Bx (kvs : List (Str × Int)) (xs : List Str) : Prop where
  all : ∀ x ∈ xs, ∃ n, look kvs x = some n ∧ 0 ≤ n ∧ n < 1024
def bx (kvs : List (Str × Int)) : List (Key × V) := kvs.map fun p => (Sum.inr p.1, V.int p.2)
theorem bx_val (x : Str) : ∀ kvs : List (Str × Int), valV (bx kvs) (Sum.inr x) = (look kvs x).map V.int
  | [] => rfl
  | p :: r => by
    have ih := bx_val x r
    unfold valV look bx at ih ⊢
    rw [List.map_cons, List.find?_cons, List.find?_cons]
    by_cases e : p.1 = x
    · have e1 : decide ((Sum.inr p.1 : Key) = Sum.inr x) = true := decide_eq_true (by rw [e])
      rw [decide_eq_true e]
      dsimp only
      rw [e1]
      rfl
    · have e1 : decide ((Sum.inr p.1 : Key) = Sum.inr x) = false := decide_eq_false (fun z => e (Sum.inr.inj z))
      rw [decide_eq_false e]
      dsimp only
      rw [e1]
      exact ih
theorem Dd.fn_nn (d : Dd) {i j : Int} (hi : 0 ≤ i) (hj : 0 ≤ j) : 0 ≤ d.fn i j := by
  cases d with
  | plus => show 0 ≤ i + j; omega
  | less => show 0 ≤ (if i < j then 0 else i - j); split <;> omega
  | times => exact Int.mul_nonneg hi hj
  | over => show 0 ≤ (if j = 0 then 0 else i / j); split; omega; exact Int.ediv_nonneg hi hj
  | rest => show 0 ≤ (if j = 0 then 0 else i % j); split; omega; exact Int.emod_nonneg i (by assumption)
theorem Dd.fn_lt (d : Dd) {i j : Int} {m n : Nat} (hi : 0 ≤ i) (hj : 0 ≤ j) (him : i < 2 ^ m) (hjn : j < 2 ^ n) (hm : 0 < m) (hn : 0 < n) : d.fn i j < 2 ^ (m + n) := by
  have e : (2 : Int) ^ (m + n) = 2 ^ m * 2 ^ n := Int.pow_add ..
  have m2 : (2 : Int) ≤ 2 ^ m := by
    obtain ⟨k, rfl⟩ : ∃ k, m = k + 1 := ⟨m - 1, by omega⟩
    rw [Int.pow_succ]
    have : (0 : Int) < 2 ^ k := Int.pow_pos (by decide)
    omega
  have n2 : (2 : Int) ≤ 2 ^ n := by
    obtain ⟨k, rfl⟩ : ∃ k, n = k + 1 := ⟨n - 1, by omega⟩
    rw [Int.pow_succ]
    have : (0 : Int) < 2 ^ k := Int.pow_pos (by decide)
    omega
  rw [e]
  generalize (2 : Int) ^ m = M at *
  generalize (2 : Int) ^ n = N at *
  have big : M ≤ M * N := by
    have := Int.mul_le_mul_of_nonneg_left (show (1 : Int) ≤ N by omega) (show (0 : Int) ≤ M by omega)
    omega
  have big2 : N ≤ M * N := by
    have := Int.mul_le_mul_of_nonneg_right (show (1 : Int) ≤ M by omega) (show (0 : Int) ≤ N by omega)
    omega
  cases d with
  | plus =>
    show i + j < M * N
    have : 0 ≤ (M - 1) * (N - 1) := Int.mul_nonneg (by omega) (by omega)
    have e2 : (M - 1) * (N - 1) = M * N - M - N + 1 := by rw [Int.sub_mul, Int.mul_sub]; omega
    omega
  | less => show (if i < j then 0 else i - j) < M * N; split <;> omega
  | times => exact Int.lt_of_le_of_lt (Int.mul_le_mul_of_nonneg_left (by omega) hi) (Int.mul_lt_mul_of_pos_right him (by omega))
  | over =>
    show (if j = 0 then 0 else i / j) < M * N
    split
    · omega
    · have := Int.ediv_le_self j hi
      omega
  | rest =>
    show (if j = 0 then 0 else i % j) < M * N
    split
    · omega
    · have := Int.emod_lt_of_pos i (show 0 < j by omega)
      omega
theorem Ex.size_pos : ∀ e : Ex, 0 < e.size
  | .num _ => by show 0 < 1; decide
  | .box _ => by show 0 < 1; decide
  | .asked => by decide
  | .told => by decide
  | .op _ l r => by have := l.size_pos; show 0 < l.size + r.size; omega
theorem Ex.size_le : ∀ e : Ex, e.size ≤ 2 ^ e.deep
  | .num _ => by show 1 ≤ 2 ^ 1; decide
  | .box _ => by show 1 ≤ 2 ^ 1; decide
  | .asked => by show 1 ≤ 2 ^ 1; decide
  | .told => by show 1 ≤ 2 ^ 1; decide
  | .op _ l r => by
    have h1 := l.size_le
    have h2 := r.size_le
    show l.size + r.size ≤ 2 ^ (max l.deep r.deep + 1)
    have h3 : 2 ^ l.deep ≤ 2 ^ max l.deep r.deep := Nat.pow_le_pow_right (by decide) (Nat.le_max_left ..)
    have h4 : 2 ^ r.deep ≤ 2 ^ max l.deep r.deep := Nat.pow_le_pow_right (by decide) (Nat.le_max_right ..)
    rw [Nat.pow_succ]
    omega
theorem Ex.val_ok {kvs : List (Str × Int)} {xs : List Str} {a t : Int} (B : Bx kvs xs) (ha : 0 ≤ a ∧ a < 1024) (ht : 0 ≤ t ∧ t < 1024) : ∀ e : Ex, e.good xs → 0 ≤ e.val kvs a t ∧ e.val kvs a t < 2 ^ (10 * e.size)
  | .num n, h => h
  | .box x, h => by
    obtain ⟨n, e1, h1, h2⟩ := B.all x h
    show 0 ≤ (look kvs x).getD 0 ∧ (look kvs x).getD 0 < 2 ^ 10
    rw [e1]
    exact ⟨h1, h2⟩
  | .asked, _ => ha
  | .told, _ => ht
  | .op d l r, h => by
    obtain ⟨l1, l2⟩ := Ex.val_ok B ha ht l h.1
    obtain ⟨r1, r2⟩ := Ex.val_ok B ha ht r h.2
    refine ⟨d.fn_nn l1 r1, ?_⟩
    have q := d.fn_lt l1 r1 l2 r2 (by have := l.size_pos; omega) (by have := r.size_pos; omega)
    show d.fn _ _ < 2 ^ (10 * (l.size + r.size))
    rw [Nat.mul_add]
    exact q
/-- a number that all deeds take -/
def Nb (i : Int) : Prop := 0 ≤ i ∧ i < 2 ^ 640
theorem nb_of {i : Int} {n : Nat} (h0 : 0 ≤ i) (h : i < 2 ^ (10 * n)) (hn : n ≤ 64) : Nb i := by
  refine ⟨h0, Int.lt_of_lt_of_le h ?_⟩
  have : (2 : Nat) ^ (10 * n) ≤ 2 ^ 640 := Nat.pow_le_pow_right (by decide) (by omega)
  exact_mod_cast this
theorem Ex.nb {kvs : List (Str × Int)} {xs : List Str} {a t : Int} (B : Bx kvs xs) (ha : 0 ≤ a ∧ a < 1024) (ht : 0 ≤ t ∧ t < 1024) {e : Ex} (h : e.good xs) (hd : e.deep ≤ 6) : Nb (e.val kvs a t) := by
  obtain ⟨h0, h1⟩ := e.val_ok B ha ht h
  refine nb_of h0 h1 (Nat.le_trans e.size_le ?_)
  exact Nat.pow_le_pow_right (by decide) hd
theorem Nb.abs {i : Int} (h : Nb i) : i.natAbs < 2 ^ 640 := by
  have h1 := h.1
  have h2 := h.2
  have e : ((2 : Nat) ^ 640 : Nat) = ((2 : Int) ^ 640).toNat := by decide +kernel
  rw [e]
  generalize (2 : Int) ^ 640 = M at *
  omega
theorem Nb.log {i : Int} (h : Nb i) : i.natAbs.log2 < 1920 := by
  by_cases z : i.natAbs = 0
  · rw [z]; decide
  · have := (Nat.log2_lt z).mpr h.abs
    omega

/-! ### trees in the heap -/
inductive ExAt (H : Hp) : V → Ex → Prop
  | num {a : Addr} {n : Int} : H a = some (.tup [.str "number", .int n]) → ExAt H (.ref a) (.num n)
  | box {a : Addr} {x : Str} : H a = some (.tup [.str "box", .str x]) → ExAt H (.ref a) (.box x)
  | asked {a : Addr} : H a = some (.tup [.str "asked"]) → ExAt H (.ref a) .asked
  | told {a : Addr} : H a = some (.tup [.str "told"]) → ExAt H (.ref a) .told
  | op {a : Addr} {d : Dd} {v u : V} {l r : Ex} : H a = some (.tup [.str d.word, v, u]) → ExAt H v l → ExAt H u r → ExAt H (.ref a) (.op d l r)
/-- the tuples stay -/
def Tups (H H' : Hp) : Prop := ∀ a xs, H a = some (.tup xs) → H' a = some (.tup xs)
theorem ExAt.keep {H H' : Hp} (k : Tups H H') {v : V} {e : Ex} (h : ExAt H v e) : ExAt H' v e := by
  induction h with
  | num h => exact .num (k _ _ h)
  | box h => exact .box (k _ _ h)
  | asked h => exact .asked (k _ _ h)
  | told h => exact .told (k _ _ h)
  | op h _ _ i1 i2 => exact .op (k _ _ h) i1 i2
theorem Same.tups {H H' : Hp} (s : Same H H') : Tups H H' := fun a xs h => s a _ h
theorem same_new {H : Hp} {p : Addr} (h : H p = none) (o : HO) : Same H (upd H p o) := fun b u q => by rw [upd_ne (ne_of_none q h)]; exact q
theorem same_refl {H : Hp} : Same H H := fun _ _ q => q
/-- all but b stays -/
def Kept (b : Addr) (H H' : Hp) : Prop := ∀ a o, a ≠ b → H a = some o → H' a = some o
theorem Kept.refl {b : Addr} {H : Hp} : Kept b H H := fun _ _ _ q => q
theorem Kept.trans {b : Addr} {H H1 H2 : Hp} (h : Kept b H H1) (g : Kept b H1 H2) : Kept b H H2 := fun a o n q => g a o n (h a o n q)
theorem Kept.of {b : Addr} {H H' : Hp} (s : Same H H') : Kept b H H' := fun a o _ q => s a o q
theorem Kept.new {b p : Addr} {H : Hp} (h : H p = none) (o : HO) : Kept b H (upd H p o) := .of (same_new h o)
theorem Kept.put {b : Addr} {H : Hp} (o : HO) : Kept b H (upd H b o) := fun a u n q => by rw [upd_ne n]; exact q
theorem Kept.tups {b : Addr} {H H' : Hp} {xs : List V} (k : Kept b H H') (hb : H b = some (.lst xs)) : Tups H H' := fun a ys q => k a _ (ne_of q hb (by intro z; cases z)) q
end Any
namespace Any
open L2 PySem

/-! ### the text, by places -/
def top (i : Nat) : Stmt := PySem.Challenge.pw_anystore_k02_tests.main.body.getD i (.Pass ⟨0, 0, 0, 0⟩)
abbrev sPlus : Stmt := top 1
abbrev sLess : Stmt := top 2
abbrev sTimes : Stmt := top 3
abbrev sOver : Stmt := top 4
abbrev sRest : Stmt := top 5
abbrev sReady : Stmt := top 8

theorem scPlus : FnScope ["left", "right"] ["left", "right"] (defScope sPlus) := ⟨rfl, rfl, rfl, by decide +kernel, rfl, by decide +kernel, by decide +kernel⟩
theorem scLess : FnScope ["left", "right"] ["left", "right"] (defScope sLess) := ⟨rfl, rfl, rfl, by decide +kernel, rfl, by decide +kernel, by decide +kernel⟩
theorem scTimes : FnScope ["left", "right"] ["left", "right"] (defScope sTimes) := ⟨rfl, rfl, rfl, by decide +kernel, rfl, by decide +kernel, by decide +kernel⟩
theorem scOver : FnScope ["left", "right"] ["left", "right"] (defScope sOver) := ⟨rfl, rfl, rfl, by decide +kernel, rfl, by decide +kernel, by decide +kernel⟩
theorem scRest : FnScope ["left", "right"] ["left", "right"] (defScope sRest) := ⟨rfl, rfl, rfl, by decide +kernel, rfl, by decide +kernel, by decide +kernel⟩
def spDeed (d : Dd) : Sp := fun vs H Q _ => ∃ i j, vs = [.int i, .int j] ∧ Nb i ∧ Nb j ∧ Q (.int (d.fn i j)) H
section
variable {P : Program} {w : World} {K : PySem.W.Frag} {mg : Str → Option Value} {base : Heap} {f : Addr} {fd : FuncData}
theorem wideMul {i j : Int} (hi : Nb i) (hj : Nb j) : CMulW i j := wide_mul hi.abs hj.abs (by decide) (by decide) (by decide)
theorem wideDiv {i j : Int} (hj : Nb j) (h : j ≠ 0) : CDivW i j := wide_div (by have := hj.1; omega) hj.abs (by decide) (by decide)
theorem ok_plus (F : Fun K "plus" "plus" sPlus f fd) : FnOk P w K mg base CX0 1 f fd ["left", "right"] (spDeed .plus) := by
  refine F.ok scPlus (fun vs H Q E h => ?_) (fun cdv A outer s H vs Q E hr h => ?_)
  · obtain ⟨i, j, rfl, _⟩ := h
    rfl
  obtain ⟨i, j, rfl, hi, hj, q⟩ := h
  exact ⟨_, pss_one (ps_ret (pe_op op_add (pv 0) (pv 1))), _, rfl, _, rfl, _, _, rfl, rfl, q⟩
theorem ok_less (F : Fun K "less" "less" sLess f fd) : FnOk P w K mg base CX0 1 f fd ["left", "right"] (spDeed .less) := by
  refine F.ok scLess (fun vs H Q E h => ?_) (fun cdv A outer s H vs Q E hr h => ?_)
  · obtain ⟨i, j, rfl, _⟩ := h
    rfl
  obtain ⟨i, j, rfl, hi, hj, q⟩ := h
  refine ⟨_, pss_cons (ps_if (pt_cmpR op_lt (pv 0) (pv 1) (nomark _)) (pss_one (ps_ret pe_int)) pss_nil) (pss_one (ps_ret (pe_op op_sub (pv 0) (pv 1)))), _, rfl, _, rfl, _, _, rfl, rfl, _, rfl, ?_⟩
  have q' : Q (.int (if i < j then 0 else i - j)) H := q
  refine ite2 (fun c => ?_) (fun c => ?_)
  · rw [if_pos (of_decide_eq_true c)] at q'
    exact q'
  · rw [if_neg (of_decide_eq_false (Bool.eq_false_iff.mpr c))] at q'
    exact ⟨_, rfl, _, rfl, _, _, rfl, rfl, q'⟩
theorem ok_times (F : Fun K "times" "times" sTimes f fd) : FnOk P w K mg base CX0 1 f fd ["left", "right"] (spDeed .times) := by
  refine F.ok scTimes (fun vs H Q E h => ?_) (fun cdv A outer s H vs Q E hr h => ?_)
  · obtain ⟨i, j, rfl, _⟩ := h
    rfl
  obtain ⟨i, j, rfl, hi, hj, q⟩ := h
  exact ⟨_, pss_one (ps_ret (pe_op op_mulW (pv 0) (pv 1))), _, rfl, _, rfl, _, _, rfl, rfl, wideMul hi hj, q⟩
theorem ok_over (F : Fun K "over" "over" sOver f fd) : FnOk P w K mg base CX0 1 f fd ["left", "right"] (spDeed .over) := by
  refine F.ok scOver (fun vs H Q E h => ?_) (fun cdv A outer s H vs Q E hr h => ?_)
  · obtain ⟨i, j, rfl, _⟩ := h
    rfl
  obtain ⟨i, j, rfl, hi, hj, q⟩ := h
  refine ⟨_, pss_cons (ps_if (pt_cmpR op_eq (pv 1) pe_int (nomark _)) (pss_one (ps_ret pe_int)) pss_nil) (pss_one (ps_ret (pe_op op_fdivW (pv 0) (pv 1)))), _, rfl, rfl, _, rfl, ?_⟩
  have q' : Q (.int (if j = 0 then 0 else i / j)) H := q
  refine ite2 (fun c => ?_) (fun c => ?_)
  · have c' : V.int j = V.int 0 := of_decide_eq_true c
    rw [if_pos (V.int.inj c')] at q'
    exact q'
  · have c' : ¬ V.int j = V.int 0 := of_decide_eq_false (Bool.eq_false_iff.mpr c)
    have nz : j ≠ 0 := fun z => c' (by rw [z])
    rw [if_neg nz] at q'
    exact ⟨_, rfl, _, rfl, _, _, rfl, rfl, wideDiv hj nz, q'⟩
theorem ok_rest (F : Fun K "rest" "rest" sRest f fd) : FnOk P w K mg base CX0 1 f fd ["left", "right"] (spDeed .rest) := by
  refine F.ok scRest (fun vs H Q E h => ?_) (fun cdv A outer s H vs Q E hr h => ?_)
  · obtain ⟨i, j, rfl, _⟩ := h
    rfl
  obtain ⟨i, j, rfl, hi, hj, q⟩ := h
  refine ⟨_, pss_cons (ps_if (pt_cmpR op_eq (pv 1) pe_int (nomark _)) (pss_one (ps_ret pe_int)) pss_nil) (pss_one (ps_ret (pe_op op_mod (pv 0) (pv 1)))), _, rfl, rfl, _, rfl, ?_⟩
  have q' : Q (.int (if j = 0 then 0 else i % j)) H := q
  refine ite2 (fun c => ?_) (fun c => ?_)
  · have c' : V.int j = V.int 0 := of_decide_eq_true c
    rw [if_pos (V.int.inj c')] at q'
    exact q'
  · have c' : ¬ V.int j = V.int 0 := of_decide_eq_false (Bool.eq_false_iff.mpr c)
    have nz : j ≠ 0 := fun z => c' (by rw [z])
    rw [if_neg nz] at q'
    exact ⟨_, rfl, _, rfl, _, _, rfl, rfl, (by have := hj.1; omega), q'⟩

/-- what the table of deeds holds -/
structure Deeds (P : Program) (w : World) (K : PySem.W.Frag) (mg : Str → Option Value) (base : Heap) : Prop where
  ex : ∃ D : Addr, mg "DEEDS" = some (.ref D) ∧ ∀ d : Dd, ∃ g : Addr, KDct K w D d.word (.ref g) ∧ PySem.W.keepIn K (.ref g) = true ∧ FnR P w K mg base CX0 1 g (spDeed d)
end
end Any
set_option maxHeartbeats 1000000
namespace Any
open L2 PySem PySem.Spec PyProof.Rows LamX NdefX
theorem itT {b : Bool} {A B : Prop} (h : b = true) (a : A) : if b = true then A else B := by
  rw [if_pos h]
  exact a
theorem itF {b : Bool} {A B : Prop} (h : b = false) (a : B) : if b = true then A else B := by
  rw [if_neg (by rw [h]; decide)]
  exact a
theorem ne_str {x y : Str} (h : x ≠ y) : decide (V.str x = V.str y) = false := decide_eq_false fun z => h (V.str.inj z)
theorem eq_str {x : Str} : decide (V.str x = V.str x) = true := decide_eq_true rfl
/-! ### the lambdas of the text -/
def ifB : Stmt → List Stmt
  | .If _ b _ _ => b
  | _ => []
def retE : Stmt → Expr
  | .Return (some e) _ => e
  | _ => .Constant .none 0 ⟨0, 0, 0, 0⟩
def stN (l : List Stmt) (i : Nat) : Stmt := l.getD i (.Pass ⟨0, 0, 0, 0⟩)
def lamP : Expr → Arguments
  | .Lambda p _ _ _ => p
  | _ => { posonlyargs := [], args := [], vararg := none, kwonlyargs := [], kw_defaults := [], kwarg := none, defaults := [] }
def lamB : Expr → Expr
  | .Lambda _ b _ _ => b
  | e => e
def lamS : Expr → Scope
  | .Lambda _ _ s _ => s
  | _ => { kind := .function, names := [], isGenerator := false, isCoroutine := false }
abbrev lamN : Expr := retE (stN (ifB (stN (defBody sReady) 1)) 1)
abbrev lamX : Expr := retE (stN (ifB (stN (defBody sReady) 2)) 1)
abbrev lamA : Expr := retE (stN (ifB (stN (defBody sReady) 3)) 0)
abbrev lamT : Expr := retE (stN (ifB (stN (defBody sReady) 4)) 0)
abbrev lamO : Expr := retE (stN (defBody sReady) 8)
abbrev psL : List Str := ["boxes", "asked", "told"]
theorem scN : NScope ["boxes", "asked", "told", "number"] psL ["number"] (lamS lamN) := nscope_by (by decide +kernel)
theorem scX : NScope ["boxes", "asked", "told", "at"] psL ["at"] (lamS lamX) := nscope_by (by decide +kernel)
theorem scA : NScope ["boxes", "asked", "told"] psL [] (lamS lamA) := nscope_by (by decide +kernel)
theorem scT : NScope ["boxes", "asked", "told"] psL [] (lamS lamT) := nscope_by (by decide +kernel)
theorem scO : NScope ["boxes", "asked", "told", "deed", "left", "right"] psL ["deed", "left", "right"] (lamS lamO) := nscope_by (by decide +kernel)
/-- F is made of the lambda L, its code object is known -/
structure Made (H : Hp) (f : Addr) (F : LF) (L : Expr) : Prop where
  at_ : H f = some (LamO f F)
  p : F.params = lamP L
  b : F.body = lamB L
  s : F.scope = lamS L
  code : H F.c = some (CodeO F.c F.qual)
theorem Made.ext {H H' : Hp} {f : Addr} {F : LF} {L : Expr} (m : Made H f F L) (e : ExtN H H') : Made H' f F L := ⟨e _ _ m.at_ lamO_ne, m.p, m.b, m.s, e _ _ m.code codeO_ne⟩
theorem CapsAt.ext {H H' : Hp} {F : LF} {fr : List Str} {ws : List V} (C : CapsAt H F fr ws) (e : ExtN H H') : CapsAt H' F fr ws := by
  refine ⟨C.len, fun y c h => ?_, C.inj, fun i y h => ?_⟩
  · obtain ⟨w, z⟩ := C.all y c h
    exact ⟨w, e _ _ z cellO_tbl⟩
  · obtain ⟨c, h1, h2⟩ := C.has i y h
    exact ⟨c, h1, fun v hv => e _ _ (h2 v hv) cellO_tbl⟩
theorem hid_ext {H H' : Hp} (e : ExtN H H') (cs : List Addr) : ExtN (hid H cs) (hid H' cs) := fun b o h n => by
  obtain ⟨nb, h⟩ := hid_some h
  rw [hid_out nb]
  exact e b o h n
theorem reT_hid (H : Hp) (cs : List Addr) : reT H (hid H cs) cs = H := by
  funext b
  by_cases h : b ∈ cs
  · exact reT_in h
  · rw [reT_out h, hid_out h]
theorem back {Q : VK} {v : V} {H : Hp} {cs : List Addr} (q : Q v H) : Q v (reT H (hid H cs) cs) := by
  rw [reT_hid]
  exact q
/-- the lambda at f tells the worth of e, by the numbers of the boxes xs; G: which def a deed's is -/
def CloE (G : Dd → Addr → Prop) (xs : List Str) : Ex → Hp → Addr → Prop
  | .num n, H, f => ∃ F, Made H f F lamN ∧ CapsAt H F ["number"] [.int n]
  | .box x, H, f => ∃ (F : LF) (i : Nat), Made H f F lamX ∧ CapsAt H F ["at"] [.int i] ∧ xs[i]? = some x ∧ ∀ j, j < i → xs[j]? ≠ some x
  | .asked, H, f => ∃ F, Made H f F lamA ∧ CapsAt H F [] []
  | .told, H, f => ∃ F, Made H f F lamT ∧ CapsAt H F [] []
  | .op d l r, H, f => ∃ (F : LF) (g fl fr : Addr), Made H f F lamO ∧ CapsAt H F ["deed", "left", "right"] [.ref g, .ref fl, .ref fr] ∧ G d g ∧ CloE G xs l (hid H F.cells) fl ∧ CloE G xs r (hid H F.cells) fr
theorem CloE.ext {G : Dd → Addr → Prop} {xs : List Str} : ∀ {e : Ex} {H H' : Hp} {f : Addr}, CloE G xs e H f → ExtN H H' → CloE G xs e H' f
  | .num n, _, _, _, ⟨F, m, c⟩, e => ⟨F, m.ext e, c.ext e⟩
  | .box x, _, _, _, ⟨F, i, m, c, h⟩, e => ⟨F, i, m.ext e, c.ext e, h⟩
  | .asked, _, _, _, ⟨F, m, c⟩, e => ⟨F, m.ext e, c.ext e⟩
  | .told, _, _, _, ⟨F, m, c⟩, e => ⟨F, m.ext e, c.ext e⟩
  | .op d l r, _, _, _, ⟨F, g, fl, fr, m, c, hg, h1, h2⟩, e => ⟨F, g, fl, fr, m.ext e, c.ext e, hg, h1.ext (hid_ext e _), h2.ext (hid_ext e _)⟩
theorem CloE.lm {G : Dd → Addr → Prop} {xs : List Str} : ∀ {e : Ex} {H : Hp} {f : Addr}, CloE G xs e H f → IsLm H f
  | .num _, _, _, ⟨F, m, _⟩ => ⟨F, m.at_⟩
  | .box _, _, _, ⟨F, _, m, _⟩ => ⟨F, m.at_⟩
  | .asked, _, _, ⟨F, m, _⟩ => ⟨F, m.at_⟩
  | .told, _, _, ⟨F, m, _⟩ => ⟨F, m.at_⟩
  | .op _ _ _, _, _, ⟨F, _, _, _, m, _⟩ => ⟨F, m.at_⟩
/-- the numbers of boxes, as they stand in a list -/
def numsV (kvs : List (Str × Int)) : List V := kvs.map fun p => .int p.2
abbrev namesOf (kvs : List (Str × Int)) : List Str := kvs.map (·.1)
theorem look_at : ∀ {kvs : List (Str × Int)} {i : Nat} {x : Str}, (namesOf kvs)[i]? = some x → (∀ j, j < i → (namesOf kvs)[j]? ≠ some x) → ∃ n, look kvs x = some n ∧ (numsV kvs)[i]? = some (.int n)
  | [], i, x, h, _ => by simp at h
  | p :: r, 0, x, h, _ => by
    have h : p.1 = x := Option.some.inj h
    refine ⟨p.2, ?_, rfl⟩
    unfold look
    rw [List.find?_cons, decide_eq_true h]
    rfl
  | p :: r, i + 1, x, h, n => by
    have h0 : p.1 ≠ x := fun z => n 0 (by omega) (by rw [← z]; rfl)
    obtain ⟨m, e1, e2⟩ := look_at (kvs := r) (i := i) h (fun j hj => n (j + 1) (by omega))
    refine ⟨m, ?_, e2⟩
    unfold look at e1 ⊢
    rw [List.find?_cons, decide_eq_false h0]
    exact e1
def DeedIs (P : Program) (w : World) (K : PySem.W.Frag) (mg : Str → Option Value) (base : Heap) (d : Dd) (g : Addr) : Prop := PySem.W.keepIn K (.ref g) = true ∧ FnR P w K mg base CX0 1 g (spDeed d)
def spClo (G : Dd → Addr → Prop) (n : Nat) (f : Addr) : Sp := fun vs H Q _ => ∃ (e : Ex) (kvs : List (Str × Int)) (xs : List Str) (b : Addr) (a t : Int), vs = [.ref b, .int a, .int t] ∧ e.deep ≤ n ∧ e.deep ≤ 6 ∧ H b = some (.lst (numsV kvs)) ∧ CloE G (namesOf kvs) e H f ∧ e.good xs ∧ Bx kvs xs ∧
  (0 ≤ a ∧ a < 1024) ∧ (0 ≤ t ∧ t < 1024) ∧ Q (.int (e.val kvs a t)) H
section
variable {P : Program} {w : World} {K : PySem.W.Frag} {mg : Str → Option Value} {base : Heap}
theorem lst_hid {H : Hp} {F : LF} {fr : List Str} {ws xs : List V} {b : Addr} (C : CapsAt H F fr ws) (h : H b = some (.lst xs)) : hid H F.cells b = some (.lst xs) := by
  rw [hid_out fun z => ?_]
  · exact h
  · obtain ⟨w, e⟩ := C.cell z
    rw [h] at e
    unfold CellO at e
    cases e
theorem no_clo : FnL P w K mg base 0 (spClo (DeedIs P w K mg base) 0) := fun f A outer s H us vs Q _ _ _ h => by
  obtain ⟨e, kvs, xs, b, a, t, _, hd, _⟩ := h
  cases e <;> exact absurd hd (by show ¬ _ ≤ 0; exact Nat.not_succ_le_zero _)
theorem ok_clo {n : Nat} (G : FnL P w K mg base (n + 1) (spClo (DeedIs P w K mg base) n)) : FnL P w K mg base (n + 2) (spClo (DeedIs P w K mg base) (n + 1)) := by
  intro f A outer s H us vs Q hr e0 rv h
  obtain ⟨e, kvs, xs, b, a, t, rfl, hd, hd6, hb, hc, hg, B, ha, ht, q⟩ := h
  cases e with
  | num m =>
    obtain ⟨⟨qu, pa, bo, sc, cl, co⟩, M, C⟩ := hc
    obtain ⟨m1, rfl, rfl, rfl, m5⟩ := M
    refine lam_run (k := n + 1) (N := ["boxes", "asked", "told", "number"]) (ws := [.int m]) scN (fun pm ctv us hl => match us, hl with | [_, _, _], _ => rfl) hr e0 m1 m5 C rv rfl fun hr => ⟨_, pv 3, _, rfl, ?_⟩
    exact back q
  | box x =>
    obtain ⟨⟨qu, pa, bo, sc, cl, co⟩, i, M, C, hi, hj⟩ := hc
    obtain ⟨m1, rfl, rfl, rfl, m5⟩ := M
    obtain ⟨m, e1, e2⟩ := look_at hi hj
    refine lam_run (k := n + 1) (N := ["boxes", "asked", "told", "at"]) (ws := [.int i]) scX (fun pm ctv us hl => match us, hl with | [_, _, _], _ => rfl) hr e0 m1 m5 C rv rfl fun hr => ⟨_, pe_ix ix_list (pv 0) (pv 3) (fun _ _ => rfl), _, rfl, _, rfl, b, _, _, _, rfl, rfl, SqL.of (lst_hid C hb), atI_nat e2, ?_⟩
    refine back ?_
    have q' : Q (.int ((look kvs x).getD 0)) H := q
    rw [e1] at q'
    exact q'
  | asked =>
    obtain ⟨⟨qu, pa, bo, sc, cl, co⟩, M, C⟩ := hc
    obtain ⟨m1, rfl, rfl, rfl, m5⟩ := M
    refine lam_run (k := n + 1) (N := ["boxes", "asked", "told"]) (ws := []) scA (fun pm ctv us hl => match us, hl with | [_, _, _], _ => rfl) hr e0 m1 m5 C rv rfl fun hr => ⟨_, pv 1, _, rfl, ?_⟩
    exact back q
  | told =>
    obtain ⟨⟨qu, pa, bo, sc, cl, co⟩, M, C⟩ := hc
    obtain ⟨m1, rfl, rfl, rfl, m5⟩ := M
    refine lam_run (k := n + 1) (N := ["boxes", "asked", "told"]) (ws := []) scT (fun pm ctv us hl => match us, hl with | [_, _, _], _ => rfl) hr e0 m1 m5 C rv rfl fun hr => ⟨_, pv 2, _, rfl, ?_⟩
    exact back q
  | op d l r =>
    obtain ⟨⟨qu, pa, bo, sc, cl, co⟩, g, fl, fr, M, C, ⟨kk, FR⟩, h1, h2⟩ := hc
    obtain ⟨m1, rfl, rfl, rfl, m5⟩ := M
    have dl : l.deep ≤ n := Nat.le_trans (Nat.le_max_left ..) (Nat.le_of_succ_le_succ hd)
    have dr : r.deep ≤ n := Nat.le_trans (Nat.le_max_right ..) (Nat.le_of_succ_le_succ hd)
    have dl6 : l.deep ≤ 6 := Nat.le_trans (Nat.le_max_left ..) (Nat.le_of_succ_le hd6)
    have dr6 : r.deep ≤ 6 := Nat.le_trans (Nat.le_max_right ..) (Nat.le_of_succ_le hd6)
    refine lam_run (k := n + 1) (N := ["boxes", "asked", "told", "deed", "left", "right"]) (ws := [.ref g, .ref fl, .ref fr]) scO (fun pm ctv us hl => match us, hl with | [_, _, _], _ => rfl) hr e0 m1 m5 C rv rfl fun hr =>
      ⟨_, pe_callS (k := 1) (i := 3) (hr.mono (by omega)) pass0 rfl (.inr (.inr rfl)) (pa_cons (pe_callL (i := 4) G hr rfl (.inr (.inr rfl)) (pa_cons (pv 0) (pa_cons (pv 1) (pa_cons (pv 2) pa_nil)))) (pa_cons (pe_callL (i := 5) G hr rfl (.inr (.inr rfl)) (pa_cons (pv 0) (pa_cons (pv 1) (pa_cons (pv 2) pa_nil)))) pa_nil)), ?_⟩
    refine ⟨g, spDeed d, FR, kk, rfl, fl, rfl, h1.lm, _, rfl, _, rfl, _, rfl, h1.lm, l, kvs, xs, b, a, t, rfl, dl, dl6, lst_hid C hb, h1, hg.1, B, ha, ht, ?_⟩
    refine ⟨fr, rfl, h2.lm, _, rfl, _, rfl, _, rfl, h2.lm, r, kvs, xs, b, a, t, rfl, dr, dr6, lst_hid C hb, h2, hg.2, B, ha, ht, ?_⟩
    refine ⟨_, _, rfl, Ex.nb B ha ht hg.1 dl6, Ex.nb B ha ht hg.2 dr6, ?_⟩
    exact back q
theorem all_clo : ∀ n : Nat, FnL P w K mg base (n + 1) (spClo (DeedIs P w K mg base) n)
  | 0 => no_clo.mono (by omega)
  | n + 1 => ok_clo (all_clo n)
end
end Any
set_option maxHeartbeats 1000000
namespace Any
open L2 PySem PySem.Spec PyProof.Rows LamX NdefX
/-! ### heaps that grow, tables aside -/
structure Gr (T : List NTab) (H H' : Hp) : Prop where
  ext : ExtN H H'
  no : ∀ b, H' b = none → H b = none
  tabs : TabsN T H'
theorem Gr.refl {T : List NTab} {H : Hp} (t : TabsN T H) : Gr T H H := ⟨ExtN.refl H, fun _ z => z, t⟩
theorem Gr.trans {T : List NTab} {H H1 H2 : Hp} (a : Gr T H H1) (b : Gr T H1 H2) : Gr T H H2 := ⟨a.ext.trans b.ext, fun c z => a.no c (b.no c z), b.tabs⟩
theorem same_no {H H' : Hp} (s : Same H H') : ∀ b, H' b = none → H b = none := fun b z => by
  cases e : H b with
  | none => rfl
  | some o => rw [s b o e] at z; cases z
theorem Gr.same {T : List NTab} {H H1 H2 : Hp} (a : Gr T H H1) (s : Same H1 H2) : Gr T H H2 := ⟨a.ext.trans (ExtN.of s), fun c z => a.no c (same_no s c z), a.tabs.ext s⟩
theorem Gr.of {T : List NTab} {H H' : Hp} (t : TabsN T H) (s : Same H H') : Gr T H H' := (Gr.refl t).same s
theorem Gr.tup {T : List NTab} {H H' : Hp} (g : Gr T H H') {a : Addr} {xs : List V} (h : H a = some (.tup xs)) : H' a = some (.tup xs) := g.ext _ _ h fun _ z => by cases z
theorem Gr.lst {T : List NTab} {H H' : Hp} (g : Gr T H H') {a : Addr} {xs : List V} (h : H a = some (.lst xs)) : H' a = some (.lst xs) := g.ext _ _ h fun _ z => by cases z
theorem Gr.dK {T : List NTab} {H H' : Hp} (g : Gr T H H') {a : Addr} {xs : List (Key × V)} (h : H a = some (.dK xs)) : H' a = some (.dK xs) := g.ext _ _ h fun _ z => by cases z
theorem Gr.tups {T : List NTab} {H H' : Hp} (g : Gr T H H') : Tups H H' := fun _ _ h => g.tup h
/-! ### a def that hands back a lambda -/
structure FunC (K : PySem.W.Frag) (x qual : Str) (st : Stmt) (f : Addr) (fd : FuncData) (c : Addr) : Prop where
  ex : ∃ (oc : Value) (od : Option Addr) (kV doc pm : Value) (an : Option Addr) (ct : Value) (osl : Array (Option Value)),
    fd = PySem.W.fnOf x qual (defArgs st) (defBody st) (defScope st) .none kV doc pm an (.ref c) ct ∧ K.lookup f = some ⟨oc, od, .func fd, osl⟩ ∧ PySem.W.codeIn K (.ref c) qual = true
  kp : PySem.W.keepIn K (.ref f) = true
section
variable {P : Program} {w : World} {K : PySem.W.Frag} {mg : Str → Option Value} {base : Heap} {f c : Addr} {fd : FuncData}
theorem fun_c {x ql : Str} {st : Stmt} {N ps : List Str} {k : Nat} {sp : Sp} (F : FunC K x ql st f fd c) (S : FnScope N ps (defScope st)) (ln : ∀ vs H Q E, sp vs H Q E → vs.length = ps.length)
    (hb : ∀ (A : Around) (out : List Env) (s : Shared) (H : Hp) (vs : List V) (Q : VK) (E : XK), Room k (A.deeper (envOfC ql (defScope st) s.heap.objs.size f (.ref c))) → sp vs H Q E →
      ∃ t, PRs (cxOf CX0 P w K mg base N ql (defScope st) f (.ref c) A out s H E) (defBody st) t ∧ t ⟨fun _ H' => Q .non H', RetC N (defScope st) s.heap.objs.size Q⟩ (L2.start N vs) H) : FnOk P w K mg base CX0 (k + 1) f fd ps sp := by
  obtain ⟨_, _, _, _, _, _, _, _, rfl, lk, hc⟩ := F.ex
  exact fn_c lk hc S ln hb
theorem FunC.binds {x ql : Str} {st : Stmt} {ps : List Str} (F : FunC K x ql st f fd c) (h : ∀ (kV doc pm : Value) (an : Option Addr) (ct : Value) (us : List Value), us.length = ps.length → bindArgs (PySem.W.fnOf x ql (defArgs st) (defBody st) (defScope st) .none kV doc pm an (.ref c) ct) ⟨us, []⟩ = pure (ps.zip us)) : Binds K fd ps [] := by
  obtain ⟨_, _, kV, doc, pm, an, ct, _, rfl, lk, hc⟩ := F.ex
  intro s us _ hl
  rw [List.append_nil] at hl ⊢
  exact .of_eq (h kV doc pm an ct us hl)
/-- the captured names are known at the end -/
theorem caps_ret {N N2 ps fr : List Str} {sc nsc : Scope} {L : Addr} {σ : L2.St} {H' H'' : Hp} {F : LF} {ws : List V}
    (R : ∀ (x : Str) (c : Addr) (i : Nat) (u : V), (cellsFrom (L + 1) sc.names []).lookup x = some c → N[i]? = some x → σ[i]? = some (some u) → sc.names.lookup x = some .cell → H' c = none ∧ H'' c = some (CellO c u))
    (inj : ∀ x y c, (cellsFrom (L + 1) sc.names []).lookup x = some c → (cellsFrom (L + 1) sc.names []).lookup y = some c → x = y)
    (hcl : F.cl = cloFrom (cellsFrom (L + 1) sc.names []) nsc.names []) (S : NScope N2 ps fr nsc) (cel : ∀ y ∈ fr, sc.names.lookup y = some .cell) (len : ws.length = fr.length)
    (at_ : ∀ (i : Nat) (y : Str), fr[i]? = some y → ∃ (j : Nat) (u : V), N[j]? = some y ∧ σ[j]? = some (some u) ∧ ws[i]? = some u) : CapsAt H'' F fr ws ∧ ∀ b ∈ F.cells, H' b = none := by
  have hfree : ∀ y ∈ nsc.names, y.2 = .free → ∃ c, (cellsFrom (L + 1) sc.names []).lookup y.1 = some c := fun y hy e => cell_has (cel _ (S.free y hy e))
  have sub : ∀ {y c}, F.cl.lookup y = some c → (cellsFrom (L + 1) sc.names []).lookup y = some c := fun {y c} e => by
    rw [hcl] at e
    exact clo_cm hfree e
  have infr : ∀ {y c}, F.cl.lookup y = some c → y ∈ fr := fun {y c} e => by
    rw [hcl] at e
    rcases cloFrom_mem (PySem.mem_of_lookup e) with hm | ⟨h1, _⟩
    · cases hm
    · exact S.free _ h1 rfl
  have one : ∀ {y c}, F.cl.lookup y = some c → ∃ u, H' c = none ∧ H'' c = some (CellO c u) := fun {y c} e => by
    have hy := infr e
    obtain ⟨i, hi⟩ := List.mem_iff_getElem?.mp hy
    obtain ⟨j, u, j1, j2, _⟩ := at_ i y hi
    exact ⟨u, R y c j u (sub e) j1 j2 (cel y hy)⟩
  refine ⟨⟨len, fun y c e => ?_, fun x y c e1 e2 => inj x y c (sub e1) (sub e2), fun i y e => ?_⟩, fun b hb => ?_⟩
  · obtain ⟨u, _, z⟩ := one e
    exact ⟨u, z⟩
  · have hy := List.mem_of_getElem? e
    obtain ⟨c, hc⟩ := cell_has (n := L + 1) (cel y hy)
    refine ⟨c, ?_, fun v hv => ?_⟩
    · rw [hcl]
      exact clo_has hfree (PySem.mem_of_lookup (S.frk y hy)) hc
    · obtain ⟨j, u, j1, j2, j3⟩ := at_ i y e
      rw [hv] at j3
      cases j3
      exact (R y c j v hc j1 j2 (cel y hy)).2
  · obtain ⟨y, e⟩ := F.of_cells hb
    obtain ⟨u, z, _⟩ := one e
    exact z
end
/-! ### ready_worth -/
abbrev nmReady : List Str := ["expression", "owns", "kind", "number", "at", "deed", "left", "right"]
abbrev psReady : List Str := ["expression", "owns"]
theorem scReady : FnScope nmReady psReady (defScope sReady) := ⟨rfl, rfl, rfl, by decide +kernel, rfl, by decide +kernel, by decide +kernel⟩
/-- the lambdas' own name -/
def qReady : Str := (envOfC "ready_worth" (defScope sReady) 0 0 .none).qual ++ "<lambda>"
/-- a lambda that ready_worth made, its frame at L0 -/
abbrev mkReady (L : Expr) (L0 c' : Addr) : LF := ⟨qReady, lamP L, lamB L, lamS L, cloFrom (cellsFrom (L0 + 1) (defScope sReady).names []) (lamS L).names [], c'⟩
def spReady (T : List NTab) (G : Dd → Addr → Prop) (n : Nat) : Sp := fun vs H Q _ => ∃ (v : V) (o : Addr) (e : Ex) (xs : List Str), vs = [v, .ref o] ∧ ExAt H v e ∧ e.deep ≤ n ∧ e.good xs ∧ H o = some (.lst (xs.map V.str)) ∧ TabsN T H ∧
  ∀ f H', Gr T H H' → CloE G xs e H' f → Q (.ref f) H'
/-- the first place of a name -/
theorem first_at {x : Str} : ∀ {xs : List Str}, x ∈ xs → ∃ i : Nat, xs[i]? = some x ∧ ∀ j, j < i → xs[j]? ≠ some x
  | y :: r, h => by
    by_cases e : y = x
    · exact ⟨0, by rw [e]; rfl, fun j hj => absurd hj (Nat.not_lt_zero _)⟩
    · rcases List.mem_cons.mp h with z | z
      · exact absurd z.symm e
      · obtain ⟨i, h1, h2⟩ := first_at z
        refine ⟨i + 1, h1, fun j hj => ?_⟩
        cases j with
        | zero => exact fun z => e (Option.some.inj z)
        | succ j => exact h2 j (by omega)
theorem strs_flat : ∀ xs : List Str, (xs.map V.str).all flatV = true
  | [] => rfl
  | x :: r => by
    rw [List.map_cons, List.all_cons, strs_flat r]
    rfl
/-- the table of deeds, each a def that keeps its promise -/
structure DeedsT (P : Program) (w : World) (K : PySem.W.Frag) (mg : Str → Option Value) (base : Heap) : Prop where
  ex : ∃ D : Addr, mg "DEEDS" = some (.ref D) ∧ ∀ d : Dd, ∃ g : Addr, KDct K w D d.word (.ref g) ∧ DeedIs P w K mg base d g
section
variable {P : Program} {w : World} {K : PySem.W.Frag} {mg : Str → Option Value} {base : Heap} {f c Pt : Addr} {fd : FuncData} {T : List NTab}
theorem no_ready : FnOk P w K mg base CX0 0 f fd psReady (spReady T (DeedIs P w K mg base) 0) := by
  have no : ∀ vs H Q E, ¬ spReady T (DeedIs P w K mg base) 0 vs H Q E := fun vs H Q E h => by
    obtain ⟨v, o, e, xs, _, _, hd, _⟩ := h
    cases e <;> exact absurd hd (by show ¬ _ ≤ 0; exact Nat.not_succ_le_zero _)
  exact ⟨fun vs H Q E h => absurd h (no vs H Q E), fun A outer s H args us vs Q E _ _ _ _ h => absurd h (no vs H Q E)⟩
theorem ok_ready {n : Nat} (F : FunC K "ready_worth" "ready_worth" sReady f fd c) (TB : TabB base mg c Pt) (hm : (Pt, fun _ _ => qReady) ∈ T) (hu : ∀ p ∈ T, p.1 = Pt → p.2 = fun _ _ => qReady) (G : FnOk P w K mg base CX0 (n + 1) f fd psReady (spReady T (DeedIs P w K mg base) n))
    (D : DeedsT P w K mg base) (mR : mg "ready_worth" = some (.ref f)) (bR : Binds K fd psReady []) : FnOk P w K mg base CX0 (n + 2) f fd psReady (spReady T (DeedIs P w K mg base) (n + 1)) := by
  refine fun_c F scReady (fun vs H Q E h => ?_) (fun A outer s H vs Q E hr h => ?_)
  · obtain ⟨v, o, e, xs, rfl, _⟩ := h
    rfl
  obtain ⟨v, o, e, xs, rfl, hv, hd, hg, ho, hT, q⟩ := h
  obtain ⟨DA, mD, hD⟩ := D.ex
  let X := cxOf CX0 P w K mg base nmReady "ready_worth" (defScope sReady) f (.ref c) A outer s H E
  have TBx : TabB X.base X.mg c Pt := TB
  refine ⟨_, prs_cons (pr_go (ps_set (i := 2) scReady.nd rfl (Or.inl rfl) (pe_ix ix_tup (pv 0) pe_int (fun _ _ => rfl))))
    (prs_cons (pr_if (pt_cmpR op_eq (pv 2) pe_str (nomark _)) (prs_cons (pr_go (ps_set (i := 3) scReady.nd rfl (Or.inr rfl) (pe_ix ix_tup (pv 0) pe_int (fun _ _ => rfl)))) (prs_one (pr_ret (pe_lamb TBx rfl hm rfl hu rfl (ndef_free (sc := defScope sReady) (fr := []) (by decide +kernel)))))) prs_nil)
    (prs_cons (pr_if (pt_cmpR op_eq (pv 2) pe_str (nomark _)) (prs_cons (pr_go (ps_set (i := 4) scReady.nd rfl (Or.inr rfl) (pe_bm PySem.F.plainAttrs_list PySem.F.slot_list_index PySem.F.type_list_index mt_index (pv 1) (pa_cons (pe_ix ix_tup (pv 0) pe_int (fun _ _ => rfl)) pa_nil)))) (prs_one (pr_ret (pe_lamb TBx rfl hm rfl hu rfl (ndef_free (sc := defScope sReady) (fr := []) (by decide +kernel)))))) prs_nil)
    (prs_cons (pr_if (pt_cmpR op_eq (pv 2) pe_str (nomark _)) (prs_one (pr_ret (pe_lamb TBx rfl hm rfl hu rfl (ndef_free (sc := defScope sReady) (fr := []) (by decide +kernel))))) prs_nil)
    (prs_cons (pr_if (pt_cmpR op_eq (pv 2) pe_str (nomark _)) (prs_one (pr_ret (pe_lamb TBx rfl hm rfl hu rfl (ndef_free (sc := defScope sReady) (fr := []) (by decide +kernel))))) prs_nil)
    (prs_cons (pr_go (ps_set (i := 5) scReady.nd rfl (Or.inr rfl) (pe_ix ix_kdict (pe_glob (v := .ref DA) rfl mD rfl) (pv 2) (fun _ _ => rfl))))
    (prs_cons (pr_go (ps_set (i := 6) scReady.nd rfl (Or.inr rfl) (pe_call G hr rfl mR F.kp bR .nil pass0 (pa_cons (pe_ix ix_tup (pv 0) pe_int (fun _ _ => rfl)) (pa_cons (pv 1) pa_nil)))))
    (prs_cons (pr_go (ps_set (i := 7) scReady.nd rfl (Or.inr rfl) (pe_call G hr rfl mR F.kp bR .nil pass0 (pa_cons (pe_ix ix_tup (pv 0) pe_int (fun _ _ => rfl)) (pa_cons (pv 1) pa_nil)))))
    (prs_one (pr_ret (pe_lamb TBx rfl hm rfl hu rfl (ndef_free (sc := defScope sReady) (fr := []) (by decide +kernel)))))))))))), ?_⟩
  cases hv with
  | num h =>
    rename_i a m
    refine ⟨_, rfl, _, _, _, _, rfl, rfl, SqT.of h, atI_nat (j := 0) rfl, ?_⟩
    refine ⟨_, rfl, rfl, _, rfl, itT eq_str ?_⟩
    refine ⟨_, rfl, _, _, _, _, rfl, rfl, SqT.of h, atI_nat (j := 1) rfl, hT, fun g c' H1 eN nn T1 f0 f1 c1 H2 sm R _ inj => ?_⟩
    obtain ⟨C, _⟩ := caps_ret (F := mkReady lamN s.heap.objs.size c') (ws := [.int m]) R inj rfl scN (by decide +kernel) rfl fun i y e => match i, e with | 0, e => by cases e; exact ⟨3, _, rfl, rfl, rfl⟩ | _ + 1, e => by cases e
    exact q g H2 ⟨eN.trans (ExtN.of sm), fun b z => nn b (same_no sm b z), T1.ext sm⟩ ⟨_, ⟨sm _ _ f1, rfl, rfl, rfl, sm _ _ c1⟩, C⟩
  | box h =>
    rename_i a x
    obtain ⟨i, i1, i2⟩ := first_at hg
    refine ⟨_, rfl, _, _, _, _, rfl, rfl, SqT.of h, atI_nat (j := 0) rfl, ?_⟩
    refine ⟨_, rfl, rfl, _, rfl, itF (ne_str (by decide)) ?_⟩
    refine ⟨_, rfl, rfl, _, rfl, itT eq_str ?_⟩
    refine ⟨_, rfl, .inl ⟨rfl, _, SqL.of ho⟩, _, rfl, _, _, _, _, rfl, rfl, SqT.of h, atI_nat (j := 1) rfl, o, _, _, i, .str x, rfl, rfl, SqL.of ho, rfl, strs_flat xs, by rw [List.getElem?_map, i1]; rfl, by simp [eqV], fun j z hj hz => ?_, ?_⟩
    · rw [List.getElem?_map] at hz
      cases ez : xs[j]? with
      | none => rw [ez] at hz; cases hz
      | some y =>
        rw [ez] at hz
        cases hz
        have : y ≠ x := fun e => i2 j hj (by rw [ez, e])
        simp [eqV, this]
    · refine ⟨hT, fun g c' H1 eN nn T1 f0 f1 c1 H2 sm R _ inj => ?_⟩
      obtain ⟨C, _⟩ := caps_ret (F := mkReady lamX s.heap.objs.size c') (ws := [.int i]) R inj rfl scX (by decide +kernel) rfl fun i y e => match i, e with | 0, e => by cases e; exact ⟨4, _, rfl, rfl, rfl⟩ | _ + 1, e => by cases e
      exact q g H2 ⟨eN.trans (ExtN.of sm), fun b z => nn b (same_no sm b z), T1.ext sm⟩ ⟨_, i, ⟨sm _ _ f1, rfl, rfl, rfl, sm _ _ c1⟩, C, i1, i2⟩
  | asked h =>
    refine ⟨_, rfl, _, _, _, _, rfl, rfl, SqT.of h, atI_nat (j := 0) rfl, ?_⟩
    refine ⟨_, rfl, rfl, _, rfl, itF (ne_str (by decide)) ?_⟩
    refine ⟨_, rfl, rfl, _, rfl, itF (ne_str (by decide)) ?_⟩
    refine ⟨_, rfl, rfl, _, rfl, itT eq_str ?_⟩
    refine ⟨hT, fun g c' H1 eN nn T1 f0 f1 c1 H2 sm R _ inj => ?_⟩
    obtain ⟨C, _⟩ := caps_ret (F := mkReady lamA s.heap.objs.size c') (ws := []) R inj rfl scA (by decide +kernel) rfl fun i y e => by cases e
    exact q g H2 ⟨eN.trans (ExtN.of sm), fun b z => nn b (same_no sm b z), T1.ext sm⟩ ⟨_, ⟨sm _ _ f1, rfl, rfl, rfl, sm _ _ c1⟩, C⟩
  | told h =>
    refine ⟨_, rfl, _, _, _, _, rfl, rfl, SqT.of h, atI_nat (j := 0) rfl, ?_⟩
    refine ⟨_, rfl, rfl, _, rfl, itF (ne_str (by decide)) ?_⟩
    refine ⟨_, rfl, rfl, _, rfl, itF (ne_str (by decide)) ?_⟩
    refine ⟨_, rfl, rfl, _, rfl, itF (ne_str (by decide)) ?_⟩
    refine ⟨_, rfl, rfl, _, rfl, itT eq_str ?_⟩
    refine ⟨hT, fun g c' H1 eN nn T1 f0 f1 c1 H2 sm R _ inj => ?_⟩
    obtain ⟨C, _⟩ := caps_ret (F := mkReady lamT s.heap.objs.size c') (ws := []) R inj rfl scT (by decide +kernel) rfl fun i y e => by cases e
    exact q g H2 ⟨eN.trans (ExtN.of sm), fun b z => nn b (same_no sm b z), T1.ext sm⟩ ⟨_, ⟨sm _ _ f1, rfl, rfl, rfl, sm _ _ c1⟩, C⟩
  | op h h1 h2 =>
    rename_i p d x y l r
    have w1 : d.word ≠ "number" ∧ d.word ≠ "box" ∧ d.word ≠ "asked" ∧ d.word ≠ "told" := by cases d <;> decide
    obtain ⟨g, kd, gd⟩ := hD d
    have dl : l.deep ≤ n := Nat.le_trans (Nat.le_max_left ..) (Nat.le_of_succ_le_succ hd)
    have dr : r.deep ≤ n := Nat.le_trans (Nat.le_max_right ..) (Nat.le_of_succ_le_succ hd)
    refine ⟨_, rfl, _, _, _, _, rfl, rfl, SqT.of h, atI_nat (j := 0) rfl, ?_⟩
    refine ⟨_, rfl, rfl, _, rfl, itF (ne_str w1.1) ?_⟩
    refine ⟨_, rfl, rfl, _, rfl, itF (ne_str w1.2.1) ?_⟩
    refine ⟨_, rfl, rfl, _, rfl, itF (ne_str w1.2.2.1) ?_⟩
    refine ⟨_, rfl, rfl, _, rfl, itF (ne_str w1.2.2.2) ?_⟩
    refine ⟨_, rfl, DA, d.word, .ref g, rfl, rfl, kd, ?_⟩
    refine ⟨_, rfl, _, _, _, _, rfl, rfl, SqT.of h, atI_nat (j := 1) rfl, _, rfl, x, o, l, xs, rfl, h1, dl, hg.1, ho, hT, fun fl H1 g1 cl1 => ?_⟩
    refine ⟨_, rfl, _, _, _, _, rfl, rfl, SqT.of (g1.tup h), atI_nat (j := 2) rfl, _, rfl, y, o, r, xs, rfl, h2.keep g1.tups, dr, hg.2, g1.lst ho, g1.tabs, fun fr H2 g2 cl2 => ?_⟩
    refine ⟨g2.tabs, fun fo c' H3 eN nn T3 f0 f1 c1 H4 sm R _ inj => ?_⟩
    obtain ⟨C, cn⟩ := caps_ret (F := mkReady lamO s.heap.objs.size c') (ws := [.ref g, .ref fl, .ref fr]) R inj rfl scO (by decide +kernel) rfl fun i y e => match i, e with | 0, e => by cases e; exact ⟨5, _, rfl, rfl, rfl⟩ | 1, e => by cases e; exact ⟨6, _, rfl, rfl, rfl⟩ | 2, e => by cases e; exact ⟨7, _, rfl, rfl, rfl⟩ | _ + 3, e => by cases e
    have g12 := g1.trans g2
    have ex : ∀ cs : List Addr, (∀ b ∈ cs, H3 b = none) → ExtN H3 (hid H4 cs) := fun cs hc b o hb _ => by
      rw [hid_out (fun z => by rw [hc b z] at hb; cases hb)]
      exact sm _ _ hb
    refine q fo H4 ⟨(g12.ext.trans eN).trans (ExtN.of sm), fun b z => g12.no b (nn b (same_no sm b z)), T3.ext sm⟩ ⟨_, g, fl, fr, ⟨sm _ _ f1, rfl, rfl, rfl, sm _ _ c1⟩, C, gd, ?_, ?_⟩
    · exact ((cl1.ext g2.ext).ext eN).ext (ex _ cn)
    · exact (cl2.ext eN).ext (ex _ cn)
theorem all_ready (F : FunC K "ready_worth" "ready_worth" sReady f fd c) (TB : TabB base mg c Pt) (hm : (Pt, fun _ _ => qReady) ∈ T) (hu : ∀ p ∈ T, p.1 = Pt → p.2 = fun _ _ => qReady) (D : DeedsT P w K mg base) (mR : mg "ready_worth" = some (.ref f)) (bR : Binds K fd psReady []) :
    ∀ n : Nat, FnOk P w K mg base CX0 (n + 1) f fd psReady (spReady T (DeedIs P w K mg base) n)
  | 0 => no_ready.mono (by omega)
  | n + 1 => ok_ready F TB hm hu (all_ready F TB hm hu D mR bR n) D mR bR
end
theorem bx_names : ∀ kvs : List (Str × Int), (bx kvs).map (fun kv => kV kv.1) = (namesOf kvs).map V.str
  | [] => rfl
  | p :: r => by
    have ih := bx_names r
    unfold bx namesOf at ih ⊢
    rw [List.map_cons, List.map_cons, List.map_cons, List.map_cons, ih]
    rfl
theorem bx_nums : ∀ kvs : List (Str × Int), (bx kvs).map (·.2) = numsV kvs
  | [] => rfl
  | p :: r => by
    have ih := bx_nums r
    unfold bx numsV at ih ⊢
    rw [List.map_cons, List.map_cons, List.map_cons, ih]
theorem look_in : ∀ {kvs : List (Str × Int)} {x : Str} {n : Int}, look kvs x = some n → x ∈ namesOf kvs
  | [], x, n, h => by cases h
  | p :: r, x, n, h => by
    by_cases e : p.1 = x
    · rw [← e]
      exact List.mem_cons_self ..
    · refine List.mem_cons_of_mem _ (look_in (n := n) ?_)
      unfold look at h ⊢
      rw [List.find?_cons, decide_eq_false e] at h
      exact h
theorem Ex.good_of {kvs : List (Str × Int)} {xs : List Str} (B : Bx kvs xs) : ∀ {e : Ex}, e.good xs → e.good (namesOf kvs)
  | .num _, h => h
  | .box x, h => by
    obtain ⟨n, e, _⟩ := B.all x h
    exact look_in e
  | .asked, _ => trivial
  | .told, _ => trivial
  | .op _ l r, h => ⟨Ex.good_of B h.1, Ex.good_of B h.2⟩
end Any
set_option maxHeartbeats 1000000
namespace Any
open L2 PySem PySem.Spec PyProof.Rows LamX NdefX
/-! ### tests as trees -/
inductive Ts
  | is (l r : Ex) | bel (l r : Ex) | nt (t : Ts) | both (t u : Ts) | either (t u : Ts)
def Ts.deep : Ts → Nat
  | .is _ _ => 1
  | .bel _ _ => 1
  | .nt t => t.deep + 1
  | .both t u => max t.deep u.deep + 1
  | .either t u => max t.deep u.deep + 1
/-- of these boxes, its expressions not too deep -/
def Ts.good (xs : List Str) : Ts → Prop
  | .is l r => (l.good xs ∧ l.deep ≤ 6) ∧ (r.good xs ∧ r.deep ≤ 6)
  | .bel l r => (l.good xs ∧ l.deep ≤ 6) ∧ (r.good xs ∧ r.deep ≤ 6)
  | .nt t => t.good xs
  | .both t u => t.good xs ∧ u.good xs
  | .either t u => t.good xs ∧ u.good xs
def Ts.val (kvs : List (Str × Int)) (a t : Int) : Ts → Bool
  | .is l r => decide (l.val kvs a t = r.val kvs a t)
  | .bel l r => decide (l.val kvs a t < r.val kvs a t)
  | .nt x => !x.val kvs a t
  | .both x y => x.val kvs a t && y.val kvs a t
  | .either x y => x.val kvs a t || y.val kvs a t
inductive TsAt (H : Hp) : V → Ts → Prop
  | is {a : Addr} {v u : V} {l r : Ex} : H a = some (.tup [.str "is", v, u]) → ExAt H v l → ExAt H u r → TsAt H (.ref a) (.is l r)
  | bel {a : Addr} {v u : V} {l r : Ex} : H a = some (.tup [.str "below", v, u]) → ExAt H v l → ExAt H u r → TsAt H (.ref a) (.bel l r)
  | nt {a : Addr} {v : V} {t : Ts} : H a = some (.tup [.str "not", v]) → TsAt H v t → TsAt H (.ref a) (.nt t)
  | both {a : Addr} {v u : V} {l r : Ts} : H a = some (.tup [.str "both", v, u]) → TsAt H v l → TsAt H u r → TsAt H (.ref a) (.both l r)
  | either {a : Addr} {v u : V} {l r : Ts} : H a = some (.tup [.str "either", v, u]) → TsAt H v l → TsAt H u r → TsAt H (.ref a) (.either l r)
theorem TsAt.keep {H H' : Hp} (k : Tups H H') {v : V} {e : Ts} (h : TsAt H v e) : TsAt H' v e := by
  induction h with
  | is h h1 h2 => exact .is (k _ _ h) (h1.keep k) (h2.keep k)
  | bel h h1 h2 => exact .bel (k _ _ h) (h1.keep k) (h2.keep k)
  | nt h _ i1 => exact .nt (k _ _ h) i1
  | both h _ _ i1 i2 => exact .both (k _ _ h) i1 i2
  | either h _ _ i1 i2 => exact .either (k _ _ h) i1 i2


abbrev sRT : Stmt := top 9
abbrev sRC : Stmt := top 10
abbrev lamNt : Expr := retE (stN (ifB (stN (defBody sRT) 1)) 1)
abbrev lamBo : Expr := retE (stN (ifB (stN (defBody sRT) 5)) 0)
abbrev lamEi : Expr := retE (stN (defBody sRT) 6)
abbrev lamIs : Expr := retE (stN (ifB (stN (defBody sRC) 0)) 0)
abbrev lamBe : Expr := retE (stN (defBody sRC) 1)
theorem scNt : NScope ["boxes", "asked", "told", "inner"] psL ["inner"] (lamS lamNt) := nscope_by (by decide +kernel)
theorem scBo : NScope ["boxes", "asked", "told", "first", "second"] psL ["first", "second"] (lamS lamBo) := nscope_by (by decide +kernel)
theorem scEi : NScope ["boxes", "asked", "told", "first", "second"] psL ["first", "second"] (lamS lamEi) := nscope_by (by decide +kernel)
theorem scIs : NScope ["boxes", "asked", "told", "left", "right"] psL ["left", "right"] (lamS lamIs) := nscope_by (by decide +kernel)
theorem scBe : NScope ["boxes", "asked", "told", "left", "right"] psL ["left", "right"] (lamS lamBe) := nscope_by (by decide +kernel)
/-- the lambda at f tells whether e holds -/
def CloT (G : Dd → Addr → Prop) (xs : List Str) : Ts → Hp → Addr → Prop
  | .is l r, H, f => ∃ (F : LF) (fl fr : Addr), Made H f F lamIs ∧ CapsAt H F ["left", "right"] [.ref fl, .ref fr] ∧ CloE G xs l (hid H F.cells) fl ∧ CloE G xs r (hid H F.cells) fr
  | .bel l r, H, f => ∃ (F : LF) (fl fr : Addr), Made H f F lamBe ∧ CapsAt H F ["left", "right"] [.ref fl, .ref fr] ∧ CloE G xs l (hid H F.cells) fl ∧ CloE G xs r (hid H F.cells) fr
  | .nt t, H, f => ∃ (F : LF) (fi : Addr), Made H f F lamNt ∧ CapsAt H F ["inner"] [.ref fi] ∧ CloT G xs t (hid H F.cells) fi
  | .both t u, H, f => ∃ (F : LF) (fl fr : Addr), Made H f F lamBo ∧ CapsAt H F ["first", "second"] [.ref fl, .ref fr] ∧ CloT G xs t (hid H F.cells) fl ∧ CloT G xs u (hid H F.cells) fr
  | .either t u, H, f => ∃ (F : LF) (fl fr : Addr), Made H f F lamEi ∧ CapsAt H F ["first", "second"] [.ref fl, .ref fr] ∧ CloT G xs t (hid H F.cells) fl ∧ CloT G xs u (hid H F.cells) fr
theorem CloT.ext {G : Dd → Addr → Prop} {xs : List Str} : ∀ {e : Ts} {H H' : Hp} {f : Addr}, CloT G xs e H f → ExtN H H' → CloT G xs e H' f
  | .is _ _, _, _, _, ⟨F, a, b, m, c, h1, h2⟩, e => ⟨F, a, b, m.ext e, c.ext e, h1.ext (hid_ext e _), h2.ext (hid_ext e _)⟩
  | .bel _ _, _, _, _, ⟨F, a, b, m, c, h1, h2⟩, e => ⟨F, a, b, m.ext e, c.ext e, h1.ext (hid_ext e _), h2.ext (hid_ext e _)⟩
  | .nt _, _, _, _, ⟨F, a, m, c, h1⟩, e => ⟨F, a, m.ext e, c.ext e, CloT.ext h1 (hid_ext e _)⟩
  | .both _ _, _, _, _, ⟨F, a, b, m, c, h1, h2⟩, e => ⟨F, a, b, m.ext e, c.ext e, CloT.ext h1 (hid_ext e _), CloT.ext h2 (hid_ext e _)⟩
  | .either _ _, _, _, _, ⟨F, a, b, m, c, h1, h2⟩, e => ⟨F, a, b, m.ext e, c.ext e, CloT.ext h1 (hid_ext e _), CloT.ext h2 (hid_ext e _)⟩
theorem CloT.lm {G : Dd → Addr → Prop} {xs : List Str} : ∀ {e : Ts} {H : Hp} {f : Addr}, CloT G xs e H f → IsLm H f
  | .is _ _, _, _, ⟨F, _, _, m, _⟩ => ⟨F, m.at_⟩
  | .bel _ _, _, _, ⟨F, _, _, m, _⟩ => ⟨F, m.at_⟩
  | .nt _, _, _, ⟨F, _, m, _⟩ => ⟨F, m.at_⟩
  | .both _ _, _, _, ⟨F, _, _, m, _⟩ => ⟨F, m.at_⟩
  | .either _ _, _, _, ⟨F, _, _, m, _⟩ => ⟨F, m.at_⟩
def spCloT (G : Dd → Addr → Prop) (n : Nat) (f : Addr) : Sp := fun vs H Q _ => ∃ (e : Ts) (kvs : List (Str × Int)) (xs : List Str) (b : Addr) (a t : Int), vs = [.ref b, .int a, .int t] ∧ e.deep ≤ n ∧ H b = some (.lst (numsV kvs)) ∧ CloT G (namesOf kvs) e H f ∧ e.good xs ∧ Bx kvs xs ∧
  (0 ≤ a ∧ a < 1024) ∧ (0 ≤ t ∧ t < 1024) ∧ Q (.bl (e.val kvs a t)) H
section
variable {P : Program} {w : World} {K : PySem.W.Frag} {mg : Str → Option Value} {base : Heap}
theorem no_cloT {k : Nat} : FnL P w K mg base k (spCloT (DeedIs P w K mg base) 0) := fun f A outer s H us vs Q _ _ _ h => by
  obtain ⟨e, kvs, xs, b, a, t, _, hd, _⟩ := h
  cases e <;> exact absurd hd (by show ¬ _ ≤ 0; exact Nat.not_succ_le_zero _)
theorem ok_cloT {n : Nat} (G : FnL P w K mg base (n + 7) (spCloT (DeedIs P w K mg base) n)) : FnL P w K mg base (n + 8) (spCloT (DeedIs P w K mg base) (n + 1)) := by
  intro f A outer s H us vs Q hr e0 rv h
  obtain ⟨e, kvs, xs, b, a, t, rfl, hd, hb, hc, hg, B, ha, ht, q⟩ := h
  have G6 : FnL P w K mg base 7 (spClo (DeedIs P w K mg base) 6) := all_clo 6
  cases e with
  | is l r =>
    obtain ⟨⟨qu, pa, bo, sc, cl, co⟩, fl, fr, M, C, h1, h2⟩ := hc
    obtain ⟨m1, rfl, rfl, rfl, m5⟩ := M
    refine lam_run (k := n + 7) (N := ["boxes", "asked", "told", "left", "right"]) (ws := [.ref fl, .ref fr]) scIs (fun pm ctv us hl => match us, hl with | [_, _, _], _ => rfl) hr e0 m1 m5 C rv rfl fun hr =>
      ⟨_, pe_cmpR op_eq (pe_callL (i := 3) G6 (hr.mono (by omega)) rfl (.inr (.inr rfl)) (pa_cons (pv 0) (pa_cons (pv 1) (pa_cons (pv 2) pa_nil)))) (pe_callL (i := 4) G6 (hr.mono (by omega)) rfl (.inr (.inr rfl)) (pa_cons (pv 0) (pa_cons (pv 1) (pa_cons (pv 2) pa_nil)))) (nomark _), ?_⟩
    refine ⟨fl, rfl, h1.lm, _, rfl, _, rfl, _, rfl, h1.lm, l, kvs, xs, b, a, t, rfl, hg.1.2, hg.1.2, lst_hid C hb, h1, hg.1.1, B, ha, ht, ?_⟩
    refine ⟨fr, rfl, h2.lm, _, rfl, _, rfl, _, rfl, h2.lm, r, kvs, xs, b, a, t, rfl, hg.2.2, hg.2.2, lst_hid C hb, h2, hg.2.1, B, ha, ht, rfl, ?_⟩
    rw [show decide (V.int (l.val kvs a t) = V.int (r.val kvs a t)) = decide (l.val kvs a t = r.val kvs a t) from decide_eq_decide.mpr ⟨fun z => V.int.inj z, fun z => by rw [z]⟩]
    exact back q
  | bel l r =>
    obtain ⟨⟨qu, pa, bo, sc, cl, co⟩, fl, fr, M, C, h1, h2⟩ := hc
    obtain ⟨m1, rfl, rfl, rfl, m5⟩ := M
    refine lam_run (k := n + 7) (N := ["boxes", "asked", "told", "left", "right"]) (ws := [.ref fl, .ref fr]) scBe (fun pm ctv us hl => match us, hl with | [_, _, _], _ => rfl) hr e0 m1 m5 C rv rfl fun hr =>
      ⟨_, pe_cmpR op_lt (pe_callL (i := 3) G6 (hr.mono (by omega)) rfl (.inr (.inr rfl)) (pa_cons (pv 0) (pa_cons (pv 1) (pa_cons (pv 2) pa_nil)))) (pe_callL (i := 4) G6 (hr.mono (by omega)) rfl (.inr (.inr rfl)) (pa_cons (pv 0) (pa_cons (pv 1) (pa_cons (pv 2) pa_nil)))) (nomark _), ?_⟩
    refine ⟨fl, rfl, h1.lm, _, rfl, _, rfl, _, rfl, h1.lm, l, kvs, xs, b, a, t, rfl, hg.1.2, hg.1.2, lst_hid C hb, h1, hg.1.1, B, ha, ht, ?_⟩
    exact ⟨fr, rfl, h2.lm, _, rfl, _, rfl, _, rfl, h2.lm, r, kvs, xs, b, a, t, rfl, hg.2.2, hg.2.2, lst_hid C hb, h2, hg.2.1, B, ha, ht, _, _, rfl, rfl, back q⟩
  | nt x =>
    obtain ⟨⟨qu, pa, bo, sc, cl, co⟩, fi, M, C, h1⟩ := hc
    obtain ⟨m1, rfl, rfl, rfl, m5⟩ := M
    refine lam_run (k := n + 7) (N := ["boxes", "asked", "told", "inner"]) (ws := [.ref fi]) scNt (fun pm ctv us hl => match us, hl with | [_, _, _], _ => rfl) hr e0 m1 m5 C rv rfl fun hr =>
      ⟨_, pe_not (pe_callL (i := 3) G hr rfl (.inr (.inr rfl)) (pa_cons (pv 0) (pa_cons (pv 1) (pa_cons (pv 2) pa_nil)))), ?_⟩
    exact ⟨fi, rfl, h1.lm, _, rfl, _, rfl, _, rfl, h1.lm, x, kvs, xs, b, a, t, rfl, Nat.le_of_succ_le_succ hd, lst_hid C hb, h1, hg, B, ha, ht, _, rfl, back q⟩
  | both x y =>
    obtain ⟨⟨qu, pa, bo, sc, cl, co⟩, fl, fr, M, C, h1, h2⟩ := hc
    obtain ⟨m1, rfl, rfl, rfl, m5⟩ := M
    have dl : x.deep ≤ n := Nat.le_trans (Nat.le_max_left ..) (Nat.le_of_succ_le_succ hd)
    have dr : y.deep ≤ n := Nat.le_trans (Nat.le_max_right ..) (Nat.le_of_succ_le_succ hd)
    refine lam_run (k := n + 7) (N := ["boxes", "asked", "told", "first", "second"]) (ws := [.ref fl, .ref fr]) scBo (fun pm ctv us hl => match us, hl with | [_, _, _], _ => rfl) hr e0 m1 m5 C rv rfl fun hr =>
      ⟨_, pe_and (pe_callL (i := 3) G hr rfl (.inr (.inr rfl)) (pa_cons (pv 0) (pa_cons (pv 1) (pa_cons (pv 2) pa_nil)))) (pe_one (pe_callL (i := 4) G hr rfl (.inr (.inr rfl)) (pa_cons (pv 0) (pa_cons (pv 1) (pa_cons (pv 2) pa_nil))))), ?_⟩
    have z : Q (.bl (x.val kvs a t && y.val kvs a t)) H := q
    refine ⟨fl, rfl, h1.lm, _, rfl, _, rfl, _, rfl, h1.lm, x, kvs, xs, b, a, t, rfl, dl, lst_hid C hb, h1, hg.1, B, ha, ht, _, rfl, ?_⟩
    cases e1 : x.val kvs a t with
    | false => rw [e1] at z; exact itF rfl (back z)
    | true => rw [e1] at z; exact itT rfl ⟨fr, rfl, h2.lm, _, rfl, _, rfl, _, rfl, h2.lm, y, kvs, xs, b, a, t, rfl, dr, lst_hid C hb, h2, hg.2, B, ha, ht, back z⟩
  | either x y =>
    obtain ⟨⟨qu, pa, bo, sc, cl, co⟩, fl, fr, M, C, h1, h2⟩ := hc
    obtain ⟨m1, rfl, rfl, rfl, m5⟩ := M
    have dl : x.deep ≤ n := Nat.le_trans (Nat.le_max_left ..) (Nat.le_of_succ_le_succ hd)
    have dr : y.deep ≤ n := Nat.le_trans (Nat.le_max_right ..) (Nat.le_of_succ_le_succ hd)
    refine lam_run (k := n + 7) (N := ["boxes", "asked", "told", "first", "second"]) (ws := [.ref fl, .ref fr]) scEi (fun pm ctv us hl => match us, hl with | [_, _, _], _ => rfl) hr e0 m1 m5 C rv rfl fun hr =>
      ⟨_, pe_or (pe_callL (i := 3) G hr rfl (.inr (.inr rfl)) (pa_cons (pv 0) (pa_cons (pv 1) (pa_cons (pv 2) pa_nil)))) (pe_one (pe_callL (i := 4) G hr rfl (.inr (.inr rfl)) (pa_cons (pv 0) (pa_cons (pv 1) (pa_cons (pv 2) pa_nil))))), ?_⟩
    have z : Q (.bl (x.val kvs a t || y.val kvs a t)) H := q
    refine ⟨fl, rfl, h1.lm, _, rfl, _, rfl, _, rfl, h1.lm, x, kvs, xs, b, a, t, rfl, dl, lst_hid C hb, h1, hg.1, B, ha, ht, _, rfl, ?_⟩
    cases e1 : x.val kvs a t with
    | true => rw [e1] at z; exact itT rfl (back z)
    | false => rw [e1] at z; exact itF rfl ⟨fr, rfl, h2.lm, _, rfl, _, rfl, _, rfl, h2.lm, y, kvs, xs, b, a, t, rfl, dr, lst_hid C hb, h2, hg.2, B, ha, ht, back z⟩
theorem all_cloT : ∀ n : Nat, FnL P w K mg base (n + 7) (spCloT (DeedIs P w K mg base) n)
  | 0 => no_cloT
  | n + 1 => ok_cloT (all_cloT n)
end
end Any
set_option maxHeartbeats 1000000
namespace Any
open L2 PySem PySem.Spec PyProof.Rows LamX NdefX
/-! ### ready_comparison, ready_test -/
abbrev nmRC : List Str := ["kind", "left", "right"]
theorem scRC : FnScope nmRC nmRC (defScope sRC) := ⟨rfl, rfl, rfl, by decide +kernel, rfl, by decide +kernel, by decide +kernel⟩
abbrev nmRT : List Str := ["test", "owns", "kind", "inner", "first", "second"]
abbrev psRT : List Str := ["test", "owns"]
theorem scRT : FnScope nmRT psRT (defScope sRT) := ⟨rfl, rfl, rfl, by decide +kernel, rfl, by decide +kernel, by decide +kernel⟩
def qRC : Str := (envOfC "ready_comparison" (defScope sRC) 0 0 .none).qual ++ "<lambda>"
def qRT : Str := (envOfC "ready_test" (defScope sRT) 0 0 .none).qual ++ "<lambda>"
abbrev mkRC (L : Expr) (L0 c' : Addr) : LF := ⟨qRC, lamP L, lamB L, lamS L, cloFrom (cellsFrom (L0 + 1) (defScope sRC).names []) (lamS L).names [], c'⟩
abbrev mkRT (L : Expr) (L0 c' : Addr) : LF := ⟨qRT, lamP L, lamB L, lamS L, cloFrom (cellsFrom (L0 + 1) (defScope sRT).names []) (lamS L).names [], c'⟩
def spRC (T : List NTab) (G : Dd → Addr → Prop) : Sp := fun vs H Q _ => ∃ (k : Str) (fl fr : Addr) (l r : Ex) (xs : List Str), vs = [.str k, .ref fl, .ref fr] ∧ (k = "is" ∨ k = "below") ∧ CloE G xs l H fl ∧ CloE G xs r H fr ∧ TabsN T H ∧
  ∀ f H', Gr T H H' → (k = "is" → CloT G xs (.is l r) H' f) → (k = "below" → CloT G xs (.bel l r) H' f) → Q (.ref f) H'
def spRT (T : List NTab) (G : Dd → Addr → Prop) (n : Nat) : Sp := fun vs H Q _ => ∃ (v : V) (o : Addr) (e : Ts) (xs : List Str), vs = [v, .ref o] ∧ TsAt H v e ∧ e.deep ≤ n ∧ e.good xs ∧ H o = some (.lst (xs.map V.str)) ∧ TabsN T H ∧
  ∀ f H', Gr T H H' → CloT G xs e H' f → Q (.ref f) H'
theorem ext_hid {H3 H4 : Hp} (sm : Same H3 H4) {cs : List Addr} (hc : ∀ b ∈ cs, H3 b = none) : ExtN H3 (hid H4 cs) := fun b o hb _ => by
  rw [hid_out (fun z => by rw [hc b z] at hb; cases hb)]
  exact sm _ _ hb
section
variable {P : Program} {w : World} {K : PySem.W.Frag} {mg : Str → Option Value} {base : Heap} {f c Pt rw_ rc : Addr} {fd rwd rcd : FuncData} {T : List NTab}
theorem ok_rc (F : FunC K "ready_comparison" "ready_comparison" sRC f fd c) (TB : TabB base mg c Pt) (hm : (Pt, fun _ _ => qRC) ∈ T) (hu : ∀ p ∈ T, p.1 = Pt → p.2 = fun _ _ => qRC) : FnOk P w K mg base CX0 1 f fd nmRC (spRC T (DeedIs P w K mg base)) := by
  refine fun_c F scRC (fun vs H Q E h => ?_) (fun A outer s H vs Q E hr h => ?_)
  · obtain ⟨k, fl, fr, l, r, xs, rfl, _⟩ := h
    rfl
  obtain ⟨k, fl, fr, l, r, xs, rfl, hk, h1, h2, hT, q⟩ := h
  let X := cxOf CX0 P w K mg base nmRC "ready_comparison" (defScope sRC) f (.ref c) A outer s H E
  have TBx : TabB X.base X.mg c Pt := TB
  refine ⟨_, prs_cons (pr_if (pt_cmpR op_eq (pv 0) pe_str (nomark _)) (prs_one (pr_ret (pe_lamb TBx rfl hm rfl hu rfl (ndef_free (sc := defScope sRC) (fr := []) (by decide +kernel))))) prs_nil)
    (prs_one (pr_ret (pe_lamb TBx rfl hm rfl hu rfl (ndef_free (sc := defScope sRC) (fr := []) (by decide +kernel))))), ?_⟩
  rcases hk with rfl | rfl
  · refine ⟨_, rfl, rfl, _, rfl, itT eq_str ⟨hT, fun g c' H1 eN nn T1 f0 f1 c1 H2 sm R _ inj => ?_⟩⟩
    obtain ⟨C, cn⟩ := caps_ret (F := mkRC lamIs s.heap.objs.size c') (ws := [.ref fl, .ref fr]) R inj rfl scIs (by decide +kernel) rfl fun i y e => match i, e with | 0, e => by cases e; exact ⟨1, _, rfl, rfl, rfl⟩ | 1, e => by cases e; exact ⟨2, _, rfl, rfl, rfl⟩ | _ + 2, e => by cases e
    exact q g H2 ⟨eN.trans (ExtN.of sm), fun b z => nn b (same_no sm b z), T1.ext sm⟩ (fun _ => ⟨_, fl, fr, ⟨sm _ _ f1, rfl, rfl, rfl, sm _ _ c1⟩, C, (h1.ext eN).ext (ext_hid sm cn), (h2.ext eN).ext (ext_hid sm cn)⟩) fun z => absurd z (by decide)
  · refine ⟨_, rfl, rfl, _, rfl, itF (ne_str (by decide)) ⟨hT, fun g c' H1 eN nn T1 f0 f1 c1 H2 sm R _ inj => ?_⟩⟩
    obtain ⟨C, cn⟩ := caps_ret (F := mkRC lamBe s.heap.objs.size c') (ws := [.ref fl, .ref fr]) R inj rfl scBe (by decide +kernel) rfl fun i y e => match i, e with | 0, e => by cases e; exact ⟨1, _, rfl, rfl, rfl⟩ | 1, e => by cases e; exact ⟨2, _, rfl, rfl, rfl⟩ | _ + 2, e => by cases e
    exact q g H2 ⟨eN.trans (ExtN.of sm), fun b z => nn b (same_no sm b z), T1.ext sm⟩ (fun z => absurd z (by decide)) fun _ => ⟨_, fl, fr, ⟨sm _ _ f1, rfl, rfl, rfl, sm _ _ c1⟩, C, (h1.ext eN).ext (ext_hid sm cn), (h2.ext eN).ext (ext_hid sm cn)⟩
theorem no_rt {k : Nat} : FnOk P w K mg base CX0 k f fd psRT (spRT T (DeedIs P w K mg base) 0) := by
  have no : ∀ vs H Q E, ¬ spRT T (DeedIs P w K mg base) 0 vs H Q E := fun vs H Q E h => by
    obtain ⟨v, o, e, xs, _, _, hd, _⟩ := h
    cases e <;> exact absurd hd (by show ¬ _ ≤ 0; exact Nat.not_succ_le_zero _)
  exact ⟨fun vs H Q E h => absurd h (no vs H Q E), fun A outer s H args us vs Q E _ _ _ _ h => absurd h (no vs H Q E)⟩
theorem ok_rt {n : Nat} (F : FunC K "ready_test" "ready_test" sRT f fd c) (TB : TabB base mg c Pt) (hm : (Pt, fun _ _ => qRT) ∈ T) (hu : ∀ p ∈ T, p.1 = Pt → p.2 = fun _ _ => qRT) (G : FnOk P w K mg base CX0 (n + 7) f fd psRT (spRT T (DeedIs P w K mg base) n)) (mG : mg "ready_test" = some (.ref f)) (bG : Binds K fd psRT [])
    (GW : FnOk P w K mg base CX0 7 rw_ rwd psReady (spReady T (DeedIs P w K mg base) 6)) (mW : mg "ready_worth" = some (.ref rw_)) (kW : PySem.W.keepIn K (.ref rw_) = true) (bW : Binds K rwd psReady [])
    (GC : FnOk P w K mg base CX0 1 rc rcd nmRC (spRC T (DeedIs P w K mg base))) (mC : mg "ready_comparison" = some (.ref rc)) (kC : PySem.W.keepIn K (.ref rc) = true) (bC : Binds K rcd nmRC []) : FnOk P w K mg base CX0 (n + 8) f fd psRT (spRT T (DeedIs P w K mg base) (n + 1)) := by
  refine fun_c F scRT (fun vs H Q E h => ?_) (fun A outer s H vs Q E hr h => ?_)
  · obtain ⟨v, o, e, xs, rfl, _⟩ := h
    rfl
  obtain ⟨v, o, e, xs, rfl, hv, hd, hg, ho, hT, q⟩ := h
  let X := cxOf CX0 P w K mg base nmRT "ready_test" (defScope sRT) f (.ref c) A outer s H E
  have TBx : TabB X.base X.mg c Pt := TB
  have hr7 : Room 7 (A.deeper (envOfC "ready_test" (defScope sRT) s.heap.objs.size f (.ref c))) := hr.mono (by omega)
  have hr1 : Room 1 (A.deeper (envOfC "ready_test" (defScope sRT) s.heap.objs.size f (.ref c))) := hr.mono (by omega)
  have two : 2 ≤ sizeLine := by decide
  refine ⟨_, prs_cons (pr_go (ps_set (i := 2) scRT.nd rfl (Or.inl rfl) (pe_ix ix_tup (pv 0) pe_int (fun _ _ => rfl))))
    (prs_cons (pr_if (pt_cmpR op_eq (pv 2) pe_str (nomark _)) (prs_cons (pr_go (ps_set (i := 3) scRT.nd rfl (Or.inr rfl) (pe_call G hr rfl mG F.kp bG .nil pass0 (pa_cons (pe_ix ix_tup (pv 0) pe_int (fun _ _ => rfl)) (pa_cons (pv 1) pa_nil))))) (prs_one (pr_ret (pe_lamb TBx rfl hm rfl hu rfl (ndef_free (sc := defScope sRT) (fr := []) (by decide +kernel)))))) prs_nil)
    (prs_cons (pr_if (pt_cmpR op_in_seq (pv 2) (pe_tup (pa_cons pe_str (pa_cons pe_str pa_nil))) (by rfl)) (prs_one (pr_ret (pe_call GC hr1 rfl mC kC bC .nil pass0 (pa_cons (pv 2) (pa_cons (pe_call GW hr7 rfl mW kW bW .nil pass0 (pa_cons (pe_ix ix_tup (pv 0) pe_int (fun _ _ => rfl)) (pa_cons (pv 1) pa_nil))) (pa_cons (pe_call GW hr7 rfl mW kW bW .nil pass0 (pa_cons (pe_ix ix_tup (pv 0) pe_int (fun _ _ => rfl)) (pa_cons (pv 1) pa_nil))) pa_nil)))))) prs_nil)
    (prs_cons (pr_go (ps_set (i := 4) scRT.nd rfl (Or.inr rfl) (pe_call G hr rfl mG F.kp bG .nil pass0 (pa_cons (pe_ix ix_tup (pv 0) pe_int (fun _ _ => rfl)) (pa_cons (pv 1) pa_nil)))))
    (prs_cons (pr_go (ps_set (i := 5) scRT.nd rfl (Or.inr rfl) (pe_call G hr rfl mG F.kp bG .nil pass0 (pa_cons (pe_ix ix_tup (pv 0) pe_int (fun _ _ => rfl)) (pa_cons (pv 1) pa_nil)))))
    (prs_cons (pr_if (pt_cmpR op_eq (pv 2) pe_str (nomark _)) (prs_one (pr_ret (pe_lamb TBx rfl hm rfl hu rfl (ndef_free (sc := defScope sRT) (fr := []) (by decide +kernel))))) prs_nil)
    (prs_one (pr_ret (pe_lamb TBx rfl hm rfl hu rfl (ndef_free (sc := defScope sRT) (fr := []) (by decide +kernel)))))))))), ?_⟩
  cases hv with
  | nt h h1 =>
    rename_i p0 x l
    refine ⟨_, rfl, _, _, _, _, rfl, rfl, SqT.of h, atI_nat (j := 0) rfl, ?_⟩
    refine ⟨_, rfl, rfl, _, rfl, itT eq_str ?_⟩
    refine ⟨_, rfl, _, _, _, _, rfl, rfl, SqT.of h, atI_nat (j := 1) rfl, _, rfl, x, o, l, xs, rfl, h1, Nat.le_of_succ_le_succ hd, hg, ho, hT, fun fi H1 g1 cl1 => ?_⟩
    refine ⟨g1.tabs, fun g c' H2 eN nn T2 f0 f1 c1 H3 sm R _ inj => ?_⟩
    obtain ⟨C, cn⟩ := caps_ret (F := mkRT lamNt s.heap.objs.size c') (ws := [.ref fi]) R inj rfl scNt (by decide +kernel) rfl fun i y e => match i, e with | 0, e => by cases e; exact ⟨3, _, rfl, rfl, rfl⟩ | _ + 1, e => by cases e
    exact q g H3 ⟨(g1.ext.trans eN).trans (ExtN.of sm), fun b z => g1.no b (nn b (same_no sm b z)), T2.ext sm⟩ ⟨_, fi, ⟨sm _ _ f1, rfl, rfl, rfl, sm _ _ c1⟩, C, (cl1.ext eN).ext (ext_hid sm cn)⟩
  | both h h1 h2 =>
    rename_i p0 x y l r
    have dl : l.deep ≤ n := Nat.le_trans (Nat.le_max_left ..) (Nat.le_of_succ_le_succ hd)
    have dr : r.deep ≤ n := Nat.le_trans (Nat.le_max_right ..) (Nat.le_of_succ_le_succ hd)
    refine ⟨_, rfl, _, _, _, _, rfl, rfl, SqT.of h, atI_nat (j := 0) rfl, ?_⟩
    refine ⟨_, rfl, rfl, _, rfl, itF (ne_str (by decide)) ?_⟩
    refine ⟨_, rfl, two, fun p hp => ⟨p, _, rfl, .inr (SqT.of upd_same), rfl, rfl, _, rfl, itF rfl ?_⟩⟩
    have g0 := Gr.of hT (same_new hp (.tup [.str "is", .str "below"]))
    refine ⟨_, rfl, _, _, _, _, rfl, rfl, SqT.of (g0.tup h), atI_nat (j := 1) rfl, _, rfl, x, o, l, xs, rfl, h1.keep g0.tups, dl, hg.1, g0.lst ho, g0.tabs, fun fl H1 g1 cl1 => ?_⟩
    have g01 := g0.trans g1
    refine ⟨_, rfl, _, _, _, _, rfl, rfl, SqT.of (g01.tup h), atI_nat (j := 2) rfl, _, rfl, y, o, r, xs, rfl, h2.keep g01.tups, dr, hg.2, g01.lst ho, g01.tabs, fun fr H2 g2 cl2 => ?_⟩
    have g02 := g01.trans g2
    refine ⟨_, rfl, rfl, _, rfl, itT eq_str ⟨g02.tabs, fun g c' H3 eN nn T3 f0 f1 c1 H4 sm R _ inj => ?_⟩⟩
    obtain ⟨C, cn⟩ := caps_ret (F := mkRT lamBo s.heap.objs.size c') (ws := [.ref fl, .ref fr]) R inj rfl scBo (by decide +kernel) rfl fun i y e => match i, e with | 0, e => by cases e; exact ⟨4, _, rfl, rfl, rfl⟩ | 1, e => by cases e; exact ⟨5, _, rfl, rfl, rfl⟩ | _ + 2, e => by cases e
    exact q g H4 ⟨(g02.ext.trans eN).trans (ExtN.of sm), fun b z => g02.no b (nn b (same_no sm b z)), T3.ext sm⟩ ⟨_, fl, fr, ⟨sm _ _ f1, rfl, rfl, rfl, sm _ _ c1⟩, C, ((cl1.ext g2.ext).ext eN).ext (ext_hid sm cn), (cl2.ext eN).ext (ext_hid sm cn)⟩
  | either h h1 h2 =>
    rename_i p0 x y l r
    have dl : l.deep ≤ n := Nat.le_trans (Nat.le_max_left ..) (Nat.le_of_succ_le_succ hd)
    have dr : r.deep ≤ n := Nat.le_trans (Nat.le_max_right ..) (Nat.le_of_succ_le_succ hd)
    refine ⟨_, rfl, _, _, _, _, rfl, rfl, SqT.of h, atI_nat (j := 0) rfl, ?_⟩
    refine ⟨_, rfl, rfl, _, rfl, itF (ne_str (by decide)) ?_⟩
    refine ⟨_, rfl, two, fun p hp => ⟨p, _, rfl, .inr (SqT.of upd_same), rfl, rfl, _, rfl, itF rfl ?_⟩⟩
    have g0 := Gr.of hT (same_new hp (.tup [.str "is", .str "below"]))
    refine ⟨_, rfl, _, _, _, _, rfl, rfl, SqT.of (g0.tup h), atI_nat (j := 1) rfl, _, rfl, x, o, l, xs, rfl, h1.keep g0.tups, dl, hg.1, g0.lst ho, g0.tabs, fun fl H1 g1 cl1 => ?_⟩
    have g01 := g0.trans g1
    refine ⟨_, rfl, _, _, _, _, rfl, rfl, SqT.of (g01.tup h), atI_nat (j := 2) rfl, _, rfl, y, o, r, xs, rfl, h2.keep g01.tups, dr, hg.2, g01.lst ho, g01.tabs, fun fr H2 g2 cl2 => ?_⟩
    have g02 := g01.trans g2
    refine ⟨_, rfl, rfl, _, rfl, itF (ne_str (by decide)) ⟨g02.tabs, fun g c' H3 eN nn T3 f0 f1 c1 H4 sm R _ inj => ?_⟩⟩
    obtain ⟨C, cn⟩ := caps_ret (F := mkRT lamEi s.heap.objs.size c') (ws := [.ref fl, .ref fr]) R inj rfl scEi (by decide +kernel) rfl fun i y e => match i, e with | 0, e => by cases e; exact ⟨4, _, rfl, rfl, rfl⟩ | 1, e => by cases e; exact ⟨5, _, rfl, rfl, rfl⟩ | _ + 2, e => by cases e
    exact q g H4 ⟨(g02.ext.trans eN).trans (ExtN.of sm), fun b z => g02.no b (nn b (same_no sm b z)), T3.ext sm⟩ ⟨_, fl, fr, ⟨sm _ _ f1, rfl, rfl, rfl, sm _ _ c1⟩, C, ((cl1.ext g2.ext).ext eN).ext (ext_hid sm cn), (cl2.ext eN).ext (ext_hid sm cn)⟩
  | is h h1 h2 =>
    rename_i p0 x y l r
    refine ⟨_, rfl, _, _, _, _, rfl, rfl, SqT.of h, atI_nat (j := 0) rfl, ?_⟩
    refine ⟨_, rfl, rfl, _, rfl, itF (ne_str (by decide)) ?_⟩
    refine ⟨_, rfl, two, fun p hp => ⟨p, _, rfl, .inr (SqT.of upd_same), rfl, rfl, _, rfl, itT rfl ?_⟩⟩
    have g0 := Gr.of hT (same_new hp (.tup [.str "is", .str "below"]))
    refine ⟨_, rfl, _, rfl, _, _, _, _, rfl, rfl, SqT.of (g0.tup h), atI_nat (j := 1) rfl, _, rfl, x, o, l, xs, rfl, h1.keep g0.tups, hg.1.2, hg.1.1, g0.lst ho, g0.tabs, fun fl H1 g1 cl1 => ?_⟩
    have g01 := g0.trans g1
    refine ⟨_, rfl, _, _, _, _, rfl, rfl, SqT.of (g01.tup h), atI_nat (j := 2) rfl, _, rfl, y, o, r, xs, rfl, h2.keep g01.tups, hg.2.2, hg.2.1, g01.lst ho, g01.tabs, fun fr H2 g2 cl2 => ?_⟩
    have g02 := g01.trans g2
    refine ⟨"is", fl, fr, l, r, xs, rfl, .inl rfl, cl1.ext g2.ext, cl2, g02.tabs, fun g H3 g3 c3 _ H4 sm _ _ _ => ?_⟩
    exact q g H4 ((g02.trans g3).same sm) ((c3 rfl).ext (ExtN.of sm))
  | bel h h1 h2 =>
    rename_i p0 x y l r
    refine ⟨_, rfl, _, _, _, _, rfl, rfl, SqT.of h, atI_nat (j := 0) rfl, ?_⟩
    refine ⟨_, rfl, rfl, _, rfl, itF (ne_str (by decide)) ?_⟩
    refine ⟨_, rfl, two, fun p hp => ⟨p, _, rfl, .inr (SqT.of upd_same), rfl, rfl, _, rfl, itT rfl ?_⟩⟩
    have g0 := Gr.of hT (same_new hp (.tup [.str "is", .str "below"]))
    refine ⟨_, rfl, _, rfl, _, _, _, _, rfl, rfl, SqT.of (g0.tup h), atI_nat (j := 1) rfl, _, rfl, x, o, l, xs, rfl, h1.keep g0.tups, hg.1.2, hg.1.1, g0.lst ho, g0.tabs, fun fl H1 g1 cl1 => ?_⟩
    have g01 := g0.trans g1
    refine ⟨_, rfl, _, _, _, _, rfl, rfl, SqT.of (g01.tup h), atI_nat (j := 2) rfl, _, rfl, y, o, r, xs, rfl, h2.keep g01.tups, hg.2.2, hg.2.1, g01.lst ho, g01.tabs, fun fr H2 g2 cl2 => ?_⟩
    have g02 := g01.trans g2
    refine ⟨"below", fl, fr, l, r, xs, rfl, .inr rfl, cl1.ext g2.ext, cl2, g02.tabs, fun g H3 g3 _ c3 H4 sm _ _ _ => ?_⟩
    exact q g H4 ((g02.trans g3).same sm) ((c3 rfl).ext (ExtN.of sm))
theorem all_rt (F : FunC K "ready_test" "ready_test" sRT f fd c) (TB : TabB base mg c Pt) (hm : (Pt, fun _ _ => qRT) ∈ T) (hu : ∀ p ∈ T, p.1 = Pt → p.2 = fun _ _ => qRT) (mG : mg "ready_test" = some (.ref f)) (bG : Binds K fd psRT [])
    (GW : FnOk P w K mg base CX0 7 rw_ rwd psReady (spReady T (DeedIs P w K mg base) 6)) (mW : mg "ready_worth" = some (.ref rw_)) (kW : PySem.W.keepIn K (.ref rw_) = true) (bW : Binds K rwd psReady [])
    (GC : FnOk P w K mg base CX0 1 rc rcd nmRC (spRC T (DeedIs P w K mg base))) (mC : mg "ready_comparison" = some (.ref rc)) (kC : PySem.W.keepIn K (.ref rc) = true) (bC : Binds K rcd nmRC []) : ∀ n : Nat, FnOk P w K mg base CX0 (n + 7) f fd psRT (spRT T (DeedIs P w K mg base) n)
  | 0 => no_rt
  | n + 1 => ok_rt F TB hm hu (all_rt F TB hm hu mG bG GW mW kW bW GC mC kC bC n) mG bG GW mW kW bW GC mC kC bC
end
/-! ### holds -/
abbrev sHolds : Stmt := top 7
abbrev nmHolds : List Str := ["test", "boxes", "asked", "told", "holds_by"]
abbrev psH : List Str := ["test", "boxes", "asked", "told"]
theorem scHolds : FnScope nmHolds psH (defScope sHolds) := ⟨rfl, rfl, rfl, by decide +kernel, rfl, by decide +kernel, by decide +kernel⟩
def spHolds (T : List NTab) (n : Nat) : Sp := fun vs H Q _ => ∃ (v : V) (c : Addr) (e : Ts) (kvs : List (Str × Int)) (xs : List Str) (a t : Int), vs = [v, .ref c, .int a, .int t] ∧ TsAt H v e ∧ e.deep ≤ n ∧ e.good xs ∧ Bx kvs xs ∧
  H c = some (.dK (bx kvs)) ∧ (0 ≤ a ∧ a < 1024) ∧ (0 ≤ t ∧ t < 1024) ∧ TabsN T H ∧ ∀ H', Gr T H H' → Q (.bl (e.val kvs a t)) H'
theorem Ts.good_of {kvs : List (Str × Int)} {xs : List Str} (B : Bx kvs xs) : ∀ {e : Ts}, e.good xs → e.good (namesOf kvs)
  | .is _ _, h => ⟨⟨Ex.good_of B h.1.1, h.1.2⟩, Ex.good_of B h.2.1, h.2.2⟩
  | .bel _ _, h => ⟨⟨Ex.good_of B h.1.1, h.1.2⟩, Ex.good_of B h.2.1, h.2.2⟩
  | .nt t, h => Ts.good_of (e := t) B h
  | .both _ _, h => ⟨Ts.good_of B h.1, Ts.good_of B h.2⟩
  | .either _ _, h => ⟨Ts.good_of B h.1, Ts.good_of B h.2⟩
section
variable {P : Program} {w : World} {K : PySem.W.Frag} {mg : Str → Option Value} {base : Heap} {f rf : Addr} {fd rd : FuncData} {T : List NTab}
theorem ok_holds {n : Nat} {kws : List (Str × V)} (F : FunD K "holds" "holds" (defArgs sHolds) (defBody sHolds) (defScope sHolds) [] kws f fd) (G : FnOk P w K mg base CX0 (n + 7) rf rd psRT (spRT T (DeedIs P w K mg base) n)) (mR : mg "ready_test" = some (.ref rf)) (kR : PySem.W.keepIn K (.ref rf) = true) (bR : Binds K rd psRT [])
    (ml : mg "list" = none) : FnOk P w K mg base CX0 (n + 8) f fd psH (spHolds T n) := by
  refine F.ok scHolds (fun vs H Q E h => ?_) (fun cdv A outer s H vs Q E hr h => ?_)
  · obtain ⟨v, c, e, kvs, xs, a, t, rfl, _⟩ := h
    rfl
  obtain ⟨v, c, e, kvs, xs, a, t, rfl, hv, hd, hg, B, hc, ha, ht, hT, q⟩ := h
  refine ⟨_, PSs.nox (pss_cons (ps_set (i := 4) scHolds.nd rfl (Or.inl rfl) (pe_call G hr rfl mR kR bR .nil pass0 (pa_cons (pv 0) (pa_cons (pe_callTy (call_listD rfl) rfl ml (by decide +kernel) (pa_cons (pv 1) pa_nil)) pa_nil))))
    (pss_one (ps_ret (pe_callL (i := 4) (all_cloT n) hr rfl (.inl rfl) (pa_cons (pe_listVals rfl (pv 1) rfl ml (by decide +kernel)) (pa_cons (pv 2) (pa_cons (pv 3) pa_nil))))))), ?_⟩
  refine ⟨_, rfl, _, rfl, c, _, rfl, .inl hc, fun p1 hp1 => ?_⟩
  rw [bx_names]
  have s1 := same_new hp1 (.lst ((namesOf kvs).map V.str))
  refine ⟨v, p1, e, namesOf kvs, rfl, hv.keep (Same.tups s1), hd, Ts.good_of B hg, upd_same, hT.ext s1, fun g H2 g2 cl => ?_⟩
  have gr := (Gr.of hT s1).trans g2
  refine ⟨g, rfl, cl.lm, _, rfl, c, _, rfl, gr.dK hc, fun p3 hp3 => ?_⟩
  rw [bx_nums]
  have s3 := same_new hp3 (.lst (numsV kvs))
  have cl3 := cl.ext (ExtN.of s3)
  exact ⟨_, rfl, _, rfl, cl3.lm, e, kvs, xs, p3, a, t, rfl, hd, upd_same, cl3, hg, B, ha, ht, q _ (gr.same s3)⟩
theorem kb_holds {kws : List (Str × V)} (F : FunD K "holds" "holds" (defArgs sHolds) (defBody sHolds) (defScope sHolds) [] kws f fd) : KBn K fd psH 2 ["asked", "told"] (fun us ws => us ++ ws) (fun us ws => us ++ ws) := by
  obtain ⟨oc, od, dV, kV, doc, pm, an, cdv, ct, osl, rfl, lk, hcd, hD, hK⟩ := F.ex
  have hd : dV = .none := hD.elim (fun z => z.2) (fun z => absurd rfl z.1)
  subst hd
  refine ⟨fun s us ws _ l1 l2 => ?_, fun r1 r2 => r1.append r2⟩
  match us, ws, l1, l2 with
  | [u1, u2], [w1, w2], _, _ => exact .of_eq rfl
end
end Any
namespace Any
open L2 PySem PySem.Spec PyProof.Rows LamX NdefX
abbrev sBag : Stmt := top 12
abbrev sTake : Stmt := top 13
abbrev sOf : Stmt := top 14
/-- a bag: what is left, its seed, how often it was asked -/
def Bag (H : Hp) (b : Addr) (n : Nat) : Prop := ∃ g s c : Int, H b = some (.lst [.int g, .int s, .int c]) ∧ 0 ≤ g ∧ 0 ≤ s ∧ s < 2 ^ 62 ∧ 0 ≤ c ∧ c ≤ n
theorem Bag.more {H : Hp} {b : Addr} {m n : Nat} (h : Bag H b m) (k : m ≤ n) : Bag H b n := by
  obtain ⟨g, s, c, h1, h2, h3, h4, h5, h6⟩ := h
  exact ⟨g, s, c, h1, h2, h3, h4, h5, by omega⟩
theorem Bag.keep {H H' : Hp} {b : Addr} {n : Nat} (h : Bag H b n) (k : Same H H') : Bag H' b n := by
  obtain ⟨g, s, c, h1, h2⟩ := h
  exact ⟨g, s, c, k _ _ h1, h2⟩
theorem Bag.lst {H : Hp} {b : Addr} {n : Nat} (h : Bag H b n) : ∃ xs, H b = some (.lst xs) := by
  obtain ⟨g, s, c, h1, h2⟩ := h
  exact ⟨_, h1⟩
theorem Bag.tups {H H' : Hp} {b : Addr} {n : Nat} (h : Bag H b n) (k : Kept b H H') : Tups H H' := by
  obtain ⟨xs, h⟩ := h.lst
  exact k.tups h
theorem Bag.ne {H : Hp} {b p : Addr} {n : Nat} (h : Bag H b n) (k : H p = none) : p ≠ b := by
  obtain ⟨xs, h⟩ := h.lst
  intro e
  rw [e, h] at k
  cases k
def spBag (K : PySem.W.Frag) : Sp := fun vs H Q _ => ∃ (a : Addr) (ns : List Int) (k : Int), vs = [.ref a, .int k] ∧ SqL K H a (ns.map V.int) ∧ 0 ≤ k ∧ k < 64 ∧ ∀ (b : Addr) (H' : Hp), H b = none → Same H H' → Bag H' b 0 → Q (.ref b) H'
def spTake : Sp := fun vs H Q _ => ∃ (b : Addr) (m : Int) (n : Nat), vs = [.ref b, .int m] ∧ Bag H b n ∧ n + 1 < 2 ^ 40 ∧ 1 ≤ m ∧ m ≤ 1000 ∧
  ∀ (d : Int) (H' : Hp), Kept b H H' → Bag H' b (n + 1) → 0 ≤ d → d < m → Q (.int d) H'
def spOf : Sp := fun vs H Q _ => ∃ (b l : Addr) (xs : List V) (n : Nat), vs = [.ref b, .ref l] ∧ Bag H b n ∧ n + 1 < 2 ^ 40 ∧ H l = some (.lst xs) ∧ l ≠ b ∧ 1 ≤ xs.length ∧ xs.length ≤ 1000 ∧
  ∀ (v : V) (H' : Hp), Kept b H H' → Bag H' b (n + 1) → v ∈ xs → Q v H'
theorem scBag : FnScope ["_law_script", "_law_at", "_law_cell", "_law_great", "_law_seed"] ["_law_script", "_law_at"] (defScope sBag) := ⟨rfl, rfl, rfl, by decide +kernel, rfl, by decide +kernel, by decide +kernel⟩
theorem scTake : FnScope ["_law_bag_here", "_law_many", "_law_digit", "_law_primes", "_law_step", "_law_base", "_law_mixed", "_law_more"] ["_law_bag_here", "_law_many"] (defScope sTake) :=
  ⟨rfl, rfl, rfl, by decide +kernel, rfl, by decide +kernel, by decide +kernel⟩
theorem scOf : FnScope ["_law_bag_here", "_law_some"] ["_law_bag_here", "_law_some"] (defScope sOf) := ⟨rfl, rfl, rfl, by decide +kernel, rfl, by decide +kernel, by decide +kernel⟩
theorem small {n : Nat} (h : n ≤ 1000) : n ≤ sizeLine := Nat.le_of_lt (small1000 h)
section
variable {P : Program} {w : World} {K : PySem.W.Frag} {mg : Str → Option Value} {base : Heap} {f : Addr} {fd : FuncData}
theorem ok_bag (F : Fun K "_law_bag" "_law_bag" sBag f fd) (ml : mg "len" = none) (ma : mg "abs" = none) (mi : mg "int" = none) : FnOk P w K mg base CX0 1 f fd ["_law_script", "_law_at"] (spBag K) := by
  refine F.ok scBag (fun vs H Q E h => ?_) (fun cdv A outer s H vs Q E hr h => ?_)
  · obtain ⟨a, ns, k, rfl, _⟩ := h
    rfl
  obtain ⟨a, ns, k, rfl, hS, h0, h1, q⟩ := h
  refine ⟨_, pss_cons (ps_set (i := 2) scBag.nd rfl (Or.inl rfl) pe_int)
    (pss_cons (ps_if (pt_cmpR op_lt (pv 1) (pe_callB call_len_seq rfl ml PySem.boot_len (pa_cons (pv 0) pa_nil)) (nomark _)) (pss_one (ps_set (i := 2) scBag.nd rfl (Or.inl rfl) (pe_ix ix_list (pv 0) (pv 1) (fun _ _ => rfl)))) pss_nil)
    (pss_cons (ps_set (i := 3) scBag.nd rfl (Or.inl rfl) (pe_callB call_abs rfl ma (by decide +kernel) (pa_cons (pv 2) pa_nil)))
    (pss_cons (ps_set (i := 4) scBag.nd rfl (Or.inl rfl) (pe_op op_add (pe_op op_add (pe_op op_add (pe_op op_mod (pv 2) pe_int) (pe_op op_mul (pe_op op_mul pe_int (pv 1)) (pv 1))) (pe_op op_mul pe_int (pv 1))) pe_int))
    (pss_one (ps_ret (pe_lst (pa_cons (pe_op op_mul (pv 3) (pe_callTy call_int1 rfl mi (by decide +kernel) (pa_cons (pe_cmpR op_ge (pv 3) (pe_op op_pow pe_int pe_int) (nomark _)) pa_nil))) (pa_cons (pv 4) (pa_cons pe_int pa_nil))))))))), ?_⟩
  have fin : ∀ cell : Int, ∀ (b : Addr), H b = none → Q (.ref b) (upd H b (.lst [.int ((if cell < 0 then -cell else cell) * (if decide ((10 : Int) ^ (18 : Int).toNat ≤ (if cell < 0 then -cell else cell)) = true then 1 else 0)), .int (cell % 2305843009213693951 + 9973 * k * k + 101 * k + 11), .int 0])) := fun cell b hb => by
    refine q b _ hb (same_new hb _) ⟨_, _, _, upd_same, ?_, ?_, ?_, Int.le_refl 0, Int.le_refl 0⟩
    · refine Int.mul_nonneg (by split <;> omega) (by split <;> omega)
    · have z := Int.emod_nonneg cell (show (2305843009213693951 : Int) ≠ 0 by decide)
      have z2 : 0 ≤ 9973 * k * k := Int.mul_nonneg (Int.mul_nonneg (by decide) h0) h0
      omega
    · have z := Int.emod_lt_of_pos cell (show (0 : Int) < 2305843009213693951 by decide)
      have z2 : 9973 * k * k ≤ 9973 * 64 * 64 := by
        have a1 : 9973 * k ≤ 9973 * 64 := by omega
        have a2 : 9973 * k * k ≤ 9973 * 64 * k := Int.mul_le_mul_of_nonneg_right a1 h0
        have a3 : 9973 * 64 * k ≤ 9973 * 64 * 64 := by omega
        omega
      omega
  have one : ∀ c : Bool, -(2 ^ 64) < (if c = true then (1 : Int) else 0) ∧ (if c = true then (1 : Int) else 0) < 2 ^ 64 := fun c => by cases c <;> decide
  refine ⟨_, rfl, _, rfl, a, _, rfl, .inl hS, _, _, rfl, rfl, _, rfl, ?_⟩
  refine ite2 (fun c => ?_) (fun c => ?_)
  · have c' : k < (((ns.map V.int).length : Nat) : Int) := of_decide_eq_true c
    rw [List.length_map] at c'
    have hk : k.toNat < ns.length := by omega
    have ek : k = ((k.toNat : Nat) : Int) := by omega
    have q2 : atI (ns.map V.int) ((k.toNat : Nat) : Int) = some (.int ns[k.toNat]) := atI_nat (by rw [List.getElem?_map, List.getElem?_eq_getElem hk]; rfl)
    rw [← ek] at q2
    refine ⟨_, rfl, _, rfl, a, _, _, _, rfl, rfl, hS, q2, ?_⟩
    refine ⟨_, rfl, _, rfl, ?_⟩
    refine ⟨_, rfl, _, _, rfl, rfl, (by show (0 : Int) < 2305843009213693951; decide), _, rfl, _, _, rfl, rfl, .inl ⟨by decide, by decide⟩, _, rfl, _, _, rfl, rfl, .inl ⟨by omega, by omega⟩, _, _, rfl, rfl, ?_⟩
    refine ⟨_, rfl, _, _, rfl, rfl, .inl ⟨by decide, by decide⟩, _, _, rfl, rfl, _, _, rfl, rfl, ?_⟩
    refine ⟨_, rfl, _, rfl, _, _, rfl, rfl, ⟨by decide, by decide, by decide⟩, _, _, rfl, rfl, .inr ⟨_, rfl, _, _, rfl, rfl, .inr (one _), _, rfl, (by show 3 ≤ sizeLine; decide), fun p hp => ?_⟩⟩
    exact fin _ p hp
  · refine ⟨_, rfl, _, rfl, ?_⟩
    refine ⟨_, rfl, _, _, rfl, rfl, (by show (0 : Int) < 2305843009213693951; decide), _, rfl, _, _, rfl, rfl, .inl ⟨by decide, by decide⟩, _, rfl, _, _, rfl, rfl, .inl ⟨by omega, by omega⟩, _, _, rfl, rfl, ?_⟩
    refine ⟨_, rfl, _, _, rfl, rfl, .inl ⟨by decide, by decide⟩, _, _, rfl, rfl, _, _, rfl, rfl, ?_⟩
    refine ⟨_, rfl, _, rfl, _, _, rfl, rfl, ⟨by decide, by decide, by decide⟩, _, _, rfl, rfl, .inr ⟨_, rfl, _, _, rfl, rfl, .inr (one _), _, rfl, (by show 3 ≤ sizeLine; decide), fun p hp => ?_⟩⟩
    exact fin 0 p hp

def primes : List Int := [2147483647, 2147483629, 2147483587, 2147483579, 2147483563, 2147483549, 2147483543]
theorem prime_at {r : Int} (h0 : 0 ≤ r) (h1 : r < 7) : ∃ p : Int, atI (primes.map V.int) r = some (.int p) ∧ 0 < p ∧ p < 2 ^ 31 := by
  have : r = 0 ∨ r = 1 ∨ r = 2 ∨ r = 3 ∨ r = 4 ∨ r = 5 ∨ r = 6 := by omega
  rcases this with rfl | rfl | rfl | rfl | rfl | rfl | rfl <;> exact ⟨_, rfl, by decide, by decide⟩
theorem base_bits {s c : Int} (h1 : 0 ≤ s) (h2 : s < 2 ^ 62) (h3 : 0 ≤ c) (h4 : c < 2 ^ 40) : CPowW (s * (2 * c + 1) + 7001 * c * c + 53) 3 := by
  refine ⟨by decide, ?_⟩
  have a1 : 0 ≤ s * (2 * c + 1) := Int.mul_nonneg h1 (by omega)
  have a2 : s * (2 * c + 1) ≤ 2 ^ 62 * 2 ^ 42 := Int.mul_le_mul (by omega) (by omega) (by omega) (by decide)
  have a3 : 0 ≤ 7001 * c * c := Int.mul_nonneg (by omega) h3
  have a4 : 7001 * c * c ≤ 2 ^ 53 * 2 ^ 40 := Int.mul_le_mul (by omega) (by omega) h3 (by decide)
  have b : (s * (2 * c + 1) + 7001 * c * c + 53).natAbs < 2 ^ 110 := by
    generalize s * (2 * c + 1) = x at *
    generalize 7001 * c * c = y at *
    omega
  have c1 := intBits_le b
  omega
theorem ok_take (F : Fun K "_law_take" "_law_take" sTake f fd) : FnOk P w K mg base CX0 1 f fd ["_law_bag_here", "_law_many"] spTake := by
  refine F.ok scTake (fun vs H Q E h => ?_) (fun cdv A outer s H vs Q E hr h => ?_)
  · obtain ⟨b, m, n, rfl, _⟩ := h
    rfl
  obtain ⟨b, m, n, rfl, ⟨g, sd, c, hb, hg, hs0, hs1, hc0, hc1⟩, hn, hm0, hm1, q⟩ := h
  refine ⟨_, pss_cons (ps_if (pt_cmpR op_gt (pe_ix ix_list (pv 0) pe_int (fun _ _ => rfl)) pe_int (nomark _))
      (pss_cons (ps_set (i := 2) scTake.nd rfl (Or.inl rfl) (pe_op op_mod (pe_ix ix_list (pv 0) pe_int (fun _ _ => rfl)) (pv 1)))
      (pss_cons (ps_asg (pe_op op_fdiv (pe_ix ix_list (pv 0) pe_int (fun _ _ => rfl)) (pv 1)) (pg_sub (pv 0) pe_int set_list))
      (pss_one (ps_ret (pv 2))))) pss_nil)
    (pss_cons (ps_set (i := 3) scTake.nd rfl (Or.inl rfl) (pe_tup (pa_cons pe_int (pa_cons pe_int (pa_cons pe_int (pa_cons pe_int (pa_cons pe_int (pa_cons pe_int (pa_cons pe_int pa_nil)))))))))
    (pss_cons (ps_asg (pe_op op_add (pe_ix ix_list (pv 0) pe_int (fun _ _ => rfl)) pe_int) (pg_sub (pv 0) pe_int set_list))
    (pss_cons (ps_set (i := 4) scTake.nd rfl (Or.inl rfl) (pe_ix ix_list (pv 0) pe_int (fun _ _ => rfl)))
    (pss_cons (ps_set (i := 5) scTake.nd rfl (Or.inl rfl) (pe_op op_add (pe_op op_add (pe_op op_mul (pe_ix ix_list (pv 0) pe_int (fun _ _ => rfl)) (pe_op op_add (pe_op op_mul pe_int (pv 4)) pe_int)) (pe_op op_mul (pe_op op_mul pe_int (pv 4)) (pv 4))) pe_int))
    (pss_cons (ps_set (i := 6) scTake.nd rfl (Or.inl rfl) (pe_op op_mod (pe_op op_powW (pv 5) pe_int) (pe_ix ix_tup (pv 3) (pe_op op_mod (pv 4) pe_int) (fun _ _ => rfl))))
    (pss_cons (ps_set (i := 7) scTake.nd rfl (Or.inl rfl) (pe_op op_add (pe_op op_add (pe_op op_fdiv (pv 6) pe_int) (pe_op op_mul pe_int (pv 4))) pe_int))
    (pss_one (ps_ret (pe_op op_mod (pe_op op_fdiv (pe_op op_mod (pe_op op_mul (pv 6) (pv 7)) (pe_ix ix_tup (pv 3) (pe_op op_mod (pe_op op_add (pv 4) pe_int) pe_int) (fun _ _ => rfl))) pe_int) (pv 1)))))))))), ?_⟩
  refine ⟨_, rfl, b, _, _, _, rfl, rfl, SqL.of hb, atI_nat (j := 0) rfl, _, _, rfl, rfl, _, rfl, ?_⟩
  refine ite2 (fun c' => ?_) (fun c' => ?_)
  · refine ⟨_, rfl, b, _, _, _, rfl, rfl, SqL.of hb, atI_nat (j := 0) rfl, _, rfl, _, _, rfl, rfl, (by omega), ?_⟩
    refine ⟨_, rfl, b, _, _, _, rfl, rfl, SqL.of hb, atI_nat (j := 0) rfl, _, rfl, _, _, rfl, rfl, ⟨by omega, by omega⟩, ?_⟩
    refine ⟨_, rfl, b, _, _, 0, rfl, rfl, hb, rfl, ?_⟩
    refine ⟨_, rfl, q _ _ (Kept.put _) ⟨_, _, _, upd_same, ?_, hs0, hs1, hc0, by omega⟩ (Int.emod_nonneg _ (by omega)) (Int.emod_lt_of_pos _ (by omega))⟩
    exact Int.ediv_nonneg hg (by omega)
  · refine ⟨(by show 7 ≤ sizeLine; decide), fun p hp => ?_⟩
    have bp : b ≠ p := ne_of_none hb hp
    have hb1 : upd H p (.tup (primes.map V.int)) b = some (.lst [.int g, .int sd, .int c]) := by rw [upd_ne bp]; exact hb
    refine ⟨_, rfl, b, _, _, _, rfl, rfl, SqL.of hb1, atI_nat (j := 2) rfl, _, _, rfl, rfl, ?_⟩
    refine ⟨_, rfl, b, _, _, 2, rfl, rfl, hb1, rfl, ?_⟩
    have hb2 : upd (upd H p (.tup (primes.map V.int))) b (.lst [.int g, .int sd, .int (c + 1)]) b = some (.lst [.int g, .int sd, .int (c + 1)]) := upd_same
    have hp2 : upd (upd H p (.tup (primes.map V.int))) b (.lst [.int g, .int sd, .int (c + 1)]) p = some (.tup (primes.map V.int)) := by rw [upd_ne bp.symm]; exact upd_same
    have kept : Kept b H (upd (upd H p (.tup (primes.map V.int))) b (.lst [.int g, .int sd, .int (c + 1)])) := (Kept.new hp _).trans (Kept.put _)
    have bag : Bag (upd (upd H p (.tup (primes.map V.int))) b (.lst [.int g, .int sd, .int (c + 1)])) b (n + 1) := ⟨_, _, _, hb2, hg, hs0, hs1, by omega, by omega⟩
    have c0 : 0 ≤ c + 1 := by omega
    have c1 : c + 1 < 2 ^ 40 := by omega
    refine ⟨_, rfl, b, _, _, _, rfl, rfl, SqL.of hb2, atI_nat (j := 2) rfl, ?_⟩
    refine ⟨_, rfl, b, _, _, _, rfl, rfl, SqL.of hb2, atI_nat (j := 1) rfl, _, rfl, _, _, rfl, rfl, .inl ⟨by decide, by decide⟩, _, _, rfl, rfl, _, _, rfl, rfl, .inl ⟨by omega, by omega⟩, ?_⟩
    refine ⟨_, rfl, _, _, rfl, rfl, .inl ⟨by decide, by decide⟩, _, rfl, _, _, rfl, rfl, .inl ⟨by omega, by omega⟩, _, _, rfl, rfl, _, _, rfl, rfl, ?_⟩
    obtain ⟨p1, e1, p10, p11⟩ := prime_at (r := (c + 1) % 7) (by omega) (by omega)
    refine ⟨_, rfl, _, _, rfl, rfl, base_bits hs0 hs1 c0 c1, _, rfl, _, rfl, _, _, rfl, rfl, (by show (0 : Int) < 7; decide), p, _, _, _, rfl, rfl, SqT.of hp2, e1, _, _, rfl, rfl, p10, ?_⟩
    have m0 := Int.emod_nonneg ((sd * (2 * (c + 1) + 1) + 7001 * (c + 1) * (c + 1) + 53) ^ Int.toNat 3) (show p1 ≠ 0 by omega)
    have m1 := Int.emod_lt_of_pos ((sd * (2 * (c + 1) + 1) + 7001 * (c + 1) * (c + 1) + 53) ^ Int.toNat 3) p10
    have m2 : -(2 ^ 64) < (sd * (2 * (c + 1) + 1) + 7001 * (c + 1) * (c + 1) + 53) ^ Int.toNat 3 % p1 ∧ (sd * (2 * (c + 1) + 1) + 7001 * (c + 1) * (c + 1) + 53) ^ Int.toNat 3 % p1 < 2 ^ 64 := by
      generalize (sd * (2 * (c + 1) + 1) + 7001 * (c + 1) * (c + 1) + 53) ^ Int.toNat 3 % p1 = mx at *
      omega
    refine ⟨_, rfl, _, _, rfl, rfl, ⟨by decide, by decide⟩, _, rfl, _, _, rfl, rfl, .inl ⟨by decide, by decide⟩, _, _, rfl, rfl, _, _, rfl, rfl, ?_⟩
    obtain ⟨p2, e2, p20, p21⟩ := prime_at (r := (c + 1 + 3) % 7) (by omega) (by omega)
    refine ⟨_, rfl, _, rfl, _, _, rfl, rfl, .inl m2, _, rfl, _, rfl, _, _, rfl, rfl, _, _, rfl, rfl, (by show (0 : Int) < 7; decide), p, _, _, _, rfl, rfl, SqT.of hp2, e2, _, _, rfl, rfl, p20, _, _, rfl, rfl, ⟨by decide, by decide⟩, _, rfl, _, _, rfl, rfl, (by omega), ?_⟩
    exact q _ _ kept bag (Int.emod_nonneg _ (by omega)) (Int.emod_lt_of_pos _ (by omega))
theorem ok_of {t : Addr} {td : FuncData} (F : Fun K "_law_of" "_law_of" sOf f fd) (G : FnOk P w K mg base CX0 1 t td ["_law_bag_here", "_law_many"] spTake) (bG : Binds K td ["_law_bag_here", "_law_many"] []) (kG : PySem.W.keepIn K (.ref t) = true) (mG : mg "_law_take" = some (.ref t)) (ml : mg "len" = none) :
    FnOk P w K mg base CX0 2 f fd ["_law_bag_here", "_law_some"] spOf := by
  refine F.ok scOf (fun vs H Q E h => ?_) (fun cdv A outer s H vs Q E hr h => ?_)
  · obtain ⟨b, l, xs, n, rfl, _⟩ := h
    rfl
  obtain ⟨b, l, xs, n, rfl, hB, hn, hl, hne, h1, h2, q⟩ := h
  refine ⟨_, pss_one (ps_ret (pe_ix ix_list (pv 1) (pe_call G hr rfl mG kG bG .nil pass0 (pa_cons (pv 0) (pa_cons (pe_callB call_len_seq rfl ml PySem.boot_len (pa_cons (pv 1) pa_nil)) pa_nil))) (fun _ _ => rfl))), ?_⟩
  refine ⟨_, rfl, _, rfl, _, rfl, l, _, rfl, .inl (SqL.of hl), b, _, n, rfl, hB, hn, by omega, by omega, fun d H' k B' d0 d1 => ?_⟩
  have hd : d.toNat < xs.length := by omega
  have e : atI xs d = some xs[d.toNat] := by
    have z : atI xs ((d.toNat : Nat) : Int) = some xs[d.toNat] := atI_nat (List.getElem?_eq_getElem hd)
    rwa [show ((d.toNat : Nat) : Int) = d by omega] at z
  exact ⟨l, _, _, _, rfl, rfl, SqL.of (k _ _ hne hl), e, q _ _ k B' (List.getElem_mem hd)⟩
end
end Any
namespace Any
open L2 PySem PySem.Spec PyProof.Rows LamX NdefX
abbrev sLw : Stmt := top 15
theorem scLw : FnScope ["_law_some", "_law_crates", "_law_wish", "_law_reply", "_law_word", "_law_one", "_law_other"] ["_law_some", "_law_crates", "_law_wish", "_law_reply"] (defScope sLw) :=
  ⟨rfl, rfl, rfl, by decide +kernel, rfl, by decide +kernel, by decide +kernel⟩
def spLw (n : Nat) : Sp := fun vs H Q _ => ∃ (v : V) (c : Addr) (e : Ex) (kvs : List (Str × Int)) (xs : List Str) (a t : Int), vs = [v, .ref c, .int a, .int t] ∧ ExAt H v e ∧ e.deep ≤ n ∧ e.deep ≤ 6 ∧ e.good xs ∧ Bx kvs xs ∧
  H c = some (.dK (bx kvs)) ∧ (0 ≤ a ∧ a < 1024) ∧ (0 ≤ t ∧ t < 1024) ∧ ∀ H', Same H H' → Q (.int (e.val kvs a t)) H'
section
variable {P : Program} {w : World} {K : PySem.W.Frag} {mg : Str → Option Value} {base : Heap} {f : Addr} {fd : FuncData}
theorem no_lw : FnOk P w K mg base CX0 0 f fd ["_law_some", "_law_crates", "_law_wish", "_law_reply"] (spLw 0) := by
  have no : ∀ vs H Q E, ¬ spLw 0 vs H Q E := fun vs H Q E h => by
    obtain ⟨v, c, e, kvs, xs, a, t, _, _, hd, _⟩ := h
    cases e <;> exact absurd hd (by show ¬ _ ≤ 0; exact Nat.not_succ_le_zero _)
  exact ⟨fun vs H Q E h => absurd h (no vs H Q E), fun A outer s H args us vs Q E _ _ _ _ h => absurd h (no vs H Q E)⟩
theorem before1 : ∀ (m : Nat) (z : V), m < 1 → ([.str "plus", .str "less", .str "times"] : List V)[m]? = some z → eqV z (.str "less") = false := fun m z hm hz => by
  obtain rfl : m = 0 := by omega
  cases hz
  rfl
theorem before2 : ∀ (m : Nat) (z : V), m < 2 → ([.str "plus", .str "less", .str "times"] : List V)[m]? = some z → eqV z (.str "times") = false := fun m z hm hz => by
  have e : m = 0 ∨ m = 1 := by omega
  rcases e with rfl | rfl <;> (cases hz; rfl)
theorem nb_div {i j : Int} (hi : Nb i) (hj : Nb j) : Nb (i / j) := ⟨Int.ediv_nonneg hi.1 hj.1, Int.lt_of_le_of_lt (Int.ediv_le_self _ hi.1) hi.2⟩
theorem ok_lw {n : Nat} (F : Fun K "_law_worth" "_law_worth" sLw f fd) (G : FnOk P w K mg base CX0 n f fd ["_law_some", "_law_crates", "_law_wish", "_law_reply"] (spLw n)) (bG : Binds K fd ["_law_some", "_law_crates", "_law_wish", "_law_reply"] [])
    (mG : mg "_law_worth" = some (.ref f)) (mm : mg "max" = none) : FnOk P w K mg base CX0 (n + 1) f fd ["_law_some", "_law_crates", "_law_wish", "_law_reply"] (spLw (n + 1)) := by
  refine F.ok scLw (fun vs H Q E h => ?_) (fun cdv A outer s H vs Q E hr h => ?_)
  · obtain ⟨v, c, e, kvs, xs, a, t, rfl, _⟩ := h
    rfl
  obtain ⟨v, c, e, kvs, xs, a, t, rfl, hv, hd, hd6, hg, B, hc, ha, ht, q⟩ := h
  have hu := hu_of hr
  have kG := F.kp
  refine ⟨_, pss_cons (ps_set (i := 4) scLw.nd rfl (Or.inl rfl) (pe_ix ix_tup (pv 0) pe_int (fun _ _ => rfl)))
    (pss_cons (ps_if (pt_cmpR op_in_seq (pv 4) (pe_tup (pa_cons pe_str (pa_cons pe_str pa_nil))) (by rfl))
      (pss_one (ps_ret (pe_ifExp (pt_cmpR op_eq (pv 4) pe_str (nomark _)) (pe_ix ix_tup (pv 0) pe_int (fun _ _ => rfl)) (pe_dget hu (pv 1) (pe_ix ix_tup (pv 0) pe_int (fun _ _ => rfl)) (fun _ _ => rfl))))) pss_nil)
    (pss_cons (ps_if (pt_cmpR op_in_seq (pv 4) (pe_tup (pa_cons pe_str (pa_cons pe_str pa_nil))) (by rfl))
      (pss_one (ps_ret (pe_ifExp (pt_cmpR op_eq (pv 4) pe_str (nomark _)) (pv 2) (pv 3)))) pss_nil)
    (pss_cons (ps_par (i := 5) (j := 6) (by rfl) scLw.nd rfl rfl (by decide) rfl rfl (pa_cons (pe_call G hr rfl mG kG bG .nil pass0 (pa_cons (pe_ix ix_tup (pv 0) pe_int (fun _ _ => rfl)) (pa_cons (pv 1) (pa_cons (pv 2) (pa_cons (pv 3) pa_nil)))))
        (pa_cons (pe_call G hr rfl mG kG bG .nil pass0 (pa_cons (pe_ix ix_tup (pv 0) pe_int (fun _ _ => rfl)) (pa_cons (pv 1) (pa_cons (pv 2) (pa_cons (pv 3) pa_nil))))) pa_nil)) (by rfl))
    (pss_cons (ps_if (pt_cmpR op_in_seq (pv 4) (pe_tup (pa_cons pe_str (pa_cons pe_str pa_nil))) (by rfl))
      (pss_cons (ps_if (pt_cmpR op_eq (pv 6) pe_int (nomark _)) (pss_one (ps_ret pe_int)) pss_nil)
      (pss_one (ps_ret (pe_ifExp (pt_cmpR op_eq (pv 4) pe_str (nomark _)) (pe_op op_fdivW (pv 5) (pv 6)) (pe_op op_sub (pv 5) (pe_op op_mulW (pe_op op_fdivW (pv 5) (pv 6)) (pv 6))))))) pss_nil)
    (pss_one (ps_ret (pe_ix ix_list (pe_lst (pa_cons (pe_op op_add (pv 5) (pv 6)) (pa_cons (pe_callB (call_max2 rfl) rfl mm (by decide +kernel) (pa_cons (pe_op op_sub (pv 5) (pv 6)) (pa_cons pe_int pa_nil))) (pa_cons (pe_op op_mulW (pv 5) (pv 6)) pa_nil))))
      (pe_bm PySem.F.plainAttrs_list PySem.F.slot_list_index PySem.F.type_list_index mt_index (pe_lst (pa_cons pe_str (pa_cons pe_str (pa_cons pe_str pa_nil)))) (pa_cons (pv 4) pa_nil)) (fun _ _ => rfl)))))))), ?_⟩
  have two : 2 ≤ sizeLine := by decide
  cases hv with
  | num h =>
    refine ⟨_, rfl, _, _, _, _, rfl, rfl, SqT.of h, atI_nat (j := 0) rfl, ?_⟩
    refine ⟨_, rfl, two, fun p hp => ⟨p, _, rfl, .inr (SqT.of upd_same), rfl, rfl, _, rfl, itT rfl ?_⟩⟩
    have s1 := same_new hp (.tup [.str "number", .str "box"])
    refine ⟨_, rfl, rfl, _, rfl, itT eq_str ⟨_, rfl, _, _, _, _, rfl, rfl, SqT.of (s1 _ _ h), atI_nat (j := 1) rfl, q _ s1⟩⟩
  | box h =>
    rename_i bp bn
    obtain ⟨n, e1, _, _⟩ := B.all _ hg
    refine ⟨_, rfl, _, _, _, _, rfl, rfl, SqT.of h, atI_nat (j := 0) rfl, ?_⟩
    refine ⟨_, rfl, two, fun p hp => ⟨p, _, rfl, .inr (SqT.of upd_same), rfl, rfl, _, rfl, itT rfl ?_⟩⟩
    have s1 := same_new hp (.tup [.str "number", .str "box"])
    have g := DGet.k (k := Sum.inr bn) (s1 _ _ hc)
    rw [bx_val, e1] at g
    refine ⟨_, rfl, rfl, _, rfl, itF (ne_str (by decide)) ⟨_, rfl, _, rfl, _, _, _, _, rfl, rfl, SqT.of (s1 _ _ h), atI_nat (j := 1) rfl, c, .int n, rfl, g, ?_⟩⟩
    have q' : ∀ H', Same H H' → Q (.int ((look kvs bn).getD 0)) H' := q
    rw [e1] at q'
    exact q' _ s1
  | asked h =>
    refine ⟨_, rfl, _, _, _, _, rfl, rfl, SqT.of h, atI_nat (j := 0) rfl, ?_⟩
    refine ⟨_, rfl, two, fun p hp => ⟨p, _, rfl, .inr (SqT.of upd_same), rfl, rfl, _, rfl, itF rfl ?_⟩⟩
    have s1 := same_new hp (.tup [.str "number", .str "box"])
    refine ⟨_, rfl, two, fun p2 hp2 => ⟨p2, _, rfl, .inr (SqT.of upd_same), rfl, rfl, _, rfl, itT rfl ?_⟩⟩
    have s2 := s1.trans (same_new hp2 (.tup [.str "asked", .str "told"]))
    exact ⟨_, rfl, rfl, _, rfl, itT eq_str ⟨_, rfl, q _ s2⟩⟩
  | told h =>
    refine ⟨_, rfl, _, _, _, _, rfl, rfl, SqT.of h, atI_nat (j := 0) rfl, ?_⟩
    refine ⟨_, rfl, two, fun p hp => ⟨p, _, rfl, .inr (SqT.of upd_same), rfl, rfl, _, rfl, itF rfl ?_⟩⟩
    have s1 := same_new hp (.tup [.str "number", .str "box"])
    refine ⟨_, rfl, two, fun p2 hp2 => ⟨p2, _, rfl, .inr (SqT.of upd_same), rfl, rfl, _, rfl, itT rfl ?_⟩⟩
    have s2 := s1.trans (same_new hp2 (.tup [.str "asked", .str "told"]))
    exact ⟨_, rfl, rfl, _, rfl, itF (ne_str (by decide)) ⟨_, rfl, q _ s2⟩⟩
  | op h h1 h2 =>
    rename_i p0 d x y l r
    have dl : l.deep ≤ n := Nat.le_trans (Nat.le_max_left ..) (Nat.le_of_succ_le_succ hd)
    have dr : r.deep ≤ n := Nat.le_trans (Nat.le_max_right ..) (Nat.le_of_succ_le_succ hd)
    have dl6 : l.deep ≤ 6 := Nat.le_trans (Nat.le_max_left ..) (Nat.le_of_succ_le hd6)
    have dr6 : r.deep ≤ 6 := Nat.le_trans (Nat.le_max_right ..) (Nat.le_of_succ_le hd6)
    have i1 : inV (.str d.word) [.str "number", .str "box"] = false := by cases d <;> rfl
    have i2 : inV (.str d.word) [.str "asked", .str "told"] = false := by cases d <;> rfl
    refine ⟨_, rfl, _, _, _, _, rfl, rfl, SqT.of h, atI_nat (j := 0) rfl, ?_⟩
    refine ⟨_, rfl, two, fun p hp => ⟨p, _, rfl, .inr (SqT.of upd_same), rfl, rfl, _, rfl, itF i1 ?_⟩⟩
    have s1 := same_new hp (.tup [.str "number", .str "box"])
    refine ⟨_, rfl, two, fun p2 hp2 => ⟨p2, _, rfl, .inr (SqT.of upd_same), rfl, rfl, _, rfl, itF i2 ?_⟩⟩
    have s2 := s1.trans (same_new hp2 (.tup [.str "asked", .str "told"]))
    refine ⟨_, rfl, _, _, _, _, rfl, rfl, SqT.of (s2 _ _ h), atI_nat (j := 1) rfl, _, rfl, _, rfl, _, rfl, x, c, l, kvs, xs, a, t, rfl, h1.keep (Same.tups s2), dl, dl6, hg.1, B, s2 _ _ hc, ha, ht, fun H3 s3 => ?_⟩
    have s3 := s2.trans s3
    refine ⟨_, rfl, _, _, _, _, rfl, rfl, SqT.of (s3 _ _ h), atI_nat (j := 2) rfl, _, rfl, _, rfl, _, rfl, y, c, r, kvs, xs, a, t, rfl, h2.keep (Same.tups s3), dr, dr6, hg.2, B, s3 _ _ hc, ha, ht, fun H4 s4 => ?_⟩
    have s4 := s3.trans s4
    have n1 := Ex.nb B ha ht hg.1 dl6
    have n2 := Ex.nb B ha ht hg.2 dr6
    have q' : ∀ H', Same H H' → Q (.int (d.fn (l.val kvs a t) (r.val kvs a t))) H' := q
    generalize l.val kvs a t = i at *
    generalize r.val kvs a t = j at *
    refine ⟨_, _, rfl, ?_⟩
    refine ⟨_, rfl, two, fun p5 hp5 => ⟨p5, _, rfl, .inr (SqT.of upd_same), rfl, rfl, _, rfl, ?_⟩⟩
    have s5 := s4.trans (same_new hp5 (.tup [.str "over", .str "rest"]))
    cases d with
    | over =>
      refine itT rfl ⟨_, rfl, rfl, _, rfl, ?_⟩
      refine ite2 (fun cc => ?_) (fun cc => ?_)
      · have c' : V.int j = V.int 0 := of_decide_eq_true cc
        have z := q' _ s5
        rw [show Dd.fn .over i j = 0 from if_pos (V.int.inj c')] at z
        exact z
      · have c' : ¬ V.int j = V.int 0 := of_decide_eq_false (Bool.eq_false_iff.mpr cc)
        have nz : j ≠ 0 := fun z => c' (by rw [z])
        have z := q' _ s5
        rw [show Dd.fn .over i j = i / j from if_neg nz] at z
        exact ⟨_, rfl, rfl, _, rfl, itT eq_str ⟨_, rfl, _, rfl, _, _, rfl, rfl, wideDiv n2 nz, z⟩⟩
    | rest =>
      refine itT rfl ⟨_, rfl, rfl, _, rfl, ?_⟩
      refine ite2 (fun cc => ?_) (fun cc => ?_)
      · have c' : V.int j = V.int 0 := of_decide_eq_true cc
        have z := q' _ s5
        rw [show Dd.fn .rest i j = 0 from if_pos (V.int.inj c')] at z
        exact z
      · have c' : ¬ V.int j = V.int 0 := of_decide_eq_false (Bool.eq_false_iff.mpr cc)
        have nz : j ≠ 0 := fun z => c' (by rw [z])
        have z := q' _ s5
        rw [show Dd.fn .rest i j = i % j from if_neg nz, Int.emod_def, Int.mul_comm] at z
        exact ⟨_, rfl, rfl, _, rfl, itF (ne_str (by decide)) ⟨_, rfl, _, rfl, _, rfl, _, _, rfl, rfl, wideDiv n2 nz, _, rfl, _, _, rfl, rfl, wideMul (nb_div n1 n2) n2, _, _, rfl, rfl, z⟩⟩
    | plus =>
      refine itF rfl ⟨_, rfl, _, rfl, _, _, rfl, rfl, _, rfl, _, rfl, _, _, rfl, rfl, _, _, rfl, _, rfl, _, rfl, _, _, rfl, rfl, wideMul n1 n2, (by show 3 ≤ sizeLine; decide), fun p6 hp6 => ?_⟩
      refine ⟨(by show 3 ≤ sizeLine; decide), fun p7 hp7 => ⟨.inl ⟨rfl, _, SqL.of upd_same⟩, _, rfl, p7, _, _, 0, _, rfl, rfl, SqL.of upd_same, rfl, rfl, rfl, rfl, (by intro m z hm; omega), ?_⟩⟩
      have n67 : p6 ≠ p7 := by intro e; rw [e, upd_same] at hp7; cases hp7
      refine ⟨p6, _, _, _, rfl, rfl, SqL.of (by rw [upd_ne n67]; exact upd_same), atI_nat (j := 0) rfl, ?_⟩
      exact q' _ ((s5.trans (same_new hp6 _)).trans (same_new hp7 _))
    | less =>
      refine itF rfl ⟨_, rfl, _, rfl, _, _, rfl, rfl, _, rfl, _, rfl, _, _, rfl, rfl, _, _, rfl, _, rfl, _, rfl, _, _, rfl, rfl, wideMul n1 n2, (by show 3 ≤ sizeLine; decide), fun p6 hp6 => ?_⟩
      refine ⟨(by show 3 ≤ sizeLine; decide), fun p7 hp7 => ⟨.inl ⟨rfl, _, SqL.of upd_same⟩, _, rfl, p7, _, _, 1, _, rfl, rfl, SqL.of upd_same, rfl, rfl, rfl, rfl, before1, ?_⟩⟩
      have n67 : p6 ≠ p7 := by intro e; rw [e, upd_same] at hp7; cases hp7
      refine ⟨p6, _, _, _, rfl, rfl, SqL.of (by rw [upd_ne n67]; exact upd_same), atI_nat (j := 1) rfl, ?_⟩
      have z := fun o => q' _ ((s5.trans (same_new hp6 _)).trans (same_new hp7 o))
      have e : Dd.fn .less i j = if 0 > i - j then 0 else i - j := by
        show (if i < j then 0 else i - j) = _
        by_cases c : i < j
        · rw [if_pos c, if_pos (by omega)]
        · rw [if_neg c, if_neg (by omega)]
      rw [e] at z
      exact z _
    | times =>
      refine itF rfl ⟨_, rfl, _, rfl, _, _, rfl, rfl, _, rfl, _, rfl, _, _, rfl, rfl, _, _, rfl, _, rfl, _, rfl, _, _, rfl, rfl, wideMul n1 n2, (by show 3 ≤ sizeLine; decide), fun p6 hp6 => ?_⟩
      refine ⟨(by show 3 ≤ sizeLine; decide), fun p7 hp7 => ⟨.inl ⟨rfl, _, SqL.of upd_same⟩, _, rfl, p7, _, _, 2, _, rfl, rfl, SqL.of upd_same, rfl, rfl, rfl, rfl, before2, ?_⟩⟩
      have n67 : p6 ≠ p7 := by intro e; rw [e, upd_same] at hp7; cases hp7
      refine ⟨p6, _, _, _, rfl, rfl, SqL.of (by rw [upd_ne n67]; exact upd_same), atI_nat (j := 2) rfl, ?_⟩
      exact q' _ ((s5.trans (same_new hp6 _)).trans (same_new hp7 _))
theorem all_lw (F : Fun K "_law_worth" "_law_worth" sLw f fd) (bG : Binds K fd ["_law_some", "_law_crates", "_law_wish", "_law_reply"] []) (mG : mg "_law_worth" = some (.ref f)) (mm : mg "max" = none) :
    ∀ n : Nat, FnOk P w K mg base CX0 n f fd ["_law_some", "_law_crates", "_law_wish", "_law_reply"] (spLw n)
  | 0 => no_lw
  | n + 1 => ok_lw F (all_lw F bG mG mm n) bG mG mm
end
end Any
namespace Any
open L2 PySem PySem.Spec PyProof.Rows LamX NdefX
abbrev sLh : Stmt := top 16
abbrev nmLh : List Str := ["_law_some", "_law_crates", "_law_wish", "_law_reply", "_law_word", "_law_found", "_law_one", "_law_other", "_law_part"]
abbrev psLW : List Str := ["_law_some", "_law_crates", "_law_wish", "_law_reply"]
theorem scLh : FnScope nmLh psLW (defScope sLh) := ⟨rfl, rfl, rfl, by decide +kernel, rfl, by decide +kernel, by decide +kernel⟩
def spLh (n : Nat) : Sp := fun vs H Q _ => ∃ (v : V) (c : Addr) (e : Ts) (kvs : List (Str × Int)) (xs : List Str) (a t : Int), vs = [v, .ref c, .int a, .int t] ∧ TsAt H v e ∧ e.deep ≤ n ∧ e.good xs ∧ Bx kvs xs ∧
  H c = some (.dK (bx kvs)) ∧ (0 ≤ a ∧ a < 1024) ∧ (0 ≤ t ∧ t < 1024) ∧ ∀ H', Same H H' → Q (.bl (e.val kvs a t)) H'
section
variable {P : Program} {w : World} {K : PySem.W.Frag} {mg : Str → Option Value} {base : Heap} {f lw : Addr} {fd ld : FuncData}
theorem no_lh {k : Nat} : FnOk P w K mg base CX0 k f fd psLW (spLh 0) := by
  have no : ∀ vs H Q E, ¬ spLh 0 vs H Q E := fun vs H Q E h => by
    obtain ⟨v, c, e, kvs, xs, a, t, _, _, hd, _⟩ := h
    cases e <;> exact absurd hd (by show ¬ _ ≤ 0; exact Nat.not_succ_le_zero _)
  exact ⟨fun vs H Q E h => absurd h (no vs H Q E), fun A outer s H args us vs Q E _ _ _ _ h => absurd h (no vs H Q E)⟩
theorem ok_lh {n : Nat} (F : Fun K "_law_holds" "_law_holds" sLh f fd) (G : FnOk P w K mg base CX0 (n + 6) f fd psLW (spLh n)) (bG : Binds K fd psLW []) (mG : mg "_law_holds" = some (.ref f))
    (GL : FnOk P w K mg base CX0 6 lw ld psLW (spLw 6)) (bL : Binds K ld psLW []) (kL : PySem.W.keepIn K (.ref lw) = true) (mL : mg "_law_worth" = some (.ref lw)) :
    FnOk P w K mg base CX0 (n + 7) f fd psLW (spLh (n + 1)) := by
  refine F.ok scLh (fun vs H Q E h => ?_) (fun cdv A outer s H vs Q E hr h => ?_)
  · obtain ⟨v, c, e, kvs, xs, a, t, rfl, _⟩ := h
    rfl
  obtain ⟨v, c, e, kvs, xs, a, t, rfl, hv, hd, hg, B, hc, ha, ht, q⟩ := h
  have kG := F.kp
  have hr6 := hr.mono (show 6 ≤ n + 6 by omega)
  refine ⟨_, pss_cons (ps_set (i := 4) scLh.nd rfl (Or.inl rfl) (pe_ix ix_tup (pv 0) pe_int (fun _ _ => rfl)))
    (pss_cons (ps_if (pt_cmpR op_eq (pv 4) pe_str (nomark _)) (pss_one (ps_ret (pe_not (pe_call G hr rfl mG kG bG .nil pass0 (pa_cons (pe_ix ix_tup (pv 0) pe_int (fun _ _ => rfl)) (pa_cons (pv 1) (pa_cons (pv 2) (pa_cons (pv 3) pa_nil)))))))) pss_nil)
    (pss_cons (ps_if (pt_cmpR op_in_seq (pv 4) (pe_tup (pa_cons pe_str (pa_cons pe_str pa_nil))) (by rfl))
      (pss_cons (ps_setLc (i := 5) (own := [("_law_part", 8)]) (g := gName 8) (tt := tYes) (by rfl) scLh.nd rfl rfl (sw_true rfl rfl rfl (by decide +kernel)) (pi_tup (pe_slice sl_tup (pv 0) (po_some pe_int) po_none)) (blkOk_by (N := nmLh) (sc := defScope sLh) (by decide +kernel))
          (fun _ _ _ _ _ => pg_name (i := 8) scLh.nd rfl (Or.inl rfl)) (fun _ _ _ _ _ => pts_nil) (fun _ _ _ _ _ => pe_call G hr rfl mG kG bG .nil pass0 (pa_cons (pv 8) (pa_cons (pv 1) (pa_cons (pv 2) (pa_cons (pv 3) pa_nil))))))
      (pss_one (ps_ret (pe_ifExp (pt_cmpR op_eq (pv 4) pe_str (nomark _)) (pe_and (pe_ix ix_list (pv 5) pe_int (fun _ _ => rfl)) (pe_one (pe_ix ix_list (pv 5) pe_int (fun _ _ => rfl)))) (pe_or (pe_ix ix_list (pv 5) pe_int (fun _ _ => rfl)) (pe_one (pe_ix ix_list (pv 5) pe_int (fun _ _ => rfl)))))))) pss_nil)
    (pss_cons (ps_asg (pe_lc (own := [("_law_part", 8)]) (g := gName 8) (tt := tYes) (by rfl) scLh.nd (pi_tup (pe_slice sl_tup (pv 0) (po_some pe_int) po_none)) (blkOk_by (N := nmLh) (sc := defScope sLh) (by decide +kernel))
          (fun _ _ _ _ _ => pg_name (i := 8) scLh.nd rfl (Or.inl rfl)) (fun _ _ _ _ _ => pts_nil) (fun _ _ _ _ _ => pe_call GL hr6 rfl mL kL bL .nil pass0 (pa_cons (pv 8) (pa_cons (pv 1) (pa_cons (pv 2) (pa_cons (pv 3) pa_nil))))))
        (pg_unl rfl (pgs_cons (pg_name (i := 6) scLh.nd rfl (Or.inl rfl)) (pgs_cons (pg_name (i := 7) scLh.nd rfl (Or.inl rfl)) pgs_nil))))
    (pss_one (ps_ret (pe_ifExp (pt_cmpR op_eq (pv 4) pe_str (nomark _)) (pe_cmpR op_eq (pv 6) (pv 7) (nomark _)) (pe_cmpR op_lt (pv 6) (pv 7) (nomark _)))))))), ?_⟩
  have two : 2 ≤ sizeLine := by decide
  cases hv with
  | nt h h1 =>
    rename_i p0 x l
    refine ⟨_, rfl, _, _, _, _, rfl, rfl, SqT.of h, atI_nat (j := 0) rfl, ?_⟩
    refine ⟨_, rfl, rfl, _, rfl, itT eq_str ?_⟩
    refine ⟨_, rfl, _, _, _, _, rfl, rfl, SqT.of h, atI_nat (j := 1) rfl, _, rfl, _, rfl, _, rfl, ?_⟩
    exact ⟨x, c, l, kvs, xs, a, t, rfl, h1, Nat.le_of_succ_le_succ hd, hg, B, hc, ha, ht, fun H2 s2 => ⟨_, rfl, q H2 s2⟩⟩
  | both h h1 h2 =>
    rename_i p0 x y l r
    have dl : l.deep ≤ n := Nat.le_trans (Nat.le_max_left ..) (Nat.le_of_succ_le_succ hd)
    have dr : r.deep ≤ n := Nat.le_trans (Nat.le_max_right ..) (Nat.le_of_succ_le_succ hd)
    refine ⟨_, rfl, _, _, _, _, rfl, rfl, SqT.of h, atI_nat (j := 0) rfl, ?_⟩
    refine ⟨_, rfl, rfl, _, rfl, itF (ne_str (by decide)) ?_⟩
    refine ⟨_, rfl, two, fun p hp => ⟨p, _, rfl, .inr (SqT.of upd_same), rfl, rfl, _, rfl, itT rfl ?_⟩⟩
    have s1 := same_new hp (.tup [.str "both", .str "either"])
    refine ⟨_, rfl, 1, rfl, p0, _, rfl, SqT.of (s1 _ _ h), (by show ¬ (1 = 0 ∧ _); omega), fun p2 hp2 => ⟨p2, rfl, ⟨_, SqT.of upd_same⟩, fun C hC => ?_⟩⟩
    have s2 := s1.trans (same_new hp2 (.tup [x, y]))
    have e2 := @upd_same (upd H p (.tup [.str "both", .str "either"])) p2 (.tup [x, y])
    refine lc_tup (K := K) (a := p2) (xs := [x, y]) (fun i Hc => Hc C = some (.lst (([l.val kvs a t, r.val kvs a t].take i).map V.bl)) ∧ Same (upd (upd H p (.tup [.str "both", .str "either"])) p2 (.tup [x, y])) Hc)
      ⟨upd_same, same_new hC _⟩ (fun i Hc _ z => SqT.of (z.2 _ _ e2)) ?_ ?_
    · rintro i x' Hc hx ⟨hC1, sm⟩
      have s3 := s2.trans sm
      match i, hx with
      | 0, hx =>
        cases hx
        refine ⟨rfl, _, rfl, _, rfl, _, rfl, _, rfl, x, c, l, kvs, xs, a, t, rfl, h1.keep (Same.tups s3), dl, hg.1, B, s3 _ _ hc, ha, ht, fun H4 s4 => ?_⟩
        refine ⟨_, s4 _ _ hC1, (by show 0 < sizeLine; decide), upd_same, fun b o hb => ?_⟩
        rw [upd_ne (ne_of_none hb hC)]
        exact s4 _ _ (sm _ _ hb)
      | 1, hx =>
        cases hx
        refine ⟨rfl, _, rfl, _, rfl, _, rfl, _, rfl, y, c, r, kvs, xs, a, t, rfl, h2.keep (Same.tups s3), dr, hg.2, B, s3 _ _ hc, ha, ht, fun H4 s4 => ?_⟩
        refine ⟨_, s4 _ _ hC1, (by show 1 < sizeLine; decide), upd_same, fun b o hb => ?_⟩
        rw [upd_ne (ne_of_none hb hC)]
        exact s4 _ _ (sm _ _ hb)
    · rintro Hc ⟨hC1, sm⟩
      have z := q Hc (s2.trans sm)
      refine ⟨_, rfl, rfl, _, rfl, itT eq_str ⟨_, rfl, C, _, _, _, rfl, rfl, SqL.of hC1, atI_nat (j := 0) rfl, _, rfl, ?_⟩⟩
      have z : Q (.bl (l.val kvs a t && r.val kvs a t)) Hc := z
      cases e1 : l.val kvs a t with
      | false => rw [e1] at z; exact z
      | true => rw [e1] at z; exact ⟨_, rfl, C, _, _, _, rfl, rfl, SqL.of hC1, atI_nat (j := 1) rfl, z⟩
  | either h h1 h2 =>
    rename_i p0 x y l r
    have dl : l.deep ≤ n := Nat.le_trans (Nat.le_max_left ..) (Nat.le_of_succ_le_succ hd)
    have dr : r.deep ≤ n := Nat.le_trans (Nat.le_max_right ..) (Nat.le_of_succ_le_succ hd)
    refine ⟨_, rfl, _, _, _, _, rfl, rfl, SqT.of h, atI_nat (j := 0) rfl, ?_⟩
    refine ⟨_, rfl, rfl, _, rfl, itF (ne_str (by decide)) ?_⟩
    refine ⟨_, rfl, two, fun p hp => ⟨p, _, rfl, .inr (SqT.of upd_same), rfl, rfl, _, rfl, itT rfl ?_⟩⟩
    have s1 := same_new hp (.tup [.str "both", .str "either"])
    refine ⟨_, rfl, 1, rfl, p0, _, rfl, SqT.of (s1 _ _ h), (by show ¬ (1 = 0 ∧ _); omega), fun p2 hp2 => ⟨p2, rfl, ⟨_, SqT.of upd_same⟩, fun C hC => ?_⟩⟩
    have s2 := s1.trans (same_new hp2 (.tup [x, y]))
    have e2 := @upd_same (upd H p (.tup [.str "both", .str "either"])) p2 (.tup [x, y])
    refine lc_tup (K := K) (a := p2) (xs := [x, y]) (fun i Hc => Hc C = some (.lst (([l.val kvs a t, r.val kvs a t].take i).map V.bl)) ∧ Same (upd (upd H p (.tup [.str "both", .str "either"])) p2 (.tup [x, y])) Hc)
      ⟨upd_same, same_new hC _⟩ (fun i Hc _ z => SqT.of (z.2 _ _ e2)) ?_ ?_
    · rintro i x' Hc hx ⟨hC1, sm⟩
      have s3 := s2.trans sm
      match i, hx with
      | 0, hx =>
        cases hx
        refine ⟨rfl, _, rfl, _, rfl, _, rfl, _, rfl, x, c, l, kvs, xs, a, t, rfl, h1.keep (Same.tups s3), dl, hg.1, B, s3 _ _ hc, ha, ht, fun H4 s4 => ?_⟩
        refine ⟨_, s4 _ _ hC1, (by show 0 < sizeLine; decide), upd_same, fun b o hb => ?_⟩
        rw [upd_ne (ne_of_none hb hC)]
        exact s4 _ _ (sm _ _ hb)
      | 1, hx =>
        cases hx
        refine ⟨rfl, _, rfl, _, rfl, _, rfl, _, rfl, y, c, r, kvs, xs, a, t, rfl, h2.keep (Same.tups s3), dr, hg.2, B, s3 _ _ hc, ha, ht, fun H4 s4 => ?_⟩
        refine ⟨_, s4 _ _ hC1, (by show 1 < sizeLine; decide), upd_same, fun b o hb => ?_⟩
        rw [upd_ne (ne_of_none hb hC)]
        exact s4 _ _ (sm _ _ hb)
    · rintro Hc ⟨hC1, sm⟩
      have z := q Hc (s2.trans sm)
      refine ⟨_, rfl, rfl, _, rfl, itF (ne_str (by decide)) ⟨_, rfl, C, _, _, _, rfl, rfl, SqL.of hC1, atI_nat (j := 0) rfl, _, rfl, ?_⟩⟩
      have z : Q (.bl (l.val kvs a t || r.val kvs a t)) Hc := z
      cases e1 : l.val kvs a t with
      | true => rw [e1] at z; exact z
      | false => rw [e1] at z; exact ⟨_, rfl, C, _, _, _, rfl, rfl, SqL.of hC1, atI_nat (j := 1) rfl, z⟩
  | is h h1 h2 =>
    rename_i p0 x y l r
    refine ⟨_, rfl, _, _, _, _, rfl, rfl, SqT.of h, atI_nat (j := 0) rfl, ?_⟩
    refine ⟨_, rfl, rfl, _, rfl, itF (ne_str (by decide)) ?_⟩
    refine ⟨_, rfl, two, fun p hp => ⟨p, _, rfl, .inr (SqT.of upd_same), rfl, rfl, _, rfl, itF rfl ?_⟩⟩
    have s1 := same_new hp (.tup [.str "both", .str "either"])
    refine ⟨_, rfl, 1, rfl, p0, _, rfl, SqT.of (s1 _ _ h), (by show ¬ (1 = 0 ∧ _); omega), fun p2 hp2 => ⟨p2, rfl, ⟨_, SqT.of upd_same⟩, fun C hC => ?_⟩⟩
    have s2 := s1.trans (same_new hp2 (.tup [x, y]))
    have e2 := @upd_same (upd H p (.tup [.str "both", .str "either"])) p2 (.tup [x, y])
    refine lc_tup (K := K) (a := p2) (xs := [x, y]) (fun i Hc => Hc C = some (.lst (([l.val kvs a t, r.val kvs a t].take i).map V.int)) ∧ Same (upd (upd H p (.tup [.str "both", .str "either"])) p2 (.tup [x, y])) Hc)
      ⟨upd_same, same_new hC _⟩ (fun i Hc _ z => SqT.of (z.2 _ _ e2)) ?_ ?_
    · rintro i x' Hc hx ⟨hC1, sm⟩
      have s3 := s2.trans sm
      match i, hx with
      | 0, hx =>
        cases hx
        refine ⟨rfl, _, rfl, _, rfl, _, rfl, _, rfl, x, c, l, kvs, xs, a, t, rfl, h1.keep (Same.tups s3), hg.1.2, hg.1.2, hg.1.1, B, s3 _ _ hc, ha, ht, fun H4 s4 => ?_⟩
        refine ⟨_, s4 _ _ hC1, (by show 0 < sizeLine; decide), upd_same, fun b o hb => ?_⟩
        rw [upd_ne (ne_of_none hb hC)]
        exact s4 _ _ (sm _ _ hb)
      | 1, hx =>
        cases hx
        refine ⟨rfl, _, rfl, _, rfl, _, rfl, _, rfl, y, c, r, kvs, xs, a, t, rfl, h2.keep (Same.tups s3), hg.2.2, hg.2.2, hg.2.1, B, s3 _ _ hc, ha, ht, fun H4 s4 => ?_⟩
        refine ⟨_, s4 _ _ hC1, (by show 1 < sizeLine; decide), upd_same, fun b o hb => ?_⟩
        rw [upd_ne (ne_of_none hb hC)]
        exact s4 _ _ (sm _ _ hb)
    · rintro Hc ⟨hC1, sm⟩
      have z := q Hc (s2.trans sm)
      refine ⟨C, _, rfl, SqL.of hC1, rfl, _, _, rfl, _, _, rfl, rfl, ?_⟩
      have z : Q (.bl (decide (l.val kvs a t = r.val kvs a t))) Hc := z
      refine ⟨_, rfl, rfl, _, rfl, itT eq_str ⟨_, rfl, _, rfl, rfl, ?_⟩⟩
      rw [show decide (V.int (l.val kvs a t) = V.int (r.val kvs a t)) = decide (l.val kvs a t = r.val kvs a t) from decide_eq_decide.mpr ⟨fun z => V.int.inj z, fun z => by rw [z]⟩]
      exact z
  | bel h h1 h2 =>
    rename_i p0 x y l r
    refine ⟨_, rfl, _, _, _, _, rfl, rfl, SqT.of h, atI_nat (j := 0) rfl, ?_⟩
    refine ⟨_, rfl, rfl, _, rfl, itF (ne_str (by decide)) ?_⟩
    refine ⟨_, rfl, two, fun p hp => ⟨p, _, rfl, .inr (SqT.of upd_same), rfl, rfl, _, rfl, itF rfl ?_⟩⟩
    have s1 := same_new hp (.tup [.str "both", .str "either"])
    refine ⟨_, rfl, 1, rfl, p0, _, rfl, SqT.of (s1 _ _ h), (by show ¬ (1 = 0 ∧ _); omega), fun p2 hp2 => ⟨p2, rfl, ⟨_, SqT.of upd_same⟩, fun C hC => ?_⟩⟩
    have s2 := s1.trans (same_new hp2 (.tup [x, y]))
    have e2 := @upd_same (upd H p (.tup [.str "both", .str "either"])) p2 (.tup [x, y])
    refine lc_tup (K := K) (a := p2) (xs := [x, y]) (fun i Hc => Hc C = some (.lst (([l.val kvs a t, r.val kvs a t].take i).map V.int)) ∧ Same (upd (upd H p (.tup [.str "both", .str "either"])) p2 (.tup [x, y])) Hc)
      ⟨upd_same, same_new hC _⟩ (fun i Hc _ z => SqT.of (z.2 _ _ e2)) ?_ ?_
    · rintro i x' Hc hx ⟨hC1, sm⟩
      have s3 := s2.trans sm
      match i, hx with
      | 0, hx =>
        cases hx
        refine ⟨rfl, _, rfl, _, rfl, _, rfl, _, rfl, x, c, l, kvs, xs, a, t, rfl, h1.keep (Same.tups s3), hg.1.2, hg.1.2, hg.1.1, B, s3 _ _ hc, ha, ht, fun H4 s4 => ?_⟩
        refine ⟨_, s4 _ _ hC1, (by show 0 < sizeLine; decide), upd_same, fun b o hb => ?_⟩
        rw [upd_ne (ne_of_none hb hC)]
        exact s4 _ _ (sm _ _ hb)
      | 1, hx =>
        cases hx
        refine ⟨rfl, _, rfl, _, rfl, _, rfl, _, rfl, y, c, r, kvs, xs, a, t, rfl, h2.keep (Same.tups s3), hg.2.2, hg.2.2, hg.2.1, B, s3 _ _ hc, ha, ht, fun H4 s4 => ?_⟩
        refine ⟨_, s4 _ _ hC1, (by show 1 < sizeLine; decide), upd_same, fun b o hb => ?_⟩
        rw [upd_ne (ne_of_none hb hC)]
        exact s4 _ _ (sm _ _ hb)
    · rintro Hc ⟨hC1, sm⟩
      have z := q Hc (s2.trans sm)
      refine ⟨C, _, rfl, SqL.of hC1, rfl, _, _, rfl, _, _, rfl, rfl, ?_⟩
      exact ⟨_, rfl, rfl, _, rfl, itF (ne_str (by decide)) ⟨_, rfl, _, rfl, _, _, rfl, rfl, z⟩⟩
theorem all_lh (F : Fun K "_law_holds" "_law_holds" sLh f fd) (bG : Binds K fd psLW []) (mG : mg "_law_holds" = some (.ref f))
    (GL : FnOk P w K mg base CX0 6 lw ld psLW (spLw 6)) (bL : Binds K ld psLW []) (kL : PySem.W.keepIn K (.ref lw) = true) (mL : mg "_law_worth" = some (.ref lw)) : ∀ n : Nat, FnOk P w K mg base CX0 (n + 6) f fd psLW (spLh n)
  | 0 => no_lh
  | n + 1 => ok_lh F (all_lh F bG mG GL bL kL mL n) bG mG GL bL kL mL
end
end Any
namespace Any
open L2 PySem PySem.Spec PyProof.Rows LamX NdefX
abbrev sExpr : Stmt := top 17
abbrev nmExpr : List Str := ["_law_bag_here", "_law_names", "_law_asks", "_law_deep", "_law_some", "_law_word", "_law_name"]
abbrev psE : List Str := ["_law_bag_here", "_law_names", "_law_asks", "_law_deep"]
theorem scExpr : FnScope nmExpr psE (defScope sExpr) := ⟨rfl, rfl, rfl, by decide +kernel, rfl, by decide +kernel, by decide +kernel⟩
def ce : Nat → Nat
  | 0 => 5
  | n + 1 => 2 * ce n + 5
theorem ce_pos (n : Nat) : 5 ≤ ce n := by
  cases n with
  | zero => exact Nat.le_refl _
  | succ n => show 5 ≤ 2 * ce n + 5; omega
def spExpr (n : Nat) : Sp := fun vs H Q _ => ∃ (b l : Addr) (d m : Nat) (xs : List Str), vs = [.ref b, .ref l, .int 1, .int d] ∧ d < n ∧ Bag H b m ∧ m + ce d < 2 ^ 40 ∧ H l = some (.lst (xs.map V.str)) ∧ l ≠ b ∧ xs.length ≤ 8 ∧
  ∀ (v : V) (e : Ex) (H' : Hp), Kept b H H' → Bag H' b (m + ce d) → ExAt H' v e → e.deep ≤ max d 1 → e.good xs → Q v H'
def ifBody : Stmt → List Stmt
  | .If _ b _ _ => b
  | _ => []
abbrev leafBody : List Stmt := ifBody ((defBody sExpr).getD 0 (.Pass ⟨0, 0, 0, 0⟩))
section
variable {P : Program} {w : World} {K : PySem.W.Frag} {mg : Str → Option Value} {base : Heap} {f : Addr} {fd : FuncData}
theorem no_expr {k : Nat} : FnOk P w K mg base CX0 k f fd psE (spExpr 0) := by
  have no : ∀ vs H Q E, ¬ spExpr 0 vs H Q E := fun vs H Q E h => by
    obtain ⟨b, l, d, m, xs, _, hd, _⟩ := h
    omega
  exact ⟨fun vs H Q E h => absurd h (no vs H Q E), fun A outer s H args us vs Q E _ _ _ _ h => absurd h (no vs H Q E)⟩
theorem many_at {r : Int} (h0 : 0 ≤ r) (h1 : r < 3) : ∃ n : Int, atI [V.int 4, V.int 12, V.int 1000] r = some (.int n) ∧ 1 ≤ n ∧ n ≤ 1000 := by
  have : r = 0 ∨ r = 1 ∨ r = 2 := by omega
  rcases this with rfl | rfl | rfl
  · exact ⟨4, rfl, by decide, by decide⟩
  · exact ⟨12, rfl, by decide, by decide⟩
  · exact ⟨1000, rfl, by decide, by decide⟩
theorem word_at {r : Int} (h0 : 0 ≤ r) (h1 : r < 5) : ∃ d : Dd, atI [V.str "plus", V.str "less", V.str "times", V.str "over", V.str "rest"] r = some (.str d.word) := by
  have : r = 0 ∨ r = 1 ∨ r = 2 ∨ r = 3 ∨ r = 4 := by omega
  rcases this with rfl | rfl | rfl | rfl | rfl
  · exact ⟨.plus, rfl⟩
  · exact ⟨.less, rfl⟩
  · exact ⟨.times, rfl⟩
  · exact ⟨.over, rfl⟩
  · exact ⟨.rest, rfl⟩
theorem ok_expr {n : Nat} {t o : Addr} {td od : FuncData} (F : Fun K "_law_expr" "_law_expr" sExpr f fd) (T : FnOk P w K mg base CX0 1 t td ["_law_bag_here", "_law_many"] spTake) (bT : Binds K td ["_law_bag_here", "_law_many"] []) (kT : PySem.W.keepIn K (.ref t) = true) (mT : mg "_law_take" = some (.ref t))
    (O : FnOk P w K mg base CX0 2 o od ["_law_bag_here", "_law_some"] spOf) (bO : Binds K od ["_law_bag_here", "_law_some"] []) (kO : PySem.W.keepIn K (.ref o) = true) (mO : mg "_law_of" = some (.ref o))
    (G : FnOk P w K mg base CX0 (n + 2) f fd psE (spExpr n)) (bG : Binds K fd psE []) (mG : mg "_law_expr" = some (.ref f)) : FnOk P w K mg base CX0 (n + 3) f fd psE (spExpr (n + 1)) := by
  refine F.ok scExpr (fun vs H Q E h => ?_) (fun cdv A outer s H vs Q E hr h => ?_)
  · obtain ⟨b, l, d, m, xs, rfl, _⟩ := h
    rfl
  obtain ⟨b, l, d, m, xs, rfl, hd, hB, hm, hl, hne, hxs, q⟩ := h
  have hr1 := hr.mono (show 1 ≤ n + 2 by omega)
  have hr2 := hr.mono (show 2 ≤ n + 2 by omega)
  have kG := F.kp
  obtain ⟨t1, ht1, leaf⟩ : ∃ t1, PSs (cxOf CX0 P w K mg base nmExpr "_law_expr" (defScope sExpr) f cdv A outer s H E).nox leafBody t1 ∧
      ∀ (D : Ends) (H0 : Hp) (m0 : Nat), D.rt = Q → Kept b H H0 → Bag H0 b m0 → m0 ≤ m + 1 → t1 D (start nmExpr [.ref b, .ref l, .int 1, .int d]) H0 := by
    refine ⟨_, pss_cons (ps_set (i := 4) scExpr.nd rfl (Or.inl rfl) (pe_op op_cat (pe_lst (pa_cons (pe_tup (pa_cons pe_str (pa_cons (pe_call T hr1 rfl mT kT bT .nil pass0 (pa_cons (pv 0) (pa_cons (pe_ix ix_list (pe_lst (pa_cons pe_int (pa_cons pe_int (pa_cons pe_int pa_nil))))
          (pe_call T hr1 rfl mT kT bT .nil pass0 (pa_cons (pv 0) (pa_cons pe_int pa_nil))) (fun _ _ => rfl)) pa_nil))) pa_nil))) pa_nil)) (pe_op op_rep (pe_lst (pa_cons (pe_tup (pa_cons pe_str pa_nil)) pa_nil)) (pv 2))))
      (pss_one (ps_ret (pe_call O hr2 rfl mO kO bO .nil pass0 (pa_cons (pv 0) (pa_cons (pe_op op_cat (pv 4) (pe_op op_rep (pe_lc (own := [("_law_name", 6)]) (g := gName 6) (tt := tYes) rfl scExpr.nd (pi_list (pv 1)) (blkOk_by (N := nmExpr) (sc := defScope sExpr) (by decide +kernel))
        (fun _ _ _ _ _ => pg_name (i := 6) scExpr.nd rfl (Or.inl rfl)) (fun _ _ _ _ _ => pts_nil) (fun _ _ _ _ _ => pe_tup (pa_cons pe_str (pa_cons (pv 6) pa_nil)))) pe_int)) pa_nil))))), ?_⟩
    intro D H0 m0 eD k0 B0 hm0
    have cp := ce_pos d
    refine ⟨_, rfl, (by show 3 ≤ sizeLine; decide), fun p1 hp1 => ?_⟩
    refine ⟨_, rfl, b, 3, m0, rfl, B0.keep (same_new hp1 _), by omega, by decide, by decide, fun d1 H1 k1 B1 d10 d11 => ?_⟩
    obtain ⟨mv, em, mv0, mv1⟩ := many_at d10 d11
    refine ⟨p1, _, _, _, rfl, rfl, SqL.of (k1 _ _ (B0.ne hp1) upd_same), em, b, mv, m0 + 1, rfl, B1, by omega, mv0, mv1, fun d2 H2 k2 B2 d20 d21 => ?_⟩
    refine ⟨(by show 2 ≤ sizeLine; decide), fun p2 hp2 => ⟨(by show 1 ≤ sizeLine; decide), fun p3 hp3 => ⟨(by show 1 ≤ sizeLine; decide), fun p4 hp4 => ⟨(by show 1 ≤ sizeLine; decide), fun p5 hp5 => ?_⟩⟩⟩⟩
    refine ⟨_, rfl, p5, 1, _, rfl, rfl, upd_same, by decide, by decide, (by show 1 ≤ sizeLine; decide), fun p6 hp6 => ?_⟩
    have s2 := same_new hp2 (.tup [.str "number", .int d2])
    have s3 := same_new hp3 (.lst [.ref p2])
    have s4 := same_new hp4 (.tup [.str "asked"])
    have s5 := same_new hp5 (.lst [.ref p4])
    have s6 := same_new hp6 (.lst (List.replicate (Int.toNat 1) [V.ref p4]).flatten)
    refine ⟨p3, p6, _, _, rfl, rfl, ((s4.trans s5).trans s6) _ _ upd_same, upd_same, (by show 2 ≤ sizeLine; decide), fun p7 hp7 => ?_⟩
    have s7 := same_new hp7 (.lst [.ref p2, .ref p4])
    have k7 : Kept b H _ := k0.trans ((Kept.new hp1 _).trans (k1.trans (k2.trans (.of (((((s2.trans s3).trans s4).trans s5).trans s6).trans s7)))))
    have B7 := B2.keep (((((s2.trans s3).trans s4).trans s5).trans s6).trans s7)
    have e2 : ExAt _ (.ref p2) (.num d2) := .num (((((s3.trans s4).trans s5).trans s6).trans s7) _ _ upd_same)
    have e4 : ExAt _ (.ref p4) .asked := .asked (((s5.trans s6).trans s7) _ _ upd_same)
    have e7 := @upd_same (upd (upd (upd (upd (upd H2 p2 (.tup [.str "number", .int d2])) p3 (.lst [.ref p2])) p4 (.tup [.str "asked"])) p5 (.lst [.ref p4])) p6 (.lst (List.replicate (Int.toNat 1) [V.ref p4]).flatten)) p7 (.lst [.ref p2, .ref p4])
    have hl7 := k7 _ _ hne hl
    refine ⟨_, rfl, _, rfl, _, rfl, l, rfl, ⟨_, SqL.of hl7⟩, fun C hC => ?_⟩
    clear s7
    have hC' : upd (upd (upd (upd (upd (upd H2 p2 (.tup [.str "number", .int d2])) p3 (.lst [.ref p2])) p4 (.tup [.str "asked"])) p5 (.lst [.ref p4])) p6 (.lst (List.replicate (Int.toNat 1) [V.ref p4]).flatten)) p7 (.lst [.ref p2, .ref p4]) C = none := hC
    revert e2 e4 e7 hl7 k7 B7 hC'
    generalize eH : upd (upd (upd (upd (upd (upd H2 p2 (.tup [.str "number", .int d2])) p3 (.lst [.ref p2])) p4 (.tup [.str "asked"])) p5 (.lst [.ref p4])) p6 (.lst (List.replicate (Int.toNat 1) [V.ref p4]).flatten)) p7 (.lst [.ref p2, .ref p4]) = H7
    intro k7 B7 e2 e4 e7 hl7 hC'
    have s0 : Same H7 (upd (upd (upd (upd (upd (upd (upd H2 p2 (.tup [.str "number", .int d2])) p3 (.lst [.ref p2])) p4 (.tup [.str "asked"])) p5 (.lst [.ref p4])) p6 (.lst (List.replicate (Int.toNat 1) [V.ref p4]).flatten)) p7 (.lst [.ref p2, .ref p4])) C (.lst [])) := by
      rw [eH]
      exact same_new hC' _
    refine lc_list (K := K) (a := l) (xs := xs.map V.str) (fun i Hc => ∃ ys : List V, Hc C = some (.lst ys) ∧ ys.length = i ∧ (∀ v ∈ ys, ∃ x ∈ xs, ExAt Hc v (.box x)) ∧ Same H7 Hc)
      ⟨[], upd_same, rfl, (fun v hv => by cases hv), s0⟩ (fun i Hc _ ⟨ys, _, _, _, sm⟩ => SqL.of (sm _ _ hl7)) (fun i x Hc hx ⟨ys, y1, y2, y3, sm⟩ => ?_) (fun Hc ⟨ys, y1, y2, y3, sm⟩ => ?_)
    · rw [List.getElem?_map] at hx
      obtain ⟨z, hz, rfl⟩ := Option.map_eq_some_iff.mp hx
      have iz : i < xs.length := (List.getElem?_eq_some_iff.mp hz).1
      refine ⟨rfl, _, rfl, (by show 2 ≤ sizeLine; decide), fun p hp => ⟨ys, (same_new hp _) _ _ y1, small1000 (by omega), ys ++ [.ref p], upd_same, by rw [List.length_append, y2]; rfl, fun v hv => ?_, ?_⟩⟩
      · have tp : Tups Hc (upd (upd Hc p (.tup [.str "box", .str z])) C (.lst (ys ++ [.ref p]))) := fun a ts ha => by
          have h1 := (same_new hp (.tup [.str "box", .str z])) _ _ ha
          rw [upd_ne (ne_of ha y1 (by intro z; cases z))]
          exact h1
        rcases List.mem_append.mp hv with hv | hv
        · obtain ⟨x, hx, ex⟩ := y3 v hv
          exact ⟨x, hx, ex.keep tp⟩
        · rw [List.mem_singleton.mp hv]
          refine ⟨z, List.mem_of_getElem? hz, .box ?_⟩
          rw [upd_ne (ne_of_none y1 hp).symm]
          exact upd_same
      · intro a u ha
        have nC : a ≠ C := ne_of_none ha hC'
        rw [upd_ne nC]
        exact (sm.trans (same_new hp _)) _ _ ha
    · have ly : ys.length ≤ 8 := by rw [y2, List.length_map]; exact hxs
      have l2 : (List.replicate (Int.toNat 2) ys).flatten.length = ys.length + (ys.length + 0) := by
        show (ys ++ (ys ++ [])).length = _
        rw [List.length_append, List.length_append]
        rfl
      refine ⟨C, 2, ys, rfl, rfl, y1, by decide, by decide, small (by show ys.length * 2 ≤ 1000; omega), fun p8 hp8 => ?_⟩
      have s8 := sm.trans (same_new hp8 (.lst (List.replicate (Int.toNat 2) ys).flatten))
      refine ⟨p7, p8, _, _, rfl, rfl, s8 _ _ e7, upd_same, small (by rw [l2]; show 2 + _ ≤ 1000; omega), fun p9 hp9 => ?_⟩
      have s9 := s8.trans (same_new hp9 (.lst ([.ref p2, .ref p4] ++ (List.replicate (Int.toNat 2) ys).flatten)))
      have B9 := B7.keep s9
      refine ⟨b, p9, _, m0 + 1 + 1, rfl, B9, by omega, upd_same, (B7.keep s8).ne hp9, ?_, ?_, fun v H' k10 B10 hv => ?_⟩
      · rw [List.length_append]; show 1 ≤ 2 + _; omega
      · rw [List.length_append, l2]; show 2 + _ ≤ 1000; omega
      rw [eD]
      have kk : Kept b H H' := k7.trans ((Kept.of s9).trans k10)
      have tp : Tups H7 H' := fun a ts ha => k10 _ _ (by obtain ⟨_, z⟩ := B9.lst; exact ne_of (s9 _ _ ha) z (by intro z; cases z)) (s9 _ _ ha)
      have B11 : Bag H' b (m + ce d) := B10.more (by omega)
      have one : 1 ≤ max d 1 := Nat.le_max_right ..
      rcases List.mem_append.mp hv with hv | hv
      · rcases List.mem_cons.mp hv with rfl | hv
        · exact q _ _ H' kk B11 (e2.keep tp) one ⟨d20, by omega⟩
        rw [List.mem_singleton.mp hv]
        exact q _ _ H' kk B11 (e4.keep tp) one trivial
      · have hv : v ∈ ys := by
          obtain ⟨l', h1, h2⟩ := List.mem_flatten.mp hv
          rw [(List.mem_replicate.mp h1).2] at h2
          exact h2
        obtain ⟨x, hx, ex⟩ := y3 v hv
        have tc : Tups Hc H' := fun a ts ha => by
          have ha9 := ((same_new hp8 (.lst (List.replicate (Int.toNat 2) ys).flatten)).trans (same_new hp9 (.lst ([.ref p2, .ref p4] ++ (List.replicate (Int.toNat 2) ys).flatten)))) _ _ ha
          obtain ⟨_, z⟩ := B9.lst
          exact k10 _ _ (ne_of ha9 z (by intro z; cases z)) ha9
        exact q _ _ H' kk B11 (ex.keep tc) one hx
  refine ⟨_, pss_cons (ps_if (PW.pt (pw_or (pt_cmpR op_lt (pv 3) pe_int (nomark _)) (pw_or1 (pt_cmpR op_eq (pe_call T hr1 rfl mT kT bT .nil pass0 (pa_cons (pv 0) (pa_cons pe_int pa_nil))) pe_int (nomark _))))) ht1 pss_nil)
    (pss_cons (ps_set (i := 5) scExpr.nd rfl (Or.inl rfl) (pe_ix ix_list (pe_lst (pa_cons pe_str (pa_cons pe_str (pa_cons pe_str (pa_cons pe_str (pa_cons pe_str pa_nil)))))) (pe_call T hr1 rfl mT kT bT .nil pass0 (pa_cons (pv 0) (pa_cons pe_int pa_nil))) (fun _ _ => rfl)))
    (pss_one (ps_ret (pe_tup (pa_cons (pv 5) (pa_cons (pe_call G hr rfl mG kG bG .nil pass0 (pa_cons (pv 0) (pa_cons (pv 1) (pa_cons (pv 2) (pa_cons (pe_op op_sub (pv 3) pe_int) pa_nil))))) (pa_cons (pe_call G hr rfl mG kG bG .nil pass0 (pa_cons (pv 0) (pa_cons (pv 1) (pa_cons (pv 2) (pa_cons (pe_op op_sub (pv 3) pe_int) pa_nil))))) pa_nil))))))), ?_⟩
  have cp := ce_pos d
  refine ⟨_, rfl, _, _, rfl, rfl, _, rfl, ?_⟩
  refine ite2 (fun c => ?_) (fun c => ?_)
  · exact leaf _ H m rfl .refl hB (by omega)
  have c' : ¬ (d : Int) < 2 := of_decide_eq_false (Bool.eq_false_iff.mpr c)
  refine ⟨_, rfl, b, 3, m, rfl, hB, by omega, by decide, by decide, fun d1 H1 k1 B1 d10 d11 => ⟨rfl, _, rfl, ?_⟩⟩
  refine ite2 (fun c2 => ?_) (fun c2 => ?_)
  · exact leaf _ H1 (m + 1) rfl k1 B1 (Nat.le_refl _)
  obtain ⟨e, rfl⟩ : ∃ e, d = e + 1 := ⟨d - 1, by omega⟩
  have he : 1 ≤ e := by omega
  have cee : ce (e + 1) = 2 * ce e + 5 := rfl
  have i1 : (((e + 1 : Nat) : Int)) - 1 = ((e : Nat) : Int) := by omega
  refine ⟨(by show 5 ≤ sizeLine; decide), fun p1 hp1 => ?_⟩
  refine ⟨_, rfl, b, 5, m + 1, rfl, B1.keep (same_new hp1 _), by omega, by decide, by decide, fun d2 H2 k2 B2 d20 d21 => ?_⟩
  obtain ⟨dd, ed⟩ := word_at d20 d21
  refine ⟨p1, _, _, _, rfl, rfl, SqL.of (k2 _ _ (B1.ne hp1) upd_same), ed, ?_⟩
  have kk2 : Kept b H H2 := k1.trans ((Kept.new hp1 _).trans k2)
  refine ⟨_, rfl, _, rfl, _, rfl, _, rfl, _, rfl, _, _, rfl, rfl, b, l, e, m + 1 + 1, xs, (by rw [← i1]; rfl), by omega, B2, by omega, kk2 _ _ hne hl, hne, hxs, fun v1 x1 H3 k3 B3 a1 a2 a3 => ?_⟩
  have kk3 := kk2.trans k3
  refine ⟨_, rfl, _, rfl, _, rfl, _, rfl, _, _, rfl, rfl, b, l, e, m + 1 + 1 + ce e, xs, (by rw [← i1]; rfl), by omega, B3, by omega, kk3 _ _ hne hl, hne, hxs, fun v2 x2 H4 k4 B4 b1 b2 b3 => ?_⟩
  have kk4 := kk3.trans k4
  have a1 := a1.keep (B3.tups k4)
  refine ⟨(by show 3 ≤ sizeLine; decide), fun p5 hp5 => ?_⟩
  have s5 := same_new hp5 (.tup [.str dd.word, v1, v2])
  refine q _ (.op dd x1 x2) _ (kk4.trans (.of s5)) ((B4.keep s5).more (by omega)) (.op upd_same (a1.keep (Same.tups s5)) (b1.keep (Same.tups s5))) ?_ ⟨a3, b3⟩
  show max x1.deep x2.deep + 1 ≤ max (e + 1) 1
  omega
theorem all_expr {t o : Addr} {td od : FuncData} (F : Fun K "_law_expr" "_law_expr" sExpr f fd) (T : FnOk P w K mg base CX0 1 t td ["_law_bag_here", "_law_many"] spTake) (bT : Binds K td ["_law_bag_here", "_law_many"] []) (kT : PySem.W.keepIn K (.ref t) = true) (mT : mg "_law_take" = some (.ref t))
    (O : FnOk P w K mg base CX0 2 o od ["_law_bag_here", "_law_some"] spOf) (bO : Binds K od ["_law_bag_here", "_law_some"] []) (kO : PySem.W.keepIn K (.ref o) = true) (mO : mg "_law_of" = some (.ref o))
    (bG : Binds K fd psE []) (mG : mg "_law_expr" = some (.ref f)) : ∀ n : Nat, FnOk P w K mg base CX0 (n + 2) f fd psE (spExpr n)
  | 0 => no_expr
  | n + 1 => ok_expr F T bT kT mT O bO kO mO (all_expr F T bT kT mT O bO kO mO bG mG n) bG mG
end
end Any
namespace Any
open L2 PySem PySem.Spec PyProof.Rows LamX NdefX
abbrev sTest : Stmt := top 18
abbrev sNear : Stmt := top 19
abbrev nmTest : List Str := ["_law_bag_here", "_law_names", "_law_asks", "_law_deep", "_law_sort", "_law_one"]
theorem scTest : FnScope nmTest psE (defScope sTest) := ⟨rfl, rfl, rfl, by decide +kernel, rfl, by decide +kernel, by decide +kernel⟩
abbrev nmNear : List Str := ["_law_bag_here", "_law_names", "_law_deep", "_law_one"]
abbrev psN : List Str := ["_law_bag_here", "_law_names", "_law_deep"]
theorem scNear : FnScope nmNear psN (defScope sNear) := ⟨rfl, rfl, rfl, by decide +kernel, rfl, by decide +kernel, by decide +kernel⟩
def ct : Nat → Nat
  | 0 => 20
  | n + 1 => 2 * ct n + 2 * ce n + 5
def spTest (n : Nat) : Sp := fun vs H Q _ => ∃ (b l : Addr) (d m : Nat) (xs : List Str), vs = [.ref b, .ref l, .int 1, .int d] ∧ 1 ≤ d ∧ d < n ∧ d ≤ 7 ∧ Bag H b m ∧ m + ct d < 2 ^ 40 ∧ H l = some (.lst (xs.map V.str)) ∧ l ≠ b ∧ xs.length ≤ 8 ∧
  ∀ (v : V) (e : Ts) (H' : Hp), Kept b H H' → Bag H' b (m + ct d) → TsAt H' v e → e.deep ≤ d → e.good xs → Q v H'
def spNear : Sp := fun vs H Q _ => ∃ (b l : Addr) (m : Nat) (xs : List Str), vs = [.ref b, .ref l, .int 4] ∧ Bag H b m ∧ m + (ct 4 + ce 2 + 5) < 2 ^ 40 ∧ H l = some (.lst (xs.map V.str)) ∧ l ≠ b ∧ xs.length ≤ 8 ∧
  ∀ (v : V) (e : Ts) (H' : Hp), Kept b H H' → Bag H' b (m + (ct 4 + ce 2 + 5)) → TsAt H' v e → e.deep ≤ 4 → e.good xs → Q v H'
section
variable {P : Program} {w : World} {K : PySem.W.Frag} {mg : Str → Option Value} {base : Heap} {f t ex : Addr} {fd td exd : FuncData}
theorem no_test {k : Nat} : FnOk P w K mg base CX0 k f fd psE (spTest 0) := by
  have no : ∀ vs H Q E, ¬ spTest 0 vs H Q E := fun vs H Q E h => by
    obtain ⟨b, l, d, m, xs, _, _, hd, _⟩ := h
    omega
  exact ⟨fun vs H Q E h => absurd h (no vs H Q E), fun A outer s H args us vs Q E _ _ _ _ h => absurd h (no vs H Q E)⟩
theorem two_ix {x y : V} {r : Int} (h0 : 0 ≤ r) (h1 : r < 2) : (atI [x, y] r = some x) ∨ (atI [x, y] r = some y) := by
  have : r = 0 ∨ r = 1 := by omega
  rcases this with rfl | rfl
  · exact .inl rfl
  · exact .inr rfl
theorem ok_test {n : Nat} (F : Fun K "_law_test" "_law_test" sTest f fd) (T : FnOk P w K mg base CX0 1 t td ["_law_bag_here", "_law_many"] spTake) (bT : Binds K td ["_law_bag_here", "_law_many"] []) (kT : PySem.W.keepIn K (.ref t) = true) (mT : mg "_law_take" = some (.ref t))
    (X : FnOk P w K mg base CX0 9 ex exd psE (spExpr 7)) (bX : Binds K exd psE []) (kX : PySem.W.keepIn K (.ref ex) = true) (mX : mg "_law_expr" = some (.ref ex))
    (G : FnOk P w K mg base CX0 (n + 9) f fd psE (spTest n)) (bG : Binds K fd psE []) (mG : mg "_law_test" = some (.ref f)) : FnOk P w K mg base CX0 (n + 10) f fd psE (spTest (n + 1)) := by
  refine F.ok scTest (fun vs H Q E h => ?_) (fun cdv A outer s H vs Q E hr h => ?_)
  · obtain ⟨b, l, d, m, xs, rfl, _⟩ := h
    rfl
  obtain ⟨b, l, d, m, xs, rfl, hd1, hd, hd7, hB, hm, hl, hne, hxs, q⟩ := h
  have hr1 := hr.mono (show 1 ≤ n + 9 by omega)
  have hr9 := hr.mono (show 9 ≤ n + 9 by omega)
  have kG := F.kp
  obtain ⟨e, rfl⟩ : ∃ e, d = e + 1 := ⟨d - 1, by omega⟩
  have cee : ct (e + 1) = 2 * ct e + 2 * ce e + 5 := rfl
  have i1 : (((e + 1 : Nat) : Int)) - 1 = ((e : Nat) : Int) := by omega
  obtain ⟨t2, ht2, tail⟩ : ∃ t2, PSs (cxOf CX0 P w K mg base nmTest "_law_test" (defScope sTest) f cdv A outer s H E).nox ((defBody sTest).drop 3) t2 ∧
      ∀ (D : Ends) (H1 : Hp) (srt : Int), D.rt = Q → Kept b H H1 → Bag H1 b (m + 1) → 3 ≤ srt → srt < 5 → t2 D [some (.ref b), some (.ref l), some (.int 1), some (.int ((e + 1 : Nat) : Int)), some (.int srt), none] H1 := by
    refine ⟨_, pss_cons (ps_set (i := 5) scTest.nd rfl (Or.inl rfl) (pe_call X hr9 rfl mX kX bX .nil pass0 (pa_cons (pv 0) (pa_cons (pv 1) (pa_cons (pv 2) (pa_cons (pe_op op_sub (pv 3) pe_int) pa_nil))))))
      (pss_one (ps_ret (pe_tup (pa_cons (pe_ix ix_list (pe_lst (pa_cons pe_str (pa_cons pe_str pa_nil))) (pe_op op_sub (pv 4) pe_int) (fun _ _ => rfl)) (pa_cons (pv 5) (pa_cons (pe_call X hr9 rfl mX kX bX .nil pass0 (pa_cons (pv 0) (pa_cons (pv 1) (pa_cons (pv 2) (pa_cons (pe_op op_sub (pv 3) pe_int) pa_nil))))) pa_nil)))))), ?_⟩
    intro D H1 srt eD k1 B1 h3 h5
    refine ⟨_, rfl, _, rfl, _, rfl, _, rfl, _, _, rfl, rfl, b, l, e, m + 1, xs, (by rw [← i1]; rfl), by omega, B1, by omega, k1 _ _ hne hl, hne, hxs, fun v1 x1 H3 k3 B3 a1 a2 a3 => ?_⟩
    refine ⟨(by show 2 ≤ sizeLine; decide), fun p4 hp4 => ?_⟩
    have s4 := same_new hp4 (.lst [.str "is", .str "below"])
    have kk := (k1.trans k3).trans (.of s4)
    rcases two_ix (x := V.str "is") (y := V.str "below") (r := srt - 3) (by omega) (by omega) with ei | ei
    · refine ⟨_, rfl, _, _, rfl, rfl, p4, _, _, _, rfl, rfl, SqL.of upd_same, ei, _, rfl, ?_⟩
      refine ⟨_, rfl, _, rfl, _, rfl, _, rfl, _, _, rfl, rfl, b, l, e, m + 1 + ce e, xs, (by rw [← i1]; rfl), by omega, B3.keep s4, by omega, kk _ _ hne hl, hne, hxs, fun v2 x2 H6 k6 B6 b1 b2 b3 => ?_⟩
      refine ⟨(by show 3 ≤ sizeLine; decide), fun p7 hp7 => ?_⟩
      have s7 := same_new hp7 (.tup [.str "is", v1, v2])
      have a6 := (a1.keep (Same.tups s4)).keep ((B3.keep s4).tups k6)
      rw [eD]
      exact q _ (.is x1 x2) _ ((kk.trans k6).trans (.of s7)) ((B6.keep s7).more (by omega)) (.is upd_same (a6.keep (Same.tups s7)) (b1.keep (Same.tups s7))) (by show 1 ≤ e + 1; omega) ⟨⟨a3, by omega⟩, ⟨b3, by omega⟩⟩
    · refine ⟨_, rfl, _, _, rfl, rfl, p4, _, _, _, rfl, rfl, SqL.of upd_same, ei, _, rfl, ?_⟩
      refine ⟨_, rfl, _, rfl, _, rfl, _, rfl, _, _, rfl, rfl, b, l, e, m + 1 + ce e, xs, (by rw [← i1]; rfl), by omega, B3.keep s4, by omega, kk _ _ hne hl, hne, hxs, fun v2 x2 H6 k6 B6 b1 b2 b3 => ?_⟩
      refine ⟨(by show 3 ≤ sizeLine; decide), fun p7 hp7 => ?_⟩
      have s7 := same_new hp7 (.tup [.str "below", v1, v2])
      have a6 := (a1.keep (Same.tups s4)).keep ((B3.keep s4).tups k6)
      rw [eD]
      exact q _ (.bel x1 x2) _ ((kk.trans k6).trans (.of s7)) ((B6.keep s7).more (by omega)) (.bel upd_same (a6.keep (Same.tups s7)) (b1.keep (Same.tups s7))) (by show 1 ≤ e + 1; omega) ⟨⟨a3, by omega⟩, ⟨b3, by omega⟩⟩
  refine ⟨_, pss_cons (ps_set (i := 4) scTest.nd rfl (Or.inl rfl) (pe_ifExp (pt_cmpR op_gt (pv 3) pe_int (nomark _)) (pe_call T hr1 rfl mT kT bT .nil pass0 (pa_cons (pv 0) (pa_cons pe_int pa_nil))) (pe_op op_add pe_int (pe_call T hr1 rfl mT kT bT .nil pass0 (pa_cons (pv 0) (pa_cons pe_int pa_nil))))))
    (pss_cons (ps_if (pt_cmpR op_eq (pv 4) pe_int (nomark _)) (pss_one (ps_ret (pe_tup (pa_cons pe_str (pa_cons (pe_call G hr rfl mG kG bG .nil pass0 (pa_cons (pv 0) (pa_cons (pv 1) (pa_cons (pv 2) (pa_cons (pe_op op_sub (pv 3) pe_int) pa_nil))))) pa_nil))))) pss_nil)
    (pss_cons (ps_if (pt_cmpR op_lt (pv 4) pe_int (nomark _))
      (pss_cons (ps_set (i := 5) scTest.nd rfl (Or.inl rfl) (pe_call G hr rfl mG kG bG .nil pass0 (pa_cons (pv 0) (pa_cons (pv 1) (pa_cons (pv 2) (pa_cons (pe_op op_sub (pv 3) pe_int) pa_nil))))))
      (pss_one (ps_ret (pe_tup (pa_cons (pe_ix ix_list (pe_lst (pa_cons pe_str (pa_cons pe_str pa_nil))) (pe_op op_sub (pv 4) pe_int) (fun _ _ => rfl)) (pa_cons (pv 5) (pa_cons (pe_call G hr rfl mG kG bG .nil pass0 (pa_cons (pv 0) (pa_cons (pv 1) (pa_cons (pv 2) (pa_cons (pe_op op_sub (pv 3) pe_int) pa_nil))))) pa_nil))))))) pss_nil)
    ht2)), ?_⟩
  refine ⟨_, rfl, _, _, rfl, rfl, _, rfl, ?_⟩
  refine ite2 (fun c => ?_) (fun c => ?_)
  · have c' : (2 : Int) < ((e + 1 : Nat) : Int) := of_decide_eq_true c
    refine ⟨_, rfl, b, 5, m, rfl, hB, by omega, by decide, by decide, fun d1 H1 k1 B1 d10 d11 => ?_⟩
    refine ⟨_, rfl, rfl, _, rfl, ?_⟩
    refine ite2 (fun c1 => ?_) (fun c1 => ?_)
    · refine ⟨_, rfl, _, rfl, _, rfl, _, rfl, _, _, rfl, rfl, b, l, e, m + 1, xs, (by rw [← i1]; rfl), by omega, by omega, by omega, B1, by omega, k1 _ _ hne hl, hne, hxs, fun v1 x1 H3 k3 B3 a1 a2 a3 => ?_⟩
      refine ⟨(by show 2 ≤ sizeLine; decide), fun p5 hp5 => ?_⟩
      have s5 := same_new hp5 (.tup [.str "not", v1])
      exact q _ (.nt x1) _ ((k1.trans k3).trans (.of s5)) ((B3.keep s5).more (by omega)) (.nt upd_same (a1.keep (Same.tups s5))) (by show x1.deep + 1 ≤ e + 1; omega) a3
    · have c1' : ¬ V.int d1 = V.int 0 := of_decide_eq_false (Bool.eq_false_iff.mpr c1)
      have nz : d1 ≠ 0 := fun z => c1' (by rw [z])
      refine ⟨_, rfl, _, _, rfl, rfl, _, rfl, ?_⟩
      refine ite2 (fun c2 => ?_) (fun c2 => ?_)
      · have c2' : d1 < 3 := of_decide_eq_true c2
        refine ⟨_, rfl, _, rfl, _, rfl, _, rfl, _, _, rfl, rfl, b, l, e, m + 1, xs, (by rw [← i1]; rfl), by omega, by omega, by omega, B1, by omega, k1 _ _ hne hl, hne, hxs, fun v1 x1 H3 k3 B3 a1 a2 a3 => ?_⟩
        refine ⟨(by show 2 ≤ sizeLine; decide), fun p4 hp4 => ?_⟩
        have s4 := same_new hp4 (.lst [.str "both", .str "either"])
        have kk := (k1.trans k3).trans (.of s4)
        rcases two_ix (x := V.str "both") (y := V.str "either") (r := d1 - 1) (by omega) (by omega) with ei | ei
        · refine ⟨_, rfl, _, _, rfl, rfl, p4, _, _, _, rfl, rfl, SqL.of upd_same, ei, _, rfl, ?_⟩
          refine ⟨_, rfl, _, rfl, _, rfl, _, rfl, _, _, rfl, rfl, b, l, e, m + 1 + ct e, xs, (by rw [← i1]; rfl), by omega, by omega, by omega, B3.keep s4, by omega, kk _ _ hne hl, hne, hxs, fun v2 x2 H6 k6 B6 b1 b2 b3 => ?_⟩
          refine ⟨(by show 3 ≤ sizeLine; decide), fun p7 hp7 => ?_⟩
          have s7 := same_new hp7 (.tup [.str "both", v1, v2])
          have a6 := (a1.keep (Same.tups s4)).keep ((B3.keep s4).tups k6)
          exact q _ (.both x1 x2) _ ((kk.trans k6).trans (.of s7)) ((B6.keep s7).more (by omega)) (.both upd_same (a6.keep (Same.tups s7)) (b1.keep (Same.tups s7))) (by show max x1.deep x2.deep + 1 ≤ e + 1; omega) ⟨a3, b3⟩
        · refine ⟨_, rfl, _, _, rfl, rfl, p4, _, _, _, rfl, rfl, SqL.of upd_same, ei, _, rfl, ?_⟩
          refine ⟨_, rfl, _, rfl, _, rfl, _, rfl, _, _, rfl, rfl, b, l, e, m + 1 + ct e, xs, (by rw [← i1]; rfl), by omega, by omega, by omega, B3.keep s4, by omega, kk _ _ hne hl, hne, hxs, fun v2 x2 H6 k6 B6 b1 b2 b3 => ?_⟩
          refine ⟨(by show 3 ≤ sizeLine; decide), fun p7 hp7 => ?_⟩
          have s7 := same_new hp7 (.tup [.str "either", v1, v2])
          have a6 := (a1.keep (Same.tups s4)).keep ((B3.keep s4).tups k6)
          exact q _ (.either x1 x2) _ ((kk.trans k6).trans (.of s7)) ((B6.keep s7).more (by omega)) (.either upd_same (a6.keep (Same.tups s7)) (b1.keep (Same.tups s7))) (by show max x1.deep x2.deep + 1 ≤ e + 1; omega) ⟨a3, b3⟩
      · have c2' : ¬ d1 < 3 := of_decide_eq_false (Bool.eq_false_iff.mpr c2)
        exact tail _ H1 d1 rfl k1 B1 (by omega) (by omega)
  · refine ⟨_, rfl, b, 2, m, rfl, hB, by omega, by decide, by decide, fun d1 H1 k1 B1 d10 d11 => ⟨_, _, rfl, rfl, ?_⟩⟩
    have f1 : decide (V.int (3 + d1) = V.int 0) = false := decide_eq_false fun z => by have := V.int.inj z; omega
    refine ⟨_, rfl, rfl, _, rfl, itF f1 ?_⟩
    refine ⟨_, rfl, _, _, rfl, rfl, _, rfl, itF (decide_eq_false (by omega)) ?_⟩
    exact tail _ H1 (3 + d1) rfl k1 B1 (by omega) (by omega)
theorem all_test (F : Fun K "_law_test" "_law_test" sTest f fd) (T : FnOk P w K mg base CX0 1 t td ["_law_bag_here", "_law_many"] spTake) (bT : Binds K td ["_law_bag_here", "_law_many"] []) (kT : PySem.W.keepIn K (.ref t) = true) (mT : mg "_law_take" = some (.ref t))
    (X : FnOk P w K mg base CX0 9 ex exd psE (spExpr 7)) (bX : Binds K exd psE []) (kX : PySem.W.keepIn K (.ref ex) = true) (mX : mg "_law_expr" = some (.ref ex)) (bG : Binds K fd psE []) (mG : mg "_law_test" = some (.ref f)) :
    ∀ n : Nat, FnOk P w K mg base CX0 (n + 9) f fd psE (spTest n)
  | 0 => no_test
  | n + 1 => ok_test F T bT kT mT X bX kX mX (all_test F T bT kT mT X bX kX mX bG mG n) bG mG
theorem three_ix {x y z : V} {r : Int} (h0 : 0 ≤ r) (h1 : r < 3) : (atI [x, y, z] r = some x) ∨ (atI [x, y, z] r = some y) ∨ (atI [x, y, z] r = some z) := by
  have : r = 0 ∨ r = 1 ∨ r = 2 := by omega
  rcases this with rfl | rfl | rfl
  · exact .inl rfl
  · exact .inr (.inl rfl)
  · exact .inr (.inr rfl)
theorem ok_near {ts : Addr} {tsd : FuncData} (F : Fun K "_law_near" "_law_near" sNear f fd) (T : FnOk P w K mg base CX0 1 t td ["_law_bag_here", "_law_many"] spTake) (bT : Binds K td ["_law_bag_here", "_law_many"] []) (kT : PySem.W.keepIn K (.ref t) = true) (mT : mg "_law_take" = some (.ref t))
    (X : FnOk P w K mg base CX0 9 ex exd psE (spExpr 7)) (bX : Binds K exd psE []) (kX : PySem.W.keepIn K (.ref ex) = true) (mX : mg "_law_expr" = some (.ref ex))
    (G : FnOk P w K mg base CX0 14 ts tsd psE (spTest 5)) (bG : Binds K tsd psE []) (kG : PySem.W.keepIn K (.ref ts) = true) (mG : mg "_law_test" = some (.ref ts)) : FnOk P w K mg base CX0 15 f fd psN spNear := by
  refine F.ok scNear (fun vs H Q E h => ?_) (fun cdv A outer s H vs Q E hr h => ?_)
  · obtain ⟨b, l, m, xs, rfl, _⟩ := h
    rfl
  obtain ⟨b, l, m, xs, rfl, hB, hm, hl, hne, hxs, q⟩ := h
  have hr1 := hr.mono (show 1 ≤ 14 by decide)
  have hr9 := hr.mono (show 9 ≤ 14 by decide)
  refine ⟨_, pss_cons (ps_if (pt_cmpR op_eq (pe_call T hr1 rfl mT kT bT .nil pass0 (pa_cons (pv 0) (pa_cons pe_int pa_nil))) pe_int (nomark _))
      (pss_cons (ps_set (i := 3) scNear.nd rfl (Or.inl rfl) (pe_call X hr9 rfl mX kX bX .nil pass0 (pa_cons (pv 0) (pa_cons (pv 1) (pa_cons pe_int (pa_cons pe_int pa_nil))))))
      (pss_one (ps_ret (pe_tup (pa_cons (pe_ix ix_list (pe_lst (pa_cons pe_str (pa_cons pe_str pa_nil))) (pe_call T hr1 rfl mT kT bT .nil pass0 (pa_cons (pv 0) (pa_cons pe_int pa_nil))) (fun _ _ => rfl)) (pa_cons (pv 3)
        (pa_cons (pe_ix ix_list (pe_lst (pa_cons (pv 3) (pa_cons (pe_tup (pa_cons pe_str pa_nil)) (pa_cons (pe_tup (pa_cons pe_str (pa_cons (pv 3) (pa_cons (pe_tup (pa_cons pe_str pa_nil)) pa_nil)))) pa_nil)))) (pe_call T hr1 rfl mT kT bT .nil pass0 (pa_cons (pv 0) (pa_cons pe_int pa_nil))) (fun _ _ => rfl)) pa_nil))))))) pss_nil)
    (pss_one (ps_ret (pe_call G hr rfl mG kG bG .nil pass0 (pa_cons (pv 0) (pa_cons (pv 1) (pa_cons pe_int (pa_cons (pv 2) pa_nil))))))), ?_⟩
  refine ⟨_, rfl, b, 3, m, rfl, hB, by omega, by decide, by decide, fun d1 H1 k1 B1 d10 d11 => ⟨rfl, _, rfl, ?_⟩⟩
  have c2 : ce 2 = 35 := rfl
  refine ite2 (fun c => ?_) (fun c => ?_)
  · refine ⟨_, rfl, _, rfl, b, l, 2, m + 1, xs, rfl, by decide, B1, by omega, k1 _ _ hne hl, hne, hxs, fun v1 x1 H3 k3 B3 a1 a2 a3 => ?_⟩
    have a2 : x1.deep ≤ 2 := a2
    refine ⟨(by show 2 ≤ sizeLine; decide), fun p4 hp4 => ?_⟩
    have s4 := same_new hp4 (.lst [.str "is", .str "below"])
    have k4 := (k1.trans k3).trans (.of s4)
    refine ⟨_, rfl, b, 2, m + 1 + ce 2, rfl, B3.keep s4, by omega, by decide, by decide, fun d5 H5 k5 B5 d50 d51 => ?_⟩
    have kk5 := k4.trans k5
    have a5 := (a1.keep (Same.tups s4)).keep ((B3.keep s4).tups k5)
    have h4 := k5 _ _ (B3.ne hp4) (@upd_same H3 p4 (.lst [.str "is", .str "below"]))
    have done : ∀ (wd : Str) (mk : Ex → Ex → Ts), (∀ (Hh : Hp) (p : Addr) (u1 u2 : V) (y1 y2 : Ex), Hh p = some (.tup [.str wd, u1, u2]) → ExAt Hh u1 y1 → ExAt Hh u2 y2 → TsAt Hh (.ref p) (mk y1 y2)) → (∀ y1 y2, (mk y1 y2).deep = 1) →
        (∀ y1 y2 : Ex, (mk y1 y2).good xs = ((y1.good xs ∧ y1.deep ≤ 6) ∧ (y2.good xs ∧ y2.deep ≤ 6))) → ∀ (H8 : Hp) (v2 : V) (x2 : Ex) (p9 : Addr), Kept b H5 H8 → Bag H8 b (m + 1 + ce 2 + 1 + 1) → ExAt H8 v1 x1 → ExAt H8 v2 x2 → x2.deep ≤ 6 → x2.good xs → H8 p9 = none → Q (.ref p9) (upd H8 p9 (.tup [.str wd, v1, v2])) := by
      intro wd mk h1 h2 h3 H8 v2 x2 p9 k8 B8 e1 e2 e3 e4 n9
      have s9 := same_new n9 (.tup [.str wd, v1, v2])
      refine q _ (mk x1 x2) _ ((kk5.trans k8).trans (.of s9)) ((B8.keep s9).more (by omega)) (h1 _ _ _ _ _ _ upd_same (e1.keep (Same.tups s9)) (e2.keep (Same.tups s9))) (by rw [h2]; decide) ?_
      rw [h3]
      exact ⟨⟨a3, by omega⟩, ⟨e4, e3⟩⟩
    obtain ⟨wd, mk, ei, w1, w2, w3⟩ : ∃ (wd : Str) (mk : Ex → Ex → Ts), atI [V.str "is", V.str "below"] d5 = some (.str wd) ∧ (∀ (Hh : Hp) (p : Addr) (u1 u2 : V) (y1 y2 : Ex), Hh p = some (.tup [.str wd, u1, u2]) → ExAt Hh u1 y1 → ExAt Hh u2 y2 → TsAt Hh (.ref p) (mk y1 y2)) ∧ (∀ y1 y2, (mk y1 y2).deep = 1) ∧
        (∀ y1 y2 : Ex, (mk y1 y2).good xs = ((y1.good xs ∧ y1.deep ≤ 6) ∧ (y2.good xs ∧ y2.deep ≤ 6))) := by
      rcases two_ix (x := V.str "is") (y := V.str "below") d50 d51 with ei | ei
      · exact ⟨_, .is, ei, fun _ _ _ _ _ _ a b c => .is a b c, fun _ _ => rfl, fun _ _ => rfl⟩
      · exact ⟨_, .bel, ei, fun _ _ _ _ _ _ a b c => .bel a b c, fun _ _ => rfl, fun _ _ => rfl⟩
    have fin := done wd mk w1 w2 w3
    refine ⟨p4, _, _, _, rfl, rfl, SqL.of h4, ei, _, rfl, _, rfl, ?_⟩
    refine ⟨(by show 1 ≤ sizeLine; decide), fun p6 hp6 => ⟨_, rfl, (by show 1 ≤ sizeLine; decide), fun p7 hp7 => ⟨(by show 3 ≤ sizeLine; decide), fun p8 hp8 => ⟨(by show 3 ≤ sizeLine; decide), fun p9 hp9 => ?_⟩⟩⟩⟩
    have s6 := same_new hp6 (.tup [.str "told"])
    have s7 := same_new hp7 (.tup [.str "told"])
    have s8 := same_new hp8 (.tup [.str "plus", v1, .ref p7])
    have s9 := same_new hp9 (.lst [v1, .ref p6, .ref p8])
    have s69 := ((s6.trans s7).trans s8).trans s9
    have e6 : ExAt _ (.ref p6) .told := .told (((s7.trans s8).trans s9) _ _ upd_same)
    have e7 : ExAt _ (.ref p7) .told := .told ((s8.trans s9) _ _ upd_same)
    have e8 : ExAt _ (.ref p8) (.op .plus x1 .told) := .op (s9 _ _ upd_same) (a5.keep (Same.tups s69)) e7
    refine ⟨_, rfl, b, 3, m + 1 + ce 2 + 1, rfl, B5.keep s69, by omega, by decide, by decide, fun d10 H10 k10 B10 d100 d101 => ?_⟩
    have tp := (B5.keep s69).tups k10
    have kk : Kept b H5 H10 := (Kept.of s69).trans k10
    have n9 : p9 ≠ b := (((B5.keep s6).keep s7).keep s8).ne hp9
    have h9 := k10 _ _ n9 (@upd_same _ p9 (.lst [v1, .ref p6, .ref p8]))
    have a10 := (a5.keep (Same.tups s69)).keep tp
    rcases three_ix (x := v1) (y := .ref p6) (z := .ref p8) d100 d101 with ej | ej | ej
    · exact ⟨p9, _, _, _, rfl, rfl, SqL.of h9, ej, (by show 3 ≤ sizeLine; decide), fun p12 n12 => fin H10 _ _ p12 kk B10 a10 a10 (by omega) a3 n12⟩
    · exact ⟨p9, _, _, _, rfl, rfl, SqL.of h9, ej, (by show 3 ≤ sizeLine; decide), fun p12 n12 => fin H10 _ _ p12 kk B10 a10 (e6.keep tp) (by show 1 ≤ 6; decide) trivial n12⟩
    · exact ⟨p9, _, _, _, rfl, rfl, SqL.of h9, ej, (by show 3 ≤ sizeLine; decide), fun p12 n12 => fin H10 _ _ p12 kk B10 a10 (e8.keep tp) (by show max x1.deep 1 + 1 ≤ 6; omega) ⟨a3, trivial⟩ n12⟩
  · exact ⟨_, rfl, _, rfl, _, rfl, b, l, 4, m + 1, xs, rfl, by decide, by decide, by decide, B1, by omega, k1 _ _ hne hl, hne, hxs, fun v e H' k B a1 a2 a3 => q v e H' (k1.trans k) (B.more (by omega)) a1 a2 a3⟩
end
end Any
namespace Any
open L2 PySem PySem.Spec PyProof.Rows LamX NdefX
theorem Gr.seq {T : List NTab} {K : PySem.W.Frag} {H H' : Hp} (g : Gr T H H') {a : Addr} {xs : List V} (h : SqL K H a xs) : SqL K H' a xs := by
  rcases h with (h | ⟨o, h⟩) | h
  · exact .inl (.inl (g.lst h))
  · exact .inl (.inr ⟨o, g.ext _ _ h fun _ z => by cases z⟩)
  · exact .inr h
theorem Bag.gr {T : List NTab} {H H' : Hp} {b : Addr} {n : Nat} (h : Bag H b n) (g : Gr T H H') : Bag H' b n := by
  obtain ⟨x, y, z, h1, h2⟩ := h
  exact ⟨x, y, z, g.lst h1, h2⟩
theorem tabs_kept {T : List NTab} {b : Addr} {H H' : Hp} {xs : List V} (t : TabsN T H) (hb : H b = some (.lst xs)) (k : Kept b H H') : TabsN T H' := fun p hp => by
  obtain ⟨ps, h1, h2, h3⟩ := t p hp
  refine ⟨ps, k _ _ (ne_of h1 hb (by intro z; cases z)) h1, h2, fun pos cv hc => ?_⟩
  obtain ⟨c, e1, e2⟩ := h3 pos cv hc
  exact ⟨c, e1, k _ _ (ne_of e2 hb (by unfold CodeO; intro z; cases z)) e2⟩
theorem gr_kept {T : List NTab} {b : Addr} {H0 H1 H2 : Hp} {m : Nat} (g : Gr T H0 H1) (n : H0 b = none) (B : Bag H1 b m) (k : Kept b H1 H2) : Gr T H0 H2 := by
  obtain ⟨xs, hb⟩ := B.lst
  refine ⟨fun a o h nt => k a o (ne_of_none h n) (g.ext a o h nt), fun c z => ?_, tabs_kept g.tabs hb k⟩
  by_cases e : c = b
  · rw [e]
    exact n
  · refine g.no c ?_
    cases q : H1 c with
    | none => rfl
    | some o => rw [k c o e q] at z; cases z
/-! ### texts of small data -/
def bd (kvs : List (Str × Int)) : List (PyData × PyData) := kvs.map fun p => (.str p.1, .int p.2)
theorem bd_pairs : ∀ kvs : List (Str × Int), Paired (fun (p : Key × V) (q : PyData × PyData) => q.1 = keyD p.1 ∧ Flat p.2 q.2) (bx kvs) (bd kvs)
  | [] => .nil
  | p :: r => .cons ⟨rfl, .int _⟩ (bd_pairs r)
structure Sm (kvs : List (Str × Int)) : Prop where
  len : kvs.length ≤ 8
  each : ∀ p ∈ kvs, p.1.cps.size ≤ 8 ∧ (∀ c ∈ p.1.cps.toList, c < 16 ^ 8) ∧ 0 ≤ p.2 ∧ p.2 < 1024
theorem nb_small {n : Int} (h0 : 0 ≤ n) (h1 : n < 1024) : Nb n := nb_of (n := 1) h0 h1 (by decide)
theorem int_short {n : Int} (h : Nb n) : (PyData.int n).leavesShort 1921 = true := decide_eq_true (int_text_len_1921 h.log)
theorem int_weight {n : Int} (h : Nb n) : (PyData.int n).weight ≤ 1920 := by
  show (if n == 0 then 0 else n.natAbs.log2 + 1) ≤ 1920
  have := h.log
  split <;> omega
theorem fits_of {d : PyData} (h1 : d.leavesShort 1921 = true) (h2 : d.weight ≤ 8000) : d.shown.length ≤ sizeLine := by
  have h := PyData.shown_le 1921 (by decide) d h1
  have h3 : (1921 + 2) * d.weight ≤ (1921 + 2) * 8000 := Nat.mul_le_mul_left _ h2
  rw [sizeLine_eq]
  omega
theorem bd_ok : ∀ kvs : List (Str × Int), (∀ p ∈ kvs, p.1.cps.size ≤ 8 ∧ (∀ c ∈ p.1.cps.toList, c < 16 ^ 8) ∧ 0 ≤ p.2 ∧ p.2 < 1024) →
    PyData.leavesShortKv 1921 (bd kvs) = true ∧ PyData.showableKv (bd kvs) = true ∧ PyData.weightKv (bd kvs) ≤ 21 * kvs.length ∧ PyData.depthKv (bd kvs) = 0
  | [], _ => ⟨rfl, rfl, by decide, rfl⟩
  | p :: r, h => by
    obtain ⟨i1, i2, i3, i4⟩ := bd_ok r (fun q hq => h q (List.mem_cons_of_mem _ hq))
    obtain ⟨h1, h2, h3, h4⟩ := h p List.mem_cons_self
    have nb := nb_small h3 h4
    refine ⟨?_, ?_, ?_, ?_⟩
    · show (PyData.leavesShort 1921 (.str p.1) && PyData.leavesShort 1921 (.int p.2) && PyData.leavesShortKv 1921 (bd r)) = true
      rw [i1, int_short nb]
      simp only [PyData.leavesShort, Bool.and_true, List.all_eq_true, decide_eq_true_eq]
      exact h2
    · show (PyData.showable (.str p.1) && PyData.showable (.int p.2) && PyData.showableKv (bd r)) = true
      rw [i2]
      simp only [PyData.showable, Bool.and_true, Bool.true_and, decide_eq_true_eq]
      exact nb.log
    · show p.1.cps.size + (if p.2 == 0 then 0 else p.2.natAbs.log2 + 1) + 2 + PyData.weightKv (bd r) ≤ 21 * (r.length + 1)
      have lg : (if p.2 == 0 then 0 else p.2.natAbs.log2 + 1) ≤ 11 := by
        split
        · omega
        · rename_i z
          have z' : p.2.natAbs ≠ 0 := by intro e; apply z; simp; omega
          have := (Nat.log2_lt z').mpr (show p.2.natAbs < 2 ^ 10 by omega)
          omega
      omega
    · show max (max (PyData.depth (.str p.1)) (PyData.depth (.int p.2))) (PyData.depthKv (bd r)) = 0
      rw [i4]
      rfl
theorem dict_fit {kvs : List (Str × Int)} (h : Sm kvs) : (PyData.dict (bd kvs)).showable = true ∧ (PyData.dict (bd kvs)).depth ≤ 60 ∧ (PyData.dict (bd kvs)).shown.length ≤ sizeLine := by
  obtain ⟨i1, i2, i3, i4⟩ := bd_ok kvs h.each
  have := h.len
  refine ⟨i2, ?_, fits_of i1 ?_⟩
  · show PyData.depthKv (bd kvs) + 1 ≤ 60
    rw [i4]
    decide
  · show PyData.weightKv (bd kvs) ≤ 8000
    omega
/-- the names of boxes that are drawn -/
structure Nm (xs : List Str) : Prop where
  nd : xs.Nodup
  len : xs.length ≤ 4
  each : ∀ x ∈ xs, x.cps.size ≤ 8 ∧ ∀ c ∈ x.cps.toList, c < 16 ^ 8
theorem nm_at {d : Int} (h0 : 0 ≤ d) (h1 : d < 4) : ∃ xs : List Str, cutV [V.str "b", V.str "tock", V.str "y", V.str "left"] none (some (1 + d)) = xs.map V.str ∧ Nm xs := by
  have : d = 0 ∨ d = 1 ∨ d = 2 ∨ d = 3 := by omega
  rcases this with rfl | rfl | rfl | rfl
  · exact ⟨["b"], rfl, by decide, by decide, by decide⟩
  · exact ⟨["b", "tock"], rfl, by decide, by decide, by decide⟩
  · exact ⟨["b", "tock", "y"], rfl, by decide, by decide, by decide⟩
  · exact ⟨["b", "tock", "y", "left"], rfl, by decide, by decide, by decide⟩
theorem merge_all : ∀ (more acc : List (Key × V)), (more.map (·.1)).Nodup → (∀ p ∈ more, ∀ q ∈ acc, q.1 ≠ p.1) → mergeK acc more = acc ++ more
  | [], acc, _, _ => by rw [List.append_nil]; rfl
  | p :: r, acc, nd, dj => by
    have e : putK acc p.1 p.2 = acc ++ [p] := by
      unfold putK
      rw [if_neg]
      intro z
      obtain ⟨q, hq, e⟩ := List.any_eq_true.mp z
      exact dj p List.mem_cons_self q hq (of_decide_eq_true e)
    rw [List.map_cons, List.nodup_cons] at nd
    have ih := merge_all r (acc ++ [p]) nd.2 (fun p' hp' q hq => by
      rcases List.mem_append.mp hq with hq | hq
      · exact dj p' (List.mem_cons_of_mem _ hp') q hq
      · rw [List.mem_singleton.mp hq]
        intro z
        exact nd.1 (z ▸ List.mem_map_of_mem hp'))
    show mergeK (putK acc p.1 p.2) r = acc ++ p :: r
    rw [e, ih, List.append_assoc]
    rfl
theorem merge_bx {kvs : List (Str × Int)} (nd : (kvs.map (·.1)).Nodup) : mergeK [] (bx kvs) = bx kvs := by
  rw [merge_all (bx kvs) [] ?_ (fun _ _ q hq => by cases hq)]
  · rfl
  · unfold bx
    rw [List.map_map]
    have : ((·.1) ∘ fun p : Str × Int => ((Sum.inr p.1 : Key), V.int p.2)) = (Sum.inr ∘ (·.1) : Str × Int → Key) := rfl
    rw [this, ← List.map_map]
    exact nd.map (f := (Sum.inr : Str → Key)) (fun a b h e => h (Sum.inr.inj e))
theorem look_all {x : Str} : ∀ {kvs : List (Str × Int)}, x ∈ kvs.map (·.1) → ∃ p ∈ kvs, look kvs x = some p.2
  | p :: r, h => by
    unfold look
    rw [List.find?_cons]
    by_cases e : p.1 = x
    · rw [decide_eq_true e]
      exact ⟨p, List.mem_cons_self, rfl⟩
    · rw [decide_eq_false e]
      rcases List.mem_cons.mp h with h | h
      · exact absurd h.symm e
      · obtain ⟨q, hq, e2⟩ := look_all h
        exact ⟨q, List.mem_cons_of_mem _ hq, e2⟩
theorem bx_of {kvs : List (Str × Int)} {xs : List Str} (e : kvs.map (·.1) = xs) (h : ∀ p ∈ kvs, 0 ≤ p.2 ∧ p.2 < 1024) : Bx kvs xs := ⟨fun x hx => by
  obtain ⟨p, hp, e2⟩ := look_all (e ▸ hx)
  exact ⟨p.2, e2, h p hp⟩⟩
theorem sm_of {kvs : List (Str × Int)} {xs : List Str} (e : kvs.map (·.1) = xs) (N : Nm xs) (h : ∀ p ∈ kvs, 0 ≤ p.2 ∧ p.2 < 1024) : Sm kvs := ⟨by
  have := congrArg List.length e
  rw [List.length_map] at this
  have := N.len
  omega, fun p hp => by
  obtain ⟨n1, n2⟩ := N.each p.1 (e ▸ List.mem_map_of_mem hp)
  exact ⟨n1, n2, h p hp⟩⟩
theorem same_kept {b : Addr} {H0 H1 H2 : Hp} (s : Same H0 H1) (n : H0 b = none) (k : Kept b H1 H2) : Same H0 H2 := fun a o h => k a o (ne_of_none h n) (s a o h)
theorem paired_snoc {α β : Type} {R : α → β → Prop} {a : α} {b : β} (h : R a b) : ∀ {l : List α} {m : List β}, Paired R l m → Paired R (l ++ [a]) (m ++ [b])
  | _, _, .nil => .cons h .nil
  | _, _, .cons r t => .cons r (paired_snoc h t)
theorem Bag.put {H : Hp} {b p : Addr} {n : Nat} {o : HO} (h : Bag H b n) (ne : p ≠ b) : Bag (upd H p o) b n := by
  obtain ⟨g, s, c, h1, h2⟩ := h
  exact ⟨g, s, c, by rw [upd_ne ne.symm]; exact h1, h2⟩
theorem paired_bx {K : PySem.W.Frag} {H : Hp} : ∀ {ps : List Addr} {kvs : List (Str × Int)}, Paired (fun p kv => H p = some (.tup [.str kv.1, .int kv.2])) ps kvs → Paired (fun p kv => SqT K H p [kV kv.1, kv.2]) ps (bx kvs)
  | _, _, .nil => .nil
  | _, _, .cons r t => .cons (SqT.of r) (paired_bx t)
theorem bools_fit (b c : Bool) : (PyData.list [.bool b, .bool c]).showable = true ∧ (PyData.list [.bool b, .bool c]).depth ≤ 60 ∧ (PyData.list [.bool b, .bool c]).shown.length ≤ sizeLine :=
  ⟨rfl, (by show 1 ≤ 60; decide), fits_of rfl (by show 2 ≤ 8000; decide)⟩
def rB (k : Bool) : Str := if k then "True" else "False"
theorem call_repr_bl {X : Cx} : CallR X (.builtin "repr") (fun xs H Q => ∃ k, xs = [.bl k] ∧ Q (.str (rB k)) H) := by
  intro pins s σ H xs us Q I r h
  obtain ⟨k, rfl, q⟩ := h
  obtain ⟨u, rfl, ru⟩ := vals1 r
  cases ru
  exact PySem.P.repr_of_bool ⟨.str (rB k), H, I.tok _, ⟨_, by cases k <;> rfl⟩, q⟩
/-- the third and the fourth change places -/
def turn34 {α : Type} : List α → List α
  | [a, b, c, d] => [a, b, d, c]
  | l => l
theorem turn34_rel : ∀ {zs : List V} {ws : List Value}, Vals zs ws → Vals (turn34 zs) (turn34 ws)
  | [], _, .nil => .nil
  | [_], _, .cons a .nil => .cons a .nil
  | [_, _], _, .cons a (.cons b .nil) => .cons a (.cons b .nil)
  | [_, _, _], _, .cons a (.cons b (.cons c .nil)) => .cons a (.cons b (.cons c .nil))
  | [_, _, _, _], _, .cons a (.cons b (.cons c (.cons d .nil))) => .cons a (.cons b (.cons d (.cons c .nil)))
  | _ :: _ :: _ :: _ :: _ :: _, _, .cons a (.cons b (.cons c (.cons d (.cons e t)))) => .cons a (.cons b (.cons c (.cons d (.cons e t))))
abbrev kwsW : List (Str × V) := [("asked", .int 0), ("told", .int 0)]
section
variable {P : Program} {w : World} {K : PySem.W.Frag} {mg : Str → Option Value} {base : Heap} {f : Addr} {fd : FuncData}
theorem kh_named {kws : List (Str × V)} (F : FunD K "holds" "holds" (defArgs sHolds) (defBody sHolds) (defScope sHolds) [] kws f fd) : KBn K fd psH 0 ["test", "boxes", "told", "asked"] (fun us ws => turn34 ws) (fun us ws => turn34 ws) := by
  obtain ⟨oc, od, dV, kV, doc, pm, an, cdv, ct, osl, rfl, lk, hcd, hD, hK⟩ := F.ex
  have hd : dV = .none := hD.elim (fun z => z.2) (fun z => absurd rfl z.1)
  subst hd
  refine ⟨fun s us ws _ l1 l2 => ?_, fun r1 r2 => turn34_rel r2⟩
  match us, ws, l1, l2 with
  | [], [w1, w2, w3, w4], _, _ => exact .of_eq rfl
theorem kh_plain (F : FunD K "holds" "holds" (defArgs sHolds) (defBody sHolds) (defScope sHolds) [] kwsW f fd) : ∃ ds, Vals [.int 0, .int 0] ds ∧ Binds K fd psH ds := by
  refine F.binds0 2 (by decide) rfl fun D doc pm an cdv ct us ks l1 l2 => ?_
  match us, ks, l1, l2 with
  | [u1, u2], [w1, w2], _, _ => exact ⟨_, _, _, _, _, _, rfl, rfl, _, _, _, _, _, _, rfl, rfl, rfl⟩
end
end Any
namespace Any
open L2 PySem PySem.Spec PyProof.Rows LamX NdefX
abbrev sLaw : Stmt := top 20
abbrev nmLaw : List Str := ["_law_script", "_law_at", "_law_bag_here", "_law_names", "_law_turn", "_law_same", "_law_crates", "_law_some", "_law_wish", "_law_reply", "_law_kept", "_law_due", "_law_found", "_law_name"]
theorem scLaw : FnScope nmLaw ["_law_script"] (defScope sLaw) := ⟨rfl, rfl, rfl, by decide +kernel, rfl, by decide +kernel, by decide +kernel⟩
def spLaw (T : List NTab) (K : PySem.W.Frag) : Sp := fun vs H Q _ => ∃ (a : Addr) (ns : List Int), vs = [.ref a] ∧ SqL K H a (ns.map V.int) ∧ ns.length ≤ 63 ∧ TabsN T H ∧ ∀ H', Q (.bl true) H'
theorem gr_put {T : List NTab} {p : Addr} {H0 H1 : Hp} {xs ys : List V} (g : Gr T H0 H1) (n : H0 p = none) (h : H1 p = some (.lst xs)) : Gr T H0 (upd H1 p (.lst ys)) := by
  refine ⟨fun a o ha nt => ?_, fun c z => ?_, tabs_kept g.tabs h (Kept.put _)⟩
  · rw [upd_ne (ne_of_none ha n)]
    exact g.ext a o ha nt
  · by_cases e : c = p
    · rw [e]
      exact n
    · rw [upd_ne e] at z
      exact g.no c z
section
variable {P : Program} {w : World} {K : PySem.W.Frag} {mg : Str → Option Value} {base : Heap} {f bg tk ne ho lh : Addr} {fd bgd tkd ned hod lhd : FuncData} {T : List NTab}
set_option maxHeartbeats 4000000 in
theorem ok_law (F : Fun K "law" "law" sLaw f fd) (GB : FnOk P w K mg base CX0 1 bg bgd ["_law_script", "_law_at"] (spBag K)) (bB : Binds K bgd ["_law_script", "_law_at"] []) (kB : PySem.W.keepIn K (.ref bg) = true) (mB : mg "_law_bag" = some (.ref bg))
    (GT : FnOk P w K mg base CX0 1 tk tkd ["_law_bag_here", "_law_many"] spTake) (bT : Binds K tkd ["_law_bag_here", "_law_many"] []) (kT : PySem.W.keepIn K (.ref tk) = true) (mT : mg "_law_take" = some (.ref tk))
    (GN : FnOk P w K mg base CX0 15 ne ned psN spNear) (bN : Binds K ned psN []) (kN : PySem.W.keepIn K (.ref ne) = true) (mN : mg "_law_near" = some (.ref ne))
    (W : FunD K "holds" "holds" (defArgs sHolds) (defBody sHolds) (defScope sHolds) [] kwsW ho hod) (GH : FnOk P w K mg base CX0 13 ho hod psH (spHolds T 5)) (mH : mg "holds" = some (.ref ho))
    (GL : FnOk P w K mg base CX0 11 lh lhd psLW (spLh 5)) (bL : Binds K lhd psLW []) (kL : PySem.W.keepIn K (.ref lh) = true) (mL : mg "_law_holds" = some (.ref lh))
    (ml : mg "len" = none) (mx : mg "max" = none) (mn : mg "min" = none) (mr : mg "range" = none) (md : mg "dict" = none) (mp : mg "repr" = none) : FnG P w K mg base CX0 16 f fd ["_law_script"] (spLaw T K) := by
  refine fun_g F scLaw (fun vs H Q E h => ?_) (fun cdv A outer s H vs Q E hG hr h => ?_)
  · obtain ⟨a, ns, rfl, _⟩ := h
    rfl
  obtain ⟨a, ns, rfl, hS, h63, hT, q⟩ := h
  have hr1 := hr.mono (show 1 ≤ 15 by decide)
  have hr12 := hr.mono (show 13 ≤ 15 by decide)
  have hr11 := hr.mono (show 11 ≤ 15 by decide)
  have hG' : (A.deeper (envOfC "law" (defScope sLaw) s.heap.objs.size f cdv)).guards = some [] := hG
  have hu : (A.deeper (envOfC "law" (defScope sLaw) s.heap.objs.size f cdv)).units + 70 < cLine := by have := hr.un; omega
  have kH := W.kp
  obtain ⟨ds, vds, bW⟩ := kh_plain W
  refine ⟨_, pss_cons (ps_for PassesOwn.never rfl (pi_range1 rfl mr (pa_cons (pe_callB (call_max2 rfl) rfl mx (by decide +kernel) (pa_cons pe_int (pa_cons (pe_callB (call_min2 rfl) rfl mn (by decide +kernel) (pa_cons pe_int (pa_cons (pe_callB call_len_seq rfl ml PySem.boot_len (pa_cons (pv 0) pa_nil)) pa_nil))) pa_nil))) pa_nil))
      (pg_name (i := 1) scLaw.nd rfl (Or.inl rfl))
      (pss_cons (ps_set (i := 2) scLaw.nd rfl (Or.inr rfl) (pe_call GB hr1 rfl mB kB bB .nil pass0 (pa_cons (pv 0) (pa_cons (pv 1) pa_nil))))
      (pss_cons (ps_set (i := 3) scLaw.nd rfl (Or.inl rfl) (pe_slice sl_list (pe_lst (pa_cons pe_str (pa_cons pe_str (pa_cons pe_str (pa_cons pe_str pa_nil))))) po_none (po_some (pe_op op_add pe_int (pe_call GT hr1 rfl mT kT bT .nil pass0 (pa_cons (pv 2) (pa_cons pe_int pa_nil)))))))
      (pss_one (ps_for PassesOwn.never rfl (pi_range1 rfl mr (pa_cons pe_int pa_nil)) (pg_name (i := 4) scLaw.nd rfl (Or.inl rfl))
        (pss_cons (ps_set (i := 5) scLaw.nd rfl (Or.inr rfl) (pe_call GT hr1 rfl mT kT bT .nil pass0 (pa_cons (pv 2) (pa_cons pe_int pa_nil))))
        (pss_cons (ps_set (i := 6) scLaw.nd rfl (Or.inl rfl) (pe_callTy (call_dictP rfl) rfl md (by decide +kernel) (pa_cons (pe_lc (own := [("_law_name", 13)]) (g := gName 13) (tt := tYes) rfl scLaw.nd (pi_list (pv 3)) (blkOk_by (N := nmLaw) (sc := defScope sLaw) (by decide +kernel))
            (fun _ _ _ _ _ => pg_name (i := 13) scLaw.nd rfl (Or.inl rfl)) (fun _ _ _ _ _ => pts_nil) (fun _ _ _ _ _ => pe_tup (pa_cons (pv 13) (pa_cons (pe_ix (show IxR _ (rIxL K) from ix_list) (pe_lst (pa_cons (pv 5) (pa_cons (pe_call GT hr1 rfl mT kT bT .nil pass0 (pa_cons (pv 2) (pa_cons pe_int pa_nil))) pa_nil)))
              (pe_call GT hr1 rfl mT kT bT .nil pass0 (pa_cons (pv 2) (pa_cons pe_int pa_nil))) (fun _ _ => rfl)) pa_nil)))) pa_nil)))
        (pss_cons (ps_par (i := 7) (j := 8) (by rfl) scLaw.nd rfl rfl (by decide) rfl rfl (pa_cons (pe_call GN hr rfl mN kN bN .nil pass0 (pa_cons (pv 2) (pa_cons (pv 3) (pa_cons pe_int pa_nil))))
            (pa_cons (pe_ix ix_list (pe_lst (pa_cons (pv 5) (pa_cons (pe_call GT hr1 rfl mT kT bT .nil pass0 (pa_cons (pv 2) (pa_cons pe_int pa_nil))) pa_nil))) (pe_call GT hr1 rfl mT kT bT .nil pass0 (pa_cons (pv 2) (pa_cons pe_int pa_nil))) (fun _ _ => rfl)) pa_nil)) (by rfl))
        (pss_cons (ps_par (i := 7) (j := 9) (by rfl) scLaw.nd rfl rfl (by decide) rfl rfl (pa_cons (pe_ix ix_list (pe_lst (pa_cons (pv 7) (pa_cons (pe_tup (pa_cons pe_str (pa_cons (pv 7) pa_nil))) pa_nil))) (pe_call GT hr1 rfl mT kT bT .nil pass0 (pa_cons (pv 2) (pa_cons pe_int pa_nil))) (fun _ _ => rfl))
            (pa_cons (pe_call GT hr1 rfl mT kT bT .nil pass0 (pa_cons (pv 2) (pa_cons pe_int pa_nil))) pa_nil)) (by rfl))
        (pss_cons (ps_par (i := 10) (j := 11) (by rfl) scLaw.nd rfl rfl (by decide) rfl rfl (pa_cons (pe_callB (call_repr hG' hu) rfl mp (by decide +kernel) (pa_cons (pv 6) pa_nil)) (pa_cons (pe_call GL hr11 rfl mL kL bL .nil pass0 (pa_cons (pv 7) (pa_cons (pv 6) (pa_cons (pv 8) (pa_cons (pv 9) pa_nil))))) pa_nil)) (by rfl))
        (pss_cons (ps_set (i := 12) scLaw.nd rfl (Or.inl rfl) (pe_lst (pa_cons (pe_callN GH hr12 rfl mH kH (kb_holds W) pass0 (pa_cons (pv 7) (pa_cons (pv 6) pa_nil)) (pk_cons (pv 8) (pk_cons (pv 9) pk_nil))) pa_nil)))
        (pss_cons (ps_expr (pe_bm PySem.F.plainAttrs_list PySem.F.slot_list_append PySem.F.type_list_append mt_append (pv 12) (pa_cons (pe_callK0 GH hr12 rfl mH kH (kh_named W) pass0 (pk_cons (pv 7) (pk_cons (pv 6) (pk_cons (pv 9) (pk_cons (pv 8) pk_nil))))) pa_nil)))
        (pss_cons (ps_if (PW.pt (pw_or (pt_cmpR op_ne (pe_callB (call_repr hG' hu) rfl mp (by decide +kernel) (pa_cons (pv 12) pa_nil)) (pe_callB (call_repr hG' hu) rfl mp (by decide +kernel) (pa_cons (pe_lst (pa_cons (pv 11) (pa_cons (pv 11) pa_nil))) pa_nil)) (nomark _))
            (pw_or1 (pt_cmpR op_ne (pe_callB (call_repr hG' hu) rfl mp (by decide +kernel) (pa_cons (pv 6) pa_nil)) (pv 10) (nomark _))))) (pss_one (ps_ret pe_bl)) pss_nil)
        (pss_one (ps_if (pt_cmpR op_ne (pe_callB call_repr_bl rfl mp (by decide +kernel) (pa_cons (pe_call GH hr12 rfl mH kH bW vds pass0 (pa_cons (pv 7) (pa_cons (pv 6) pa_nil))) pa_nil))
            (pe_callB call_repr_bl rfl mp (by decide +kernel) (pa_cons (pe_call GL hr11 rfl mL kL bL .nil pass0 (pa_cons (pv 7) (pa_cons (pv 6) (pa_cons pe_int (pa_cons pe_int pa_nil))))) pa_nil)) (nomark _)) (pss_one (ps_ret pe_bl)) pss_nil)))))))))))))))
    (pss_one (ps_ret pe_bl)), ?_⟩
  refine ⟨_, rfl, a, _, rfl, .inl hS, _, _, rfl, _, _, rfl, _, rfl, ?_, ?_, ?_⟩
  · split <;> (try split) <;> omega
  · rw [List.length_map]
    split <;> (try split) <;> omega
  refine for_range (lo := 0) (fun i σ H' => ∃ x1 x2 x3 x4 x5 x6 x7 x8 x9 x10 x11 x12 x13 : Option V, σ = [some (.ref a), x1, x2, x3, x4, x5, x6, x7, x8, x9, x10, x11, x12, x13] ∧ Gr T H H') ⟨_, _, _, _, _, _, _, _, _, _, _, _, _, rfl, Gr.refl hT⟩ ?_ (fun σ H' _ => q H')
  rintro i σ H1 hi ⟨x1, x2, x3, x4, x5, x6, x7, x8, x9, x10, x11, x12, x13, rfl, s1⟩
  have hi6 : i < 6 := by
    rw [List.length_map] at hi
    split at hi <;> (try split at hi) <;> omega
  refine ⟨_, rfl, _, rfl, a, ns, _, rfl, s1.seq hS, by omega, by omega, fun b H2 nb s2 B2 => ?_⟩
  have n0 : H b = none := s1.no b nb
  have s2 := s1.same s2
  refine ⟨(by show 4 ≤ sizeLine; decide), fun p3 hp3 => ?_⟩
  refine ⟨_, rfl, b, 4, 0, rfl, B2.keep (same_new hp3 _), by decide, by decide, by decide, fun d4 H4 k4 B4 d40 d41 => ?_⟩
  refine ⟨_, _, rfl, rfl, _, rfl, p3, _, rfl, SqL.of (k4 _ _ (B2.ne hp3) upd_same), fun p5 hp5 => ?_⟩
  obtain ⟨xs, exs, N⟩ := nm_at d40 d41
  have s4 : Gr T H H4 := gr_kept (s2.same (same_new hp3 _)) n0 (B2.keep (same_new hp3 _)) k4
  have ne5 : p5 ≠ b := B4.ne hp5
  have h5 : upd H4 p5 (.lst (cutV [.str "b", .str "tock", .str "y", .str "left"] none (some (1 + d4)))) p5 = some (.lst (xs.map V.str)) := by rw [upd_same, exs]
  have s5 := s4.same (same_new hp5 (.lst (cutV [.str "b", .str "tock", .str "y", .str "left"] none (some (1 + d4)))))
  have B5 := B4.keep (same_new hp5 (.lst (cutV [.str "b", .str "tock", .str "y", .str "left"] none (some (1 + d4)))))
  refine ⟨14, rfl, by decide, by decide, ?_⟩
  refine for_range (lo := 0) (fun j σ H' => ∃ y4 y5 y6 y7 y8 y9 y10 y11 y12 : Option V, σ = [some (.ref a), some (.int (0 + i)), some (.ref b), some (.ref p5), y4, y5, y6, y7, y8, y9, y10, y11, y12, x13] ∧ Gr T H H' ∧ H' p5 = some (.lst (xs.map V.str)) ∧ Bag H' b (1 + 1000 * j)) ⟨_, _, _, _, _, _, _, _, _, rfl, s5, h5, B5⟩ ?_ ?_
  · rintro j σ H6 hj ⟨y4, y5, y6, y7, y8, y9, y10, y11, y12, rfl, s6, h6, B6⟩
    have hj : j < 14 := hj
    have nl := N.len
    have c4 : ct 4 = 885 := rfl
    have c2 : ce 2 = 35 := rfl
    refine ⟨_, rfl, b, 40, _, rfl, B6, by omega, by decide, by decide, fun sm H7 k7 B7 sm0 sm1 => ?_⟩
    have h7 := k7 _ _ ne5 h6
    have s7 := gr_kept s6 n0 B6 k7
    refine ⟨_, rfl, p5, rfl, ⟨_, SqL.of h7⟩, fun C hC => ?_⟩
    have nC : C ≠ b := B7.ne hC
    refine lc_list (K := K) (a := p5) (xs := xs.map V.str) (fun i Hc => ∃ (kvs : List (Str × Int)) (ps : List Addr), kvs.map (·.1) = xs.take i ∧ Hc C = some (.lst (ps.map V.ref)) ∧ Paired (fun p kv => Hc p = some (.tup [.str kv.1, .int kv.2])) ps kvs ∧ (∀ p ∈ kvs, 0 ≤ p.2 ∧ p.2 < 1024) ∧
        Bag Hc b (1 + 1000 * j + 1 + 2 * i) ∧ Kept b H7 Hc) ⟨[], [], rfl, upd_same, .nil, (fun p hp => by cases hp), B7.keep (same_new hC _), Kept.new hC _⟩ ?_ ?_ ?_
    · rintro i2 Hc _ ⟨kvs, ps, _, _, _, _, _, kc⟩
      exact SqL.of (kc _ _ ne5 h7)
    · rintro i2 x Hc hx ⟨kvs, ps, k1, k2, k3, k4, k5, k6⟩
      rw [List.getElem?_map] at hx
      obtain ⟨z, hz, rfl⟩ := Option.map_eq_some_iff.mp hx
      have iz : i2 < xs.length := (List.getElem?_eq_some_iff.mp hz).1
      refine ⟨rfl, _, rfl, _, rfl, _, rfl, b, 40, _, rfl, k5, by omega, by decide, by decide, fun d7 H7 k7 B7 d70 d71 => ⟨(by show 2 ≤ sizeLine; decide), fun p8 hp8 => ?_⟩⟩
      refine ⟨_, rfl, b, 2, _, rfl, B7.keep (same_new hp8 _), by omega, by decide, by decide, fun d9 H9 k9 B9 d90 d91 => ?_⟩
      obtain ⟨nv, en, nv0, nv1⟩ : ∃ nv : Int, atI [V.int sm, V.int d7] d9 = some (.int nv) ∧ 0 ≤ nv ∧ nv < 1024 := by
        rcases two_ix (x := V.int sm) (y := V.int d7) d90 d91 with e | e
        · exact ⟨_, e, sm0, by omega⟩
        · exact ⟨_, e, d70, by omega⟩
      refine ⟨p8, _, _, _, rfl, rfl, SqL.of (k9 _ _ (B7.ne hp8) upd_same), en, (by show 2 ≤ sizeLine; decide), fun p10 hp10 => ?_⟩
      have s10 := same_new hp10 (.tup [.str z, .int nv])
      have kk : Kept b Hc _ := k7.trans ((Kept.new hp8 _).trans (k9.trans (.of s10)))
      have tt := k5.tups kk
      have hC10 := kk _ _ nC k2
      have hlen : ps.length = i2 := by
        have e1 := k3.length
        have e2 := congrArg List.length k1
        rw [List.length_map, List.length_take] at e2
        omega
      refine ⟨_, hC10, by rw [List.length_map, hlen]; exact small1000 (by omega), kvs ++ [(z, nv)], ps ++ [p10], ?_, ?_, ?_, ?_, ?_, ?_⟩
      · rw [List.map_append, k1, List.take_add_one, hz]
        rfl
      · rw [upd_same, List.map_append]
        rfl
      · refine paired_snoc ?_ (L2.Paired.mapP k3 fun p kv h => ?_)
        · show upd _ C _ p10 = _
          rw [upd_ne (ne_of (o := .tup [.str z, .int nv]) upd_same hC10 (by intro z; cases z))]
          exact upd_same
        · have h2 := tt _ _ h
          rw [upd_ne (ne_of h2 hC10 (by intro z; cases z))]
          exact h2
      · intro p hp
        rcases List.mem_append.mp hp with hp | hp
        · exact k4 p hp
        · rw [List.mem_singleton.mp hp]
          exact ⟨nv0, nv1⟩
      · exact ((B9.keep s10).put nC).more (by omega)
      · intro x o n h
        rw [upd_ne (ne_of_none h hC)]
        exact kk _ _ n (k6 _ _ n h)
    · rintro Hc ⟨kvs, ps, k1, k2, k3, k4, k5, k6⟩
      rw [List.length_map] at k1 k5
      rw [List.take_length] at k1
      refine ⟨C, ps, bx kvs, rfl, SqL.of k2, paired_bx k3, fun p11 hp11 => ?_⟩
      rw [merge_bx (by rw [k1]; exact N.nd)]
      have s11 := same_new hp11 (.dK (bx kvs))
      have B11 := k5.keep s11
      have k11 : Kept b H7 _ := k6.trans (.of s11)
      have e11 : upd Hc p11 (.dK (bx kvs)) p11 = _ := upd_same
      have n11 : p11 ≠ b := k5.ne hp11
      have Bk := bx_of k1 k4
      have Sk := sm_of k1 N k4
      have sH11 : Gr T H _ := gr_kept s7 n0 B7 k11
      refine ⟨_, rfl, _, rfl, b, p5, _, xs, rfl, B11, by omega, k11 _ _ ne5 h7, ne5, by omega, fun v e H12 k12 B12 a1 a2 a3 => ?_⟩
      refine ⟨_, rfl, _, rfl, b, 9, _, rfl, B12, by omega, by decide, by decide, fun d13 H13 k13 B13 d130 d131 => ⟨(by show 2 ≤ sizeLine; decide), fun p14 hp14 => ?_⟩⟩
      refine ⟨_, rfl, b, 2, _, rfl, B13.keep (same_new hp14 _), by omega, by decide, by decide, fun d15 H15 k15 B15 d150 d151 => ?_⟩
      obtain ⟨wv, ew, wv0, wv1⟩ : ∃ nv : Int, atI [V.int sm, V.int d13] d15 = some (.int nv) ∧ 0 ≤ nv ∧ nv < 1024 := by
        rcases two_ix (x := V.int sm) (y := V.int d13) d150 d151 with e | e
        · exact ⟨_, e, sm0, by omega⟩
        · exact ⟨_, e, d130, by omega⟩
      refine ⟨p14, _, _, _, rfl, rfl, SqL.of (k15 _ _ (B13.ne hp14) upd_same), ew, _, _, rfl, ?_⟩
      have kk15 : Kept b H12 H15 := k13.trans ((Kept.new hp14 _).trans k15)
      have a15 := a1.keep (B12.tups kk15)
      refine ⟨_, rfl, _, rfl, (by show 2 ≤ sizeLine; decide), fun p16 hp16 => ⟨(by show 2 ≤ sizeLine; decide), fun p17 hp17 => ?_⟩⟩
      have s16 := same_new hp16 (.tup [.str "not", v])
      have s17 := same_new hp17 (.lst [v, .ref p16])
      have s167 := s16.trans s17
      refine ⟨_, rfl, b, 2, _, rfl, B15.keep s167, by omega, by decide, by decide, fun d18 H18 k18 B18 d180 d181 => ?_⟩
      have n17 : p17 ≠ b := (B15.keep s16).ne hp17
      have h17 := k18 _ _ n17 (@upd_same _ p17 (.lst [v, .ref p16]))
      have t18 := (B15.keep s167).tups k18
      have a18 := (a15.keep (Same.tups s167)).keep t18
      obtain ⟨v2, e2, ev, a2', a3', at2⟩ : ∃ (v2 : V) (e2 : Ts), atI [v, .ref p16] d18 = some v2 ∧ e2.deep ≤ 5 ∧ e2.good xs ∧ TsAt H18 v2 e2 := by
        rcases two_ix (x := v) (y := .ref p16) d180 d181 with e' | e'
        · exact ⟨_, e, e', by omega, a3, a18⟩
        · exact ⟨_, .nt e, e', by show e.deep + 1 ≤ 5; omega, a3, .nt (t18 _ _ (s17 _ _ upd_same)) a18⟩
      refine ⟨p17, _, _, _, rfl, rfl, SqL.of h17, ev, ?_⟩
      refine ⟨_, rfl, b, 3, _, rfl, B18, by omega, by decide, by decide, fun rp H19 k19 B19 rp0 rp1 => ⟨_, _, rfl, ?_⟩⟩
      have k1119 : Kept b _ H19 := k12.trans (kk15.trans ((Kept.of s167).trans (k18.trans k19)))
      have hc19 := k1119 _ _ n11 e11
      have at19 := at2.keep (B18.tups k19)
      have s19 := gr_kept sH11 n0 B11 k1119
      have h19 := k1119 _ _ ne5 (k11 _ _ ne5 h7)
      have hw : 0 ≤ wv ∧ wv < 1024 := ⟨wv0, wv1⟩
      have hrp : 0 ≤ rp ∧ rp < 1024 := ⟨rp0, by omega⟩
      obtain ⟨f1, f2, f3⟩ := dict_fit Sk
      refine ⟨_, rfl, p11, _, rfl, .dct hc19 (bd_pairs kvs), f1, f2, f3, ?_⟩
      refine ⟨_, rfl, _, rfl, _, rfl, _, rfl, v2, p11, e2, kvs, xs, wv, rp, rfl, at19, a2', a3', Bk, hc19, hw, hrp, fun H20 s20 => ⟨_, _, rfl, ?_⟩⟩
      have s20 := Gr.of s19.tabs s20
      refine ⟨_, rfl, _, rfl, _, rfl, _, rfl, rfl, rfl, v2, p11, e2, kvs, xs, wv, rp, rfl, at19.keep s20.tups, a2', a3', Bk, s20.dK hc19, hw, hrp, s20.tabs, fun H21 s21 => ⟨(by show 1 ≤ sizeLine; decide), fun p22 hp22 => ?_⟩⟩
      have s21 := s20.trans s21
      have s22 := s21.same (same_new hp22 (.lst [.bl (e2.val kvs wv rp)]))
      refine ⟨_, rfl, .inl ⟨rfl, _, SqL.of upd_same⟩, ?_⟩
      refine ⟨_, rfl, _, rfl, _, rfl, _, rfl, rfl, v2, p11, e2, kvs, xs, wv, rp, rfl, at19.keep s22.tups, a2', a3', Bk, s22.dK hc19, hw, hrp, s22.tabs, fun H23 s23 => ?_⟩
      have h22 := s23.lst (@upd_same H21 p22 (.lst [.bl (e2.val kvs wv rp)]))
      refine ⟨p22, _, _, rfl, rfl, h22, (by show 1 < sizeLine; decide), ?_⟩
      have s24 : Gr T H19 (upd H23 p22 (.lst [.bl (e2.val kvs wv rp), .bl (e2.val kvs wv rp)])) := gr_put (s22.trans s23) (s21.no _ hp22) h22
      obtain ⟨g1, g2, g3⟩ := bools_fit (e2.val kvs wv rp) (e2.val kvs wv rp)
      refine ⟨_, rfl, p22, _, rfl, .seq (.lst (SqL.of upd_same) (.cons (.bl _) (.cons (.bl _) .nil))) rfl, g1, g2, g3, ?_⟩
      refine ⟨_, rfl, _, rfl, (by show 2 ≤ sizeLine; decide), fun p25 hp25 => ?_⟩
      have s25 := s24.same (same_new hp25 (.lst [.bl (e2.val kvs wv rp), .bl (e2.val kvs wv rp)]))
      refine ⟨p25, _, rfl, .seq (.lst (SqL.of upd_same) (.cons (.bl _) (.cons (.bl _) .nil))) rfl, g1, g2, g3, rfl, _, rfl, iteNS rfl ?_⟩
      refine ⟨_, rfl, p11, _, rfl, .dct (s25.dK hc19) (bd_pairs kvs), f1, f2, f3, _, rfl, rfl, _, rfl, iteNS rfl ?_⟩
      refine ⟨_, rfl, _, rfl, v2, p11, e2, kvs, xs, 0, 0, rfl, at19.keep s25.tups, a2', a3', Bk, s25.dK hc19, ⟨by decide, by decide⟩, ⟨by decide, by decide⟩, s25.tabs, fun H26 s26 => ⟨_, rfl, ?_⟩⟩
      have s26 := s25.trans s26
      refine ⟨_, rfl, _, rfl, v2, p11, e2, kvs, xs, 0, 0, rfl, at19.keep s26.tups, a2', a3', Bk, s26.dK hc19, ⟨by decide, by decide⟩, ⟨by decide, by decide⟩, fun H27 s27 => ⟨_, rfl, rfl, _, rfl, iteNS rfl ?_⟩⟩
      have s27 := s26.same s27
      exact ⟨_, _, _, _, _, _, _, _, _, rfl, s19.trans s27, s27.lst h19, (B19.gr s27).more (by omega)⟩
  · rintro σ H6 ⟨y4, y5, y6, y7, y8, y9, y10, y11, y12, rfl, s6, h6, B6⟩
    exact ⟨_, _, _, _, _, _, _, _, _, _, _, _, _, rfl, s6⟩
end
end Any
namespace Any
open L2 PySem PySem.Spec PyProof.Rows LamX NdefX
theorem all_mk {l : PySem.W.OpenLaw} {w : World} {K : PySem.W.Frag} {h : Heap} {mg : Str → Option Value} {fa D : Addr} (X : K.In h) (G : h.Ns mainGlobals mg) (hfa : mg "law" = some (.ref fa))
    {f1 f2 f3 f4 f5 f6 f7 f8 f9 f10 f11 f12 f13 f14 f15 f16 f17 f18 D6 c7 P7 c8 P8 c9 P9 : Addr} {od1 an1 od2 an2 od3 an3 od4 an4 od5 an5 od6 an6 od7 an7 od8 an8 od9 an9 od10 an10 od11 an11 od12 an12 od13 an13 od14 an14 od15 an15 od16 an16 od17 an17 od18 an18 cod7 cod8 cod9 : Option Addr} {sl1 sl2 sl3 sl4 sl5 sl6 sl7 sl8 sl9 sl10 sl11 sl12 sl13 sl14 sl15 sl16 sl17 sl18 csl7 csl8 csl9 : Array (Option Value)} {cvs7 cvs8 cvs9 : Array Value}
    {oc1 kV1 cd1 dc1 pm1 ct1 oc2 kV2 cd2 dc2 pm2 ct2 oc3 kV3 cd3 dc3 pm3 ct3 oc4 kV4 cd4 dc4 pm4 ct4 oc5 kV5 cd5 dc5 pm5 ct5 oc6 cd6 dc6 pm6 ct6 oc7 kV7 coc7 dc7 pm7 ct7 oc8 kV8 coc8 dc8 pm8 ct8 oc9 kV9 coc9 dc9 pm9 ct9 oc10 kV10 cd10 dc10 pm10 ct10 oc11 kV11 cd11 dc11 pm11 ct11 oc12 kV12 cd12 dc12 pm12 ct12 oc13 kV13 cd13 dc13 pm13 ct13 oc14 kV14 cd14 dc14 pm14 ct14 oc15 kV15 cd15 dc15 pm15 ct15 oc16 kV16 cd16 dc16 pm16 ct16 oc17 kV17 cd17 dc17 pm17 ct17 oc18 kV18 cd18 dc18 pm18 ct18 : Value} {es : Array DictEntry} {en : Nat} {tk6_0 tk6_1 : Tok}
    (a1 : PySem.W.nsIn K mainGlobals "plus" = some (some (.ref f1)))
    (l1 : K.lookup f1 = some ⟨oc1, od1, .func (PySem.W.fnOf "plus" "plus" (defArgs sPlus) (defBody sPlus) (defScope sPlus) .none kV1 dc1 pm1 an1 cd1 ct1), sl1⟩)
    (e1 : PySem.W.codeIn K cd1 "plus" = true)
    (k1 : PySem.W.keepIn K (.ref f1) = true)
    (a2 : PySem.W.nsIn K mainGlobals "less" = some (some (.ref f2)))
    (l2 : K.lookup f2 = some ⟨oc2, od2, .func (PySem.W.fnOf "less" "less" (defArgs sLess) (defBody sLess) (defScope sLess) .none kV2 dc2 pm2 an2 cd2 ct2), sl2⟩)
    (e2 : PySem.W.codeIn K cd2 "less" = true)
    (k2 : PySem.W.keepIn K (.ref f2) = true)
    (a3 : PySem.W.nsIn K mainGlobals "times" = some (some (.ref f3)))
    (l3 : K.lookup f3 = some ⟨oc3, od3, .func (PySem.W.fnOf "times" "times" (defArgs sTimes) (defBody sTimes) (defScope sTimes) .none kV3 dc3 pm3 an3 cd3 ct3), sl3⟩)
    (e3 : PySem.W.codeIn K cd3 "times" = true)
    (k3 : PySem.W.keepIn K (.ref f3) = true)
    (a4 : PySem.W.nsIn K mainGlobals "over" = some (some (.ref f4)))
    (l4 : K.lookup f4 = some ⟨oc4, od4, .func (PySem.W.fnOf "over" "over" (defArgs sOver) (defBody sOver) (defScope sOver) .none kV4 dc4 pm4 an4 cd4 ct4), sl4⟩)
    (e4 : PySem.W.codeIn K cd4 "over" = true)
    (k4 : PySem.W.keepIn K (.ref f4) = true)
    (a5 : PySem.W.nsIn K mainGlobals "rest" = some (some (.ref f5)))
    (l5 : K.lookup f5 = some ⟨oc5, od5, .func (PySem.W.fnOf "rest" "rest" (defArgs sRest) (defBody sRest) (defScope sRest) .none kV5 dc5 pm5 an5 cd5 ct5), sl5⟩)
    (e5 : PySem.W.codeIn K cd5 "rest" = true)
    (k5 : PySem.W.keepIn K (.ref f5) = true)
    (a6 : PySem.W.nsIn K mainGlobals "holds" = some (some (.ref f6)))
    (l6 : K.lookup f6 = some ⟨oc6, od6, .func (PySem.W.fnOf "holds" "holds" (defArgs sHolds) (defBody sHolds) (defScope sHolds) .none (.ref D6) dc6 pm6 an6 cd6 ct6), sl6⟩)
    (e6 : PySem.W.codeIn K cd6 "holds" = true)
    (k6 : PySem.W.keepIn K (.ref f6) = true)
    (w6_0 : PySem.W.nsIn K D6 "asked" = some (some (.int 0 tk6_0)))
    (w6_1 : PySem.W.nsIn K D6 "told" = some (some (.int 0 tk6_1)))
    (a7 : PySem.W.nsIn K mainGlobals "ready_worth" = some (some (.ref f7)))
    (l7 : K.lookup f7 = some ⟨oc7, od7, .func (PySem.W.fnOf "ready_worth" "ready_worth" (defArgs sReady) (defBody sReady) (defScope sReady) .none kV7 dc7 pm7 an7 (.ref c7) ct7), sl7⟩)
    (e7 : PySem.W.codeIn K (.ref c7) "ready_worth" = true)
    (k7 : PySem.W.keepIn K (.ref f7) = true)
    (g7 : K.lookup c7 = some ⟨coc7, cod7, .fields cvs7, csl7⟩)
    (v7 : cvs7[11]? = some (.ref P7))
    (q7 : PySem.W.codeHdIn K c7 P7 = true)
    (n7 : K.lookup P7 = none)
    (t7 : h.get? P7 = some { cls := .none, data := .fields #[] })
    (a8 : PySem.W.nsIn K mainGlobals "ready_test" = some (some (.ref f8)))
    (l8 : K.lookup f8 = some ⟨oc8, od8, .func (PySem.W.fnOf "ready_test" "ready_test" (defArgs sRT) (defBody sRT) (defScope sRT) .none kV8 dc8 pm8 an8 (.ref c8) ct8), sl8⟩)
    (e8 : PySem.W.codeIn K (.ref c8) "ready_test" = true)
    (k8 : PySem.W.keepIn K (.ref f8) = true)
    (g8 : K.lookup c8 = some ⟨coc8, cod8, .fields cvs8, csl8⟩)
    (v8 : cvs8[11]? = some (.ref P8))
    (q8 : PySem.W.codeHdIn K c8 P8 = true)
    (n8 : K.lookup P8 = none)
    (t8 : h.get? P8 = some { cls := .none, data := .fields #[] })
    (a9 : PySem.W.nsIn K mainGlobals "ready_comparison" = some (some (.ref f9)))
    (l9 : K.lookup f9 = some ⟨oc9, od9, .func (PySem.W.fnOf "ready_comparison" "ready_comparison" (defArgs sRC) (defBody sRC) (defScope sRC) .none kV9 dc9 pm9 an9 (.ref c9) ct9), sl9⟩)
    (e9 : PySem.W.codeIn K (.ref c9) "ready_comparison" = true)
    (k9 : PySem.W.keepIn K (.ref f9) = true)
    (g9 : K.lookup c9 = some ⟨coc9, cod9, .fields cvs9, csl9⟩)
    (v9 : cvs9[11]? = some (.ref P9))
    (q9 : PySem.W.codeHdIn K c9 P9 = true)
    (n9 : K.lookup P9 = none)
    (t9 : h.get? P9 = some { cls := .none, data := .fields #[] })
    (a10 : PySem.W.nsIn K mainGlobals "_law_bag" = some (some (.ref f10)))
    (l10 : K.lookup f10 = some ⟨oc10, od10, .func (PySem.W.fnOf "_law_bag" "_law_bag" (defArgs sBag) (defBody sBag) (defScope sBag) .none kV10 dc10 pm10 an10 cd10 ct10), sl10⟩)
    (e10 : PySem.W.codeIn K cd10 "_law_bag" = true)
    (k10 : PySem.W.keepIn K (.ref f10) = true)
    (a11 : PySem.W.nsIn K mainGlobals "_law_take" = some (some (.ref f11)))
    (l11 : K.lookup f11 = some ⟨oc11, od11, .func (PySem.W.fnOf "_law_take" "_law_take" (defArgs sTake) (defBody sTake) (defScope sTake) .none kV11 dc11 pm11 an11 cd11 ct11), sl11⟩)
    (e11 : PySem.W.codeIn K cd11 "_law_take" = true)
    (k11 : PySem.W.keepIn K (.ref f11) = true)
    (a12 : PySem.W.nsIn K mainGlobals "_law_of" = some (some (.ref f12)))
    (l12 : K.lookup f12 = some ⟨oc12, od12, .func (PySem.W.fnOf "_law_of" "_law_of" (defArgs sOf) (defBody sOf) (defScope sOf) .none kV12 dc12 pm12 an12 cd12 ct12), sl12⟩)
    (e12 : PySem.W.codeIn K cd12 "_law_of" = true)
    (k12 : PySem.W.keepIn K (.ref f12) = true)
    (a13 : PySem.W.nsIn K mainGlobals "_law_worth" = some (some (.ref f13)))
    (l13 : K.lookup f13 = some ⟨oc13, od13, .func (PySem.W.fnOf "_law_worth" "_law_worth" (defArgs sLw) (defBody sLw) (defScope sLw) .none kV13 dc13 pm13 an13 cd13 ct13), sl13⟩)
    (e13 : PySem.W.codeIn K cd13 "_law_worth" = true)
    (k13 : PySem.W.keepIn K (.ref f13) = true)
    (a14 : PySem.W.nsIn K mainGlobals "_law_holds" = some (some (.ref f14)))
    (l14 : K.lookup f14 = some ⟨oc14, od14, .func (PySem.W.fnOf "_law_holds" "_law_holds" (defArgs sLh) (defBody sLh) (defScope sLh) .none kV14 dc14 pm14 an14 cd14 ct14), sl14⟩)
    (e14 : PySem.W.codeIn K cd14 "_law_holds" = true)
    (k14 : PySem.W.keepIn K (.ref f14) = true)
    (a15 : PySem.W.nsIn K mainGlobals "_law_expr" = some (some (.ref f15)))
    (l15 : K.lookup f15 = some ⟨oc15, od15, .func (PySem.W.fnOf "_law_expr" "_law_expr" (defArgs sExpr) (defBody sExpr) (defScope sExpr) .none kV15 dc15 pm15 an15 cd15 ct15), sl15⟩)
    (e15 : PySem.W.codeIn K cd15 "_law_expr" = true)
    (k15 : PySem.W.keepIn K (.ref f15) = true)
    (a16 : PySem.W.nsIn K mainGlobals "_law_test" = some (some (.ref f16)))
    (l16 : K.lookup f16 = some ⟨oc16, od16, .func (PySem.W.fnOf "_law_test" "_law_test" (defArgs sTest) (defBody sTest) (defScope sTest) .none kV16 dc16 pm16 an16 cd16 ct16), sl16⟩)
    (e16 : PySem.W.codeIn K cd16 "_law_test" = true)
    (k16 : PySem.W.keepIn K (.ref f16) = true)
    (a17 : PySem.W.nsIn K mainGlobals "_law_near" = some (some (.ref f17)))
    (l17 : K.lookup f17 = some ⟨oc17, od17, .func (PySem.W.fnOf "_law_near" "_law_near" (defArgs sNear) (defBody sNear) (defScope sNear) .none kV17 dc17 pm17 an17 cd17 ct17), sl17⟩)
    (e17 : PySem.W.codeIn K cd17 "_law_near" = true)
    (k17 : PySem.W.keepIn K (.ref f17) = true)
    (a18 : PySem.W.nsIn K mainGlobals "law" = some (some (.ref f18)))
    (l18 : K.lookup f18 = some ⟨oc18, od18, .func (PySem.W.fnOf "law" "law" (defArgs sLaw) (defBody sLaw) (defScope sLaw) .none kV18 dc18 pm18 an18 cd18 ct18), sl18⟩)
    (e18 : PySem.W.codeIn K cd18 "law" = true)
    (k18 : PySem.W.keepIn K (.ref f18) = true)
    (da : PySem.W.nsIn K mainGlobals "DEEDS" = some (some (.ref D)))
    (dl : K.lookup D = some ⟨.type "dict", none, .dict es en, #[]⟩)
    (dk : PySem.W.KeysLit w.params es.toList)
    (d_plus : PySem.W.nsIn K D "plus" = some (some (.ref f1)))
    (d_less : PySem.W.nsIn K D "less" = some (some (.ref f2)))
    (d_times : PySem.W.nsIn K D "times" = some (some (.ref f3)))
    (d_over : PySem.W.nsIn K D "over" = some (some (.ref f4)))
    (d_rest : PySem.W.nsIn K D "rest" = some (some (.ref f5)))
    (z1 : PySem.W.nsIn K mainGlobals "len" = some none)
    (z2 : PySem.W.nsIn K mainGlobals "abs" = some none)
    (z3 : PySem.W.nsIn K mainGlobals "int" = some none)
    (z4 : PySem.W.nsIn K mainGlobals "max" = some none)
    (z5 : PySem.W.nsIn K mainGlobals "min" = some none)
    (z6 : PySem.W.nsIn K mainGlobals "range" = some none)
    (z7 : PySem.W.nsIn K mainGlobals "dict" = some none)
    (z8 : PySem.W.nsIn K mainGlobals "repr" = some none)
    (z9 : PySem.W.nsIn K mainGlobals "list" = some none)
    (x_ne7_8 : P7 = P8 → False)
    (x_ne7_9 : P7 = P9 → False)
    (x_ne8_9 : P8 = P9 → False)
    : LawT l w K 16 63 "_law_script" mg fa h := by
  have e := hfa.symm.trans (PySem.W.mg_of X G a18)
  cases e
  have F1 := fun_mk (st := sPlus) l1 e1 k1
  have b1 := F1.binds (ps := ["left", "right"]) fun _ _ _ _ _ _ us hl => match us, hl with | [_, _], _ => rfl
  have m1 := PySem.W.mg_of X G a1
  have F2 := fun_mk (st := sLess) l2 e2 k2
  have b2 := F2.binds (ps := ["left", "right"]) fun _ _ _ _ _ _ us hl => match us, hl with | [_, _], _ => rfl
  have m2 := PySem.W.mg_of X G a2
  have F3 := fun_mk (st := sTimes) l3 e3 k3
  have b3 := F3.binds (ps := ["left", "right"]) fun _ _ _ _ _ _ us hl => match us, hl with | [_, _], _ => rfl
  have m3 := PySem.W.mg_of X G a3
  have F4 := fun_mk (st := sOver) l4 e4 k4
  have b4 := F4.binds (ps := ["left", "right"]) fun _ _ _ _ _ _ us hl => match us, hl with | [_, _], _ => rfl
  have m4 := PySem.W.mg_of X G a4
  have F5 := fun_mk (st := sRest) l5 e5 k5
  have b5 := F5.binds (ps := ["left", "right"]) fun _ _ _ _ _ _ us hl => match us, hl with | [_, _], _ => rfl
  have m5 := PySem.W.mg_of X G a5
  have F6 : FunD K "holds" "holds" (defArgs sHolds) (defBody sHolds) (defScope sHolds) [] [("asked", .int 0), ("told", .int 0)] f6 (PySem.W.fnOf "holds" "holds" (defArgs sHolds) (defBody sHolds) (defScope sHolds) .none (.ref D6) dc6 pm6 an6 cd6 ct6) :=
    ⟨⟨oc6, od6, .none, .ref D6, dc6, pm6, an6, cd6, ct6, sl6, rfl, l6, e6, .inl ⟨rfl, rfl⟩, .inr ⟨D6, rfl, fun q hq => by
      simp only [List.mem_cons, List.not_mem_nil, or_false] at hq
      rcases hq with rfl | rfl
      · exact ⟨_, w6_0, ⟨_, rfl⟩⟩
      · exact ⟨_, w6_1, ⟨_, rfl⟩⟩⟩⟩, k6⟩
  have m6 := PySem.W.mg_of X G a6
  have F7 : FunC K "ready_worth" "ready_worth" sReady f7 _ c7 := ⟨⟨oc7, od7, kV7, dc7, pm7, an7, ct7, sl7, rfl, l7, e7⟩, k7⟩
  have b7 := F7.binds (ps := ["expression", "owns"]) fun _ _ _ _ _ us hl => match us, hl with | [_, _], _ => rfl
  have m7 := PySem.W.mg_of X G a7
  have F8 : FunC K "ready_test" "ready_test" sRT f8 _ c8 := ⟨⟨oc8, od8, kV8, dc8, pm8, an8, ct8, sl8, rfl, l8, e8⟩, k8⟩
  have b8 := F8.binds (ps := ["test", "owns"]) fun _ _ _ _ _ us hl => match us, hl with | [_, _], _ => rfl
  have m8 := PySem.W.mg_of X G a8
  have F9 : FunC K "ready_comparison" "ready_comparison" sRC f9 _ c9 := ⟨⟨oc9, od9, kV9, dc9, pm9, an9, ct9, sl9, rfl, l9, e9⟩, k9⟩
  have b9 := F9.binds (ps := ["kind", "left", "right"]) fun _ _ _ _ _ us hl => match us, hl with | [_, _, _], _ => rfl
  have m9 := PySem.W.mg_of X G a9
  have F10 := fun_mk (st := sBag) l10 e10 k10
  have b10 := F10.binds (ps := ["_law_script", "_law_at"]) fun _ _ _ _ _ _ us hl => match us, hl with | [_, _], _ => rfl
  have m10 := PySem.W.mg_of X G a10
  have F11 := fun_mk (st := sTake) l11 e11 k11
  have b11 := F11.binds (ps := ["_law_bag_here", "_law_many"]) fun _ _ _ _ _ _ us hl => match us, hl with | [_, _], _ => rfl
  have m11 := PySem.W.mg_of X G a11
  have F12 := fun_mk (st := sOf) l12 e12 k12
  have b12 := F12.binds (ps := ["_law_bag_here", "_law_some"]) fun _ _ _ _ _ _ us hl => match us, hl with | [_, _], _ => rfl
  have m12 := PySem.W.mg_of X G a12
  have F13 := fun_mk (st := sLw) l13 e13 k13
  have b13 := F13.binds (ps := ["_law_some", "_law_crates", "_law_wish", "_law_reply"]) fun _ _ _ _ _ _ us hl => match us, hl with | [_, _, _, _], _ => rfl
  have m13 := PySem.W.mg_of X G a13
  have F14 := fun_mk (st := sLh) l14 e14 k14
  have b14 := F14.binds (ps := ["_law_some", "_law_crates", "_law_wish", "_law_reply"]) fun _ _ _ _ _ _ us hl => match us, hl with | [_, _, _, _], _ => rfl
  have m14 := PySem.W.mg_of X G a14
  have F15 := fun_mk (st := sExpr) l15 e15 k15
  have b15 := F15.binds (ps := ["_law_bag_here", "_law_names", "_law_asks", "_law_deep"]) fun _ _ _ _ _ _ us hl => match us, hl with | [_, _, _, _], _ => rfl
  have m15 := PySem.W.mg_of X G a15
  have F16 := fun_mk (st := sTest) l16 e16 k16
  have b16 := F16.binds (ps := ["_law_bag_here", "_law_names", "_law_asks", "_law_deep"]) fun _ _ _ _ _ _ us hl => match us, hl with | [_, _, _, _], _ => rfl
  have m16 := PySem.W.mg_of X G a16
  have F17 := fun_mk (st := sNear) l17 e17 k17
  have b17 := F17.binds (ps := ["_law_bag_here", "_law_names", "_law_deep"]) fun _ _ _ _ _ _ us hl => match us, hl with | [_, _, _], _ => rfl
  have m17 := PySem.W.mg_of X G a17
  have F18 := fun_mk (st := sLaw) l18 e18 k18
  have m18 := PySem.W.mg_of X G a18
  have y_len := PySem.W.mg_none_of X G z1
  have y_abs := PySem.W.mg_none_of X G z2
  have y_int := PySem.W.mg_none_of X G z3
  have y_max := PySem.W.mg_none_of X G z4
  have y_min := PySem.W.mg_none_of X G z5
  have y_range := PySem.W.mg_none_of X G z6
  have y_dict := PySem.W.mg_none_of X G z7
  have y_repr := PySem.W.mg_none_of X G z8
  have y_list := PySem.W.mg_none_of X G z9
  let T : List NTab := [(P7, fun _ _ => qReady), (P8, fun _ _ => qRT), (P9, fun _ _ => qRC)]
  refine ⟨PySem.W.fnOf "law" "law" (defArgs sLaw) (defBody sLaw) (defScope sLaw) .none kV18 dc18 pm18 an18 cd18 ct18, [(c7, P7), (c8, P8), (c9, P9)], spLaw T K, fun p hp => by
      simp only [List.mem_cons, List.not_mem_nil, or_false] at hp
      rcases hp with rfl | rfl | rfl
      · exact t7
      · exact t8
      · exact t9, fun p hp => by
      simp only [List.mem_cons, List.not_mem_nil, or_false] at hp
      rcases hp with rfl | rfl | rfl
      · exact n7
      · exact n8
      · exact n9, fun p hp => by
      simp only [List.mem_cons, List.not_mem_nil, or_false] at hp
      rcases hp with rfl | rfl | rfl
      · exact PySem.W.codeHd_of_K X q7
      · exact PySem.W.codeHd_of_K X q8
      · exact PySem.W.codeHd_of_K X q9, fun s v => .of_eq rfl, fun H a ns hl t hS => ⟨a, ns, rfl, hS, hl, ?_, fun _ => rfl⟩, fun base _ _ TB => ?_⟩
  · intro p hp
    simp only [T, List.mem_cons, List.not_mem_nil, or_false] at hp
    rcases hp with rfl | rfl | rfl
    · exact TabN.nil (t (c7, P7) (by simp))
    · exact TabN.nil (t (c8, P8) (by simp))
    · exact TabN.nil (t (c9, P9) (by simp))
  have TB7 : TabB base mg c7 P7 := TB (c7, P7) (by simp)
  have TB8 : TabB base mg c8 P8 := TB (c8, P8) (by simp)
  have TB9 : TabB base mg c9 P9 := TB (c9, P9) (by simp)
  have hm7 : (P7, fun _ _ => qReady) ∈ T := by simp [T]
  have hm8 : (P8, fun _ _ => qRT) ∈ T := by simp [T]
  have hm9 : (P9, fun _ _ => qRC) ∈ T := by simp [T]
  have ne7_8 : P7 ≠ P8 := by
    intro z
    have := PySem.W.codeHd_of_K X q7
    have := PySem.W.codeHd_of_K X q8
    exact x_ne7_8 z
  have ne7_9 : P7 ≠ P9 := by
    intro z
    have := PySem.W.codeHd_of_K X q7
    have := PySem.W.codeHd_of_K X q9
    exact x_ne7_9 z
  have ne8_9 : P8 ≠ P9 := by
    intro z
    have := PySem.W.codeHd_of_K X q8
    have := PySem.W.codeHd_of_K X q9
    exact x_ne8_9 z
  have hu7 : ∀ p ∈ T, p.1 = P7 → p.2 = fun _ _ => qReady := by
    intro p hp e
    simp only [T, List.mem_cons, List.not_mem_nil, or_false] at hp
    rcases hp with rfl | rfl | rfl
    · rfl
    · exact absurd e (Ne.symm ne7_8)
    · exact absurd e (Ne.symm ne7_9)
  have hu8 : ∀ p ∈ T, p.1 = P8 → p.2 = fun _ _ => qRT := by
    intro p hp e
    simp only [T, List.mem_cons, List.not_mem_nil, or_false] at hp
    rcases hp with rfl | rfl | rfl
    · exact absurd e (ne7_8)
    · rfl
    · exact absurd e (Ne.symm ne8_9)
  have hu9 : ∀ p ∈ T, p.1 = P9 → p.2 = fun _ _ => qRC := by
    intro p hp e
    simp only [T, List.mem_cons, List.not_mem_nil, or_false] at hp
    rcases hp with rfl | rfl | rfl
    · exact absurd e (ne7_9)
    · exact absurd e (ne8_9)
    · rfl
  have kd : ∀ (x : Str) (g : Addr), PySem.W.nsIn K D x = some (some (.ref g)) → KDct K w D x (.ref g) := fun x g e => ⟨es, en, _, dl, dk, e, rfl⟩
  have Dd_ : DeedsT l.prog w K mg base := ⟨D, PySem.W.mg_of X G da, fun d => by
    cases d with
    | plus => exact ⟨f1, kd _ _ d_plus, k1, (FnOk.raw (ok_plus F1) b1 .nil).imp fun vs H Q E h => by rw [List.append_nil]; exact h⟩
    | less => exact ⟨f2, kd _ _ d_less, k2, (FnOk.raw (ok_less F2) b2 .nil).imp fun vs H Q E h => by rw [List.append_nil]; exact h⟩
    | times => exact ⟨f3, kd _ _ d_times, k3, (FnOk.raw (ok_times F3) b3 .nil).imp fun vs H Q E h => by rw [List.append_nil]; exact h⟩
    | over => exact ⟨f4, kd _ _ d_over, k4, (FnOk.raw (ok_over F4) b4 .nil).imp fun vs H Q E h => by rw [List.append_nil]; exact h⟩
    | rest => exact ⟨f5, kd _ _ d_rest, k5, (FnOk.raw (ok_rest F5) b5 .nil).imp fun vs H Q E h => by rw [List.append_nil]; exact h⟩⟩
  have GRW := all_ready F7 TB7 hm7 hu7 Dd_ m7 b7 6
  have GC := ok_rc (P := l.prog) (w := w) F9 TB9 hm9 hu9
  have GRT := all_rt F8 TB8 hm8 hu8 m8 b8 GRW m7 k7 b7 GC m9 k9 b9 5
  have GH := ok_holds F6 GRT m8 k8 b8 y_list
  have GB := ok_bag (P := l.prog) (w := w) (mg := mg) (base := base) F10 y_len y_abs y_int
  have GT := ok_take (P := l.prog) (w := w) (mg := mg) (base := base) F11
  have GO := ok_of F12 GT b11 k11 m11 y_len
  have GL := all_lw (P := l.prog) (w := w) (base := base) F13 b13 m13 y_max 6
  have GJ := all_lh F14 b14 m14 GL b13 k13 m13 5
  have GX := all_expr F15 GT b11 k11 m11 GO b12 k12 m12 b15 m15 7
  have GS := all_test F16 GT b11 k11 m11 GX b15 k15 m15 b16 m16 5
  have GN := ok_near F17 GT b11 k11 m11 GX b15 k15 m15 GS b16 k16 m16
  exact ok_law F18 GB b10 k10 m10 GT b11 k11 m11 GN b17 k17 m17 F6 GH m6 GJ b14 k14 m14 y_len y_max y_min y_range y_dict y_repr
end Any
open PySem PySem.W PyProof.Rows
set_option maxRecDepth 100000 in
set_option maxHeartbeats 0 in
theorem PySem.Challenge.cw_anystore_k02_tests_holds : PySem.Challenge.rw_anystore_k02_tests.Holds := by
  w_on; o_law; k_head; (case hw => w_witness2)
  k_fill
  refine Any.walk_gT (l := PySem.Challenge.rw_anystore_k02_tests) (n := 63) (k := 16) (x := "_law_script") rfl (by decide) rfl ⟨rfl, by decide, by decide⟩ (fun w h Y => PySem.W.km_in_of Y) ?F
  case F =>
    intro w mg fa h Y KX G hmg
    have hT8 := PySem.W.km_tabs_of Y
    refine' Any.all_mk KX G hmg ?a1 ?l1 ?e1 ?k1 ?a2 ?l2 ?e2 ?k2 ?a3 ?l3 ?e3 ?k3 ?a4 ?l4 ?e4 ?k4 ?a5 ?l5 ?e5 ?k5 ?a6 ?l6 ?e6 ?k6 ?w6_0 ?w6_1 ?a7 ?l7 ?e7 ?k7 ?g7 ?v7 ?q7 ?n7 ?t7 ?a8 ?l8 ?e8 ?k8 ?g8 ?v8 ?q8 ?n8 ?t8 ?a9 ?l9 ?e9 ?k9 ?g9 ?v9 ?q9 ?n9 ?t9 ?a10 ?l10 ?e10 ?k10 ?a11 ?l11 ?e11 ?k11 ?a12 ?l12 ?e12 ?k12 ?a13 ?l13 ?e13 ?k13 ?a14 ?l14 ?e14 ?k14 ?a15 ?l15 ?e15 ?k15 ?a16 ?l16 ?e16 ?k16 ?a17 ?l17 ?e17 ?k17 ?a18 ?l18 ?e18 ?k18 ?da ?dl ?dk ?d_plus ?d_less ?d_times ?d_over ?d_rest ?z1 ?z2 ?z3 ?z4 ?z5 ?z6 ?z7 ?z8 ?z9 ?x_ne7_8 ?x_ne7_9 ?x_ne8_9
    (case a1 => k_is)
    (case l1 => k_is)
    (case e1 => k_is)
    (case k1 => k_is)
    (case a2 => k_is)
    (case l2 => k_is)
    (case e2 => k_is)
    (case k2 => k_is)
    (case a3 => k_is)
    (case l3 => k_is)
    (case e3 => k_is)
    (case k3 => k_is)
    (case a4 => k_is)
    (case l4 => k_is)
    (case e4 => k_is)
    (case k4 => k_is)
    (case a5 => k_is)
    (case l5 => k_is)
    (case e5 => k_is)
    (case k5 => k_is)
    (case a6 => k_is)
    (case l6 => k_is)
    (case e6 => k_is)
    (case k6 => k_is)
    (case w6_0 => k_is)
    (case w6_1 => k_is)
    (case a7 => k_is)
    (case l7 => k_is)
    (case e7 => k_is)
    (case k7 => k_is)
    (case g7 => k_is)
    (case v7 => rfl)
    (case q7 => kernel_rfl)
    (case n7 => kernel_rfl)
    (case t7 => exact hT8 _ (by k_mem))
    (case a8 => k_is)
    (case l8 => k_is)
    (case e8 => k_is)
    (case k8 => k_is)
    (case g8 => k_is)
    (case v8 => rfl)
    (case q8 => kernel_rfl)
    (case n8 => kernel_rfl)
    (case t8 => exact hT8 _ (by k_mem))
    (case a9 => k_is)
    (case l9 => k_is)
    (case e9 => k_is)
    (case k9 => k_is)
    (case g9 => k_is)
    (case v9 => rfl)
    (case q9 => kernel_rfl)
    (case n9 => kernel_rfl)
    (case t9 => exact hT8 _ (by k_mem))
    (case a10 => k_is)
    (case l10 => k_is)
    (case e10 => k_is)
    (case k10 => k_is)
    (case a11 => k_is)
    (case l11 => k_is)
    (case e11 => k_is)
    (case k11 => k_is)
    (case a12 => k_is)
    (case l12 => k_is)
    (case e12 => k_is)
    (case k12 => k_is)
    (case a13 => k_is)
    (case l13 => k_is)
    (case e13 => k_is)
    (case k13 => k_is)
    (case a14 => k_is)
    (case l14 => k_is)
    (case e14 => k_is)
    (case k14 => k_is)
    (case a15 => k_is)
    (case l15 => k_is)
    (case e15 => k_is)
    (case k15 => k_is)
    (case a16 => k_is)
    (case l16 => k_is)
    (case e16 => k_is)
    (case k16 => k_is)
    (case a17 => k_is)
    (case l17 => k_is)
    (case e17 => k_is)
    (case k17 => k_is)
    (case a18 => k_is)
    (case l18 => k_is)
    (case e18 => k_is)
    (case k18 => k_is)
    (case da => k_is)
    (case dl => k_is)
    (case dk => k_keys)
    (case d_plus => k_is)
    (case d_less => k_is)
    (case d_times => k_is)
    (case d_over => k_is)
    (case d_rest => k_is)
    (case z1 => k_is)
    (case z2 => k_is)
    (case z3 => k_is)
    (case z4 => k_is)
    (case z5 => k_is)
    (case z6 => k_is)
    (case z7 => k_is)
    (case z8 => k_is)
    (case z9 => k_is)
    (case x_ne7_8 => exact (by decide))
    (case x_ne7_9 => exact (by decide))
    (case x_ne8_9 => exact (by decide))
#print axioms PySem.Challenge.cw_anystore_k02_tests_holds
