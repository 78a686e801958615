import PyProof.Rows.All
import Wide.All
import OpenK.AllK
import Wide.FinOn
import HandS.ForMost
import HandS.Wide
import HandS.Defaults
import HandS.More
import HandS.RaiseMore
import HandS.Style
import PyProof.ReprRoads
import PyProof.SliceMore
import HandS.IterVal
import HandS.MakeKwOnly
import HandS.TupAny
import HandS.Star
import HandS.IsInst
import HandS.Flow
import HandS.NoneIn
import HandS.TupMul
import PyProof.ReprLen
import PyProof.Rows.RegStrFacts
import PySem.Challenge.RW_anystore_k62_whole_words_in_time
set_option Elab.async false
set_option linter.all false
set_option maxRecDepth 100000
namespace Any
open L2 PySem PyProof.Rows
open PySem.Spec

/-! ### the texts of data (repr) -/
/-- a thing without parts -/
inductive Flat : V → PyData → Prop
  | non : Flat .non .none
  | bl (b : Bool) : Flat (.bl b) (.bool b)
  | int (i : Int) : Flat (.int i) (.int i)
  | str (x : Str) : Flat (.str x) (.str x)
def keyD : Key → PyData
  | .inl i => .int i
  | .inr x => .str x
/-- what repr may be asked of: lists and tuples at any depth, dicts of flat things -/
inductive Shows (K : PySem.W.Frag) (H : Hp) : Addr → PyData → Prop
  | seq {a : Addr} {d : PyData} : Dp K H (.ref a) d → d.hasDict = false → Shows K H a d
  | dct {a : Addr} {kvs : List (Key × V)} {ds : List (PyData × PyData)} : H a = some (.dK kvs) →
      Paired (fun (p : Key × V) (q : PyData × PyData) => q.1 = keyD p.1 ∧ Flat p.2 q.2) kvs ds → Shows K H a (.dict ds)

section
variable {P : Program} {w : World} {h : Heap}
theorem flat_reads {v : V} {u : Value} {d : PyData} (f : Flat v d) (r : RelV v u) : Reads h u d [] := by
  cases f with
  | non => cases r; exact .none
  | bl b => cases r; exact .bool b
  | int i => obtain ⟨t, rfl⟩ := r; exact .int i t
  | str x => obtain ⟨t, rfl⟩ := r; exact .str x t
theorem key_reads {k : Key} {u : Value} (e : keyIs k u = true) : Reads h u (keyD k) [] := by
  rcases keyIs_shape e with ⟨i, t, rfl, rfl⟩ | ⟨x, t, rfl, rfl⟩
  · exact .int i t
  · exact .str x t
theorem dct_reads : ∀ {kvs : List (Key × V)} {ds : List (PyData × PyData)} {vs : List (Key × Value)} {es : List DictEntry},
    Paired (fun (p : Key × V) (q : PyData × PyData) => q.1 = keyD p.1 ∧ Flat p.2 q.2) kvs ds → KV kvs vs → Pairs (mixKind P w) es vs →
    ReadsAll h (es.map (·.key)) (ds.map (·.1)) [] ∧ ReadsAll h (es.map (·.val)) (ds.map (·.2)) []
  | _, _, _, _, .nil, r, q => by
    cases r; cases q; exact ⟨.nil, .nil⟩
  | _, _, _, _, .cons z zs, r, q => by
    cases r with
    | cons r1 r2 =>
      cases q with
      | cons q1 q2 q3 =>
        obtain ⟨a, b⟩ := dct_reads zs r2 q3
        rename_i p ps d dd vv vr e es
        have k1 : keyIs vv.1 e.key = true := q1
        refine ⟨?_, ?_⟩
        · have c := ReadsAll.cons (as := []) (bs := []) (key_reads (h := h) k1) a
          rw [← r1.1, ← z.1] at c
          exact c
        · have c := ReadsAll.cons (as := []) (bs := []) (flat_reads (h := h) z.2 r1.2) b
          rw [← q2] at c
          exact c
end

section
variable {X : Cx}
def rRepr (K : PySem.W.Frag) : List V → Hp → VK → Prop := fun vs H Q => ∃ a d, vs = [.ref a] ∧ Shows K H a d ∧ d.showable = true ∧ d.depth ≤ 60 ∧ d.shown.length ≤ sizeLine ∧ Q (.str d.shown) H
theorem call_repr (hG : X.A.guards = some []) (hu : X.A.units + 70 < cLine) : CallR X (.builtin "repr") (rRepr X.K) := by
  intro pins s σ H xs us Q I r h
  obtain ⟨a, d, rfl, hd, hs, hdp, hz, q⟩ := h
  obtain ⟨u, rfl, ru⟩ := vals1 r
  cases ru
  have key : ∃ as, Reads s.heap (.ref a) d as ∧ (d.hasDict = true → sysModules ∉ as) := by
    cases hd with
    | seq h1 h2 =>
      obtain ⟨as, q1⟩ := Dp.reads I d _ _ h1 rfl
      exact ⟨as, q1, fun z => by rw [h2] at z; cases z⟩
    | dct h1 h2 =>
      obtain ⟨_, ns, vs, kv, o, es, ep, e1, e2, e3, _, e5, _⟩ := I.hok a _ h1
      obtain ⟨q1, q2⟩ := dct_reads (h := s.heap) h2 kv e5
      refine ⟨_, Reads.dict e1 e2.1 e3 q1 q2, fun _ z => ?_⟩
      rcases List.mem_append.mp z with z | z
      · rcases List.mem_cons.mp z with z | z
        · rw [← z] at ns
          simp at ns
        · cases z
      · cases z
  obtain ⟨as, rd, sm⟩ := key
  refine repr_of_reads' rd hs sm hG (by omega) (fun _ _ e => e) (fun h' u tk hk => ?_) hz
  exact ⟨.str d.shown, H, I.kept hk, ⟨_, rfl⟩, q⟩

/-! ### xs[::e], e being 1 or -1 -/
theorem pick_one (items : Array Value) : slicePick items none none (some 1) = items := by
  have e : slicePick items none none (some 1) = slicePick items none none none := rfl
  rw [e, slicePick_all]
def tStep (K : PySem.W.Frag) (te ts : TE) : TE := fun σ H Q => te σ H fun x H1 => ts σ H1 fun y H2 => ∃ a xs, x = .ref a ∧ SqL K H2 a xs ∧
  ((y = .int 1 ∧ ∀ p, H2 p = none → Q (.ref p) (upd H2 p (.lst xs))) ∨ (y = .int (-1) ∧ ∀ p, H2 p = none → Q (.ref p) (upd H2 p (.lst xs.reverse))))
theorem pe_step {e st : Expr} {te ts : TE} {p3 pos : Pos} (he : PE X e te) (hst : PE X st ts) :
    PE X (.Subscript e (.Slice none none (some st) p3) pos) (tStep X.K te ts) := by
  refine ⟨fun pins s σ H Q I h => ?_⟩
  refine Subscript_ (thn (he.run pins s σ H _ I h) fun v s1 ⟨x, H1, I1, r1, q1⟩ => ?_)
  refine wpAny_Slice (thn (po_none.run pins s1 σ H1 (fun o H2 => o = none ∧ H2 = H1) I1 ⟨rfl, rfl⟩) fun vl s2 ⟨l, H2, I2, pl, el, e2⟩ => ?_)
  subst el e2
  refine thn (po_none.run pins s2 σ H2 (fun o H3 => o = none ∧ H3 = H2) I2 ⟨rfl, rfl⟩) fun vu s3 ⟨u, H3, I3, pu, eu, e3⟩ => ?_
  subst eu e3
  rw [evalPart_some]
  refine thn (hst.run pins s3 σ H3 _ I3 q1) fun vs s4 ⟨y, H4, I4, r4, a, xs, ex, hx, q⟩ => ?_
  subst ex
  cases r1
  have I5 : Inv X pins σ H4 { s4 with heap := s4.heap.push { cls := .type "slice", data := .fields #[vl, vu, vs] } } := I4.kept (t' := s4.toks) fun b ob q => Heap.get?_push_of_some _ q
  obtain ⟨its, r, ht, hz⟩ := I5.list hx
  have hlen := r.length
  have two : ∃ k : Int, y = .int k ∧ k ≠ 0 ∧ ∃ zs ws, Vals ws zs ∧ slicePick its.toArray none none (some k) = zs.toArray ∧ ws.length ≤ sizeLine ∧ ∀ p, H4 p = none → Q (.ref p) (upd H4 p (.lst ws)) := by
    rcases q with ⟨ey, q⟩ | ⟨ey, q⟩
    · exact ⟨1, ey, by decide, its, xs, r, pick_one _, hz, q⟩
    · exact ⟨-1, ey, by decide, its.reverse, xs.reverse, r.reverse, by rw [PySem.W.krv_pick], by rw [List.length_reverse]; exact hz, q⟩
  obtain ⟨k, ey, hk, zs, ws, rz, epk, hzs, qq⟩ := two
  subst ey
  obtain ⟨t, rfl⟩ := (show ∃ t, vs = Value.int k t from r4)
  show wpAny (model X.prog X.w) X.A (subscriptTail e (.Slice none none (some st) p3) (.ref a) (.ref s4.heap.objs.size)) (EP X pins σ Q) X.xe _
  refine tail_any (ops := [.ref a, .ref s4.heap.objs.size]) ht.isList.typeIs (PySem.slot_list_getitem.lookup) ?_ (by with_unfolding_all rfl)
  refine wpAny_getItem_list_slice ht.isList (Heap.IsSliceOf.new _ vl vu (.int k t)) pl pu (IsPart.int k t) (by intro z; exact hk (Option.some.inj z)) ?_ (by rw [List.size_toArray]; omega)
  rw [epk]
  refine ⟨.ref _, _, I5.laid (t' := s4.toks) (o := .lst ws) (fun b ob q => Heap.get?_push_of_some _ q) (Nat.le_refl _) ?_, rfl, qq _ (I5.hok.fresh (Nat.le_refl _))⟩
  exact ⟨hzs, _, 0, rz, Heap.get?_push_size _ rfl⟩

/-! ### great powers -/
def CPowW (i j : Int) : Prop := 0 ≤ j ∧ (Builtin.Int.intBits i : Int) * j ≤ 2 ^ 27
theorem op_powW : OpR X (binaryOp .Pow) (rI CPowW fun i j => .int (i ^ j.toNat)) := opI fun _ _ _ _ _ _ _ hc q => pow_int hc.1 hc.2 q
end
end Any
namespace Any
open L2 PySem PyProof.Rows
open PySem.Spec

/-! ### defs that run where no repr is under way -/
section
variable (P : Program) (w : World) (K : PySem.W.Frag) (mg : Str → Option Value) (base : Heap)
/-- as FnOk, for callers with no guard -/
structure FnG (C : CXT) (k : Nat) (f : Addr) (fd : FuncData) (ps : List Str) (sp : Sp) : Prop where
  len : ∀ vs H Q E, sp vs H Q E → vs.length = ps.length
  go : ∀ (A : Around) (out : List Env) (s : Shared) (H : Hp) (args : Args) (us : List Value) (vs : List V) (Q : VK) (E : XK), A.guards = some [] → Room k A →
    Env0 P w K mg base A out s H → BindsTo s fd args (ps.zip us) → Vals vs us → sp vs H Q E → codeAny (model P w) A (.call (.ref f) args) (CR C out P w H s Q E) s
end
section
variable {P : Program} {w : World} {K : PySem.W.Frag} {mg : Str → Option Value} {base : Heap}
theorem FnG.of {C : CXT} {k : Nat} {f : Addr} {fd : FuncData} {ps : List Str} {sp : Sp} (F : FnOk P w K mg base C k f fd ps sp) : FnG P w K mg base C k f fd ps sp :=
  ⟨F.len, fun A out s H args us vs Q E _ hr => F.run A out s H args us vs Q E hr⟩
theorem FnG.mono {C : CXT} {j k : Nat} {f : Addr} {fd : FuncData} {ps : List Str} {sp : Sp} (F : FnG P w K mg base C j f fd ps sp) (h : j ≤ k) : FnG P w K mg base C k f fd ps sp :=
  ⟨F.len, fun A out s H args us vs Q E hg hr => F.go A out s H args us vs Q E hg (hr.mono h)⟩

/-- a def's body, under no guard -/
theorem fn_g {C : CXT} {k : Nat} {f : Addr} {nm ql : Str} {ar : Arguments} {bd : List Stmt} {sc : Scope} {v1 v2 v3 v4 v5 v6 v7 : Value} {a1 a2 : Option Addr} {sl : Array (Option Value)} {N ps : List Str} {sp : Sp}
    (at_ : K.lookup f = some ⟨v7, a2, .func (PySem.W.fnOf nm ql ar bd sc v1 v2 v3 v4 a1 v5 v6), sl⟩) (code : PySem.W.codeIn K v5 ql = true) (S : FnScope N ps sc)
    (ln : ∀ vs H Q E, sp vs H Q E → vs.length = ps.length)
    (hb : ∀ (A : Around) (out : List Env) (s : Shared) (H : Hp) (vs : List V) (Q : VK) (E : XK), A.guards = some [] → Room k (A.deeper (envOfC ql sc s.heap.objs.size f v5)) → sp vs H Q E →
      ∃ t, PSs (cxOf C P w K mg base N ql sc f v5 A out s H E) bd t ∧ t ⟨fun _ H' => Q .non H', Q, fun _ _ => False, fun _ _ => False⟩ (start N vs) H) :
    FnG P w K mg base C (k + 1) f (PySem.W.fnOf nm ql ar bd sc v1 v2 v3 v4 a1 v5 v6) ps sp where
  len := ln
  go A out s H args us vs Q E hg hr e0 hbi rv hsp := by
    have kx : K.In s.heap := e0.mod.kin.keeps (fun b o z => (e0.bs b o z).1)
    have nl : s.heap.NoLimit := e0.mod.nolimit.keeps (fun b o z => (e0.bs b o z).1)
    have kd : ∀ y ∈ ps.zip us, sc.names.lookup y.1 = some .local ∨ (sc.names.lookup y.1 = some .cell ∧ ((cellsFrom (s.heap.objs.size + 1) sc.names []).lookup y.1).isSome = true) := by
      rintro ⟨n, v⟩ hy
      have z := S.par n (List.of_mem_zip hy).1
      exact z.elim .inl (fun z => .inr ⟨z, PySem.W.cellsFrom_some _ _ _ (.inl z)⟩)
    refine codeAny_call_function hr.depth (kx _ _ at_) rfl S.co S.gen rfl (PySem.W.codeRec_of kx code) (hbi _ _ _ _ (wpAny_newFunctionEnv_cells S.kind kd (fun env he s1 x => ?_)))
    subst he
    obtain ⟨t, ht, hq⟩ := hb A out s H vs Q E hg (hr.deeper _) hsp
    have I := inv_start (CX := C) (E := E) S hr.hd e0 (ln _ _ _ _ hsp) rv x
    refine ⟨nl.keeps x.toInCall.keep, codeAny_func (wpAny_mono (ht.run [] s1 (start N vs) H _ I hq) (fun fl s' hs => ?_) (fun _ _ z => z))⟩
    cases fl with
    | ret u => obtain ⟨v, σ', H', J, r', q⟩ := hs; exact ⟨v, H', J.os, J.bare, J.base, J.hok, r', q⟩
    | next => obtain ⟨σ', H', J, q⟩ := hs; exact ⟨.non, H', J.os, J.bare, J.base, J.hok, rfl, q⟩
    | brk => exact hs.elim fun _ z => z.elim fun _ z => z.2.elim
    | cont => exact hs.elim fun _ z => z.elim fun _ z => z.2.elim
theorem fun_g {x ql : Str} {st : Stmt} {f : Addr} {fd : FuncData} {N ps : List Str} {k : Nat} {sp : Sp} (F : Fun K x ql st f fd) (S : FnScope N ps (defScope st)) (ln : ∀ vs H Q E, sp vs H Q E → vs.length = ps.length)
    (hb : ∀ (cv : Value) (A : Around) (out : List Env) (s : Shared) (H : Hp) (vs : List V) (Q : VK) (E : XK), A.guards = some [] → Room k (A.deeper (envOfC ql (defScope st) s.heap.objs.size f cv)) → sp vs H Q E →
      ∃ t, PSs (cxOf CX0 P w K mg base N ql (defScope st) f cv A out s H E).nox (defBody st) t ∧ t ⟨fun _ H' => Q .non H', Q, fun _ _ => False, fun _ _ => False⟩ (start N vs) H) : FnG P w K mg base CX0 (k + 1) f fd ps sp := by
  obtain ⟨_, _, _, _, _, _, cv, _, _, rfl, lk, hc⟩ := F.ex
  refine fn_g lk hc S ln fun A out s H vs Q E hg hr hs => ?_
  obtain ⟨t, h, q⟩ := hb cv A out s H vs Q E hg hr hs
  exact ⟨t, h.nox, q⟩
end

section
variable {X : Cx} {C : CXT} {k : Nat} {f : Addr} {fd : FuncData} {ps : List Str} {sp : Sp} {ds : List V} {us0 : List Value} {E : XK} {x : Str} {p pos : Pos} {e : Expr} {es : List Expr} {t : TA}
/-- a call of such a def -/
theorem pe_callG (F : FnG X.prog X.w X.K X.mg X.base C k f fd ps sp) (hG : X.A.guards = some []) (hr : Room k X.A) (hg : Gl X x) (hm : X.mg x = some (.ref f)) (hk : PySem.W.keepIn X.K (.ref f) = true) (hb : Binds X.K fd ps us0) (hd : Vals ds us0)
    (hx : Passes C X E) (ha : PA X (e :: es) t) (h1 : (x == ("__debug__" : Str)) = false := by decide) (h2 : starEach (e :: es) X.env = (false, eval e X.env) :: starEach es X.env := by rfl)
    (h3 : (backTo pos (starEach es X.env)).any (·.1) = false := by rfl) : PE X (.Call (.Name x p) (e :: es) [] pos) (tCall sp ds E t) where
  run pins s σ H Q I h := by
    refine wpAny_Call_Name_kw (ld_glob I hg hm (PySem.W.callWith_K (h₀ := X.base) I.ok.mod.kin hk (thn (ha.run pos pins s σ H _ I h) ?_) h2 h3) h1)
    rintro us s1 ⟨vs, H1, I1, rv, q⟩
    have rr := rv.append hd
    have hl : (us ++ us0).length = ps.length := rr.length.symm.trans (F.len _ _ _ _ q)
    refine ⟨I1.kIn, wpAny_call (codeAny_mono (F.go X.A X.stack s1 H1 _ _ _ Q E hG hr I1.env0 (hb s1 us I1.kIn hl) rr q) ?_)⟩
    rintro (err | fl) s' hq
    · exact hx pins σ H1 s1 err s' I1 hq
    · cases fl with
      | ret u => exact I1.after hq
      | next => cases hq
      | brk => cases hq
      | cont => cases hq

/-- x(e, ..), x a name that holds one of several defs -/
def tCallS (X : Cx) (C : CXT) (k i : Nat) (E : XK) (t : TA) : TE := fun σ H Q => ∃ f sp, FnR X.prog X.w X.K X.mg X.base C k f sp ∧ PySem.W.keepIn X.K (.ref f) = true ∧ σ[i]? = some (some (.ref f)) ∧ t σ H fun vs H1 => sp vs H1 Q E
theorem pe_callS {i : Nat} (hr : Room k X.A) (hx : Passes C X E) (hN : X.N[i]? = some x) (hv : Vis X.env.scope x) (ha : PA X (e :: es) t)
    (h1 : (x == ("__debug__" : Str)) = false := by decide) (h4 : (x == ("__classdict__" : Str)) = false := by decide) (h2 : starEach (e :: es) X.env = (false, eval e X.env) :: starEach es X.env := by rfl)
    (h3 : (backTo pos (starEach es X.env)).any (·.1) = false := by rfl) : PE X (.Call (.Name x p) (e :: es) [] pos) (tCallS X C k i E t) where
  run pins s σ H Q I h := by
    obtain ⟨f, sp, F, hk, hs, h⟩ := h
    exact (ItX.pe_callV (i := i) (p := p) F hr hk hx hN hv ha h1 h4 h2 h3).run pins s σ H Q I ⟨hs, h⟩

/-- f(k = v, ..) alone -/
theorem pe_callK0 {ks : List Str} {g : List Value → List Value → List Value} {gV : List V → List V → List V} {kws : List Keyword} {tk : TA} (F : FnOk X.prog X.w X.K X.mg X.base C k f fd ps sp) (hr : Room k X.A) (hg : Gl X x) (hm : X.mg x = some (.ref f))
    (hk : PySem.W.keepIn X.K (.ref f) = true) (hb : KBn X.K fd ps 0 ks g gV) (hx : Passes C X E) (hkw : PK X kws tk) (hall : (backToKw pos (keywordEach kws X.env)).all (·.1.isSome) = true := by rfl)
    (hks : (backToKw pos (keywordEach kws X.env)).filterMap (·.1) = ks := by rfl) (h1 : (x == ("__debug__" : Str)) = false := by decide)
    (h3 : ((backTo pos (starEach [] X.env)).any (·.1) || (backToKw pos (keywordEach kws X.env)).any (·.1.isNone)) = false := by rfl) :
    PE X (.Call (.Name x p) [] kws pos) (fun σ H Q => tk σ H fun zs H1 => zs.length = ks.length ∧ sp (gV [] zs) H1 Q E) where
  run pins s σ H Q I h := by
    refine wpAny_Call_Name_kw (ld_glob I hg hm ?_ h1)
    refine PySem.W.callWith_KW0 (h₀ := X.base) I.ok.mod.kin hk hall (thn (hkw.run pos pins s σ H _ I h) ?_) h3
    rintro ws s1 ⟨zs, H1, I1, rz, l1, q⟩
    refine ⟨I1.kIn, ?_⟩
    rw [hks]
    exact run_fnN (us := []) (vs := []) F hr hb hx I1 .nil rz rfl l1 q
end

/-! ### the law's call, under no guard -/
section
variable {P : Program} {w : World} {K : PySem.W.Frag} {mg mb : Str → Option Value}
theorem law_g {C : CXT} {k : Nat} {fa a : Addr} {fd : FuncData} {x : Str} {sp : Sp} {s : Shared} {vs : List Value} {ns : List Int}
    (kx : K.In s.heap) (g1 : s.heap.Ns mainGlobals mg) (g2 : s.heap.Ns builtinsNs mb) (g3 : ∀ x : Str, x ≠ "__name__" → mb x = bootBuiltins x) (g4 : s.heap.NoLimit) (g5 : s.gens = #[])
    (la : s.heap.get? a = some { cls := .type "list", data := .seq vs.toArray }) (li : IntsAre vs ns) (ll : ns.length ≤ sizeLine) (hr : Room k callerA)
    (F : ∀ base : Heap, K.In base → base.Ns mainGlobals mg → FnG P w K mg base C k fa fd [x] sp) (bd : ∀ (s : Shared) (u : Value), BindsTo s fd ⟨[u], []⟩ [(x, u)])
    (want : ∀ H : Hp, Only H → SqL K H a (ns.map V.int) → sp [.ref a] H (fun v _ => v = .bl true) fun _ _ _ => False)
    (noC : ∀ H e s', C [] H s (fun _ _ _ => False) e s' → False) :
    codeAny (model P w) callerA (.call (.ref fa) ⟨[.ref a], []⟩) (fun r s' => r = .ok (.ret (.bool true)) ∧ OldK s.heap s'.heap ∧ s'.os = s.os ∧ AllBare s'.gens) s := by
  -- one abstract heap: the script, if the written part has it not
  have pick : ∃ H : Hp, Only H ∧ SqL K H a (ns.map V.int) ∧ HOk P w H s.heap ∧ (∀ b u, H b = some u → b = a) ∧ ((H a).isSome = true → K.lookup a = none) := by
    cases hk : K.lookup a with
    | some o =>
      have z := (kx a o hk).symm.trans la
      cases z
      exact ⟨fun _ => none, fun _ => .inl rfl, .inr ⟨_, vs.toArray, _, hk, rfl, rfl, rfl, by rw [List.size_toArray, li.length]; exact ll, by simpa using vals_ints li⟩, (fun b u z => by cases z), (fun b u z => by cases z), (fun z => by cases z)⟩
    | none =>
      let o : HO := .frz { cls := .type "list", data := .seq vs.toArray } (.lst (ns.map V.int))
      have at_a : ∀ b u, upd (fun _ => none) a o b = some u → b = a ∧ u = o := fun b u z => by
        by_cases hb : b = a
        · subst hb; rw [upd_same] at z; exact ⟨rfl, (Option.some.inj z).symm⟩
        · rw [upd_ne hb] at z; cases z
      refine ⟨upd (fun _ => none) a o, fun b => ?_, .inl (.inr ⟨_, upd_same⟩), fun b u z => ?_, fun b u z => (at_a b u z).1, fun _ => rfl⟩
      · by_cases hb : b = a
        · subst hb; exact .inr ⟨_, _, upd_same⟩
        · exact .inl (by rw [upd_ne hb])
      · obtain ⟨rfl, rfl⟩ := at_a b u z
        exact ⟨la, by rw [List.length_map]; exact ll, vs, _, vals_ints li, la⟩
  obtain ⟨H, hO, hS, hok, hA, hK⟩ := pick
  have free : ∀ {b : Addr} {ob : Obj} {es : Array DictEntry} {n : Nat}, s.heap.get? b = some ob → ob.data = .dict es n → H b = none := by
    intro b ob es n z d
    cases q : H b with
    | none => rfl
    | some u =>
      have z1 := hA b u q
      subst z1
      have z2 := z.symm.trans la
      cases z2
      have d' : Data.seq vs.toArray 0 = Data.dict es n := d
      cases d'
  have ns' : ∀ {b : Addr} {m : Str → Option Value}, s.heap.Ns b m → (hidT s.heap H).Ns b m := by
    rintro b m ⟨o, es, n, z, d, r⟩
    exact ⟨o, es, n, hidT_get z (free z d), d, r⟩
  have kb : K.In (hidT s.heap H) := by
    intro b o z
    refine hidT_get (kx b o z) ?_
    cases q : H b with
    | none => rfl
    | some u =>
      have z1 := hA b u q
      subst z1
      have z2 := hK (by rw [q]; rfl)
      rw [z2] at z
      cases z
  obtain ⟨mc, l1, l2⟩ := g4
  have e0 : Env0 P w K mg (hidT s.heap H) callerA [] s H :=
    { frames := rfl, mod := ⟨kb, ns' g1, ⟨mb, ns' g2, g3⟩, ⟨mc, ns' l1, l2⟩⟩, bs := fun b o z => of_hidT z, bsz := Nat.le_of_eq (hidT_size _ _), funs := trivial, frf := fun b z => (by cases z), hok := hok, bare := .of_eq g5 }
  refine codeAny_mono ((F _ kb (ns' g1)).go callerA [] s H ⟨[.ref a], []⟩ [.ref a] [.ref a] _ _ rfl hr e0 (bd s (.ref a)) (.cons rfl .nil) (want H hO hS)) ?_
  rintro (err | fl) s' h
  · exact (noC H err s' h).elim
  cases fl with
  | next => cases h
  | brk => cases h
  | cont => cases h
  | ret u =>
    obtain ⟨v, H', h1, h2, un, hok', rv, rfl⟩ := h
    cases rv
    refine ⟨rfl, OldK.of_keep (fun b o z => ?_), h1, h2⟩
    cases q : H b with
    | none => exact un.keep b o z q (fun z => by cases z) (fun z => by cases z)
    | some u =>
      rcases hO b with z1 | ⟨ob, xs, z1⟩
      · rw [q] at z1; cases z1
      · have z2 := (hok b _ z1).1
        rw [z] at z2
        cases z2
        exact (hok' b _ (un.frzs b _ _ z1)).1
theorem walk_g {l : PySem.W.OpenLaw} {n k : Nat} {q : Program} {loose : List Str} {XP : (Str → Option Value) → Heap → Prop} {YP : World → Heap → Prop} {d : DefRec} {K : Params → PySem.W.Frag} {sp : PySem.W.Frag → Sp} {x : Str}
    (h1 : l.most = some n) (h2 : n ≤ sizeLine) (h3 : d.params.defaults = []) (hr : Room k callerA) (hY : ∀ (w : World) (h : Heap), YP w h → (K w.params).In h)
    (F : ∀ (w : World) (mg : Str → Option Value) (fa : Addr) (h : Heap), (K w.params).In h → h.Ns mainGlobals mg → mg d.name = some (.ref fa) →
      ∃ fd : FuncData, (∀ (s : Shared) (u : Value), BindsTo s fd ⟨[u], []⟩ [(x, u)]) ∧ ∀ base : Heap, (K w.params).In base → base.Ns mainGlobals mg → FnG l.prog w (K w.params) mg base CX0 k fa fd [x] (sp (K w.params)))
    (want : ∀ (K : PySem.W.Frag) (H : Hp) (a : Addr) (ns : List Int), ns.length ≤ n → Only H → SqL K H a (ns.map V.int) → sp K [.ref a] H (fun v _ => v = .bl true) fun _ _ _ => False) :
    PySem.W.WalkO q loose XP YP l.row.toRowW d [] (fun f vs => PySem.call f vs) := by
  refine Att.attach_call h1 h3 fun w s₀ s₁ mg mb fa o pm cd doc a vs ns G Y _ _ _ hmg hobj hints hlen hg => ?_
  have kx := hY w _ Y
  obtain ⟨fd, hb, hF⟩ := F w mg fa _ kx G.T.g hmg
  exact law_g kx G.T.g G.T.b G.T.builtins G.T.nolimit hg hobj hints (Nat.le_trans hlen h2) hr hF hb (fun H hO hS => want _ H a ns hlen hO hS) (fun _ _ _ z => z)
end
end Any
namespace Any
open L2 PySem PyProof.Rows
open PySem.Spec

/-- a statement that is never come to -/
theorem ps_never {X : Cx} {st : Stmt} : PS X st (fun _ _ _ => False) := ⟨fun _ _ _ _ _ _ h => h.elim⟩
section
variable {X : Cx} {C : CXT} {k n : Nat} {f D : Addr} {fd : FuncData} {ps ks : List Str} {sp : Sp} {E : XK} {m : Str} {o : Expr} {apos pos : Pos} {kws : List Keyword} {ta : TE} {tk : TA} {g : List Value → List Value → List Value} {gV : List V → List V → List V}
/-- o.m(k = v, ..) -/
def tMethK (D : Addr) (m : Str) (l : Nat) (sp : Sp) (gV : List V → List V → List V) (E : XK) (ta : TE) (tk : TA) : TE := fun σ H Q => ta σ H fun x H1 => ∃ a dx fs, x = .ref a ∧ H1 a = some (.ins D dx fs) ∧ fs.lookup m = none ∧
  tk σ H1 fun zs H2 => zs.length = l ∧ sp (gV [.ref a] zs) H2 Q E
theorem pe_methK {pl : Sem Bool} (he : PE X o ta) (c : Cls X.K D) (hm : Meth X.K D m f) (F : FnOk X.prog X.w X.K X.mg X.base C k f fd ps sp) (hr : Room k X.A) (hb : KBn X.K fd ps 1 ks g gV) (hx : Passes C X E) (hkw : PK X kws tk)
    (hall : (backToKw pos (keywordEach kws X.env)).all (·.1.isSome) = true := by rfl) (hks : (backToKw pos (keywordEach kws X.env)).filterMap (·.1) = ks := by rfl)
    (hpl : ((backTo pos (starEach [] X.env)).any (·.1) || (backToKw pos (keywordEach kws X.env)).any (·.1.isNone)) = false := by rfl)
    (ht : eval (.Call (.Attribute o m apos) [] kws pos) X.env = (do
      let ov ← eval o X.env
      standAt apos.atName
      let (f, first) ← holding [ov] (getMethod ov m pl)
      callWith pos f first (backTo pos (starEach [] X.env)) (backToKw pos (keywordEach kws X.env))) := by rfl) :
    PE X (.Call (.Attribute o m apos) [] kws pos) (tMethK D m ks.length sp gV E ta tk) := by
  refine ⟨fun pins s σ H Q I h => ?_⟩
  refine PySem.W.methodCall_KW (pl := pl) (thn (he.run pins s σ H _ I h) fun u s1 ⟨x, H1, I1, rx, a, dx, fs, ex, ea, l, q⟩ => ?_) ht
  subst ex
  obtain rfl : u = Value.ref a := rx
  refine getmeth_ok I1 ea c hm l ?_
  refine PySem.W.callWith_KW0 (first := [.ref a]) (h₀ := X.base) I.ok.mod.kin hm.kp hall (thn (hkw.run pos pins s1 σ H1 _ I1 q) ?_) hpl
  rintro ws s2 ⟨zs, H2, I2, rz, l1, q2⟩
  refine ⟨I2.kIn, ?_⟩
  rw [hks]
  exact run_fnN (us := [.ref a]) (vs := [.ref a]) F hr hb hx I2 (.cons rfl .nil) rz rfl l1 q2

/-- len(o), o of an own class with a __len__ -/
theorem call_lenO (F : FnOk X.prog X.w X.K X.mg X.base C k f fd ps sp) (hs : PySem.W.findIn X.K (.ref D) "__len__" = some (some (.ref f))) (hf : PySem.W.isFn X.K (.ref f) = true) (hb : Binds X.K fd ps []) (hx : Passes C X E) (hr : Room (k + 1) X.A) :
    CallR X (.builtin "len") (fun xs H Q => ∃ a dx fs, xs = [.ref a] ∧ H a = some (.ins D dx fs) ∧ sp [.ref a] H (fun v H' => ∃ n : Int, v = .int n ∧ 0 ≤ n ∧ n < 2 ^ 63 ∧ Q (.int n) H') E) := by
  intro pins s σ H xs us Q I r h
  obtain ⟨a, dx, fs, rfl, ha, hsp⟩ := h
  obtain ⟨u, rfl, ru⟩ := vals1 r
  cases ru
  obtain ⟨mA, J, _⟩ := ins_get I.hok ha
  obtain ⟨od, J, _⟩ := J.look
  obtain ⟨m, hF⟩ := I.fr
  refine PySem.W.len_K hF I.ok.mod.kin J hs hf ?_
  have hl := F.len _ _ _ _ hsp
  have e0 : Env0 X.prog X.w X.K X.mg X.base X.A.in1 X.stack s H := by
    have e := I.env0
    exact ⟨e.frames, e.mod, e.bs, e.bsz, e.funs, e.frf, e.hok, e.bare⟩
  have r2 : Vals [V.ref a] [Value.ref a] := .cons rfl .nil
  refine wpAny_call (codeAny_mono (F.run X.A.in1 X.stack s H ⟨[.ref a], []⟩ [.ref a] [.ref a] _ E hr.in1 e0 (by
    have := hb s [.ref a] I.kIn (by simpa using hl)
    simpa using this) r2 hsp) fun r s' hq => ?_)
  cases r with
  | error e => exact hx pins σ H s e s' I hq
  | ok fl =>
    cases fl with
    | ret w =>
      obtain ⟨z, H', I', rz, n, ez, n0, n1, q⟩ := I.after hq
      subst ez
      obtain ⟨t, rfl⟩ := rz
      exact ⟨⟨n0, n1⟩, .int n, H', I'.kept (fun _ _ e => e), ⟨_, rfl⟩, q⟩
    | next => exact False.elim hq
    | brk => exact False.elim hq
    | cont => exact False.elim hq
end

/-! ### heaps -/
/-- the tuples stay -/
def Tups (H H' : Hp) : Prop := ∀ a xs, H a = some (.tup xs) → H' a = some (.tup xs)
theorem Tups.trans {H H1 H2 : Hp} (a : Tups H H1) (b : Tups H1 H2) : Tups H H2 := fun x xs h => b x xs (a x xs h)
theorem Same.tups {H H' : Hp} (s : Same H H') : Tups H H' := fun a xs h => s a _ h
theorem same_new {H : Hp} {p : Addr} (h : H p = none) (o : HO) : Same H (upd H p o) := fun b u q => by rw [upd_ne (ne_of_none q h)]; exact q
theorem same_refl {H : Hp} : Same H H := fun _ _ q => q
/-- all but b stays -/
def Kept (b : Addr) (H H' : Hp) : Prop := ∀ a o, a ≠ b → H a = some o → H' a = some o
theorem Kept.refl {b : Addr} {H : Hp} : Kept b H H := fun _ _ _ q => q
theorem Kept.trans {b : Addr} {H H1 H2 : Hp} (h : Kept b H H1) (g : Kept b H1 H2) : Kept b H H2 := fun a o n q => g a o n (h a o n q)
theorem Kept.of {b : Addr} {H H' : Hp} (s : Same H H') : Kept b H H' := fun a o _ q => s a o q
theorem Kept.new {b p : Addr} {H : Hp} (h : H p = none) (o : HO) : Kept b H (upd H p o) := .of (same_new h o)
theorem Kept.put {b : Addr} {H : Hp} (o : HO) : Kept b H (upd H b o) := fun a u n q => by rw [upd_ne n]; exact q
theorem Kept.tups {b : Addr} {H H' : Hp} {xs : List V} (k : Kept b H H') (hb : H b = some (.lst xs)) : Tups H H' := fun a ys q => k a _ (ne_of q hb (by intro z; cases z)) q

theorem small {n : Nat} (h : n ≤ 1000) : n ≤ sizeLine := Nat.le_of_lt (small1000 h)
def ifBody : Stmt → List Stmt
  | .If _ b _ _ => b
  | _ => []
def elBody : Stmt → List Stmt
  | .If _ _ b _ => b
  | _ => []
def forBody : Stmt → List Stmt
  | .For _ _ b _ _ => b
  | _ => []
def stAt (l : List Stmt) (i : Nat) : Stmt := l.getD i (.Pass ⟨0, 0, 0, 0⟩)
/-- all but these stay -/
def Ks (S : List Addr) (H H' : Hp) : Prop := ∀ a o, a ∉ S → H a = some o → H' a = some o
theorem Ks.refl {S : List Addr} {H : Hp} : Ks S H H := fun _ _ _ q => q
theorem Ks.trans {S : List Addr} {H H1 H2 : Hp} (h : Ks S H H1) (g : Ks S H1 H2) : Ks S H H2 := fun a o n q => g a o n (h a o n q)
theorem Ks.mono {S T : List Addr} {H H' : Hp} (h : Ks S H H') (k : ∀ a ∈ S, a ∈ T) : Ks T H H' := fun a o n q => h a o (fun z => n (k a z)) q
theorem Same.ks {S : List Addr} {H H' : Hp} (h : Same H H') : Ks S H H' := fun a o _ q => h a o q
theorem Kept.ks {S : List Addr} {b : Addr} {H H' : Hp} (h : Kept b H H') (k : b ∈ S) : Ks S H H' := fun a o n q => h a o (fun z => n (z ▸ k)) q
theorem ks_new {S : List Addr} {H : Hp} {p : Addr} (h : H p = none) (o : HO) : Ks S H (upd H p o) := Same.ks (same_new h o)
theorem ks_put {S : List Addr} {H : Hp} {p : Addr} (h : p ∈ S) (o : HO) : Ks S H (upd H p o) := Kept.ks (Kept.put o) h
/-- a thing made since may be left out -/
theorem Ks.drop {S : List Addr} {H H' : Hp} {p : Addr} (h : Ks (p :: S) H H') (n : H p = none) : Ks S H H' := fun a o k q => h a o (fun z => by
  rcases List.mem_cons.mp z with z | z
  · rw [z, n] at q; cases q
  · exact k z) q
/-- things that are no tuples -/
def Loose (H : Hp) (S : List Addr) : Prop := ∀ a ∈ S, ∀ xs, H a ≠ some (.tup xs)
theorem Ks.tups {S : List Addr} {H H' : Hp} (h : Ks S H H') (l : Loose H S) : Tups H H' := fun a xs q => h a _ (fun z => l a z xs q) q
theorem Loose.nil {H : Hp} : Loose H [] := fun _ z => (nomatch z)
theorem Loose.cons {H : Hp} {a : Addr} {S : List Addr} {o : HO} (h : H a = some o) (k : ∀ xs, o ≠ .tup xs) (l : Loose H S) : Loose H (a :: S) := fun b hb xs q => by
  rcases List.mem_cons.mp hb with z | z
  · rw [z, h] at q
    exact k xs (Option.some.inj q)
  · exact l b z xs q
theorem lk_hit {k : Str} {v : V} {r : List (Str × V)} : ((k, v) :: r).lookup k = some v := by
  rw [List.lookup_cons, beq_self_eq_true]
theorem lk_skip {k k' : Str} {v : V} {r : List (Str × V)} (h : (k == k') = false) : ((k', v) :: r).lookup k = r.lookup k := by
  rw [List.lookup_cons, h]
theorem put_new {f : Str} {v : V} : ∀ {fs : List (Str × V)}, (∀ p ∈ fs, ¬ p.1 = f) → putF f v fs = fs ++ [(f, v)]
  | [], _ => rfl
  | (k, u) :: r, h => by
    unfold putF
    rw [if_neg (h (k, u) (List.mem_cons_self ..)), put_new fun p hp => h p (List.mem_cons_of_mem _ hp)]
    rfl
theorem upd2 {H : Hp} {x : Addr} {o o' : HO} : upd (upd H x o) x o' = upd H x o' := upd_upd
theorem paired_imp {α β : Type} {R S : α → β → Prop} (h : ∀ x y, R x y → S x y) : ∀ {xs : List α} {ys : List β}, Paired R xs ys → Paired S xs ys
  | _, _, .nil => .nil
  | _, _, .cons r t => .cons (h _ _ r) (paired_imp h t)
theorem paired_snoc {α β : Type} {R : α → β → Prop} {a : α} {b : β} (h : R a b) : ∀ {l : List α} {m : List β}, Paired R l m → Paired R (l ++ [a]) (m ++ [b])
  | _, _, .nil => .cons h .nil
  | _, _, .cons r t => .cons r (paired_snoc h t)
theorem itT {b : Bool} {A B : Prop} (h : b = true) (a : A) : if b = true then A else B := by
  rw [if_pos h]
  exact a
theorem itF {b : Bool} {A B : Prop} (h : b = false) (a : B) : if b = true then A else B := by
  rw [if_neg (by rw [h]; decide)]
  exact a
theorem itD {c A B : Prop} [Decidable c] (h1 : c → A) (h2 : ¬ c → B) : if decide c = true then A else B := ite2 (fun z => h1 (of_decide_eq_true z)) fun z => h2 fun q => z (decide_eq_true q)
theorem itN {c A B : Prop} [Decidable c] (h1 : ¬ c → A) (h2 : c → B) : if (!decide c) = true then A else B := by
  by_cases h : c
  · rw [decide_eq_true h]
    exact itF rfl (h2 h)
  · rw [decide_eq_false h]
    exact itT rfl (h1 h)
theorem itEq {i j : Int} {A B : Prop} (h1 : i = j → A) (h2 : i ≠ j → B) : if decide (V.int i = V.int j) = true then A else B := itD (fun z => h1 (V.int.inj z)) fun z => h2 fun q => z (by rw [q])
theorem itNe {i j : Int} {A B : Prop} (h1 : i ≠ j → A) (h2 : i = j → B) : if (!decide (V.int i = V.int j)) = true then A else B := itN (fun z => h1 fun q => z (by rw [q])) fun z => h2 (V.int.inj z)
theorem ne_str {x y : Str} (h : x ≠ y) : decide (V.str x = V.str y) = false := decide_eq_false fun z => h (V.str.inj z)
theorem eq_str {x : Str} : decide (V.str x = V.str x) = true := decide_eq_true rfl
/-! ### slices -/
theorem cut_to (xs : List V) (i : Nat) (h : i ≤ xs.length) : cutV xs none (some (i : Int)) = xs.take i := by
  unfold cutV
  rw [HT.sIx_none, HT.sIx_nat, List.drop_zero, Nat.sub_zero, Nat.min_eq_left h]
theorem cut_from (xs : List V) (i : Nat) : cutV xs (some (i : Int)) none = xs.drop i := by
  unfold cutV
  rw [HT.sIx_none, HT.sIx_nat]
  by_cases h : i ≤ xs.length
  · rw [Nat.min_eq_left h, List.take_of_length_le (by rw [List.length_drop]; exact Nat.le_refl _)]
  · rw [Nat.min_eq_right (by omega), List.drop_length, List.drop_of_length_le (by omega), List.take_nil]
end Any
namespace Any
open L2 PySem PySem.Spec PyProof.Rows
theorem refs_at {as : List Addr} {i : Nat} {v : V} (h : (as.map V.ref)[i]? = some v) : ∃ e, as[i]? = some e ∧ v = .ref e := by
  rw [List.getElem?_map] at h
  cases z : as[i]? with
  | none => rw [z] at h; cases h
  | some e => rw [z] at h; exact ⟨e, rfl, (Option.some.inj h).symm⟩
theorem paired_get {α β : Type} {R : α → β → Prop} : ∀ {xs : List α} {ys : List β}, Paired R xs ys → ∀ {i : Nat} {x : α}, xs[i]? = some x → ∃ y, ys[i]? = some y ∧ R x y
  | _, _, .nil, i, x, h => by simp at h
  | _, _, .cons r t, 0, x, h => by cases h; exact ⟨_, rfl, r⟩
  | _, _, .cons r t, i + 1, x, h => paired_get t (i := i) h
theorem paired_put {α β : Type} {R : α → β → Prop} : ∀ {xs : List α} {ys : List β}, Paired R xs ys → ∀ {i : Nat} {y : β}, ys[i]? = some y → ∃ x, xs[i]? = some x ∧ R x y
  | _, _, .nil, i, y, h => by simp at h
  | _, _, .cons r t, 0, y, h => by cases h; exact ⟨_, rfl, r⟩
  | _, _, .cons r t, i + 1, y, h => paired_put t (i := i) h
theorem fm_true : ∀ us : List V, (us.map fun _ => some (V.bl true)).filterMap id = (us.map fun _ => true).map V.bl
  | [] => rfl
  | x :: r => by
    rw [List.map_cons, List.map_cons, List.map_cons, ← fm_true r]
    rfl
theorem fm_some {α : Type} (g : α → V) : ∀ l : List α, (l.map fun b => some (g b)).filterMap id = l.map g
  | [] => rfl
  | x :: r => by
    rw [List.map_cons, List.map_cons, ← fm_some g r]
    rfl
theorem all_yes (us : List V) : ((us.map fun _ => true).all id) = true := by
  rw [List.all_map]
  exact List.all_eq_true.mpr fun _ _ => rfl
/-! ### rows made of rows, all else staying -/
/-- what a row's making asks -/
def Turns (J : It) (g : TG) (tt : TT) (te : TE) (vs : List Nat) (σ : L2.St) (H1 : Hp) (D : Addr) (Qd : Hp → Prop) : Prop :=
  ∃ W : Nat → Nat → Hp → Prop, (∃ m, W 0 m (upd H1 D (.lst []))) ∧
    ∀ i m H, W i m H → (J.stop i H ∧ Qd H) ∨
      (J.go i H ∧ ∃ N : Hp → Prop, (∀ H', N H' → ∃ m', m' < m ∧ W (i + 1) m' H') ∧
        ∀ x H', J.yld i H x H' →
          g x (wipe σ vs) H' fun σ2 H2 => wipe σ2 vs = wipe σ vs ∧
            tt σ2 H2 fun b H3 => if b = true then te σ2 H3 fun y H4 => ∃ acc, H4 D = some (.lst acc) ∧ acc.length < sizeLine ∧ N (upd H4 D (.lst (acc ++ [y]))) else N H3)
section
variable {K : PySem.W.Frag} {a : Addr} {xs : List V} {g : TG} {tt : TT} {te : TE} {vs : List Nat} {σ : L2.St} {H1 : Hp} {D : Addr} {Qd : Hp → Prop}
/-- each turn puts one thing behind, or none -/
def TurnF (xs : List V) (gs : List (Option V)) (g : TG) (tt : TT) (te : TE) (vs : List Nat) (σ : L2.St) (H1 : Hp) : Prop :=
  ∀ (i : Nat) (x : V) (o : Option V) (H : Hp) (Y : VK) (N : Hp → Prop), xs[i]? = some x → gs[i]? = some o → Same H1 H → (∀ y, o = some y → ∀ H4, Same H H4 → Y y H4) → (o = none → ∀ H4, Same H H4 → N H4) →
    g x (wipe σ vs) H fun σ2 H2 => wipe σ2 vs = wipe σ vs ∧ tt σ2 H2 fun b H3 => if b = true then te σ2 H3 Y else N H3
theorem take_fm {gs : List (Option V)} {i : Nat} {o : Option V} (h : gs[i]? = some o) : (gs.take (i + 1)).filterMap id = (gs.take i).filterMap id ++ o.toList := by
  rw [List.take_add_one, h, List.filterMap_append]
  cases o <;> rfl
theorem fm_len (gs : List (Option V)) : (gs.filterMap id).length ≤ gs.length := List.length_filterMap_le ..
theorem turns_tup (gs : List (Option V)) (hD : H1 D = none) (ha : ∀ H, Same H1 H → SqT K H a xs) (hn : gs.length = xs.length) (hz : xs.length ≤ sizeLine) (hs : TurnF xs gs g tt te vs σ H1)
    (hd : ∀ H, H D = some (.lst (gs.filterMap id)) → Same H1 H → Qd H) : Turns (Itt K a) g tt te vs σ H1 D Qd := by
  refine lc_tup (K := K) (a := a) (xs := xs) (fun i Hc => Hc D = some (.lst ((gs.take i).filterMap id)) ∧ Same H1 Hc) ⟨upd_same, same_new hD _⟩ (fun i Hc _ z => ha Hc z.2) ?_ ?_
  · rintro i x Hc hx ⟨hC, sm⟩
    have hi : i < xs.length := (List.getElem?_eq_some_iff.mp hx).1
    obtain ⟨o, ho⟩ : ∃ o, gs[i]? = some o := ⟨gs[i]'(by omega), by simp [hn, hi]⟩
    refine hs i x o Hc _ _ hx ho sm (fun y ey H4 s4 => ⟨_, s4 _ _ hC, ?_, ?_, fun b u hb => ?_⟩) (fun en H4 s4 => ⟨?_, sm.trans s4⟩)
    · have := fm_len (gs.take i)
      rw [List.length_take] at this
      omega
    · rw [upd_same, take_fm ho, ey]
      rfl
    · rw [upd_ne (ne_of_none hb hD)]
      exact s4 _ _ (sm _ _ hb)
    · rw [take_fm ho, en]
      show H4 D = some (.lst (_ ++ []))
      rw [List.append_nil]
      exact s4 _ _ hC
  · rintro Hc ⟨hC, sm⟩
    rw [← hn, List.take_length] at hC
    exact hd Hc hC sm
theorem turns_list (gs : List (Option V)) (hD : H1 D = none) (ha : ∀ H, Same H1 H → SqL K H a xs) (hn : gs.length = xs.length) (hz : xs.length ≤ sizeLine) (hs : TurnF xs gs g tt te vs σ H1)
    (hd : ∀ H, H D = some (.lst (gs.filterMap id)) → Same H1 H → Qd H) : Turns (Itl K a) g tt te vs σ H1 D Qd := by
  refine lc_list (K := K) (a := a) (xs := xs) (fun i Hc => Hc D = some (.lst ((gs.take i).filterMap id)) ∧ Same H1 Hc) ⟨upd_same, same_new hD _⟩ (fun i Hc _ z => ha Hc z.2) ?_ ?_
  · rintro i x Hc hx ⟨hC, sm⟩
    have hi : i < xs.length := (List.getElem?_eq_some_iff.mp hx).1
    obtain ⟨o, ho⟩ : ∃ o, gs[i]? = some o := ⟨gs[i]'(by omega), by simp [hn, hi]⟩
    refine hs i x o Hc _ _ hx ho sm (fun y ey H4 s4 => ⟨_, s4 _ _ hC, ?_, ?_, fun b u hb => ?_⟩) (fun en H4 s4 => ⟨?_, sm.trans s4⟩)
    · have := fm_len (gs.take i)
      rw [List.length_take] at this
      omega
    · rw [upd_same, take_fm ho, ey]
      rfl
    · rw [upd_ne (ne_of_none hb hD)]
      exact s4 _ _ (sm _ _ hb)
    · rw [take_fm ho, en]
      show H4 D = some (.lst (_ ++ []))
      rw [List.append_nil]
      exact s4 _ _ hC
  · rintro Hc ⟨hC, sm⟩
    rw [← hn, List.take_length] at hC
    exact hd Hc hC sm
end
end Any
set_option maxHeartbeats 4000000
namespace Any
open L2 PySem PySem.Spec PyProof.Rows
/-! ### t * 0, t * 1 -/
theorem tuple_mulS (l : Addr) (items : Array Value) (n : Nat) (dd : Option Addr) (sl : Array (Option Value)) (x : Int) (u : Tok) (c0 : (decide (x < -(2 ^ 63)) || decide (x ≥ 2 ^ 63)) = false) (c1 : (items.isEmpty || x == 1) = true) :
    Meets (Builtin.«tuple.__mul__» ⟨[.ref l, .int x u], []⟩) (fun _ R s => s.heap.get? l = some { cls := .type "tuple", dict := dd, data := .seq items n, slots := sl } ∧ R (.ok (.ret (Value.ref l))) s) :=
  .of_wp fun prog w A R s h => by
    obtain ⟨hp, g, d, tk, os⟩ := s
    obtain ⟨hl, h⟩ := h
    have f1 := AutoSeq1.idx_int
    wp_walk using wpAny_loadPart' hl
    repeat (first
      | (refine wpAny_ite_false (decide_eq_false (by rw [c0]; exact Bool.false_ne_true)) ?_; wp_walk using wpAny_loadPart' hl)
      | (refine wpAny_ite_true (decide_eq_true c1) ?_; wp_walk using wpAny_loadPart' hl))
    exact ⟨_, rfl, h⟩
theorem tuple_mul0 (l : Addr) (items : Array Value) (n : Nat) (dd : Option Addr) (sl : Array (Option Value)) (u : Tok) (c1 : (items.isEmpty || (0 : Int) == 1) = false) :
    Meets (Builtin.«tuple.__mul__» ⟨[.ref l, .int 0 u], []⟩) (fun _ R s => s.heap.get? l = some { cls := .type "tuple", dict := dd, data := .seq items n, slots := sl } ∧
      R (.ok (.ret (Value.ref s.heap.objs.size))) { s with heap := s.heap.push { cls := Value.type "tuple", data := Data.seq #[] }, toks := s.toks }) :=
  .of_wp fun prog w A R s h => by
    obtain ⟨hp, g, d, tk, os⟩ := s
    obtain ⟨hl, h⟩ := h
    have f1 := AutoSeq1.idx_int
    have c0 : (decide ((0 : Int) < -(2 ^ 63)) || decide ((0 : Int) ≥ 2 ^ 63)) = false := by decide
    have c2 : (decide ((0 : Int) ≤ 0) || items.isEmpty) = true := rfl
    wp_walk using wpAny_loadPart' hl
    repeat (first
      | (refine wpAny_ite_false (decide_eq_false (by rw [c0]; exact Bool.false_ne_true)) ?_; wp_walk using wpAny_loadPart' hl)
      | (refine wpAny_ite_false (decide_eq_false (by rw [c1]; exact Bool.false_ne_true)) ?_; wp_walk using wpAny_loadPart' hl)
      | (refine wpAny_ite_true (decide_eq_true c2) ?_; wp_walk using wpAny_loadPart' hl))
    exact ⟨_, rfl, h⟩
section
variable {X : Cx}
def rRep01 (K : PySem.W.Frag) : R2 := fun x y H Q => ∃ l k xs, x = .ref l ∧ y = .int k ∧ SqT K H l xs ∧ (k = 0 ∨ k = 1) ∧ (xs = [] ∨ k = 1 → Q (.ref l) H) ∧ (xs ≠ [] → k = 0 → ∀ p, H p = none → Q (.ref p) (upd H p (.tup [])))
theorem op_rep01 : OpR X (binaryOp .Mult) (rRep01 X.K) := by
  intro pins s σ H x y v u Q I rx ry h
  obtain ⟨l, k, xs, rfl, rfl, hT, hk, q1, q2⟩ := h
  cases rx
  obtain ⟨t, rfl⟩ := ry
  obtain ⟨its, r, ⟨⟨cls, dd, data, sl⟩, ho, hc, n, hd⟩, hs⟩ := I.tuple hT
  simp only at hc hd
  subst hc hd
  have hle : its.length = xs.length := r.length.symm
  have c0 : (decide (k < -(2 ^ 63)) || decide (k ≥ 2 ^ 63)) = false := by
    rcases hk with rfl | rfl <;> decide
  by_cases c : xs = [] ∨ k = 1
  · have c1 : (its.toArray.isEmpty || k == 1) = true := by
      rcases c with c | c
      · have : its = [] := List.eq_nil_of_length_eq_zero (by rw [hle, c]; rfl)
        rw [this]
        rfl
      · rw [c]
        simp
    refine wpAny_binaryOp_repeat_ref (T := "tuple") (U := "int") (by decide) ⟨_, ho, rfl⟩ (fun s' => typeIs_int s' k t) noFill_tuple_mul F.fills_int_mul F.slot_int_rmul repeat_tuple F.slot_int_index.lookup
      (call_meets F.slot_int_rmul (typeIs_int s k t) F.entry_int_rmul (F.args_int_rmul_2 _ _) (int_rmul_tuple k t l its.toArray n dd sl)
        ⟨ho, rfl, ⟨_, ho, rfl⟩, call_meets F.slot_tuple_mul ⟨_, ho, rfl⟩ F.entry_tuple_mul (F.args_tuple_mul_2 _ _) (tuple_mulS l its.toArray n dd sl k t c0 c1) ⟨ho, ?_⟩⟩)
    exact ⟨.ref l, H, I, rfl, q1 c⟩
  · have k0 : k = 0 := hk.elim id fun z => absurd (.inr z) c
    subst k0
    have c1 : (its.toArray.isEmpty || (0 : Int) == 1) = false := by
      cases its with
      | nil => exact absurd (.inl (List.eq_nil_of_length_eq_zero hle.symm)) c
      | cons a b => rfl
    refine wpAny_binaryOp_repeat_ref (T := "tuple") (U := "int") (by decide) ⟨_, ho, rfl⟩ (fun s' => typeIs_int s' 0 t) noFill_tuple_mul F.fills_int_mul F.slot_int_rmul repeat_tuple F.slot_int_index.lookup
      (call_meets F.slot_int_rmul (typeIs_int s 0 t) F.entry_int_rmul (F.args_int_rmul_2 _ _) (int_rmul_tuple 0 t l its.toArray n dd sl)
        ⟨ho, rfl, ⟨_, ho, rfl⟩, call_meets F.slot_tuple_mul ⟨_, ho, rfl⟩ F.entry_tuple_mul (F.args_tuple_mul_2 _ _) (tuple_mul0 l its.toArray n dd sl t c1) ⟨ho, ?_⟩⟩)
    refine ⟨.ref s.heap.objs.size, _, I.laid (t' := s.toks) (o := .tup []) (fun b ob q => Heap.get?_push_of_some _ q) (Nat.le_refl _) ?_, rfl, q2 (fun z => c (.inl z)) rfl _ (I.hok.fresh (Nat.le_refl _))⟩
    exact ⟨by decide, [], .nil, IsTup.new _ _⟩
end
end Any
namespace Any
open L2 PySem PySem.Spec PyProof.Rows
/-! ### small data -/
structure Tm (d : PyData) (w p : Nat) : Prop where
  short : d.leavesShort 1921 = true
  show_ : d.showable = true
  lay : d.canLay0 = true
  wt : d.weight ≤ w
  dp : d.depth ≤ p
structure TmAll (ds : List PyData) (w p : Nat) : Prop where
  short : PyData.leavesShortAll 1921 ds = true
  show_ : PyData.showableAll ds = true
  lay : PyData.canLayAll0 ds = true
  wt : PyData.weightAll ds ≤ w
  dp : PyData.depthAll ds ≤ p
theorem Tm.int {i : Int} {p : Nat} (h0 : 0 ≤ i) (h1 : i < 1024) : Tm (.int i) 11 p := by
  have lg : i.natAbs.log2 < 1920 := by
    by_cases z : i.natAbs = 0
    · rw [z]; decide
    · have := (Nat.log2_lt z).mpr (show i.natAbs < 2 ^ 10 by omega)
      omega
  refine ⟨decide_eq_true (int_text_len_1921 lg), decide_eq_true lg, rfl, ?_, Nat.zero_le _⟩
  show (if i == 0 then 0 else i.natAbs.log2 + 1) ≤ 11
  split
  · omega
  · rename_i z
    have z' : i.natAbs ≠ 0 := by intro e; apply z; simp; omega
    have := (Nat.log2_lt z').mpr (show i.natAbs < 2 ^ 10 by omega)
    omega
theorem Tm.non {p : Nat} : Tm .none 0 p := ⟨rfl, rfl, rfl, Nat.le_refl _, Nat.zero_le _⟩
theorem Tm.bl {b : Bool} {p : Nat} : Tm (.bool b) 0 p := ⟨rfl, rfl, rfl, Nat.le_refl _, Nat.zero_le _⟩
theorem TmAll.nil {w p : Nat} : TmAll [] w p := ⟨rfl, rfl, rfl, Nat.zero_le _, Nat.zero_le _⟩
theorem TmAll.cons {d : PyData} {ds : List PyData} {w v u p : Nat} (h : Tm d w p) (k : TmAll ds v p) (z : w + 1 + v ≤ u) : TmAll (d :: ds) u p where
  short := by
    show (PyData.leavesShort 1921 d && PyData.leavesShortAll 1921 ds) = true
    rw [h.short, k.short]
    rfl
  show_ := by
    show (PyData.showable d && PyData.showableAll ds) = true
    rw [h.show_, k.show_]
    rfl
  lay := by
    show (PyData.canLay0 d && PyData.canLayAll0 ds) = true
    rw [h.lay, k.lay]
    rfl
  wt := by
    have h1 := h.wt
    have h2 := k.wt
    show PyData.weight d + 1 + PyData.weightAll ds ≤ u
    omega
  dp := Nat.max_le.mpr ⟨h.dp, k.dp⟩
theorem Tm.tup {ds : List PyData} {w p : Nat} (h : TmAll ds w p) : Tm (.tuple ds) w (p + 1) := ⟨h.short, h.show_, h.lay, h.wt, Nat.succ_le_succ h.dp⟩
theorem Tm.lst {ds : List PyData} {w p : Nat} (h : TmAll ds w p) : Tm (.list ds) w (p + 1) := ⟨h.short, h.show_, h.lay, h.wt, Nat.succ_le_succ h.dp⟩
theorem Tm.more {d : PyData} {w v p : Nat} (h : Tm d w p) (k : w ≤ v) : Tm d v p := ⟨h.short, h.show_, h.lay, Nat.le_trans h.wt k, h.dp⟩
theorem Tm.fits {d : PyData} {w p : Nat} (h : Tm d w p) (hw : w ≤ 8000) (hp : p ≤ 60) : d.showable = true ∧ d.depth ≤ 60 ∧ d.shown.length ≤ sizeLine := by
  refine ⟨h.show_, Nat.le_trans h.dp hp, ?_⟩
  have z := PyData.shown_le 1921 (by decide) d h.short
  have h3 : (1921 + 2) * d.weight ≤ (1921 + 2) * 8000 := Nat.mul_le_mul_left _ (Nat.le_trans h.wt hw)
  rw [sizeLine_eq]
  omega
theorem Tm.shaped {d : PyData} {w p : Nat} (h : Tm d w p) (hp : p ≤ 60) : SeqAt.shaped d = true := by
  unfold SeqAt.shaped
  rw [h.lay, decide_eq_true (show d.depth ≤ 64 from Nat.le_trans h.dp (by omega))]
  rfl
theorem Tm.noDict {d : PyData} {w p : Nat} (h : Tm d w p) : d.hasDict = false := PyData.hasDict_of_canLay d h.lay
end Any
namespace Any
open L2 PySem PySem.Spec PyProof.Rows
def top (i : Nat) : Stmt := PySem.Challenge.pw_anystore_k62_whole_words_in_time.main.body.getD i (.Pass ⟨0, 0, 0, 0⟩)
/-! ### defs by their names -/
section
variable (P : Program) (w : World) (K : PySem.W.Frag) (mg : Str → Option Value) (base : Heap)
/-- the name x of the module holds a def that keeps this promise -/
def Df (k : Nat) (x : Str) (ps : List Str) (sp : Sp) : Prop := ∃ f fd, mg x = some (.ref f) ∧ PySem.W.keepIn K (.ref f) = true ∧ FnOk P w K mg base CX0 k f fd ps sp ∧ Binds K fd ps []
/-- .. where no repr is under way -/
def DfG (k : Nat) (x : Str) (ps : List Str) (sp : Sp) : Prop := ∃ f fd, mg x = some (.ref f) ∧ PySem.W.keepIn K (.ref f) = true ∧ FnG P w K mg base CX0 k f fd ps sp ∧ Binds K fd ps []
/-- a method of the class at C -/
def Mf (C : Addr) (k : Nat) (m : Str) (ps : List Str) (sp : Sp) : Prop := ∃ f fd, Meth K C m f ∧ FnOk P w K mg base CX0 k f fd ps sp ∧ Binds K fd ps []
/-- .. called with these keywords alone -/
def MfK (C : Addr) (k : Nat) (m : Str) (ps ks : List Str) (gV : List V → List V → List V) (sp : Sp) : Prop := ∃ f fd g, Meth K C m f ∧ FnOk P w K mg base CX0 k f fd ps sp ∧ KBn K fd ps 1 ks g gV
/-- .. called with nothing -/
def Mf0 (C : Addr) (k : Nat) (m : Str) (ps : List Str) (dvs : List V) (sp : Sp) : Prop := ∃ f fd ds, Meth K C m f ∧ FnOk P w K mg base CX0 k f fd ps sp ∧ Binds K fd ps ds ∧ Vals dvs ds
/-- a class, made with n values and these keywords -/
def MkK (k : Nat) (x : Str) (C : Addr) (n : Nat) (ps ks : List Str) (gV : List V → List V → List V) (sp : Sp) : Prop := ∃ f fd g, mg x = some (.ref C) ∧ Mk K C f ∧ FnOk P w K mg base CX0 k f fd ps sp ∧ KBn K fd ps (n + 1) ks g gV
end
section
variable {X : Cx} {k n : Nat} {x m : Str} {C : Addr} {ps ks : List Str} {sp : Sp} {dvs : List V} {p pos apos : Pos} {e o : Expr} {es : List Expr} {t tk : TA} {ta : TE} {kws : List Keyword} {gV : List V → List V → List V}
theorem pe_D (D : Df X.prog X.w X.K X.mg X.base k x ps sp) (hr : Room k X.A) (hg : Gl X x) (ha : PA X (e :: es) t) (hdb : (x == ("__debug__" : Str)) = false := by decide)
    (he : starEach (e :: es) X.env = (false, eval e X.env) :: starEach es X.env := by rfl) (hpl : (backTo pos (starEach es X.env)).any (·.1) = false := by rfl) : PE X (.Call (.Name x p) (e :: es) [] pos) (tCall sp [] E0 t) := by
  obtain ⟨f, fd, hm, hk, F, hb⟩ := D
  exact pe_call F hr hg hm hk hb .nil pass0 ha hdb he hpl
theorem pe_DG (D : DfG X.prog X.w X.K X.mg X.base k x ps sp) (hG : X.A.guards = some []) (hr : Room k X.A) (hg : Gl X x) (ha : PA X (e :: es) t) (hdb : (x == ("__debug__" : Str)) = false := by decide)
    (he : starEach (e :: es) X.env = (false, eval e X.env) :: starEach es X.env := by rfl) (hpl : (backTo pos (starEach es X.env)).any (·.1) = false := by rfl) : PE X (.Call (.Name x p) (e :: es) [] pos) (tCall sp [] E0 t) := by
  obtain ⟨f, fd, hm, hk, F, hb⟩ := D
  exact pe_callG F hG hr hg hm hk hb .nil pass0 ha hdb he hpl
theorem pe_M {pl : Sem Bool} (D : Mf X.prog X.w X.K X.mg X.base C k m ps sp) (c : Cls X.K C) (he : PE X o ta) (hr : Room k X.A) (ha : PA X (e :: es) t)
    (hst : starEach (e :: es) X.env = (false, eval e X.env) :: starEach es X.env := by rfl) (hpl : (backTo pos (starEach es X.env)).any (·.1) = false := by rfl)
    (ht : eval (.Call (.Attribute o m apos) (e :: es) [] pos) X.env = (do
      let ov ← eval o X.env
      standAt apos.atName
      let (f, first) ← holding [ov] (getMethod ov m pl)
      callWith pos f first (backTo pos (starEach (e :: es) X.env)) (backToKw pos (keywordEach [] X.env))) := by rfl) :
    PE X (.Call (.Attribute o m apos) (e :: es) [] pos) (tMeth C m sp [] E0 ta t) := by
  obtain ⟨f, fd, hm, F, hb⟩ := D
  exact pe_meth he c hm F hr hb .nil pass0 ha hst hpl ht
theorem pe_M0 {pl : Sem Bool} (D : Mf0 X.prog X.w X.K X.mg X.base C k m ps dvs sp) (c : Cls X.K C) (he : PE X o ta) (hr : Room k X.A)
    (ht : eval (.Call (.Attribute o m apos) [] [] pos) X.env = (do
      let ov ← eval o X.env
      standAt apos.atName
      let (f, first) ← holding [ov] (getMethod ov m pl)
      callWith pos f first (backTo pos (starEach [] X.env)) (backToKw pos (keywordEach [] X.env))) := by rfl) :
    PE X (.Call (.Attribute o m apos) [] [] pos) (tMeth C m sp dvs E0 ta tNil) := by
  obtain ⟨f, fd, ds, hm, F, hb, hv⟩ := D
  exact pe_meth0 he c hm F hr hb hv pass0 ht
theorem pe_MK {pl : Sem Bool} (D : MfK X.prog X.w X.K X.mg X.base C k m ps ks gV sp) (c : Cls X.K C) (he : PE X o ta) (hr : Room k X.A) (hkw : PK X kws tk)
    (hall : (backToKw pos (keywordEach kws X.env)).all (·.1.isSome) = true := by rfl) (hks : (backToKw pos (keywordEach kws X.env)).filterMap (·.1) = ks := by rfl)
    (hpl : ((backTo pos (starEach [] X.env)).any (·.1) || (backToKw pos (keywordEach kws X.env)).any (·.1.isNone)) = false := by rfl)
    (ht : eval (.Call (.Attribute o m apos) [] kws pos) X.env = (do
      let ov ← eval o X.env
      standAt apos.atName
      let (f, first) ← holding [ov] (getMethod ov m pl)
      callWith pos f first (backTo pos (starEach [] X.env)) (backToKw pos (keywordEach kws X.env))) := by rfl) :
    PE X (.Call (.Attribute o m apos) [] kws pos) (tMethK C m ks.length sp gV E0 ta tk) := by
  obtain ⟨f, fd, g, hm, F, hb⟩ := D
  exact pe_methK he c hm F hr hb pass0 hkw hall hks hpl ht
theorem pe_CK (D : MkK X.prog X.w X.K X.mg X.base k x C n ps ks gV sp) (hr : Room (k + 1) X.A) (hg : Gl X x) (ha : PA X (e :: es) t) (hkw : PK X kws tk)
    (hall : (backToKw pos (keywordEach kws X.env)).all (·.1.isSome) = true := by rfl) (hks : (backToKw pos (keywordEach kws X.env)).filterMap (·.1) = ks := by rfl) (hdb : (x == ("__debug__" : Str)) = false := by decide)
    (he : starEach (e :: es) X.env = (false, eval e X.env) :: starEach es X.env := by rfl) (hpl : ((backTo pos (starEach (e :: es) X.env)).any (·.1) || (backToKw pos (keywordEach kws X.env)).any (·.1.isNone)) = false := by rfl) :
    PE X (.Call (.Name x p) (e :: es) kws pos) (tMakeK C n ks.length sp gV E0 t tk) := by
  obtain ⟨f, fd, g, hm, M, F, hb⟩ := D
  exact pe_makeK M F hr hg hm hb pass0 ha hkw hall hks hdb he hpl
end
section
variable {P : Program} {w : World} {K : PySem.W.Frag} {mg : Str → Option Value} {base : Heap}
theorem Df.mono {j k : Nat} {x : Str} {ps : List Str} {sp : Sp} (D : Df P w K mg base j x ps sp) (h : j ≤ k) : Df P w K mg base k x ps sp := by
  obtain ⟨f, fd, hm, hk, F, hb⟩ := D
  exact ⟨f, fd, hm, hk, F.mono h, hb⟩
end
/-- the names of Python's own that the text asks for -/
structure Own (mg : Str → Option Value) : Prop where
  isi : mg "isinstance" = none
  int : mg "int" = none
  bool : mg "bool" = none
  tuple : mg "tuple" = none
  len : mg "len" = none
  all : mg "all" = none
  abs : mg "abs" = none
  range : mg "range" = none
  max : mg "max" = none
  min : mg "min" = none
  repr : mg "repr" = none
  list : mg "list" = none
  sorted : mg "sorted" = none
/-! ### stores -/
def ov : Option Int → V
  | none => .non
  | some i => .int i
abbrev Row := List (Int × Option Int)
structure Sto where
  mark : Int
  bears : Int
  slot : Option Int
  letters : Row
  last : Int
  took : Int
  box : Option Int
  echoes : Row
def pairV (p : Int × Option Int) : List V := [.int p.1, ov p.2]
def RowAt (H : Hp) (a : Addr) (r : Row) : Prop := ∃ as : List Addr, H a = some (.tup (as.map V.ref)) ∧ Paired (fun a p => H a = some (.tup (pairV p))) as r
def stoV (s : Sto) (L E : Addr) : List V := [.int s.mark, .int s.bears, ov s.slot, .ref L, .int s.last, .int s.took, ov s.box, .ref E]
def StoAt (H : Hp) (a : Addr) (s : Sto) : Prop := ∃ L E, H a = some (.tup (stoV s L E)) ∧ RowAt H L s.letters ∧ RowAt H E s.echoes
theorem RowAt.keep {H H' : Hp} {a : Addr} {r : Row} (k : Tups H H') (h : RowAt H a r) : RowAt H' a r := by
  obtain ⟨as, h1, h2⟩ := h
  exact ⟨as, k _ _ h1, paired_imp (fun _ _ z => k _ _ z) h2⟩
theorem StoAt.keep {H H' : Hp} {a : Addr} {s : Sto} (k : Tups H H') (h : StoAt H a s) : StoAt H' a s := by
  obtain ⟨L, E, h1, h2, h3⟩ := h
  exact ⟨L, E, k _ _ h1, h2.keep k, h3.keep k⟩
/-- the numbers of a way -/
structure Num where
  hold : Int
  miss : Int
  bound : Int
structure NumOk (n : Num) : Prop where
  h0 : 1 ≤ n.hold
  h1 : n.hold ≤ 6
  m0 : 1 ≤ n.miss
  m1 : n.miss ≤ 4
  b0 : 1 ≤ n.bound
  b1 : n.bound ≤ 40
def wayF (n : Num) (k g : Addr) : List (Str × V) := [("hold", .int n.hold), ("miss", .int n.miss), ("bound", .int n.bound), ("kept", .ref k), ("gone", .ref g)]
/-- a way -/
def WayAt (C : Addr) (H : Hp) (x : Addr) (n : Num) (s : Sto) (g : Int × Int) : Prop := ∃ dx k ga, H x = some (.ins C dx (wayF n k ga)) ∧ StoAt H k s ∧ H ga = some (.tup [.int g.1, .int g.2])
theorem WayAt.keep {C : Addr} {H H' : Hp} {x : Addr} {n : Num} {s : Sto} {g : Int × Int} (k : Same H H') (h : WayAt C H x n s g) : WayAt C H' x n s g := by
  obtain ⟨dx, a, ga, h1, h2, h3⟩ := h
  exact ⟨dx, a, ga, k _ _ h1, h2.keep (Same.tups k), k _ _ h3⟩
section
variable {n : Num} {k g k' : Addr}
theorem wf_hold : (wayF n k g).lookup ("hold" : Str) = some (.int n.hold) := lk_hit
theorem wf_miss : (wayF n k g).lookup ("miss" : Str) = some (.int n.miss) := by
  unfold wayF
  rw [lk_skip (by decide +kernel)]
  exact lk_hit
theorem wf_bound : (wayF n k g).lookup ("bound" : Str) = some (.int n.bound) := by
  unfold wayF
  rw [lk_skip (by decide +kernel), lk_skip (by decide +kernel)]
  exact lk_hit
theorem wf_kept : (wayF n k g).lookup ("kept" : Str) = some (.ref k) := by
  unfold wayF
  rw [lk_skip (by decide +kernel), lk_skip (by decide +kernel), lk_skip (by decide +kernel)]
  exact lk_hit
theorem wf_gone : (wayF n k g).lookup ("gone" : Str) = some (.ref g) := by
  unfold wayF
  rw [lk_skip (by decide +kernel), lk_skip (by decide +kernel), lk_skip (by decide +kernel), lk_skip (by decide +kernel)]
  exact lk_hit
theorem wf_none {x : Str} (h : x ∉ (["hold", "miss", "bound", "kept", "gone"] : List Str)) : (wayF n k g).lookup x = none := by
  simp only [List.mem_cons, List.not_mem_nil, or_false, not_or] at h
  unfold wayF
  rw [lk_skip (by simpa using h.1), lk_skip (by simpa using h.2.1), lk_skip (by simpa using h.2.2.1), lk_skip (by simpa using h.2.2.2.1), lk_skip (by simpa using h.2.2.2.2)]
  rfl
theorem wf_putK : putF "kept" (.ref k') (wayF n k g) = wayF n k' g := by
  unfold wayF
  simp (decide := true) [putF]
theorem wf_putG : putF "gone" (.ref k') (wayF n k g) = wayF n k k' := by
  unfold wayF
  simp (decide := true) [putF]
end
/-- what the class of ways is like -/
structure WayC (K : PySem.W.Frag) (C : Addr) : Prop where
  cl : Cls K C
  n1 : NoAttr K C "hold"
  n2 : NoAttr K C "miss"
  n3 : NoAttr K C "bound"
  n4 : NoAttr K C "kept"
  n5 : NoAttr K C "gone"
end Any
namespace Any
open L2 PySem PySem.Spec PyProof.Rows
abbrev sWhole : Stmt := top 6
abbrev sWithin : Stmt := top 7
abbrev sPut : Stmt := top 9
abbrev sMarks : Stmt := top 14
abbrev sSender : Stmt := top 17
abbrev sTaker : Stmt := top 18
abbrev sRowB : Stmt := top 19
theorem scWhole : FnScope ["thing"] ["thing"] (defScope sWhole) := ⟨rfl, rfl, rfl, by decide +kernel, rfl, by decide +kernel, by decide +kernel⟩
theorem scWithin : FnScope ["thing", "least", "most"] ["thing", "least", "most"] (defScope sWithin) := ⟨rfl, rfl, rfl, by decide +kernel, rfl, by decide +kernel, by decide +kernel⟩
theorem scPut : FnScope ["numbers", "at", "number"] ["numbers", "at", "number"] (defScope sPut) := ⟨rfl, rfl, rfl, by decide +kernel, rfl, by decide +kernel, by decide +kernel⟩
theorem scMarks : FnScope ["hold"] ["hold"] (defScope sMarks) := ⟨rfl, rfl, rfl, by decide +kernel, rfl, by decide +kernel, by decide +kernel⟩
theorem scSender : FnScope ["mark", "bears", "slot", "echoes", "many", "onward"] ["mark", "bears", "slot", "echoes", "many"] (defScope sSender) := ⟨rfl, rfl, rfl, by decide +kernel, rfl, by decide +kernel, by decide +kernel⟩
theorem scTaker : FnScope ["last", "took", "box", "letters", "mark", "word"] ["last", "took", "box", "letters"] (defScope sTaker) := ⟨rfl, rfl, rfl, by decide +kernel, rfl, by decide +kernel, by decide +kernel⟩
theorem scRowB : FnScope ["row", "sent", "is_lost"] ["row", "sent", "is_lost"] (defScope sRowB) := ⟨rfl, rfl, rfl, by decide +kernel, rfl, by decide +kernel, by decide +kernel⟩
def spWhole : Sp := fun vs H Q _ => ∃ i, vs = [.int i] ∧ Q (.bl true) H
def spWithin : Sp := fun vs H Q _ => ∃ i l m, vs = [.int i, .int l, .int m] ∧ Q (.bl (decide (l ≤ i) && decide (i ≤ m))) H
def spPut : Sp := fun vs H Q _ => ∃ (a : Addr) (xs : List V) (i : Nat) (v : V), vs = [.ref a, .int i, v] ∧ H a = some (.tup xs) ∧ i < xs.length ∧ xs.length ≤ 1000 ∧ ∀ p H', Same H H' → H' p = some (.tup (xs.set i v)) → Q (.ref p) H'
def spMarks : Sp := fun vs H Q _ => ∃ i : Int, vs = [.int i] ∧ Q (.int (2 * i + 1)) H
/-- the sender's mark, bears and slot behind the first echo -/
def senderB (mark bears : Int) (slot : Option Int) (many : Int) : Row → Int × Int × Option Int
  | [] => (mark, bears, slot)
  | e :: _ => if e.1 = mark then (if bears = 1 ∧ e.2 = some 1 then ((mark + 1) % many, 0, none) else ((mark + 1) % many, (if slot = none then 0 else 1), slot)) else (mark, bears, slot)
def takerB (last took : Int) (box : Option Int) : Row → Int × Int × Option Int
  | [] => (last, took, box)
  | e :: _ => if e.1 = last then (last, took, box) else if e.2 ≠ none ∧ box = none then (e.1, 1, e.2) else (e.1, 0, box)
def triV (t : Int × Int × Option Int) : List V := [.int t.1, .int t.2.1, ov t.2.2]
def spSender : Sp := fun vs H Q _ => ∃ (m b n : Int) (o : Option Int) (E : Addr) (r : Row), vs = [.int m, .int b, ov o, .ref E, .int n] ∧ RowAt H E r ∧ (∀ e ∈ r, ∃ t, e.2 = some t) ∧ r.length ≤ 1000 ∧ 0 < n ∧ ∀ p H', Same H H' → H' p = some (.tup (triV (senderB m b o n r))) → Q (.ref p) H'
def spTaker : Sp := fun vs H Q _ => ∃ (l t : Int) (o : Option Int) (L : Addr) (r : Row), vs = [.int l, .int t, ov o, .ref L] ∧ RowAt H L r ∧ r.length ≤ 1000 ∧ ∀ p H', Same H H' → H' p = some (.tup (triV (takerB l t o r))) → Q (.ref p) H'
def spRowB : Sp := fun vs H Q _ => ∃ (a b : Addr) (r s : Row) (l : Bool), vs = [.ref a, .ref b, .bl l] ∧ RowAt H a r ∧ RowAt H b s ∧ r.length ≤ 1000 ∧ s.length ≤ 1000 ∧ ∀ p H', Same H H' → RowAt H' p (r.drop 1 ++ (if l = true then [] else s)) → Q (.ref p) H'
theorem ov_non {o : Option Int} : decide (ov o = .non) = decide (o = none) := by
  cases o <;> rfl
section
variable {P : Program} {w : World} {K : PySem.W.Frag} {mg : Str → Option Value} {base : Heap} {f g : Addr} {fd gd : FuncData}
theorem kb (a b : String) (r : Bool) (h : kitB a b = some r := by decide +kernel) : PySem.W.kitOne K (.type a) (.type b) = some r := kit_ty h
theorem ok_whole (O : Own mg) (F : Fun K "is_whole" "is_whole" sWhole f fd) : FnOk P w K mg base CX0 1 f fd ["thing"] spWhole := by
  refine F.ok scWhole (fun vs H Q E h => ?_) (fun cdv A outer s H vs Q E hr h => ?_)
  · obtain ⟨i, rfl, _⟩ := h
    rfl
  obtain ⟨i, rfl, q⟩ := h
  refine ⟨_, pss_one (ps_ret (pe_and (pe_callB call_isi rfl O.isi (by decide +kernel) (pa_cons (pv 0) (pa_cons (pe_bltn (v := .ty "int") rfl O.int (by decide +kernel) rfl) pa_nil)))
    (pe_one (pe_not (pe_callB call_isi rfl O.isi (by decide +kernel) (pa_cons (pv 0) (pa_cons (pe_bltn (v := .ty "bool") rfl O.bool (by decide +kernel) rfl) pa_nil))))))), ?_⟩
  exact ⟨_, rfl, _, _, _, _, true, rfl, .ty "int", .base (.int i), kb "int" "int" true, _, rfl, _, rfl, _, _, _, _, false, rfl, .ty "bool", .base (.int i), kb "int" "bool" false, _, rfl, q⟩
theorem ok_within (F : Fun K "is_within" "is_within" sWithin f fd) (G : Df P w K mg base 1 "is_whole" ["thing"] spWhole) : FnOk P w K mg base CX0 2 f fd ["thing", "least", "most"] spWithin := by
  refine F.ok scWithin (fun vs H Q E h => ?_) (fun cdv A outer s H vs Q E hr h => ?_)
  · obtain ⟨i, l, m, rfl, _⟩ := h
    rfl
  obtain ⟨i, l, m, rfl, q⟩ := h
  refine ⟨_, pss_one (ps_ret (pe_and (pe_D G hr rfl (pa_cons (pv 0) pa_nil)) (pe_one (pe_chain op_le op_le (pv 1) (pv 0) (pv 2))))), ?_⟩
  refine ⟨_, rfl, i, rfl, _, rfl, _, rfl, _, rfl, _, _, rfl, rfl, _, rfl, ?_⟩
  refine ite2 (fun c => ?_) (fun c => ?_)
  · rw [c] at q
    exact ⟨_, rfl, _, _, rfl, rfl, q⟩
  · rw [Bool.eq_false_iff.mpr c] at q
    exact q
theorem ok_marks (F : Fun K "marks" "marks" sMarks f fd) : FnOk P w K mg base CX0 1 f fd ["hold"] spMarks := by
  refine F.ok scMarks (fun vs H Q E h => ?_) (fun cdv A outer s H vs Q E hr h => ?_)
  · obtain ⟨i, rfl, _⟩ := h
    rfl
  obtain ⟨i, rfl, q⟩ := h
  exact ⟨_, pss_one (ps_ret (pe_op op_add (pe_op op_mul pe_int (pv 0)) pe_int)), _, rfl, _, _, rfl, rfl, .inl ⟨by decide, by decide⟩, _, _, rfl, rfl, q⟩
theorem set_cut (xs : List V) (i : Nat) (v : V) (h : i < xs.length) : xs.take i ++ [v] ++ xs.drop (i + 1) = xs.set i v := by
  rw [List.append_assoc, List.set_eq_take_append_cons_drop, if_pos h]
  rfl
theorem ok_put (F : Fun K "put" "put" sPut f fd) : FnOk P w K mg base CX0 1 f fd ["numbers", "at", "number"] spPut := by
  refine F.ok scPut (fun vs H Q E h => ?_) (fun cdv A outer s H vs Q E hr h => ?_)
  · obtain ⟨a, xs, i, v, rfl, _⟩ := h
    rfl
  obtain ⟨a, xs, i, v, rfl, ha, hi, hz, q⟩ := h
  have hN := set_cut xs i v hi
  refine ⟨_, pss_one (ps_ret (pe_op op_catA (pe_op op_catA (pe_slice sl_tupA (pv 0) po_none (po_some (pv 1))) (pe_tup (pa_cons (pv 2) pa_nil))) (pe_slice sl_tupA (pv 0) (po_some (pe_op op_add (pv 1) pe_int)) po_none))), ?_⟩
  refine ⟨_, rfl, _, rfl, _, rfl, a, xs, rfl, SqT.of ha, fun c => ?_, fun _ p1 hp1 => ?_⟩
  · exfalso
    have c2 := c.2
    rw [HT.sIx_nat] at c2
    omega
  have s1 := same_new hp1 (.tup (cutV xs none (some (i : Int))))
  have e1 : upd H p1 (.tup (cutV xs none (some (i : Int)))) p1 = some (.tup (xs.take i)) := by rw [upd_same, cut_to xs i (by omega)]
  refine ⟨_, rfl, by show 1 ≤ sizeLine; decide, fun p2 hp2 => ?_⟩
  have s2 := s1.trans (same_new hp2 (.tup [v]))
  have e2 := same_new hp2 (.tup [v]) _ _ e1
  have l1 : (xs.take i).length ≤ 1000 := by rw [List.length_take]; omega
  -- what stands ahead, with the new one behind it
  have mid : ∀ (Q' : VK), (∀ b H', Same (upd H p1 (.tup (cutV xs none (some (i : Int))))) H' → H' b = some (.tup (xs.take i ++ [v])) → Q' (.ref b) H') →
      rCatA K (.ref p1) (.ref p2) (upd (upd H p1 (.tup (cutV xs none (some (i : Int))))) p2 (.tup [v])) Q' := fun Q' q' => by
    refine ⟨p1, p2, xs.take i, [v], rfl, rfl, SqT.of e2, SqT.of upd_same, small (by rw [List.length_singleton, List.length_take]; omega), fun c => ?_, fun _ c => (nomatch c), fun _ _ p3 hp3 => ?_⟩
    · refine q' p2 _ (same_new hp2 _) ?_
      rw [c]
      exact upd_same
    · exact q' p3 _ ((same_new hp2 _).trans (same_new hp3 _)) upd_same
  refine mid _ fun b H3 s3 e3 => ?_
  have s3 := s1.trans s3
  refine ⟨_, rfl, _, rfl, _, _, rfl, rfl, _, rfl, a, xs, rfl, SqT.of (s3 _ _ ha), fun c => ?_, fun _ p4 hp4 => ?_⟩
  · exfalso
    have c1 := c.1
    rw [show ((i : Int) + 1) = ((i + 1 : Nat) : Int) by omega, HT.sIx_nat] at c1
    omega
  have e4 := same_new hp4 (.tup (cutV xs (some ((i : Int) + 1)) none)) _ _ e3
  have e5 : upd H3 p4 (.tup (cutV xs (some ((i : Int) + 1)) none)) p4 = some (.tup (xs.drop (i + 1))) := by rw [upd_same, show ((i : Int) + 1) = ((i + 1 : Nat) : Int) by omega, cut_from]
  refine ⟨b, p4, _, _, rfl, rfl, SqT.of e4, SqT.of e5, small (by rw [List.length_append, List.length_take, List.length_drop, List.length_singleton]; omega), fun c => ?_, fun _ c => ?_, fun _ _ p6 hp6 => ?_⟩
  · exact absurd c (by simp)
  · refine q b _ (s3.trans (same_new hp4 _)) ?_
    rw [c, List.append_nil] at hN
    rw [← hN]
    exact e4
  · refine q p6 _ ((s3.trans (same_new hp4 _)).trans (same_new hp6 _)) ?_
    rw [upd_same, hN]
theorem two : 2 ≤ sizeLine := by decide
theorem three : 3 ≤ sizeLine := by decide
theorem twoK {m n : Nat} (h : m ≤ 1000) (k : n ≤ 1000) : m + n ≤ sizeLine := Nat.le_trans (Nat.add_le_add h k) (by decide)
theorem itO {o : Option Int} {A B : Prop} (h1 : o = none → A) (h2 : o ≠ none → B) : if decide (ov o = V.non) = true then A else B := by
  rw [ov_non]
  exact itD h1 h2
theorem itS {o : Option Int} {A B : Prop} (h1 : o ≠ none → A) (h2 : o = none → B) : if (!decide (ov o = V.non)) = true then A else B := by
  rw [ov_non]
  exact itN h1 h2
theorem ok_sender (O : Own mg) (F : Fun K "sender_behind" "sender_behind" sSender f fd) : FnOk P w K mg base CX0 1 f fd ["mark", "bears", "slot", "echoes", "many"] spSender := by
  refine F.ok scSender (fun vs H Q E h => ?_) (fun cdv A outer s H vs Q E hr h => ?_)
  · obtain ⟨m, b, n, o, E, r, rfl, _⟩ := h
    rfl
  obtain ⟨m, b, n, o, E, r, rfl, ⟨as, hE, hp⟩, hs, hz, hn, q⟩ := h
  refine ⟨_, pss_cons (ps_if (PW.pt (pw_or (pt_cmpR op_eq (pe_callB call_len_seq rfl O.len PySem.boot_len (pa_cons (pv 3) pa_nil)) pe_int (nomark _)) (pw_or1 (pt_cmpR op_ne (pe_ix ix_tup (pe_ix ix_tup (pv 3) pe_int (fun _ _ => rfl)) pe_int (fun _ _ => rfl)) (pv 0) (nomark _)))))
      (pss_one (ps_ret (pe_tup (pa_cons (pv 0) (pa_cons (pv 1) (pa_cons (pv 2) pa_nil)))))) pss_nil)
    (pss_cons (ps_set (i := 5) scSender.nd rfl (Or.inl rfl) (pe_op op_mod (pe_op op_add (pv 0) pe_int) (pv 4)))
    (pss_cons (ps_if (PW.pt (pw_and (pt_cmpR op_eq (pv 1) pe_int (nomark _)) (pw_and1 (pt_cmpR op_eq (pe_ix ix_tup (pe_ix ix_tup (pv 3) pe_int (fun _ _ => rfl)) pe_int (fun _ _ => rfl)) pe_int (nomark _)))))
      (pss_one (ps_ret (pe_tup (pa_cons (pv 5) (pa_cons pe_int (pa_cons pe_non pa_nil)))))) pss_nil)
    (pss_one (ps_ret (pe_tup (pa_cons (pv 5) (pa_cons (pe_ifExp (pt_cmpR op_isN (pv 2) pe_non (nomark _)) pe_int pe_int) (pa_cons (pv 2) pa_nil)))))))), ?_⟩
  refine ⟨_, rfl, E, _, rfl, .inr (SqT.of hE), rfl, _, rfl, ?_⟩
  match as, r, hp with
  | _, _, .nil =>
    refine itT rfl (itT rfl ?_)
    refine ⟨_, rfl, _, rfl, _, rfl, three, fun p hp => ?_⟩
    exact q p _ (same_new hp _) upd_same
  | a :: as, e :: r, .cons h1 h2 =>
    obtain ⟨t, et⟩ := hs e (List.mem_cons_self ..)
    obtain ⟨em, ex⟩ := e
    cases (show ex = some t from et)
    refine itF (decide_eq_false fun z => ?_) ?_
    · have z := V.int.inj z
      rw [List.length_map, List.length_cons] at z
      omega
    refine ⟨_, rfl, E, _, _, _, rfl, rfl, SqT.of hE, atI_nat (j := 0) rfl, a, _, _, _, rfl, rfl, SqT.of h1, atI_nat (j := 0) rfl, _, rfl, rfl, _, rfl, ?_⟩
    have q2 : ∀ p H', Same H H' → H' p = some (.tup (triV (if em = m then (if b = 1 ∧ some t = some 1 then ((m + 1) % n, 0, none) else ((m + 1) % n, (if o = none then 0 else 1), o)) else (m, b, o)))) → Q (.ref p) H' := q
    refine itNe (fun c => ?_) (fun c => ?_)
    · rw [if_neg c] at q2
      exact ⟨_, rfl, _, rfl, _, rfl, three, fun p hp => q2 p _ (same_new hp _) upd_same⟩
    · rw [if_pos c] at q2
      refine ⟨_, rfl, _, _, rfl, rfl, _, rfl, _, _, rfl, rfl, hn, ?_⟩
      refine ⟨_, rfl, rfl, _, rfl, itEq (fun b1 => ?_) (fun b1 => ?_)⟩
      · refine ⟨_, rfl, E, _, _, _, rfl, rfl, SqT.of hE, atI_nat (j := 0) rfl, a, _, _, _, rfl, rfl, SqT.of h1, atI_nat (j := 1) rfl, rfl, _, rfl, itEq (fun t1 => ?_) (fun t1 => ?_)⟩
        · rw [if_pos ⟨b1, by rw [t1]⟩] at q2
          exact ⟨_, rfl, three, fun p hp => q2 p _ (same_new hp _) upd_same⟩
        · rw [if_neg (fun z => t1 (Option.some.inj z.2))] at q2
          refine ⟨_, rfl, _, rfl, rfl, _, rfl, itO (fun o1 => ?_) (fun o1 => ?_)⟩
          · rw [if_pos o1] at q2
            exact ⟨_, rfl, three, fun p hp => q2 p _ (same_new hp _) upd_same⟩
          · rw [if_neg o1] at q2
            exact ⟨_, rfl, three, fun p hp => q2 p _ (same_new hp _) upd_same⟩
      · rw [if_neg (fun z => b1 z.1)] at q2
        refine itF rfl ?_
        refine ⟨_, rfl, _, rfl, rfl, _, rfl, itO (fun o1 => ?_) (fun o1 => ?_)⟩
        · rw [if_pos o1] at q2
          exact ⟨_, rfl, three, fun p hp => q2 p _ (same_new hp _) upd_same⟩
        · rw [if_neg o1] at q2
          exact ⟨_, rfl, three, fun p hp => q2 p _ (same_new hp _) upd_same⟩
theorem ok_taker (O : Own mg) (F : Fun K "taker_behind" "taker_behind" sTaker f fd) : FnOk P w K mg base CX0 1 f fd ["last", "took", "box", "letters"] spTaker := by
  refine F.ok scTaker (fun vs H Q E h => ?_) (fun cdv A outer s H vs Q E hr h => ?_)
  · obtain ⟨l, t, o, L, r, rfl, _⟩ := h
    rfl
  obtain ⟨l, t, o, L, r, rfl, ⟨as, hL, hp⟩, hz, q⟩ := h
  refine ⟨_, pss_cons (ps_if (PW.pt (pw_or (pt_cmpR op_eq (pe_callB call_len_seq rfl O.len PySem.boot_len (pa_cons (pv 3) pa_nil)) pe_int (nomark _)) (pw_or1 (pt_cmpR op_eq (pe_ix ix_tup (pe_ix ix_tup (pv 3) pe_int (fun _ _ => rfl)) pe_int (fun _ _ => rfl)) (pv 0) (nomark _)))))
      (pss_one (ps_ret (pe_tup (pa_cons (pv 0) (pa_cons (pv 1) (pa_cons (pv 2) pa_nil)))))) pss_nil)
    (pss_cons (ps_asg (pe_ix ix_tup (pv 3) pe_int (fun _ _ => rfl)) (pg_tup rfl (pgs_cons (pg_name (i := 4) scTaker.nd rfl (Or.inl rfl)) (pgs_cons (pg_name (i := 5) scTaker.nd rfl (Or.inl rfl)) pgs_nil))))
    (pss_cons (ps_if (PW.pt (pw_and (pt_cmpR op_notN (pv 5) pe_non (nomark _)) (pw_and1 (pt_cmpR op_isN (pv 2) pe_non (nomark _)))))
      (pss_one (ps_ret (pe_tup (pa_cons (pv 4) (pa_cons pe_int (pa_cons (pv 5) pa_nil)))))) pss_nil)
    (pss_one (ps_ret (pe_tup (pa_cons (pv 4) (pa_cons pe_int (pa_cons (pv 2) pa_nil)))))))), ?_⟩
  refine ⟨_, rfl, L, _, rfl, .inr (SqT.of hL), rfl, _, rfl, ?_⟩
  match as, r, hp with
  | _, _, .nil =>
    refine itT rfl (itT rfl ?_)
    refine ⟨_, rfl, _, rfl, _, rfl, three, fun p hp => ?_⟩
    exact q p _ (same_new hp _) upd_same
  | a :: as, (em, ex) :: r, .cons h1 h2 =>
    refine itF (decide_eq_false fun z => ?_) ?_
    · have z := V.int.inj z
      rw [List.length_map, List.length_cons] at z
      omega
    refine ⟨_, rfl, L, _, _, _, rfl, rfl, SqT.of hL, atI_nat (j := 0) rfl, a, _, _, _, rfl, rfl, SqT.of h1, atI_nat (j := 0) rfl, _, rfl, rfl, _, rfl, ?_⟩
    have q2 : ∀ p H', Same H H' → H' p = some (.tup (triV (if em = l then (l, t, o) else if ex ≠ none ∧ o = none then (em, 1, ex) else (em, 0, o)))) → Q (.ref p) H' := q
    refine itEq (fun c => ?_) (fun c => ?_)
    · rw [if_pos c] at q2
      exact ⟨_, rfl, _, rfl, _, rfl, three, fun p hp => q2 p _ (same_new hp _) upd_same⟩
    · rw [if_neg c] at q2
      refine ⟨_, rfl, L, _, _, _, rfl, rfl, SqT.of hL, atI_nat (j := 0) rfl, a, _, rfl, SqT.of h1, rfl, _, _, rfl, _, _, rfl, rfl, ?_⟩
      refine ⟨_, rfl, rfl, _, rfl, itS (fun x1 => ?_) (fun x1 => ?_)⟩
      · refine ⟨_, rfl, rfl, _, rfl, itO (fun o1 => ?_) (fun o1 => ?_)⟩
        · rw [if_pos ⟨x1, o1⟩] at q2
          exact ⟨_, rfl, _, rfl, three, fun p hp => q2 p _ (same_new hp _) upd_same⟩
        · rw [if_neg (fun z => o1 z.2)] at q2
          exact ⟨_, rfl, _, rfl, three, fun p hp => q2 p _ (same_new hp _) upd_same⟩
      · rw [if_neg (fun z => z.1 x1)] at q2
        exact itF rfl ⟨_, rfl, _, rfl, three, fun p hp => q2 p _ (same_new hp _) upd_same⟩
theorem RowAt.one {H H' : Hp} {p b : Addr} {r : Row} (h : RowAt H b r) (s : Same H H') (hp : H' p = H' b) : RowAt H' p r := by
  obtain ⟨as, h1, h2⟩ := h
  exact ⟨as, by rw [hp]; exact s _ _ h1, paired_imp (fun _ _ z => s _ _ z) h2⟩
theorem paired_drop {α β : Type} {R : α → β → Prop} : ∀ {l : List α} {m : List β} (k : Nat), Paired R l m → Paired R (l.drop k) (m.drop k)
  | _, _, 0, h => h
  | _, _, _ + 1, .nil => .nil
  | _, _, k + 1, .cons _ t => paired_drop k t
theorem paired_app {α β : Type} {R : α → β → Prop} {l' : List α} {m' : List β} (h : Paired R l' m') : ∀ {l : List α} {m : List β}, Paired R l m → Paired R (l ++ l') (m ++ m')
  | _, _, .nil => h
  | _, _, .cons a t => .cons a (paired_app h t)
theorem paired_len {α β : Type} {R : α → β → Prop} : ∀ {l : List α} {m : List β}, Paired R l m → l.length = m.length
  | _, _, .nil => rfl
  | _, _, .cons _ t => by rw [List.length_cons, List.length_cons, paired_len t]
theorem ok_rowb (F : Fun K "row_behind" "row_behind" sRowB f fd) : FnOk P w K mg base CX0 1 f fd ["row", "sent", "is_lost"] spRowB := by
  refine F.ok scRowB (fun vs H Q E h => ?_) (fun cdv A outer s H vs Q E hr h => ?_)
  · obtain ⟨a, b, r, s, l, rfl, _⟩ := h
    rfl
  obtain ⟨a, b, r, s', l, rfl, ⟨as, ha, hp⟩, ⟨bs, hb, hq⟩, hz, hz2, q⟩ := h
  refine ⟨_, pss_one (ps_ret (pe_ifExp (pt_val (pv 2)) (pe_slice sl_tupA (pv 0) (po_some pe_int) po_none) (pe_op op_catA (pe_slice sl_tupA (pv 0) (po_some pe_int) po_none) (pv 1)))), ?_⟩
  have hl := paired_len hp
  have hl2 := paired_len hq
  have rest : ∀ Q' : VK, (∀ p H', Same H H' → H' p = some (.tup ((as.drop 1).map V.ref)) → Q' (.ref p) H') → rSlA K (.ref a) (some 1) none H Q' := fun Q' q' => by
    have e : cutV (as.map V.ref) (some 1) none = (as.drop 1).map V.ref := by rw [show (1 : Int) = ((1 : Nat) : Int) from rfl, cut_from, List.map_drop]
    refine ⟨a, _, rfl, SqT.of ha, fun c => ?_, fun c p hp => ?_⟩
    · have c1 := c.1
      rw [show (1 : Int) = ((1 : Nat) : Int) from rfl, HT.sIx_nat, List.length_map] at c1
      have : as = [] := List.eq_nil_of_length_eq_zero (by omega)
      subst this
      exact q' a H same_refl ha
    · refine q' p _ (same_new hp _) ?_
      rw [upd_same, e]
  have row : ∀ p H' (zs : List Addr) (z : Row), Same H H' → H' p = some (.tup (zs.map V.ref)) → Paired (fun a p => H a = some (.tup (pairV p))) zs z → RowAt H' p z := fun p H' zs z s1 e1 pz => ⟨zs, e1, paired_imp (fun _ _ z => s1 _ _ z) pz⟩
  refine ⟨_, rfl, l, rfl, ?_⟩
  cases l with
  | true =>
    refine itT rfl ⟨_, rfl, _, rfl, ?_⟩
    refine rest _ fun p H1 s1 e1 => q p H1 s1 ?_
    rw [if_pos rfl, List.append_nil]
    exact row p H1 _ _ s1 e1 (paired_drop 1 hp)
  | false =>
    rw [if_neg (by decide)] at q
    refine itF rfl ⟨_, rfl, _, rfl, ?_⟩
    refine rest (fun x H1 => tVar 1 (L2.start ["row", "sent", "is_lost"] [.ref a, .ref b, .bl false]) H1 fun y H2 => rCatA K x y H2 Q) fun p H1 s1 e1 => ?_
    refine ⟨_, rfl, p, b, _, _, rfl, rfl, SqT.of e1, SqT.of (s1 _ _ hb), twoK (by rw [List.length_map, List.length_drop]; omega) (by rw [List.length_map]; omega), fun c => ?_, fun _ c => ?_, fun _ _ p2 hp2 => ?_⟩
    · have c2 : as.drop 1 = [] := List.map_eq_nil_iff.mp c
      have pz := paired_drop 1 hp
      rw [c2] at pz
      refine q b H1 s1 (row b H1 bs _ s1 (s1 _ _ hb) ?_)
      have : r.drop 1 = [] := List.eq_nil_of_length_eq_zero (paired_len pz).symm
      rw [this]
      exact hq
    · have c2 : bs = [] := List.map_eq_nil_iff.mp c
      subst c2
      have : s' = [] := List.eq_nil_of_length_eq_zero hl2.symm
      subst this
      refine q p H1 s1 ?_
      rw [List.append_nil]
      exact row p H1 _ _ s1 e1 (paired_drop 1 hp)
    · refine q p2 _ (s1.trans (same_new hp2 _)) (row p2 _ (as.drop 1 ++ bs) _ (s1.trans (same_new hp2 _)) ?_ (paired_app hq (paired_drop 1 hp)))
      rw [upd_same, List.map_append]
end
end Any
namespace Any
open L2 PySem PySem.Spec PyProof.Rows
abbrev sInit : Stmt := inClass (top 16) 0
abbrev sBeat : Stmt := inClass (top 16) 1
abbrev sSide : Stmt := inClass (top 16) 2
abbrev sGoneB : Stmt := inClass (top 16) 3
abbrev sStore : Stmt := inClass (top 16) 4
abbrev sIsWord : Stmt := top 21
theorem scSide : FnScope ["self", "lost", "letters", "echoes"] ["self", "lost"] (defScope sSide) := ⟨rfl, rfl, rfl, by decide +kernel, rfl, by decide +kernel, by decide +kernel⟩
theorem scGoneB : FnScope ["self", "lost", "letters", "echoes"] ["self", "lost"] (defScope sGoneB) := ⟨rfl, rfl, rfl, by decide +kernel, rfl, by decide +kernel, by decide +kernel⟩
theorem scStore : FnScope ["self"] ["self"] (defScope sStore) := ⟨rfl, rfl, rfl, by decide +kernel, rfl, by decide +kernel, by decide +kernel⟩
theorem scIsWord : FnScope ["thing", "bound"] ["thing", "bound"] (defScope sIsWord) := ⟨rfl, rfl, rfl, by decide +kernel, rfl, by decide +kernel, by decide +kernel⟩
/-- how many were lost last, behind a beat -/
def goneB (s : Sto) (g : Int × Int) (l : Bool × Bool) : Int × Int := (if l.1 = true then g.1 + 1 else 0, if s.letters = [] then g.2 else if l.2 = true then g.2 + 1 else 0)
def LostAt (K : PySem.W.Frag) (H : Hp) (a : Addr) (l : Bool × Bool) : Prop := SqT K H a [.bl l.1, .bl l.2]
theorem LostAt.keep {K : PySem.W.Frag} {H H' : Hp} {a : Addr} {l : Bool × Bool} (s : Same H H') (h : LostAt K H a l) : LostAt K H' a l := by
  rcases h with (h | ⟨o, h⟩) | h
  · exact .inl (.inl (s _ _ h))
  · exact .inl (.inr ⟨o, s _ _ h⟩)
  · exact .inr h
def spGoneB (K : PySem.W.Frag) (C : Addr) : Sp := fun vs H Q _ => ∃ (x a : Addr) (n : Num) (s : Sto) (g : Int × Int) (l : Bool × Bool), vs = [.ref x, .ref a] ∧ WayAt C H x n s g ∧ s.letters.length ≤ 1000 ∧ LostAt K H a l ∧
  ∀ p H', H p = none → Same H H' → H' p = some (.tup [.int (goneB s g l).1, .int (goneB s g l).2]) → Q (.ref p) H'
def sideB (s : Sto) (g : Int × Int) (l : Bool × Bool) (miss : Int) : Str := if (goneB s g l).1 ≥ miss then "letters" else if (goneB s g l).2 ≥ miss then "echoes" else ""
def spSide (K : PySem.W.Frag) (C : Addr) : Sp := fun vs H Q _ => ∃ (x a : Addr) (n : Num) (s : Sto) (g : Int × Int) (l : Bool × Bool), vs = [.ref x, .ref a] ∧ WayAt C H x n s g ∧ s.letters.length ≤ 1000 ∧ LostAt K H a l ∧
  ∀ H', Same H H' → Q (.str (sideB s g l n.miss)) H'
def spIsWord : Sp := fun vs H Q _ => ∃ i b : Int, vs = [.int i, .int b] ∧ Q (.bl (decide (0 ≤ i) && decide (i ≤ b - 1))) H
section
variable {P : Program} {w : World} {K : PySem.W.Frag} {mg : Str → Option Value} {base : Heap} {f C : Addr} {fd : FuncData}
theorem ok_isword (F : Fun K "is_word" "is_word" sIsWord f fd) (G : Df P w K mg base 2 "is_within" ["thing", "least", "most"] spWithin) : FnOk P w K mg base CX0 3 f fd ["thing", "bound"] spIsWord := by
  refine F.ok scIsWord (fun vs H Q E h => ?_) (fun cdv A outer s H vs Q E hr h => ?_)
  · obtain ⟨i, b, rfl, _⟩ := h
    rfl
  obtain ⟨i, b, rfl, q⟩ := h
  exact ⟨_, pss_one (ps_ret (pe_D G hr rfl (pa_cons (pv 0) (pa_cons pe_int (pa_cons (pe_op op_sub (pv 1) pe_int) pa_nil))))), _, rfl, _, rfl, _, _, rfl, rfl, i, 0, b - 1, rfl, q⟩
theorem ok_goneb (O : Own mg) (T : WayC K C) (F : Fun K "gone_behind" "Way.gone_behind" sGoneB f fd) : FnOk P w K mg base CX0 1 f fd ["self", "lost"] (spGoneB K C) := by
  refine F.ok scGoneB (fun vs H Q E h => ?_) (fun cdv A outer s H vs Q E hr h => ?_)
  · obtain ⟨x, a, n, s, g, l, rfl, _⟩ := h
    rfl
  obtain ⟨x, a, n, st, ⟨g0, g1⟩, ⟨l0, l1⟩, rfl, ⟨dx, k, ga, hx, ⟨L, E, hk, ⟨as, hL, hp⟩, hE⟩, hg⟩, hz, hl, q⟩ := h
  refine ⟨_, pss_cons (ps_asg (pe_fld (pv 0) rfl) (pg_tup rfl (pgs_cons (pg_name (i := 2) scGoneB.nd rfl (Or.inl rfl)) (pgs_cons (pg_name (i := 3) scGoneB.nd rfl (Or.inl rfl)) pgs_nil))))
    (pss_cons (ps_set (i := 2) scGoneB.nd rfl (Or.inl rfl) (pe_ifExp (pt_val (pe_ix ix_tup (pv 1) pe_int (fun _ _ => rfl))) (pe_op op_add (pv 2) pe_int) pe_int))
    (pss_cons (ps_if (pt_cmpR op_gt (pe_callB call_len_seq rfl O.len PySem.boot_len (pa_cons (pe_ix ix_tup (pe_fld (pv 0) rfl) pe_int (fun _ _ => rfl)) pa_nil)) pe_int (nomark _))
      (pss_one (ps_set (i := 3) scGoneB.nd rfl (Or.inl rfl) (pe_ifExp (pt_val (pe_ix ix_tup (pv 1) pe_int (fun _ _ => rfl))) (pe_op op_add (pv 3) pe_int) pe_int))) pss_nil)
    (pss_one (ps_ret (pe_tup (pa_cons (pv 2) (pa_cons (pv 3) pa_nil))))))), ?_⟩
  refine ⟨_, rfl, x, C, dx, _, _, rfl, hx, T.cl, T.n5, wf_gone, ga, _, rfl, SqT.of hg, rfl, _, _, rfl, _, _, rfl, rfl, ?_⟩
  refine ⟨_, rfl, a, _, _, _, rfl, rfl, hl, atI_nat (j := 0) rfl, l0, rfl, ?_⟩
  have hlen : (as.map V.ref).length = st.letters.length := by rw [List.length_map]; exact paired_len hp
  have q2 : ∀ p H', H p = none → Same H H' → H' p = some (.tup [.int (if l0 = true then g0 + 1 else 0), .int (if st.letters = [] then g1 else if l1 = true then g1 + 1 else 0)]) → Q (.ref p) H' := q
  have second : ∀ v : Int, v = (if l0 = true then g0 + 1 else 0) → ∀ e : Int, e = (if st.letters = [] then g1 else if l1 = true then g1 + 1 else 0) → ∀ p, H p = none → Q (.ref p) (upd H p (.tup [.int v, .int e])) := fun v hv e he p hp => q2 p _ hp (same_new hp _) (by rw [upd_same, hv, he])
  cases l0 with
  | true =>
    refine itT rfl ⟨_, rfl, _, _, rfl, rfl, ?_⟩
    refine ⟨_, rfl, x, C, dx, _, _, rfl, hx, T.cl, T.n4, wf_kept, k, _, _, _, rfl, rfl, SqT.of hk, atI_nat (j := 3) rfl, L, _, rfl, .inr (SqT.of hL), _, _, rfl, rfl, _, rfl, itD (fun c => ?_) (fun c => ?_)⟩
    · have c' : st.letters ≠ [] := fun z => by
        rw [hlen, z] at c
        exact absurd c (by decide)
      refine ⟨_, rfl, a, _, _, _, rfl, rfl, hl, atI_nat (j := 1) rfl, l1, rfl, ?_⟩
      cases l1 with
      | true => exact itT rfl ⟨_, rfl, _, _, rfl, rfl, _, rfl, _, rfl, two, second _ rfl _ (by rw [if_neg c']; rfl)⟩
      | false => exact itF rfl ⟨_, rfl, _, rfl, two, second _ rfl _ (by rw [if_neg c']; rfl)⟩
    · have c' : st.letters = [] := List.eq_nil_of_length_eq_zero (by rw [hlen] at c; omega)
      exact ⟨_, rfl, _, rfl, two, second _ rfl _ (by rw [if_pos c'])⟩
  | false =>
    refine itF rfl ?_
    refine ⟨_, rfl, x, C, dx, _, _, rfl, hx, T.cl, T.n4, wf_kept, k, _, _, _, rfl, rfl, SqT.of hk, atI_nat (j := 3) rfl, L, _, rfl, .inr (SqT.of hL), _, _, rfl, rfl, _, rfl, itD (fun c => ?_) (fun c => ?_)⟩
    · have c' : st.letters ≠ [] := fun z => by
        rw [hlen, z] at c
        exact absurd c (by decide)
      refine ⟨_, rfl, a, _, _, _, rfl, rfl, hl, atI_nat (j := 1) rfl, l1, rfl, ?_⟩
      cases l1 with
      | true => exact itT rfl ⟨_, rfl, _, _, rfl, rfl, _, rfl, _, rfl, two, second _ rfl _ (by rw [if_neg c']; rfl)⟩
      | false => exact itF rfl ⟨_, rfl, _, rfl, two, second _ rfl _ (by rw [if_neg c']; rfl)⟩
    · have c' : st.letters = [] := List.eq_nil_of_length_eq_zero (by rw [hlen] at c; omega)
      exact ⟨_, rfl, _, rfl, two, second _ rfl _ (by rw [if_pos c'])⟩
theorem ok_side (T : WayC K C) (F : Fun K "side_lost" "Way.side_lost" sSide f fd) (G : Mf P w K mg base C 1 "gone_behind" ["self", "lost"] (spGoneB K C)) : FnOk P w K mg base CX0 2 f fd ["self", "lost"] (spSide K C) := by
  refine F.ok scSide (fun vs H Q E h => ?_) (fun cdv A outer s H vs Q E hr h => ?_)
  · obtain ⟨x, a, n, s, g, l, rfl, _⟩ := h
    rfl
  obtain ⟨x, a, n, st, g, l, rfl, hW, hz, hl, q⟩ := h
  obtain ⟨dx, k, ga, hx, hS, hg⟩ := id hW
  refine ⟨_, pss_cons (ps_asg (pe_M G T.cl (pv 0) hr (pa_cons (pv 1) pa_nil)) (pg_tup rfl (pgs_cons (pg_name (i := 2) scSide.nd rfl (Or.inl rfl)) (pgs_cons (pg_name (i := 3) scSide.nd rfl (Or.inl rfl)) pgs_nil))))
    (pss_cons (ps_if (pt_cmpR op_ge (pv 2) (pe_fld (pv 0) rfl) (nomark _)) (pss_one (ps_ret pe_str)) pss_nil)
    (pss_one (ps_ret (pe_ifExp (pt_cmpR op_ge (pv 3) (pe_fld (pv 0) rfl) (nomark _)) pe_str pe_str)))), ?_⟩
  refine ⟨_, rfl, x, dx, _, rfl, hx, wf_none (by decide +kernel), _, rfl, x, a, n, st, g, l, rfl, hW, hz, hl, fun p H1 _ s1 e1 => ?_⟩
  have hx1 := s1 _ _ hx
  have q2 : ∀ H', Same H H' → Q (.str (if (goneB st g l).1 ≥ n.miss then "letters" else if (goneB st g l).2 ≥ n.miss then "echoes" else "")) H' := q
  refine ⟨p, _, rfl, SqT.of e1, rfl, _, _, rfl, _, _, rfl, rfl, ?_⟩
  refine ⟨_, rfl, _, rfl, x, C, dx, _, _, rfl, hx1, T.cl, T.n2, wf_miss, _, _, rfl, rfl, _, rfl, itD (fun c => ?_) (fun c => ?_)⟩
  · rw [if_pos c] at q2
    exact q2 _ s1
  · rw [if_neg c] at q2
    refine ⟨_, rfl, _, rfl, x, C, dx, _, _, rfl, hx1, T.cl, T.n2, wf_miss, _, _, rfl, rfl, _, rfl, itD (fun c => ?_) (fun c => ?_)⟩
    · rw [if_pos c] at q2
      exact q2 _ s1
    · rw [if_neg c] at q2
      exact q2 _ s1
end
end Any
namespace Any
open L2 PySem PySem.Spec PyProof.Rows
abbrev nmBeat : List Str := ["self", "word", "taking", "lost", "side", "mark", "bears", "slot", "letters", "last", "took", "box", "echoes", "letter", "sender", "taker", "echo"]
abbrev psBeat : List Str := ["self", "word", "taking", "lost"]
theorem scBeat : FnScope nmBeat psBeat (defScope sBeat) := ⟨rfl, rfl, rfl, by decide +kernel, rfl, by decide +kernel, by decide +kernel⟩
/-- a store of a way, with few letters and echoes -/
structure StoOk (n : Num) (s : Sto) : Prop where
  m0 : 0 ≤ s.mark
  m1 : s.mark ≤ 2 * n.hold
  b : s.bears = 0 ∨ s.bears = 1
  slot : ∀ i, s.slot = some i → 0 ≤ i ∧ i < n.bound
  let0 : (s.letters.length : Int) ≤ n.hold
  lets : ∀ e ∈ s.letters, 0 ≤ e.1 ∧ e.1 ≤ 2 * n.hold ∧ ∀ i, e.2 = some i → 0 ≤ i ∧ i < n.bound
  l0 : 0 ≤ s.last
  l1 : s.last ≤ 2 * n.hold
  t : s.took = 0 ∨ s.took = 1
  box : ∀ i, s.box = some i → 0 ≤ i ∧ i < n.bound
  ech0 : (s.echoes.length : Int) ≤ n.hold
  echs : ∀ e ∈ s.echoes, 0 ≤ e.1 ∧ e.1 ≤ 2 * n.hold ∧ (e.2 = some 0 ∨ e.2 = some 1)
/-- what is done to a way at a beat -/
structure Deed where
  word : Option Int
  taking : Bool
  lost : Bool × Bool
def letterB (s : Sto) : Int × Option Int := (s.mark, if s.bears = 1 then s.slot else none)
def echoB (s : Sto) : Row := if s.letters = [] then [] else [((takerB s.last s.took s.box s.letters).1, some (takerB s.last s.took s.box s.letters).2.1)]
/-- the store behind a beat -/
def beatB (n : Num) (s : Sto) (d : Deed) : Sto where
  mark := (senderB s.mark s.bears s.slot (2 * n.hold + 1) s.echoes).1
  bears := (senderB s.mark s.bears s.slot (2 * n.hold + 1) s.echoes).2.1
  slot := if d.word ≠ none ∧ s.slot = none then d.word else (senderB s.mark s.bears s.slot (2 * n.hold + 1) s.echoes).2.2
  letters := s.letters.drop 1 ++ (if d.lost.1 = true then [] else [letterB s])
  last := (takerB s.last s.took s.box s.letters).1
  took := (takerB s.last s.took s.box s.letters).2.1
  box := if d.taking = true ∧ s.box ≠ none then none else (takerB s.last s.took s.box s.letters).2.2
  echoes := s.echoes.drop 1 ++ (if d.lost.2 = true then [] else echoB s)
/-- what is told of it -/
def toldB (s : Sto) (d : Deed) : List V := [if d.word = none then .non else .bl (decide (s.slot = none)), if d.taking = true then ov s.box else .non]
def spBeat (K : PySem.W.Frag) (C : Addr) : Sp := fun vs H Q _ => ∃ (x a : Addr) (n : Num) (s : Sto) (g : Int × Int) (d : Deed), vs = [.ref x, ov d.word, .bl d.taking, .ref a] ∧ WayAt C H x n s g ∧ NumOk n ∧ StoOk n s ∧ LostAt K H a d.lost ∧
  (∀ i, d.word = some i → 0 ≤ i ∧ i < n.bound) ∧ (goneB s g d.lost).1 < n.miss ∧ (goneB s g d.lost).2 < n.miss ∧
  ∀ p H', Kept x H H' → WayAt C H' x n (beatB n s d) (goneB s g d.lost) → H p = none → H' p = some (.tup (toldB s d)) → Q (.ref p) H'
theorem eight : 8 ≤ sizeLine := by decide
theorem one_ : 1 ≤ sizeLine := by decide
section
variable {P : Program} {w : World} {K : PySem.W.Frag} {mg : Str → Option Value} {base : Heap} {f C : Addr} {fd : FuncData}
theorem Kept.free {x : Addr} {H H' : Hp} {o : HO} (k : Kept x H H') (hx : H' x = some o) {p : Addr} (h : H' p = none) : H p = none := by
  cases z : H p with
  | none => rfl
  | some u =>
    have ne : p ≠ x := fun e => by rw [e, hx] at h; cases h
    rw [k p u ne z] at h
    cases h
set_option maxHeartbeats 2000000 in
theorem ok_beat (O : Own mg) (T : WayC K C) {kws : List (Str × V)} (F : FunD K "beat" "Way.beat" (defArgs sBeat) (defBody sBeat) (defScope sBeat) [] kws f fd) (D1 : Df P w K mg base 3 "is_word" ["thing", "bound"] spIsWord) (D2 : Mf P w K mg base C 2 "side_lost" ["self", "lost"] (spSide K C))
    (D3 : Df P w K mg base 1 "sender_behind" ["mark", "bears", "slot", "echoes", "many"] spSender) (D4 : Df P w K mg base 1 "marks" ["hold"] spMarks) (D5 : Df P w K mg base 1 "taker_behind" ["last", "took", "box", "letters"] spTaker)
    (D6 : Df P w K mg base 1 "put" ["numbers", "at", "number"] spPut) (D7 : Mf P w K mg base C 1 "gone_behind" ["self", "lost"] (spGoneB K C)) (D8 : Df P w K mg base 1 "row_behind" ["row", "sent", "is_lost"] spRowB) :
    FnOk P w K mg base CX0 4 f fd psBeat (spBeat K C) := by
  refine F.ok scBeat (fun vs H Q E h => ?_) (fun cdv A outer s H vs Q E hr h => ?_)
  · obtain ⟨x, a, n, s, g, d, rfl, _⟩ := h
    rfl
  obtain ⟨x, a, n, st, g, d, rfl, hW, hN, hS, hl, hw, g0, g1, q⟩ := h
  obtain ⟨dx, k, ga, hx, ⟨L, Ec, hk, hL, hE⟩, hg⟩ := id hW
  have hr1 := hr.mono (show 1 ≤ 3 by decide)
  have hh := hN.h1
  have zl : st.letters.length ≤ 1000 := by have := hS.let0; omega
  have ze : st.echoes.length ≤ 1000 := by have := hS.ech0; omega
  have zec : (echoB st).length ≤ 1000 := by unfold echoB; split <;> simp
  let X := (cxOf CX0 P w K mg base nmBeat "Way.beat" (defScope sBeat) f cdv A outer s H E).nox
  let slots (p13 p14 p15 p16 : Addr) : L2.St := [some (.ref x), some (ov d.word), some (.bl d.taking), some (.ref a), some (.str ""), some (.int st.mark), some (.int st.bears), some (ov st.slot), some (.ref L), some (.int st.last), some (.int st.took), some (ov st.box), some (.ref Ec), some (.ref p13), some (.ref p14), some (.ref p15), some (.ref p16)]
  -- the end: what was lost, the store, what is told
  obtain ⟨tC, hC, leafC⟩ : ∃ t, PSs X ((defBody sBeat).drop 10) t ∧ ∀ (p13 p14 p15 p16 : Addr) (H1 : Hp), Same H H1 → H1 p13 = some (.tup (pairV (letterB st))) →
      H1 p14 = some (.tup [.int (beatB n st d).mark, .int (beatB n st d).bears, ov (beatB n st d).slot]) → H1 p15 = some (.tup [.int (beatB n st d).last, .int (beatB n st d).took, ov (beatB n st d).box]) → RowAt H1 p16 (echoB st) →
      t { nx := fun _ H' => Q .non H', rt := Q } (slots p13 p14 p15 p16) H1 := by
    refine ⟨_, (pss_cons (ps_fld (pv 0) (pe_M D7 T.cl (pv 0) hr1 (pa_cons (pv 3) pa_nil)) rfl)
      (pss_cons (ps_fld (pv 0) (pe_tup (StX.pa_star (pv 14) (pa_cons (pe_D D8 hr1 rfl (pa_cons (pv 8) (pa_cons (pe_tup (pa_cons (pv 13) pa_nil)) (pa_cons (pe_ix ix_tup (pv 3) pe_int (fun _ _ => rfl)) pa_nil))))
        (StX.pa_star (pv 15) (pa_cons (pe_D D8 hr1 rfl (pa_cons (pv 12) (pa_cons (pv 16) (pa_cons (pe_ix ix_tup (pv 3) pe_int (fun _ _ => rfl)) pa_nil)))) pa_nil))))) rfl)
      (pss_one (ps_ret (pe_tup (pa_cons (pe_ifExp (pt_cmpR op_isN (pv 1) pe_non (nomark _)) pe_non (pe_cmpR op_isN (pv 7) pe_non (nomark _))) (pa_cons (pe_ifExp (pt_val (pv 2)) (pv 11) pe_non) pa_nil))))))), ?_⟩
    intro p13 p14 p15 p16 H1 s1 e13 e14 e15 r16
    refine ⟨_, rfl, x, dx, _, rfl, s1 _ _ hx, wf_none (by decide +kernel), _, rfl, x, a, n, st, g, d.lost, rfl, hW.keep s1, zl, hl.keep s1, fun p2 H2 np2 s2 e2 => ?_⟩
    have s2' := s1.trans s2
    refine ⟨_, rfl, x, C, dx, _, rfl, s2' _ _ hx, T.cl, T.n5, (by show 5 < 1000; decide), ?_⟩
    rw [wf_putG]
    have kX : Tups H2 (upd H2 x (.ins C dx (wayF n k p2))) := fun b xs h => by rw [upd_ne (ne_of h (s2' _ _ hx) (by intro z; cases z))]; exact h
    have kA : Kept x H (upd H2 x (.ins C dx (wayF n k p2))) := (Kept.of s2').trans (Kept.put _)
    have eX : upd H2 x (.ins C dx (wayF n k p2)) x = some (.ins C dx (wayF n k p2)) := upd_same
    have t1 : Tups H1 (upd H2 x (.ins C dx (wayF n k p2))) := (Same.tups s2).trans kX
    have t0 : Tups H (upd H2 x (.ins C dx (wayF n k p2))) := (Same.tups s1).trans t1
    have e2 := kX _ _ e2
    have lo : ∀ {H9 : Hp}, Kept x H H9 → LostAt K H9 a d.lost := fun kp => by
      rcases hl with (h | ⟨o, h⟩) | h
      · exact .inl (.inl (kp _ _ (ne_of h hx (by intro z; cases z)) h))
      · exact .inl (.inr ⟨o, kp _ _ (ne_of h hx (by intro z; cases z)) h⟩)
      · exact .inr h
    generalize upd H2 x (.ins C dx (wayF n k p2)) = H3 at *
    refine ⟨_, rfl, p14, _, rfl, .inl (SqT.of (t1 _ _ e14)), ?_⟩
    refine ⟨_, rfl, _, rfl, one_, fun p3 hp3 => ?_⟩
    have s3 := same_new hp3 (.tup [.ref p13])
    have r3 : RowAt (upd H3 p3 (.tup [.ref p13])) p3 [letterB st] := ⟨[p13], upd_same, .cons (s3 _ _ (t1 _ _ e13)) .nil⟩
    have k3 : Kept x H (upd H3 p3 (.tup [.ref p13])) := kA.trans (.of s3)
    refine ⟨_, rfl, a, _, _, _, rfl, rfl, lo k3, atI_nat (j := 0) rfl, L, p3, st.letters, [letterB st], d.lost.1, rfl, hL.keep (t0.trans (Same.tups s3)), r3, zl, (by simp), fun p4 H4 s4 r4 => ?_⟩
    have s4 := s3.trans s4
    refine ⟨_, rfl, p15, _, rfl, .inl (SqT.of (s4 _ _ (t1 _ _ e15))), ?_⟩
    refine ⟨_, rfl, _, rfl, _, rfl, a, _, _, _, rfl, rfl, lo (kA.trans (.of s4)), atI_nat (j := 1) rfl, Ec, p16, st.echoes, echoB st, d.lost.2, rfl, hE.keep (t0.trans (Same.tups s4)), r16.keep (t1.trans (Same.tups s4)), ze, zec, fun p5 H5 s5 r5 => ?_⟩
    refine ⟨eight, fun p6 hp6 => ?_⟩
    have s6 := s5.trans (same_new hp6 (.tup ([.int (beatB n st d).mark, .int (beatB n st d).bears, ov (beatB n st d).slot] ++ .ref p4 :: ([.int (beatB n st d).last, .int (beatB n st d).took, ov (beatB n st d).box] ++ [.ref p5]))))
    have s36 := s4.trans s6
    refine ⟨_, rfl, x, C, dx, _, rfl, s36 _ _ eX, T.cl, T.n4, (by show 5 < 1000; decide), ?_⟩
    rw [wf_putK]
    have e6 : upd H5 p6 (.tup ([.int (beatB n st d).mark, .int (beatB n st d).bears, ov (beatB n st d).slot] ++ .ref p4 :: ([.int (beatB n st d).last, .int (beatB n st d).took, ov (beatB n st d).box] ++ [.ref p5]))) p6 = some (.tup (stoV (beatB n st d) p4 p5)) := upd_same
    have r4 := r4.keep (Same.tups s6)
    have r5 := r5.keep (Same.tups (same_new hp6 (.tup ([.int (beatB n st d).mark, .int (beatB n st d).bears, ov (beatB n st d).slot] ++ .ref p4 :: ([.int (beatB n st d).last, .int (beatB n st d).took, ov (beatB n st d).box] ++ [.ref p5])))))
    have k6 : Kept x H _ := kA.trans (.of s36)
    have e26 := s36 _ _ e2
    have eX6 := s36 _ _ eX
    clear s6
    generalize upd H5 p6 (.tup ([.int (beatB n st d).mark, .int (beatB n st d).bears, ov (beatB n st d).slot] ++ .ref p4 :: ([.int (beatB n st d).last, .int (beatB n st d).took, ov (beatB n st d).box] ++ [.ref p5]))) = H6 at *
    have kY : Tups H6 (upd H6 x (.ins C dx (wayF n p6 p2))) := fun b xs h => by rw [upd_ne (ne_of h eX6 (by intro z; cases z))]; exact h
    have k7 : Kept x H (upd H6 x (.ins C dx (wayF n p6 p2))) := k6.trans (Kept.put _)
    have fin : ∀ p, upd H6 x (.ins C dx (wayF n p6 p2)) p = none → Q (.ref p) (upd (upd H6 x (.ins C dx (wayF n p6 p2))) p (.tup (toldB st d))) := fun p hp => by
      have s8 := same_new hp (.tup (toldB st d))
      exact q p _ (k7.trans (.of s8)) ⟨dx, p6, p2, s8 _ _ upd_same, ⟨p4, p5, s8 _ _ (kY _ _ e6), r4.keep (kY.trans (Same.tups s8)), r5.keep (kY.trans (Same.tups s8))⟩, s8 _ _ (kY _ _ e26)⟩ (k7.free upd_same hp) upd_same
    have f2 : ∀ v1 v2 : V, v1 = (if d.word = none then .non else .bl (decide (st.slot = none))) → v2 = (if d.taking = true then ov st.box else .non) → ∀ p, upd H6 x (.ins C dx (wayF n p6 p2)) p = none → Q (.ref p) (upd (upd H6 x (.ins C dx (wayF n p6 p2))) p (.tup [v1, v2])) := fun v1 v2 h1 h2 p hp => by
      rw [h1, h2]
      exact fin p hp
    refine ⟨_, rfl, rfl, _, rfl, itO (fun c => ?_) (fun c => ?_)⟩
    · refine ⟨_, rfl, _, rfl, ?_⟩
      cases ht : d.taking with
      | true => exact itT rfl ⟨_, rfl, two, f2 _ _ (by rw [if_pos c]) (by rw [ht]; rfl)⟩
      | false => exact itF rfl ⟨two, f2 _ _ (by rw [if_pos c]) (by rw [ht]; rfl)⟩
    · refine ⟨_, rfl, rfl, ?_⟩
      refine ⟨_, rfl, _, rfl, ?_⟩
      cases ht : d.taking with
      | true => exact itT rfl ⟨_, rfl, two, f2 _ _ (by rw [if_neg c, ov_non]) (by rw [ht]; rfl)⟩
      | false => exact itF rfl ⟨two, f2 _ _ (by rw [if_neg c, ov_non]) (by rw [ht]; rfl)⟩
  -- what is taken
  obtain ⟨tB, hB, leafB⟩ : ∃ t, PSs X ((defBody sBeat).drop 9) t ∧ ∀ (p13 p14 p15 p16 : Addr) (H1 : Hp), Same H H1 → H1 p13 = some (.tup (pairV (letterB st))) →
      H1 p14 = some (.tup [.int (beatB n st d).mark, .int (beatB n st d).bears, ov (beatB n st d).slot]) → H1 p15 = some (.tup (triV (takerB st.last st.took st.box st.letters))) → RowAt H1 p16 (echoB st) →
      t { nx := fun _ H' => Q .non H', rt := Q } (slots p13 p14 p15 p16) H1 := by
    refine ⟨_, pss_cons (ps_if (PW.pt (pw_and (pt_val (pv 2)) (pw_and1 (pt_cmpR op_notN (pv 11) pe_non (nomark _))))) (pss_one (ps_set (i := 15) scBeat.nd rfl (Or.inl rfl) (pe_D D6 hr1 rfl (pa_cons (pv 15) (pa_cons pe_int (pa_cons pe_non pa_nil)))))) pss_nil) hC, ?_⟩
    intro p13 p14 p15 p16 H1 s1 e13 e14 e15 r16
    have stay : ¬ (d.taking = true ∧ st.box ≠ none) → tC { nx := fun _ H' => Q .non H', rt := Q } (slots p13 p14 p15 p16) H1 := fun c => by
      refine leafC p13 p14 p15 p16 H1 s1 e13 e14 ?_ r16
      rw [e15]
      show some (HO.tup [_, _, _]) = some (HO.tup [_, _, ov (if d.taking = true ∧ st.box ≠ none then none else _)])
      rw [if_neg c]
      rfl
    refine ⟨_, rfl, _, rfl, ?_⟩
    cases ht : d.taking with
    | false => exact itF rfl (itF rfl (stay (by rw [ht]; exact fun z => nomatch z.1)))
    | true =>
      refine itT rfl ⟨_, rfl, rfl, _, rfl, itS (fun c => ?_) (fun c => ?_)⟩
      · refine ⟨_, rfl, p15, _, 2, .non, rfl, e15, by show 2 < 3; decide, by show 3 ≤ 1000; decide, fun p17 H2 s2 e17 => ?_⟩
        refine leafC p13 p14 p17 p16 H2 (s1.trans s2) (s2 _ _ e13) (s2 _ _ e14) ?_ (r16.keep (Same.tups s2))
        rw [e17]
        show some (HO.tup [_, _, V.non]) = some (HO.tup [_, _, ov (if d.taking = true ∧ st.box ≠ none then none else _)])
        rw [if_pos ⟨ht, c⟩]
        rfl
      · exact stay (fun z => z.2 c)
  -- what is put
  obtain ⟨tA, hA, leafA⟩ : ∃ t, PSs X ((defBody sBeat).drop 8) t ∧ ∀ (p13 p14 p15 p16 : Addr) (H1 : Hp), Same H H1 → H1 p13 = some (.tup (pairV (letterB st))) →
      H1 p14 = some (.tup (triV (senderB st.mark st.bears st.slot (2 * n.hold + 1) st.echoes))) → H1 p15 = some (.tup (triV (takerB st.last st.took st.box st.letters))) → RowAt H1 p16 (echoB st) →
      t { nx := fun _ H' => Q .non H', rt := Q } (slots p13 p14 p15 p16) H1 := by
    refine ⟨_, pss_cons (ps_if (PW.pt (pw_and (pt_cmpR op_notN (pv 1) pe_non (nomark _)) (pw_and1 (pt_cmpR op_isN (pv 7) pe_non (nomark _))))) (pss_one (ps_set (i := 14) scBeat.nd rfl (Or.inl rfl) (pe_D D6 hr1 rfl (pa_cons (pv 14) (pa_cons pe_int (pa_cons (pv 1) pa_nil)))))) pss_nil) hB, ?_⟩
    intro p13 p14 p15 p16 H1 s1 e13 e14 e15 r16
    have stay : ¬ (d.word ≠ none ∧ st.slot = none) → tB { nx := fun _ H' => Q .non H', rt := Q } (slots p13 p14 p15 p16) H1 := fun c => by
      refine leafB p13 p14 p15 p16 H1 s1 e13 ?_ e15 r16
      rw [e14]
      show some (HO.tup [_, _, _]) = some (HO.tup [_, _, ov (if d.word ≠ none ∧ st.slot = none then d.word else _)])
      rw [if_neg c]
      rfl
    refine ⟨_, rfl, rfl, _, rfl, itS (fun c => ?_) (fun c => ?_)⟩
    · refine ⟨_, rfl, rfl, _, rfl, itO (fun c2 => ?_) (fun c2 => ?_)⟩
      · refine ⟨_, rfl, _, rfl, p14, _, 2, _, rfl, e14, by show 2 < 3; decide, by show 3 ≤ 1000; decide, fun p17 H2 s2 e17 => ?_⟩
        refine leafB p13 p17 p15 p16 H2 (s1.trans s2) (s2 _ _ e13) ?_ (s2 _ _ e15) (r16.keep (Same.tups s2))
        rw [e17]
        show some (HO.tup [_, _, ov d.word]) = some (HO.tup [_, _, ov (if d.word ≠ none ∧ st.slot = none then d.word else _)])
        rw [if_pos ⟨c, c2⟩]
        rfl
      · exact stay (fun z => c2 z.2)
    · exact itF rfl (stay (fun z => z.1 c))
  -- sender, taker, echo
  obtain ⟨tS, hS2, leafS⟩ : ∃ t, PSs X ((defBody sBeat).drop 5) t ∧ ∀ p13 H2, Same H H2 → H2 p13 = some (.tup (pairV (letterB st))) → t { nx := fun _ H' => Q .non H', rt := Q } [some (.ref x), some (ov d.word), some (.bl d.taking), some (.ref a), some (.str ""), some (.int st.mark), some (.int st.bears), some (ov st.slot), some (.ref L), some (.int st.last), some (.int st.took), some (ov st.box), some (.ref Ec), some (.ref p13), none, none, none] H2 := by
    refine ⟨_, pss_cons (ps_set (i := 14) scBeat.nd rfl (Or.inl rfl) (pe_D D3 hr1 rfl (pa_cons (pv 5) (pa_cons (pv 6) (pa_cons (pv 7) (pa_cons (pv 12) (pa_cons (pe_D D4 hr1 rfl (pa_cons (pe_fld (pv 0) rfl) pa_nil)) pa_nil)))))))
      (pss_cons (ps_set (i := 15) scBeat.nd rfl (Or.inl rfl) (pe_D D5 hr1 rfl (pa_cons (pv 9) (pa_cons (pv 10) (pa_cons (pv 11) (pa_cons (pv 8) pa_nil))))))
      (pss_cons (ps_set (i := 16) scBeat.nd rfl (Or.inl rfl) (pe_ifExp (pt_cmpR op_eq (pe_callB call_len_seq rfl O.len PySem.boot_len (pa_cons (pv 8) pa_nil)) pe_int (nomark _)) (pe_tup pa_nil) (pe_tup (pa_cons (pe_slice sl_tup (pv 15) po_none (po_some pe_int)) pa_nil)))) hA)), ?_⟩
    intro p13 H2 s2 e13
    refine ⟨_, rfl, _, rfl, _, rfl, _, rfl, _, rfl, x, C, dx, _, _, rfl, s2 _ _ hx, T.cl, T.n1, wf_hold, n.hold, rfl, st.mark, st.bears, 2 * n.hold + 1, st.slot, Ec, st.echoes, rfl, hE.keep (Same.tups s2), fun e he => ?_, ze, (by have := hN.h0; omega), fun p14 H3 s3 e14 => ?_⟩
    · rcases (hS.echs e he).2.2 with z | z
      · exact ⟨_, z⟩
      · exact ⟨_, z⟩
    have s3' := s2.trans s3
    refine ⟨_, rfl, _, rfl, _, rfl, _, rfl, st.last, st.took, st.box, L, st.letters, rfl, hL.keep (Same.tups s3'), zl, fun p15 H4 s4 e15 => ?_⟩
    have s4' := s3'.trans s4
    obtain ⟨as, hLL, hp⟩ := hL.keep (Same.tups s4')
    have hlen : (as.map V.ref).length = st.letters.length := by rw [List.length_map]; exact paired_len hp
    have e13 := s4 _ _ (s3 _ _ e13)
    have e14 := s4 _ _ e14
    refine ⟨_, rfl, L, _, rfl, .inr (SqT.of hLL), rfl, _, rfl, itEq (fun c => ?_) (fun c => ?_)⟩
    · have c' : st.letters = [] := List.eq_nil_of_length_eq_zero (by omega)
      refine ⟨by show 0 ≤ sizeLine; decide, fun p16 hp16 => ?_⟩
      have s5 := same_new hp16 (.tup [])
      refine leafA p13 p14 p15 p16 _ (s4'.trans s5) (s5 _ _ e13) (s5 _ _ e14) (s5 _ _ e15) ?_
      unfold echoB
      rw [if_pos c']
      exact ⟨[], upd_same, .nil⟩
    · have c' : st.letters ≠ [] := fun z => c (by rw [hlen, z]; rfl)
      refine ⟨_, rfl, _, rfl, p15, _, rfl, SqT.of e15, (fun z => absurd z.2 (show ¬ HT.sIx 3 3 (some 2) = 3 by decide)), fun p17 hp17 => ⟨one_, fun p16 hp16 => ?_⟩⟩
      have s5 := same_new hp17 (.tup (cutV (triV (takerB st.last st.took st.box st.letters)) none (some 2)))
      have s6 := s5.trans (same_new hp16 (.tup [.ref p17]))
      refine leafA p13 p14 p15 p16 _ (s4'.trans s6) (s6 _ _ e13) (s6 _ _ e14) (s6 _ _ e15) ?_
      unfold echoB
      rw [if_neg c']
      exact ⟨[p17], upd_same, .cons (same_new hp16 _ _ _ upd_same) .nil⟩
  obtain ⟨tR, hR, leafR⟩ : ∃ t, PSs X ((defBody sBeat).drop 1) t ∧ t { nx := fun _ H' => Q .non H', rt := Q } (L2.start nmBeat [.ref x, ov d.word, .bl d.taking, .ref a]) H := by
    refine ⟨_, pss_cons (ps_set (i := 4) scBeat.nd rfl (Or.inl rfl) (pe_M D2 T.cl (pv 0) (hr.mono (by decide)) (pa_cons (pv 3) pa_nil)))
      (pss_cons (ps_if (pt_cmpR op_ne (pv 4) pe_str (nomark _)) (pss_one ps_never) pss_nil)
      (pss_cons (ps_asg (pe_fld (pv 0) rfl) (pg_tup rfl (pgs_cons (pg_name (i := 5) scBeat.nd rfl (Or.inl rfl)) (pgs_cons (pg_name (i := 6) scBeat.nd rfl (Or.inl rfl)) (pgs_cons (pg_name (i := 7) scBeat.nd rfl (Or.inl rfl)) (pgs_cons (pg_name (i := 8) scBeat.nd rfl (Or.inl rfl))
        (pgs_cons (pg_name (i := 9) scBeat.nd rfl (Or.inl rfl)) (pgs_cons (pg_name (i := 10) scBeat.nd rfl (Or.inl rfl)) (pgs_cons (pg_name (i := 11) scBeat.nd rfl (Or.inl rfl)) (pgs_cons (pg_name (i := 12) scBeat.nd rfl (Or.inl rfl)) pgs_nil))))))))))
      (pss_cons (ps_set (i := 13) scBeat.nd rfl (Or.inl rfl) (pe_tup (pa_cons (pv 5) (pa_cons (pe_ifExp (pt_cmpR op_eq (pv 6) pe_int (nomark _)) (pv 7) pe_non) pa_nil)))) hS2))), ?_⟩
    refine ⟨_, rfl, x, dx, _, rfl, hx, wf_none (by decide +kernel), _, rfl, x, a, n, st, g, d.lost, rfl, hW, zl, hl, fun H1 s1 => ?_⟩
    have eS : sideB st g d.lost n.miss = "" := by
      unfold sideB
      rw [if_neg (by omega), if_neg (by omega)]
    rw [eS]
    refine ⟨_, rfl, rfl, _, rfl, itN (fun c => absurd rfl c) (fun _ => ?_)⟩
    refine ⟨_, rfl, x, C, dx, _, _, rfl, s1 _ _ hx, T.cl, T.n4, wf_kept, k, _, rfl, SqT.of (s1 _ _ hk), rfl, _, _, rfl, _, _, rfl, _, _, rfl, _, _, rfl, _, _, rfl, _, _, rfl, _, _, rfl, _, _, rfl, rfl, ?_⟩
    have fin : ∀ v : V, v = ov (letterB st).2 → ∀ p13, H1 p13 = none → tS { nx := fun _ H' => Q .non H', rt := Q } [some (.ref x), some (ov d.word), some (.bl d.taking), some (.ref a), some (.str ""), some (.int st.mark), some (.int st.bears), some (ov st.slot), some (.ref L), some (.int st.last), some (.int st.took), some (ov st.box), some (.ref Ec), some (.ref p13), none, none, none] (upd H1 p13 (.tup [.int st.mark, v])) := fun v hv p13 hp13 => by
      rw [hv]
      exact leafS p13 _ (s1.trans (same_new hp13 _)) upd_same
    refine ⟨_, rfl, _, rfl, rfl, _, rfl, itEq (fun b1 => ⟨_, rfl, two, fun p13 hp13 => ?_⟩) (fun b1 => ⟨two, fun p13 hp13 => ?_⟩)⟩
    · exact fin _ (by show _ = ov (if st.bears = 1 then st.slot else none); rw [if_pos b1]) p13 hp13
    · exact fin _ (by show _ = ov (if st.bears = 1 then st.slot else none); rw [if_neg b1]; rfl) p13 hp13
  refine ⟨_, PSs.nox (pss_cons (ps_if (PW.pt (pw_and (pt_cmpR op_notN (pv 1) pe_non (nomark _)) (pw_and1 (pt_not (pt_val (pe_D D1 hr rfl (pa_cons (pv 1) (pa_cons (pe_fld (pv 0) rfl) pa_nil)))))))) (pss_one ps_never) pss_nil) hR), ?_⟩
  refine ⟨_, rfl, rfl, _, rfl, itS (fun c => ?_) (fun c => itF rfl leafR)⟩
  cases hd : d.word with
  | none => exact absurd hd c
  | some i =>
    obtain ⟨w0, w1⟩ := hw i hd
    rw [hd] at leafR
    refine ⟨_, rfl, _, rfl, x, C, dx, _, _, rfl, hx, T.cl, T.n3, wf_bound, i, n.bound, rfl, ?_⟩
    rw [decide_eq_true w0, decide_eq_true (show i ≤ n.bound - 1 by omega)]
    exact ⟨_, rfl, itF rfl leafR⟩
end
end Any
namespace Any
open L2 PySem PySem.Spec PyProof.Rows
abbrev sSpoil : Stmt := inClass (top 16) 5
abbrev sLen : Stmt := inClass (top 16) 9
abbrev sIsStore : Stmt := top 22
abbrev sIsMark : Stmt := top 23
abbrev sIsSlot : Stmt := top 24
abbrev sIsLet : Stmt := top 25
abbrev sIsEch : Stmt := top 26
abbrev sIsRow : Stmt := top 27
theorem scSpoil : FnScope ["self", "store"] ["self", "store"] (defScope sSpoil) := ⟨rfl, rfl, rfl, by decide +kernel, rfl, by decide +kernel, by decide +kernel⟩
theorem scLen : FnScope ["self"] ["self"] (defScope sLen) := ⟨rfl, rfl, rfl, by decide +kernel, rfl, by decide +kernel, by decide +kernel⟩
abbrev nmIsStore : List Str := ["way", "thing", "mark", "bears", "slot", "letters", "last", "took", "box", "echoes"]
theorem scIsStore : FnScope nmIsStore ["way", "thing"] (defScope sIsStore) := ⟨rfl, rfl, rfl, by decide +kernel, rfl, by decide +kernel, by decide +kernel⟩
theorem scIsMark : FnScope ["way", "thing"] ["way", "thing"] (defScope sIsMark) := ⟨rfl, rfl, rfl, by decide +kernel, rfl, by decide +kernel, by decide +kernel⟩
theorem scIsSlot : FnScope ["way", "thing"] ["way", "thing"] (defScope sIsSlot) := ⟨rfl, rfl, rfl, by decide +kernel, rfl, by decide +kernel, by decide +kernel⟩
theorem scIsLet : FnScope ["way", "thing", "letter"] ["way", "thing"] (defScope sIsLet) := ⟨rfl, rfl, rfl, by decide +kernel, rfl, by decide +kernel, by decide +kernel⟩
theorem scIsEch : FnScope ["way", "thing", "echo"] ["way", "thing"] (defScope sIsEch) := ⟨rfl, rfl, rfl, by decide +kernel, rfl, by decide +kernel, by decide +kernel⟩
theorem scIsRow : FnScope ["way", "thing", "one"] ["way", "thing"] (defScope sIsRow) := ⟨rfl, rfl, rfl, by decide +kernel, rfl, by decide +kernel, by decide +kernel⟩
/-- an object with these numbers -/
def NumAt (C : Addr) (H : Hp) (x : Addr) (n : Num) : Prop := ∃ dx k ga, H x = some (.ins C dx (wayF n k ga))
theorem NumAt.keep {C : Addr} {H H' : Hp} {x : Addr} {n : Num} (k : Same H H') (h : NumAt C H x n) : NumAt C H' x n := by
  obtain ⟨dx, a, ga, h1⟩ := h
  exact ⟨dx, a, ga, k _ _ h1⟩
theorem WayAt.num {C : Addr} {H : Hp} {x : Addr} {n : Num} {s : Sto} {g : Int × Int} (h : WayAt C H x n s g) : NumAt C H x n := by
  obtain ⟨dx, a, ga, h1, _⟩ := h
  exact ⟨dx, a, ga, h1⟩
def spIsMark (C : Addr) : Sp := fun vs H Q _ => ∃ (x : Addr) (n : Num) (i : Int), vs = [.ref x, .int i] ∧ NumAt C H x n ∧ 0 ≤ i ∧ i ≤ 2 * n.hold ∧ Q (.bl true) H
def spIsSlot (C : Addr) : Sp := fun vs H Q _ => ∃ (x : Addr) (n : Num) (o : Option Int), vs = [.ref x, ov o] ∧ NumAt C H x n ∧ (∀ i, o = some i → 0 ≤ i ∧ i < n.bound) ∧ Q (.bl true) H
def spIsRow (C : Addr) : Sp := fun vs H Q _ => ∃ (x a : Addr) (n : Num) (r : Row), vs = [.ref x, .ref a] ∧ NumAt C H x n ∧ RowAt H a r ∧ (r.length : Int) ≤ n.hold ∧ n.hold ≤ 6 ∧ (∀ e ∈ r, 0 ≤ e.1 ∧ e.1 ≤ 2 * n.hold) ∧ ∀ H', Same H H' → Q (.bl true) H'
def spIsLet (C : Addr) : Sp := fun vs H Q _ => ∃ (x a : Addr) (n : Num) (r : Row), vs = [.ref x, .ref a] ∧ NumAt C H x n ∧ RowAt H a r ∧ (r.length : Int) ≤ n.hold ∧ n.hold ≤ 6 ∧ (∀ e ∈ r, 0 ≤ e.1 ∧ e.1 ≤ 2 * n.hold ∧ ∀ i, e.2 = some i → 0 ≤ i ∧ i < n.bound) ∧ ∀ H', Same H H' → Q (.bl true) H'
def spIsEch (C : Addr) : Sp := fun vs H Q _ => ∃ (x a : Addr) (n : Num) (r : Row), vs = [.ref x, .ref a] ∧ NumAt C H x n ∧ RowAt H a r ∧ (r.length : Int) ≤ n.hold ∧ n.hold ≤ 6 ∧ (∀ e ∈ r, 0 ≤ e.1 ∧ e.1 ≤ 2 * n.hold ∧ (e.2 = some 0 ∨ e.2 = some 1)) ∧ ∀ H', Same H H' → Q (.bl true) H'
def spIsStore (C : Addr) : Sp := fun vs H Q _ => ∃ (x a : Addr) (n : Num) (s : Sto), vs = [.ref x, .ref a] ∧ NumAt C H x n ∧ NumOk n ∧ StoAt H a s ∧ StoOk n s ∧ ∀ H', Same H H' → Q (.bl true) H'
def spStore (C : Addr) : Sp := fun vs H Q _ => ∃ (x : Addr) (n : Num) (s : Sto) (g : Int × Int), vs = [.ref x] ∧ WayAt C H x n s g ∧ ∀ k, StoAt H k s → Q (.ref k) H
def spSpoil (C : Addr) : Sp := fun vs H Q _ => ∃ (x a : Addr) (n : Num) (s : Sto), vs = [.ref x, .ref a] ∧ NumAt C H x n ∧ NumOk n ∧ StoAt H a s ∧ StoOk n s ∧
  ∀ H', Kept x H H' → WayAt C H' x n s (0, 0) → (∃ dx g, H' x = some (.ins C dx (wayF n a g))) → Q .non H'
def spLen (C : Addr) : Sp := fun vs H Q _ => ∃ (x : Addr) (n : Num) (s : Sto) (g : Int × Int), vs = [.ref x] ∧ WayAt C H x n s g ∧ s.letters.length ≤ 1000 ∧ s.echoes.length ≤ 1000 ∧ ∀ H', Same H H' → Q (.int ((s.letters.length : Int) + s.echoes.length)) H'
theorem dec_true {p : Prop} [Decidable p] (h : p) : decide p = true := decide_eq_true h
section
variable {P : Program} {w : World} {K : PySem.W.Frag} {mg : Str → Option Value} {base : Heap} {f C : Addr} {fd : FuncData}
theorem ok_ismark (T : WayC K C) (F : Fun K "is_mark" "is_mark" sIsMark f fd) (D1 : Df P w K mg base 2 "is_within" ["thing", "least", "most"] spWithin) (D2 : Df P w K mg base 1 "marks" ["hold"] spMarks) : FnOk P w K mg base CX0 3 f fd ["way", "thing"] (spIsMark C) := by
  refine F.ok scIsMark (fun vs H Q E h => ?_) (fun cdv A outer s H vs Q E hr h => ?_)
  · obtain ⟨x, n, i, rfl, _⟩ := h
    rfl
  obtain ⟨x, n, i, rfl, ⟨dx, k, ga, hx⟩, h0, h1, q⟩ := h
  refine ⟨_, pss_one (ps_ret (pe_D D1 hr rfl (pa_cons (pv 1) (pa_cons pe_int (pa_cons (pe_op op_sub (pe_D D2 (hr.mono (by decide)) rfl (pa_cons (pe_fld (pv 0) rfl) pa_nil)) pe_int) pa_nil))))), ?_⟩
  refine ⟨_, rfl, _, rfl, x, C, dx, _, _, rfl, hx, T.cl, T.n1, wf_hold, n.hold, rfl, _, _, rfl, rfl, i, 0, 2 * n.hold + 1 - 1, rfl, ?_⟩
  rw [dec_true h0, dec_true (show i ≤ 2 * n.hold + 1 - 1 by omega)]
  exact q
theorem ok_isslot (T : WayC K C) (F : Fun K "is_slot" "is_slot" sIsSlot f fd) (D1 : Df P w K mg base 3 "is_word" ["thing", "bound"] spIsWord) : FnOk P w K mg base CX0 4 f fd ["way", "thing"] (spIsSlot C) := by
  refine F.ok scIsSlot (fun vs H Q E h => ?_) (fun cdv A outer s H vs Q E hr h => ?_)
  · obtain ⟨x, n, o, rfl, _⟩ := h
    rfl
  obtain ⟨x, n, o, rfl, ⟨dx, k, ga, hx⟩, ho, q⟩ := h
  refine ⟨_, pss_one (ps_ret (pe_or (pe_cmpR op_isN (pv 1) pe_non (nomark _)) (pe_one (pe_D D1 hr rfl (pa_cons (pv 1) (pa_cons (pe_fld (pv 0) rfl) pa_nil)))))), ?_⟩
  refine ⟨_, rfl, rfl, _, rfl, itO (fun c => ?_) (fun c => ?_)⟩
  · exact q
  · cases o with
    | none => exact absurd rfl c
    | some i =>
      obtain ⟨i0, i1⟩ := ho i rfl
      refine ⟨_, rfl, _, rfl, x, C, dx, _, _, rfl, hx, T.cl, T.n3, wf_bound, i, n.bound, rfl, ?_⟩
      rw [dec_true i0, dec_true (show i ≤ n.bound - 1 by omega)]
      exact q
theorem ok_isrow (O : Own mg) (T : WayC K C) (F : Fun K "is_row_of_pairs" "is_row_of_pairs" sIsRow f fd) (D1 : Df P w K mg base 3 "is_mark" ["way", "thing"] (spIsMark C)) : FnOk P w K mg base CX0 4 f fd ["way", "thing"] (spIsRow C) := by
  refine F.ok scIsRow (fun vs H Q E h => ?_) (fun cdv A outer s H vs Q E hr h => ?_)
  · obtain ⟨x, a, n, r, rfl, _⟩ := h
    rfl
  obtain ⟨x, a, n, r, rfl, hn, ⟨as, ha, hp⟩, hz, h6, hm, q⟩ := h
  obtain ⟨dx, k, ga, hx⟩ := id hn
  have hl := paired_len hp
  refine ⟨_, pss_cons (ps_if (PW.pt (pw_or (pt_not (pt_val (pe_callB call_isi rfl O.isi (by decide +kernel) (pa_cons (pv 1) (pa_cons (pe_bltn (v := .ty "tuple") rfl O.tuple (by decide +kernel) rfl) pa_nil)))))
      (pw_or1 (pt_cmpR op_gt (pe_callB call_len_seq rfl O.len PySem.boot_len (pa_cons (pv 1) pa_nil)) (pe_fld (pv 0) rfl) (nomark _))))) (pss_one (ps_ret pe_bl)) pss_nil)
    (pss_one (ps_ret (pe_callB (cr_all rfl) rfl O.all (by decide +kernel) (pa_cons (pe_lc (own := [("one", 2)]) (g := gName 2) (tt := tYes) rfl scIsRow.nd (pi_tup (pv 1)) (blkOk_by (N := ["way", "thing", "one"]) (sc := defScope sIsRow) (by decide +kernel))
        (fun _ _ _ _ _ => pg_name (i := 2) scIsRow.nd rfl (Or.inl rfl)) (fun _ _ _ _ _ => pts_nil) (fun _ _ _ _ _ => pe_and (pe_callB (show CallR _ (.builtin "isinstance") (rIsi K) from call_isi) rfl O.isi (by decide +kernel) (pa_cons (pv 2) (pa_cons (pe_bltn (v := .ty "tuple") rfl O.tuple (by decide +kernel) rfl) pa_nil)))
          (pe_and (pe_cmpR op_eq (pe_callB (show CallR _ (.builtin "len") (fun xs H Q => ∃ p ys, xs = [.ref p] ∧ (SqL K H p ys ∨ SqT K H p ys) ∧ Q (.int ys.length) H) from call_len_seq) rfl O.len PySem.boot_len (pa_cons (pv 2) pa_nil)) pe_int (nomark _))
            (pe_one (pe_D D1 hr rfl (pa_cons (pv 0) (pa_cons (pe_ix (show IxR _ (rIxT K) from ix_tup) (pv 2) pe_int (fun _ _ => rfl)) pa_nil))))))) pa_nil)))), ?_⟩
  refine ⟨_, rfl, _, _, _, _, true, rfl, .ty "tuple", .base (.tup ha), kb "tuple" "tuple" true, _, rfl, itF rfl ?_⟩
  refine ⟨_, rfl, a, _, rfl, .inr (SqT.of ha), _, rfl, x, C, dx, _, _, rfl, hx, T.cl, T.n1, wf_hold, _, _, rfl, rfl, _, rfl, itD (fun c => ?_) (fun _ => ?_)⟩
  · exfalso
    rw [List.length_map] at c
    omega
  refine ⟨_, rfl, a, rfl, ⟨_, SqT.of ha⟩, fun D hD => ?_⟩
  refine turns_tup (K := K) (a := a) (xs := as.map V.ref) ((as.map V.ref).map fun _ => some (.bl true)) hD (fun Hc sm => SqT.of (sm _ _ ha)) (by rw [List.length_map]) (small (by rw [List.length_map]; omega)) ?_ ?_
  · intro i z o Hc Y N hz2 ho sm hY hN
    have eo : o = some (.bl true) := by
      rw [List.getElem?_map, hz2] at ho
      exact (Option.some.inj ho).symm
    obtain ⟨e, he, rfl⟩ := refs_at hz2
    obtain ⟨b, hb, hat⟩ := paired_get hp he
    obtain ⟨m0, m1⟩ := hm b (List.mem_of_getElem? hb)
    refine ⟨rfl, _, rfl, _, _, _, _, true, rfl, .ty "tuple", .base (.tup (sm _ _ hat)), kb "tuple" "tuple" true, _, rfl, _, rfl, e, _, rfl, .inr (SqT.of (sm _ _ hat)), rfl, _, rfl, ?_⟩
    refine itT rfl ⟨_, rfl, _, rfl, e, _, _, _, rfl, rfl, SqT.of (sm _ _ hat), atI_nat (j := 0) rfl, x, n, b.1, rfl, hn.keep sm, m0, m1, hY _ eo Hc same_refl⟩
  · intro H1 hc1 s1
    rw [fm_true] at hc1
    refine ⟨D, _, rfl, SqL.of hc1, ?_⟩
    rw [all_yes]
    exact q H1 s1
end
end Any
namespace Any
open L2 PySem PySem.Spec PyProof.Rows
section
variable {P : Program} {w : World} {K : PySem.W.Frag} {mg : Str → Option Value} {base : Heap} {f C : Addr} {fd : FuncData}
theorem ok_islet (O : Own mg) (F : Fun K "is_letters" "is_letters" sIsLet f fd) (D1 : Df P w K mg base 4 "is_row_of_pairs" ["way", "thing"] (spIsRow C)) (D2 : Df P w K mg base 4 "is_slot" ["way", "thing"] (spIsSlot C)) : FnOk P w K mg base CX0 5 f fd ["way", "thing"] (spIsLet C) := by
  refine F.ok scIsLet (fun vs H Q E h => ?_) (fun cdv A outer s H vs Q E hr h => ?_)
  · obtain ⟨x, a, n, r, rfl, _⟩ := h
    rfl
  obtain ⟨x, a, n, r, rfl, hn, hR, hz, h6, hm, q⟩ := h
  refine ⟨_, pss_one (ps_ret (pe_and (pe_D D1 hr rfl (pa_cons (pv 0) (pa_cons (pv 1) pa_nil))) (pe_one (pe_callB (cr_all rfl) rfl O.all (by decide +kernel) (pa_cons (pe_lc (own := [("letter", 2)]) (g := gName 2) (tt := tYes) rfl scIsLet.nd (pi_tup (pv 1)) (blkOk_by (N := ["way", "thing", "letter"]) (sc := defScope sIsLet) (by decide +kernel))
        (fun _ _ _ _ _ => pg_name (i := 2) scIsLet.nd rfl (Or.inl rfl)) (fun _ _ _ _ _ => pts_nil) (fun _ _ _ _ _ => pe_D D2 hr rfl (pa_cons (pv 0) (pa_cons (pe_ix (show IxR _ (rIxT K) from ix_tup) (pv 2) pe_int (fun _ _ => rfl)) pa_nil)))) pa_nil))))), ?_⟩
  refine ⟨_, rfl, _, rfl, x, a, n, r, rfl, hn, hR, hz, h6, fun e he => ⟨(hm e he).1, (hm e he).2.1⟩, fun H1 s1 => ⟨_, rfl, ?_⟩⟩
  obtain ⟨as, ha, hp⟩ := hR.keep (Same.tups s1)
  have hl := paired_len hp
  refine itT rfl ⟨_, rfl, a, rfl, ⟨_, SqT.of ha⟩, fun D hD => ?_⟩
  refine turns_tup (K := K) (a := a) (xs := as.map V.ref) ((as.map V.ref).map fun _ => some (.bl true)) hD (fun Hc sm => SqT.of (sm _ _ ha)) (by rw [List.length_map]) (small (by rw [List.length_map]; omega)) ?_ ?_
  · intro i z o Hc Y N hz2 ho sm hY hN
    have eo : o = some (.bl true) := by
      rw [List.getElem?_map, hz2] at ho
      exact (Option.some.inj ho).symm
    obtain ⟨e, he, rfl⟩ := refs_at hz2
    obtain ⟨b, hb, hat⟩ := paired_get hp he
    obtain ⟨_, _, m2⟩ := hm b (List.mem_of_getElem? hb)
    exact ⟨rfl, _, rfl, _, rfl, e, _, _, _, rfl, rfl, SqT.of (sm _ _ hat), atI_nat (j := 1) rfl, x, n, b.2, rfl, hn.keep (s1.trans sm), m2, hY _ eo Hc same_refl⟩
  · intro H2 hc2 s2
    rw [fm_true] at hc2
    refine ⟨D, _, rfl, SqL.of hc2, ?_⟩
    rw [all_yes]
    exact q H2 (s1.trans s2)
theorem ok_isech (O : Own mg) (F : Fun K "is_echoes" "is_echoes" sIsEch f fd) (D1 : Df P w K mg base 4 "is_row_of_pairs" ["way", "thing"] (spIsRow C)) (D2 : Df P w K mg base 2 "is_within" ["thing", "least", "most"] spWithin) : FnOk P w K mg base CX0 5 f fd ["way", "thing"] (spIsEch C) := by
  refine F.ok scIsEch (fun vs H Q E h => ?_) (fun cdv A outer s H vs Q E hr h => ?_)
  · obtain ⟨x, a, n, r, rfl, _⟩ := h
    rfl
  obtain ⟨x, a, n, r, rfl, hn, hR, hz, h6, hm, q⟩ := h
  refine ⟨_, pss_one (ps_ret (pe_and (pe_D D1 hr rfl (pa_cons (pv 0) (pa_cons (pv 1) pa_nil))) (pe_one (pe_callB (cr_all rfl) rfl O.all (by decide +kernel) (pa_cons (pe_lc (own := [("echo", 2)]) (g := gName 2) (tt := tYes) rfl scIsEch.nd (pi_tup (pv 1)) (blkOk_by (N := ["way", "thing", "echo"]) (sc := defScope sIsEch) (by decide +kernel))
        (fun _ _ _ _ _ => pg_name (i := 2) scIsEch.nd rfl (Or.inl rfl)) (fun _ _ _ _ _ => pts_nil) (fun _ _ _ _ _ => pe_D D2 (hr.mono (by decide)) rfl (pa_cons (pe_ix (show IxR _ (rIxT K) from ix_tup) (pv 2) pe_int (fun _ _ => rfl)) (pa_cons pe_int (pa_cons pe_int pa_nil))))) pa_nil))))), ?_⟩
  refine ⟨_, rfl, _, rfl, x, a, n, r, rfl, hn, hR, hz, h6, fun e he => ⟨(hm e he).1, (hm e he).2.1⟩, fun H1 s1 => ⟨_, rfl, ?_⟩⟩
  obtain ⟨as, ha, hp⟩ := hR.keep (Same.tups s1)
  have hl := paired_len hp
  refine itT rfl ⟨_, rfl, a, rfl, ⟨_, SqT.of ha⟩, fun D hD => ?_⟩
  refine turns_tup (K := K) (a := a) (xs := as.map V.ref) ((as.map V.ref).map fun _ => some (.bl true)) hD (fun Hc sm => SqT.of (sm _ _ ha)) (by rw [List.length_map]) (small (by rw [List.length_map]; omega)) ?_ ?_
  · intro i z o Hc Y N hz2 ho sm hY hN
    have eo : o = some (.bl true) := by
      rw [List.getElem?_map, hz2] at ho
      exact (Option.some.inj ho).symm
    obtain ⟨e, he, rfl⟩ := refs_at hz2
    obtain ⟨⟨b1, b2⟩, hb, hat⟩ := paired_get hp he
    have key : ∃ t : Int, b2 = some t ∧ 0 ≤ t ∧ t ≤ 1 := by
      rcases (hm _ (List.mem_of_getElem? hb)).2.2 with z | z
      · exact ⟨0, z, by decide, by decide⟩
      · exact ⟨1, z, by decide, by decide⟩
    obtain ⟨t, rfl, t0, t1⟩ := key
    refine ⟨rfl, _, rfl, e, _, _, _, rfl, rfl, SqT.of (sm _ _ hat), atI_nat (j := 1) rfl, t, 0, 1, rfl, ?_⟩
    rw [dec_true t0, dec_true t1]
    exact hY _ eo Hc same_refl
  · intro H2 hc2 s2
    rw [fm_true] at hc2
    refine ⟨D, _, rfl, SqL.of hc2, ?_⟩
    rw [all_yes]
    exact q H2 (s1.trans s2)
theorem ok_isstore (O : Own mg) (F : Fun K "is_store" "is_store" sIsStore f fd) (D1 : Df P w K mg base 3 "is_mark" ["way", "thing"] (spIsMark C)) (D2 : Df P w K mg base 2 "is_within" ["thing", "least", "most"] spWithin) (D3 : Df P w K mg base 4 "is_slot" ["way", "thing"] (spIsSlot C))
    (D4 : Df P w K mg base 5 "is_letters" ["way", "thing"] (spIsLet C)) (D5 : Df P w K mg base 5 "is_echoes" ["way", "thing"] (spIsEch C)) : FnOk P w K mg base CX0 6 f fd ["way", "thing"] (spIsStore C) := by
  refine F.ok scIsStore (fun vs H Q E h => ?_) (fun cdv A outer s H vs Q E hr h => ?_)
  · obtain ⟨x, a, n, s, rfl, _⟩ := h
    rfl
  obtain ⟨x, a, n, st, rfl, hn, hN, ⟨L, Ec, ha, hL, hE⟩, hS, q⟩ := h
  have hr2 := hr.mono (show 2 ≤ 5 by decide)
  have hr3 := hr.mono (show 3 ≤ 5 by decide)
  have hr4 := hr.mono (show 4 ≤ 5 by decide)
  refine ⟨_, pss_cons (ps_if (PW.pt (pw_or (pt_not (pt_val (pe_callB call_isi rfl O.isi (by decide +kernel) (pa_cons (pv 1) (pa_cons (pe_bltn (v := .ty "tuple") rfl O.tuple (by decide +kernel) rfl) pa_nil)))))
      (pw_or1 (pt_cmpR op_ne (pe_callB call_len_seq rfl O.len PySem.boot_len (pa_cons (pv 1) pa_nil)) pe_int (nomark _))))) (pss_one (ps_ret pe_bl)) pss_nil)
    (pss_cons (ps_asg (pv 1) (pg_tup rfl (pgs_cons (pg_name (i := 2) scIsStore.nd rfl (Or.inl rfl)) (pgs_cons (pg_name (i := 3) scIsStore.nd rfl (Or.inl rfl)) (pgs_cons (pg_name (i := 4) scIsStore.nd rfl (Or.inl rfl)) (pgs_cons (pg_name (i := 5) scIsStore.nd rfl (Or.inl rfl))
        (pgs_cons (pg_name (i := 6) scIsStore.nd rfl (Or.inl rfl)) (pgs_cons (pg_name (i := 7) scIsStore.nd rfl (Or.inl rfl)) (pgs_cons (pg_name (i := 8) scIsStore.nd rfl (Or.inl rfl)) (pgs_cons (pg_name (i := 9) scIsStore.nd rfl (Or.inl rfl)) pgs_nil))))))))))
    (pss_one (ps_ret (pe_and (pe_D D1 hr3 rfl (pa_cons (pv 0) (pa_cons (pv 2) pa_nil))) (pe_and (pe_D D2 hr2 rfl (pa_cons (pv 3) (pa_cons pe_int (pa_cons pe_int pa_nil)))) (pe_and (pe_D D3 hr4 rfl (pa_cons (pv 0) (pa_cons (pv 4) pa_nil))) (pe_and (pe_D D1 hr3 rfl (pa_cons (pv 0) (pa_cons (pv 6) pa_nil)))
        (pe_and (pe_D D2 hr2 rfl (pa_cons (pv 7) (pa_cons pe_int (pa_cons pe_int pa_nil)))) (pe_and (pe_D D3 hr4 rfl (pa_cons (pv 0) (pa_cons (pv 8) pa_nil))) (pe_and (pe_D D4 hr rfl (pa_cons (pv 0) (pa_cons (pv 5) pa_nil))) (pe_one (pe_D D5 hr rfl (pa_cons (pv 0) (pa_cons (pv 9) pa_nil)))))))))))))), ?_⟩
  refine ⟨_, rfl, _, _, _, _, true, rfl, .ty "tuple", .base (.tup ha), kb "tuple" "tuple" true, _, rfl, itF rfl ?_⟩
  refine ⟨_, rfl, a, _, rfl, .inr (SqT.of ha), rfl, _, rfl, itNe (fun c => absurd rfl c) (fun _ => ?_)⟩
  refine ⟨_, rfl, a, _, rfl, SqT.of ha, rfl, _, _, rfl, _, _, rfl, _, _, rfl, _, _, rfl, _, _, rfl, _, _, rfl, _, _, rfl, _, _, rfl, rfl, ?_⟩
  have b01 : ∀ i : Int, i = 0 ∨ i = 1 → (decide (0 ≤ i) && decide (i ≤ 1)) = true := fun i h => by
    rcases h with rfl | rfl <;> rfl
  have h6 := hN.h1
  refine ⟨_, rfl, _, rfl, x, n, st.mark, rfl, hn, hS.m0, hS.m1, _, rfl, itT rfl ?_⟩
  refine ⟨_, rfl, st.bears, 0, 1, rfl, ?_⟩
  rw [b01 _ hS.b]
  refine ⟨_, rfl, itT rfl ?_⟩
  refine ⟨_, rfl, _, rfl, x, n, st.slot, rfl, hn, hS.slot, _, rfl, itT rfl ?_⟩
  refine ⟨_, rfl, _, rfl, x, n, st.last, rfl, hn, hS.l0, hS.l1, _, rfl, itT rfl ?_⟩
  refine ⟨_, rfl, st.took, 0, 1, rfl, ?_⟩
  rw [b01 _ hS.t]
  refine ⟨_, rfl, itT rfl ?_⟩
  refine ⟨_, rfl, _, rfl, x, n, st.box, rfl, hn, hS.box, _, rfl, itT rfl ?_⟩
  refine ⟨_, rfl, _, rfl, x, L, n, st.letters, rfl, hn, hL, hS.let0, h6, hS.lets, fun H1 s1 => ⟨_, rfl, itT rfl ?_⟩⟩
  exact ⟨_, rfl, _, rfl, x, Ec, n, st.echoes, rfl, hn.keep s1, hE.keep (Same.tups s1), hS.ech0, h6, hS.echs, fun H2 s2 => q H2 (s1.trans s2)⟩
theorem ok_store (T : WayC K C) (F : Fun K "store" "Way.store" sStore f fd) : FnOk P w K mg base CX0 1 f fd ["self"] (spStore C) := by
  refine F.ok scStore (fun vs H Q E h => ?_) (fun cdv A outer s H vs Q E hr h => ?_)
  · obtain ⟨x, n, s, g, rfl, _⟩ := h
    rfl
  obtain ⟨x, n, st, g, rfl, ⟨dx, k, ga, hx, hS, hg⟩, q⟩ := h
  exact ⟨_, pss_one (ps_ret (pe_fld (pv 0) rfl)), _, rfl, x, C, dx, _, _, rfl, hx, T.cl, T.n4, wf_kept, q k hS⟩
theorem ok_spoil (T : WayC K C) (F : Fun K "spoil" "Way.spoil" sSpoil f fd) (D1 : Df P w K mg base 6 "is_store" ["way", "thing"] (spIsStore C)) : FnOk P w K mg base CX0 7 f fd ["self", "store"] (spSpoil C) := by
  refine F.ok scSpoil (fun vs H Q E h => ?_) (fun cdv A outer s H vs Q E hr h => ?_)
  · obtain ⟨x, a, n, s, rfl, _⟩ := h
    rfl
  obtain ⟨x, a, n, st, rfl, hn, hN, ha, hS, q⟩ := h
  obtain ⟨dx, k, ga, hx⟩ := id hn
  refine ⟨_, pss_cons (ps_if (pt_not (pt_val (pe_D D1 hr rfl (pa_cons (pv 0) (pa_cons (pv 1) pa_nil))))) (pss_one ps_never) pss_nil)
    (pss_cons (ps_fld (pv 0) (pv 1) rfl) (pss_one (ps_fld (pv 0) (pe_tup (pa_cons pe_int (pa_cons pe_int pa_nil))) rfl))), ?_⟩
  refine ⟨_, rfl, _, rfl, x, a, n, st, rfl, hn, hN, ha, hS, fun H1 s1 => ⟨_, rfl, itF rfl ?_⟩⟩
  refine ⟨_, rfl, _, rfl, x, C, dx, _, rfl, s1 _ _ hx, T.cl, T.n4, (by show 5 < 1000; decide), ?_⟩
  rw [wf_putK]
  have kX : Tups H1 (upd H1 x (.ins C dx (wayF n a ga))) := fun b xs h => by rw [upd_ne (ne_of h (s1 _ _ hx) (by intro z; cases z))]; exact h
  refine ⟨two, fun p hp => ?_⟩
  have s2 := same_new hp (.tup [.int 0, .int 0])
  refine ⟨_, rfl, x, C, dx, _, rfl, s2 _ _ upd_same, T.cl, T.n5, (by show 5 < 1000; decide), ?_⟩
  rw [wf_putG]
  have eX : upd (upd H1 x (.ins C dx (wayF n a ga))) p (.tup [.int 0, .int 0]) x = some (.ins C dx (wayF n a ga)) := s2 _ _ upd_same
  have kY : Tups (upd (upd H1 x (.ins C dx (wayF n a ga))) p (.tup [.int 0, .int 0])) (upd (upd (upd H1 x (.ins C dx (wayF n a ga))) p (.tup [.int 0, .int 0])) x (.ins C dx (wayF n a p))) := fun b xs h => by rw [upd_ne (ne_of h eX (by intro z; cases z))]; exact h
  refine q _ (((Kept.of s1).trans (Kept.put _)).trans ((Kept.of s2).trans (Kept.put _))) ⟨dx, a, p, upd_same, ha.keep ((Same.tups s1).trans (kX.trans ((Same.tups s2).trans kY))), kY _ _ upd_same⟩ ⟨dx, p, upd_same⟩
theorem ok_len (O : Own mg) (T : WayC K C) (F : Fun K "__len__" "Way.__len__" sLen f fd) : FnOk P w K mg base CX0 1 f fd ["self"] (spLen C) := by
  refine F.ok scLen (fun vs H Q E h => ?_) (fun cdv A outer s H vs Q E hr h => ?_)
  · obtain ⟨x, n, s, g, rfl, _⟩ := h
    rfl
  obtain ⟨x, n, st, g, rfl, ⟨dx, k, ga, hx, ⟨L, Ec, hk, ⟨as, hL, hp⟩, ⟨bs, hE, hq⟩⟩, hg⟩, z1, z2, q⟩ := h
  have hl := paired_len hp
  have hl2 := paired_len hq
  refine ⟨_, pss_one (ps_ret (pe_callB call_len_seq rfl O.len PySem.boot_len (pa_cons (pe_op op_catA (pe_ix ix_tup (pe_fld (pv 0) rfl) pe_int (fun _ _ => rfl)) (pe_ix ix_tup (pe_fld (pv 0) rfl) pe_int (fun _ _ => rfl))) pa_nil))), ?_⟩
  refine ⟨_, rfl, x, C, dx, _, _, rfl, hx, T.cl, T.n4, wf_kept, k, _, _, _, rfl, rfl, SqT.of hk, atI_nat (j := 3) rfl, _, rfl, x, C, dx, _, _, rfl, hx, T.cl, T.n4, wf_kept, k, _, _, _, rfl, rfl, SqT.of hk, atI_nat (j := 7) rfl, L, Ec, _, _, rfl, rfl, SqT.of hL, SqT.of hE, twoK (by rw [List.length_map]; omega) (by rw [List.length_map]; omega), fun c => ?_, fun _ c => ?_, fun _ _ p hp2 => ?_⟩
  · have c := List.map_eq_nil_iff.mp c
    refine ⟨Ec, _, rfl, .inr (SqT.of hE), ?_⟩
    rw [List.length_map, show ((bs.length : Nat) : Int) = (st.letters.length : Int) + st.echoes.length by rw [c] at hl; simp at hl; omega]
    exact q H same_refl
  · have c := List.map_eq_nil_iff.mp c
    refine ⟨L, _, rfl, .inr (SqT.of hL), ?_⟩
    rw [List.length_map, show ((as.length : Nat) : Int) = (st.letters.length : Int) + st.echoes.length by rw [c] at hl2; simp at hl2; omega]
    exact q H same_refl
  · refine ⟨p, _, rfl, .inr (SqT.of upd_same), ?_⟩
    rw [List.length_append, List.length_map, List.length_map, show ((as.length + bs.length : Nat) : Int) = (st.letters.length : Int) + st.echoes.length by omega]
    exact q _ (same_new hp2 _)
end
end Any
namespace Any
open L2 PySem PySem.Spec PyProof.Rows
theorem scInit : FnScope ["self", "hold", "miss", "bound"] ["self", "hold", "miss", "bound"] (defScope sInit) := ⟨rfl, rfl, rfl, by decide +kernel, rfl, by decide +kernel, by decide +kernel⟩
def sto0 : Sto := ⟨0, 0, none, [], 0, 0, none, []⟩
theorem sto0_ok {n : Num} (h : NumOk n) : StoOk n sto0 where
  m0 := by decide
  m1 := by have := h.h0; show 0 ≤ 2 * n.hold; omega
  b := .inl rfl
  slot := fun i z => by cases z
  let0 := by have := h.h0; show ((0 : Nat) : Int) ≤ n.hold; omega
  lets := fun e h => by cases h
  l0 := by decide
  l1 := by have := h.h0; show 0 ≤ 2 * n.hold; omega
  t := .inl rfl
  box := fun i z => by cases z
  ech0 := by have := h.h0; show ((0 : Nat) : Int) ≤ n.hold; omega
  echs := fun e h => by cases h
structure Most (mg : Str → Option Value) : Prop where
  hold : ∃ t, mg "MOST_HOLD" = some (.int 6 t)
  miss : ∃ t, mg "MOST_MISS" = some (.int 4 t)
  bound : ∃ t, mg "MOST_BOUND" = some (.int 40 t)
def spInit (C : Addr) : Sp := fun vs H Q _ => ∃ (x dx : Addr) (n : Num), vs = [.ref x, .int n.hold, .int n.miss, .int n.bound] ∧ NumOk n ∧ H x = some (.ins C dx []) ∧ ∀ H', Kept x H H' → WayAt C H' x n sto0 (0, 0) → Q .non H'
section
variable {P : Program} {w : World} {K : PySem.W.Frag} {mg : Str → Option Value} {base : Heap} {f C : Addr} {fd : FuncData}
theorem in_true {i l m : Int} (h : l ≤ i) (k : i ≤ m) : (decide (l ≤ i) && decide (i ≤ m)) = true := by rw [dec_true h, dec_true k]; rfl
theorem fld0 {v : V} : putF "hold" v [] = ([("hold", v)] : List (Str × V)) := rfl
theorem fld1 {v u : V} : putF "miss" v ([("hold", u)] : List (Str × V)) = ([("hold", u), ("miss", v)] : List (Str × V)) := by simp (decide := true) [putF]
theorem fld2 {v u z : V} : putF "bound" v ([("hold", u), ("miss", z)] : List (Str × V)) = ([("hold", u), ("miss", z), ("bound", v)] : List (Str × V)) := by simp (decide := true) [putF]
theorem fld3 {v u z y : V} : putF "kept" v ([("hold", u), ("miss", z), ("bound", y)] : List (Str × V)) = ([("hold", u), ("miss", z), ("bound", y), ("kept", v)] : List (Str × V)) := by simp (decide := true) [putF]
theorem fld4 {v u z y r : V} : putF "gone" v ([("hold", u), ("miss", z), ("bound", y), ("kept", r)] : List (Str × V)) = ([("hold", u), ("miss", z), ("bound", y), ("kept", r), ("gone", v)] : List (Str × V)) := by simp (decide := true) [putF]
theorem ok_init (M : Most mg) (T : WayC K C) {kws : List (Str × V)} (F : FunD K "__init__" "Way.__init__" (defArgs sInit) (defBody sInit) (defScope sInit) [] kws f fd) (D1 : Df P w K mg base 2 "is_within" ["thing", "least", "most"] spWithin) :
    FnOk P w K mg base CX0 3 f fd ["self", "hold", "miss", "bound"] (spInit C) := by
  refine F.ok scInit (fun vs H Q E h => ?_) (fun cdv A outer s H vs Q E hr h => ?_)
  · obtain ⟨x, dx, n, rfl, _⟩ := h
    rfl
  obtain ⟨x, dx, n, rfl, hN, hx, q⟩ := h
  obtain ⟨t1, m1⟩ := M.hold
  obtain ⟨t2, m2⟩ := M.miss
  obtain ⟨t3, m3⟩ := M.bound
  refine ⟨_, PSs.nox (pss_cons (ps_if (pt_not (pt_val (pe_D D1 hr rfl (pa_cons (pv 1) (pa_cons pe_int (pa_cons (pe_glob (v := .int 6) rfl m1 ⟨_, rfl⟩) pa_nil)))))) (pss_one ps_never) pss_nil)
    (pss_cons (ps_if (pt_not (pt_val (pe_D D1 hr rfl (pa_cons (pv 2) (pa_cons pe_int (pa_cons (pe_glob (v := .int 4) rfl m2 ⟨_, rfl⟩) pa_nil)))))) (pss_one ps_never) pss_nil)
    (pss_cons (ps_if (pt_not (pt_val (pe_D D1 hr rfl (pa_cons (pv 3) (pa_cons pe_int (pa_cons (pe_glob (v := .int 40) rfl m3 ⟨_, rfl⟩) pa_nil)))))) (pss_one ps_never) pss_nil)
    (pss_cons (ps_fld (pv 0) (pv 1) rfl) (pss_cons (ps_fld (pv 0) (pv 2) rfl) (pss_cons (ps_fld (pv 0) (pv 3) rfl)
    (pss_cons (ps_fld (pv 0) (pe_tup (pa_cons pe_int (pa_cons pe_int (pa_cons pe_non (pa_cons (pe_tup pa_nil) (pa_cons pe_int (pa_cons pe_int (pa_cons pe_non (pa_cons (pe_tup pa_nil) pa_nil))))))))) rfl)
    (pss_one (ps_fld (pv 0) (pe_tup (pa_cons pe_int (pa_cons pe_int pa_nil))) rfl))))))))), ?_⟩
  refine ⟨_, rfl, n.hold, 1, 6, rfl, ?_⟩
  rw [in_true hN.h0 hN.h1]
  refine ⟨_, rfl, itF rfl ⟨_, rfl, n.miss, 1, 4, rfl, ?_⟩⟩
  rw [in_true hN.m0 hN.m1]
  refine ⟨_, rfl, itF rfl ⟨_, rfl, n.bound, 1, 40, rfl, ?_⟩⟩
  rw [in_true hN.b0 hN.b1]
  refine ⟨_, rfl, itF rfl ?_⟩
  refine ⟨_, rfl, _, rfl, x, C, dx, _, rfl, hx, T.cl, T.n1, (by show 0 < 1000; decide), ?_⟩
  rw [fld0]
  refine ⟨_, rfl, _, rfl, x, C, dx, [("hold", .int n.hold)], rfl, upd_same, T.cl, T.n2, (by show 1 < 1000; decide), ?_⟩
  rw [fld1, upd2]
  refine ⟨_, rfl, _, rfl, x, C, dx, [("hold", .int n.hold), ("miss", .int n.miss)], rfl, upd_same, T.cl, T.n3, (by show 2 < 1000; decide), ?_⟩
  rw [fld2, upd2]
  have k1 : Kept x H (upd H x (.ins C dx [("hold", .int n.hold), ("miss", .int n.miss), ("bound", .int n.bound)])) := Kept.put _
  have e1 := @upd_same H x (.ins C dx [("hold", .int n.hold), ("miss", .int n.miss), ("bound", .int n.bound)])
  generalize upd H x (.ins C dx [("hold", .int n.hold), ("miss", .int n.miss), ("bound", .int n.bound)]) = H1 at *
  refine ⟨by show 0 ≤ sizeLine; decide, fun p1 hp1 => ⟨by show 0 ≤ sizeLine; decide, fun p2 hp2 => ⟨eight, fun p3 hp3 => ?_⟩⟩⟩
  have s1 := same_new hp1 (.tup [])
  have s2 := same_new hp2 (.tup [])
  have s3 := same_new hp3 (.tup [.int 0, .int 0, .non, .ref p1, .int 0, .int 0, .non, .ref p2])
  have a1 := s3 _ _ (s2 _ _ (@upd_same H1 p1 (.tup [])))
  have a2 := s3 _ _ (@upd_same (upd H1 p1 (.tup [])) p2 (.tup []))
  have a3 := @upd_same (upd (upd H1 p1 (.tup [])) p2 (.tup [])) p3 (.tup [.int 0, .int 0, .non, .ref p1, .int 0, .int 0, .non, .ref p2])
  have s13 := s1.trans (s2.trans s3)
  clear s3
  generalize upd (upd (upd H1 p1 (.tup [])) p2 (.tup [])) p3 (.tup [.int 0, .int 0, .non, .ref p1, .int 0, .int 0, .non, .ref p2]) = H4 at *
  refine ⟨_, rfl, x, C, dx, _, rfl, s13 _ _ e1, T.cl, T.n4, (by show 3 < 1000; decide), ?_⟩
  rw [fld3]
  have kX : Tups H4 (upd H4 x (.ins C dx [("hold", .int n.hold), ("miss", .int n.miss), ("bound", .int n.bound), ("kept", .ref p3)])) := fun b xs h => by rw [upd_ne (ne_of h (s13 _ _ e1) (by intro z; cases z))]; exact h
  have k5 : Kept x H (upd H4 x (.ins C dx [("hold", .int n.hold), ("miss", .int n.miss), ("bound", .int n.bound), ("kept", .ref p3)])) := k1.trans ((Kept.of s13).trans (Kept.put _))
  have e5 := @upd_same H4 x (.ins C dx [("hold", .int n.hold), ("miss", .int n.miss), ("bound", .int n.bound), ("kept", .ref p3)])
  have a1 := kX _ _ a1
  have a2 := kX _ _ a2
  have a3 := kX _ _ a3
  clear kX
  generalize upd H4 x (.ins C dx [("hold", .int n.hold), ("miss", .int n.miss), ("bound", .int n.bound), ("kept", .ref p3)]) = H5 at *
  refine ⟨two, fun p6 hp6 => ?_⟩
  have s6 := same_new hp6 (.tup [.int 0, .int 0])
  refine ⟨_, rfl, x, C, dx, _, rfl, s6 _ _ e5, T.cl, T.n5, (by show 4 < 1000; decide), ?_⟩
  rw [fld4]
  have kY : Tups (upd H5 p6 (.tup [.int 0, .int 0])) (upd (upd H5 p6 (.tup [.int 0, .int 0])) x (.ins C dx (wayF n p3 p6))) := fun b xs h => by rw [upd_ne (ne_of h (s6 _ _ e5) (by intro z; cases z))]; exact h
  exact q _ (k5.trans ((Kept.of s6).trans (Kept.put _))) ⟨dx, p3, p6, upd_same, ⟨p1, p2, kY _ _ (s6 _ _ a3), ⟨[], kY _ _ (s6 _ _ a1), .nil⟩, ⟨[], kY _ _ (s6 _ _ a2), .nil⟩⟩, kY _ _ upd_same⟩
end
end Any
namespace Any
open L2 PySem PySem.Spec PyProof.Rows
abbrev sBag : Stmt := top 29
abbrev sTake : Stmt := top 30
theorem scBag : FnScope ["_law_script", "_law_at", "_law_cell", "_law_far"] ["_law_script", "_law_at"] (defScope sBag) := ⟨rfl, rfl, rfl, by decide +kernel, rfl, by decide +kernel, by decide +kernel⟩
theorem scTake : FnScope ["_law_bag_here", "_law_many", "_law_digit", "_law_primes", "_law_turn", "_law_base", "_law_mixed"] ["_law_bag_here", "_law_many"] (defScope sTake) := ⟨rfl, rfl, rfl, by decide +kernel, rfl, by decide +kernel, by decide +kernel⟩
/-- a bag from which so many may still be taken -/
def Bag (H : Hp) (b : Addr) (k : Nat) : Prop := ∃ g s c : Int, H b = some (.lst [.int g, .int s, .int c]) ∧ 0 ≤ g ∧ 0 ≤ s ∧ s < 2 ^ 62 ∧ 0 ≤ c ∧ c + k < 2 ^ 40
theorem Bag.less {H : Hp} {b : Addr} {m n : Nat} (h : Bag H b m) (k : n ≤ m) : Bag H b n := by
  obtain ⟨g, s, c, h1, h2, h3, h4, h5, h6⟩ := h
  exact ⟨g, s, c, h1, h2, h3, h4, h5, by omega⟩
theorem Bag.keep {H H' : Hp} {b : Addr} {n : Nat} (h : Bag H b n) (k : Same H H') : Bag H' b n := by
  obtain ⟨g, s, c, h1, h2⟩ := h
  exact ⟨g, s, c, k _ _ h1, h2⟩
theorem Bag.keepX {H H' : Hp} {b x : Addr} {n : Nat} (h : Bag H b n) (k : Kept x H H') (ne : b ≠ x) : Bag H' b n := by
  obtain ⟨g, s, c, h1, h2⟩ := h
  exact ⟨g, s, c, k _ _ ne h1, h2⟩
theorem Bag.lst {H : Hp} {b : Addr} {n : Nat} (h : Bag H b n) : ∃ xs, H b = some (.lst xs) := by
  obtain ⟨g, s, c, h1, h2⟩ := h
  exact ⟨_, h1⟩
theorem Bag.tups {H H' : Hp} {b : Addr} {n : Nat} (h : Bag H b n) (k : Kept b H H') : Tups H H' := by
  obtain ⟨xs, h⟩ := h.lst
  exact k.tups h
theorem Bag.ne {H : Hp} {b p : Addr} {n : Nat} (h : Bag H b n) (k : H p = none) : p ≠ b := by
  obtain ⟨xs, h⟩ := h.lst
  intro e
  rw [e, h] at k
  cases k
theorem Bag.put {H : Hp} {b p : Addr} {n : Nat} {o : HO} (h : Bag H b n) (ne : b ≠ p) : Bag (upd H p o) b n := by
  obtain ⟨g, s, c, h1, h2⟩ := h
  exact ⟨g, s, c, by rw [upd_ne ne]; exact h1, h2⟩
def spBag (K : PySem.W.Frag) : Sp := fun vs H Q _ => ∃ (a : Addr) (ns : List Int) (k : Int), vs = [.ref a, .int k] ∧ SqL K H a (ns.map V.int) ∧ 0 ≤ k ∧ k < 64 ∧ ∀ (b : Addr) (H' : Hp), H b = none → Same H H' → Bag H' b 1000000000 → Q (.ref b) H'
def spTake : Sp := fun vs H Q _ => ∃ (b : Addr) (m : Int) (n : Nat), vs = [.ref b, .int m] ∧ Bag H b (n + 1) ∧ 1 ≤ m ∧ m ≤ 1000000 ∧
  ∀ (d : Int) (H' : Hp), Kept b H H' → Bag H' b n → 0 ≤ d → d < m → Q (.int d) H'
def primes : List Int := [2147483647, 2147483629, 2147483587, 2147483579, 2147483563, 2147483549, 2147483543]
theorem prime_at {r : Int} (h0 : 0 ≤ r) (h1 : r < 7) : ∃ p : Int, atI (primes.map V.int) r = some (.int p) ∧ 0 < p ∧ p < 2 ^ 31 := by
  have : r = 0 ∨ r = 1 ∨ r = 2 ∨ r = 3 ∨ r = 4 ∨ r = 5 ∨ r = 6 := by omega
  rcases this with rfl | rfl | rfl | rfl | rfl | rfl | rfl <;> exact ⟨_, rfl, by decide, by decide⟩
theorem base_bits {s c : Int} (h1 : 0 ≤ s) (h2 : s < 2 ^ 62) (h3 : 0 ≤ c) (h4 : c < 2 ^ 40) : CPowW (s * (2 * c + 1) + 4583 * c * c + 53) 3 := by
  refine ⟨by decide, ?_⟩
  have a1 : 0 ≤ s * (2 * c + 1) := Int.mul_nonneg h1 (by omega)
  have a2 : s * (2 * c + 1) ≤ 2 ^ 62 * 2 ^ 42 := Int.mul_le_mul (by omega) (by omega) (by omega) (by decide)
  have a3 : 0 ≤ 4583 * c * c := Int.mul_nonneg (by omega) h3
  have a4 : 4583 * c * c ≤ 2 ^ 53 * 2 ^ 40 := Int.mul_le_mul (by omega) (by omega) h3 (by decide)
  have b : (s * (2 * c + 1) + 4583 * c * c + 53).natAbs < 2 ^ 110 := by
    generalize s * (2 * c + 1) = x at *
    generalize 4583 * c * c = y at *
    omega
  have c1 := intBits_le b
  omega
section
variable {P : Program} {w : World} {K : PySem.W.Frag} {mg : Str → Option Value} {base : Heap} {f : Addr} {fd : FuncData}
theorem ok_bag (O : Own mg) (F : Fun K "_law_bag" "_law_bag" sBag f fd) : FnOk P w K mg base CX0 1 f fd ["_law_script", "_law_at"] (spBag K) := by
  refine F.ok scBag (fun vs H Q E h => ?_) (fun cdv A outer s H vs Q E hr h => ?_)
  · obtain ⟨a, ns, k, rfl, _⟩ := h
    rfl
  obtain ⟨a, ns, k, rfl, hS, h0, h1, q⟩ := h
  have fin : ∀ cell : Int, ∀ (b : Addr), H b = none → Q (.ref b) (upd H b (.lst [.int ((if cell < 0 then -cell else cell) * (if decide ((10 : Int) ^ (18 : Int).toNat ≤ (if cell < 0 then -cell else cell)) = true then 1 else 0)), .int (cell % 1000000000000000003 + 4073 * k * k + 43 * k + 37), .int 0])) := fun cell b hb => by
    refine q b _ hb (same_new hb _) ⟨_, _, _, upd_same, ?_, ?_, ?_, Int.le_refl 0, by decide⟩
    · refine Int.mul_nonneg (by split <;> omega) (by split <;> omega)
    · have z := Int.emod_nonneg cell (show (1000000000000000003 : Int) ≠ 0 by decide)
      have z2 : 0 ≤ 4073 * k * k := Int.mul_nonneg (Int.mul_nonneg (by decide) h0) h0
      omega
    · have z := Int.emod_lt_of_pos cell (show (0 : Int) < 1000000000000000003 by decide)
      have z2 : 4073 * k * k ≤ 4073 * 64 * 64 := by
        have a1 : 4073 * k ≤ 4073 * 64 := by omega
        have a2 : 4073 * k * k ≤ 4073 * 64 * k := Int.mul_le_mul_of_nonneg_right a1 h0
        have a3 : 4073 * 64 * k ≤ 4073 * 64 * 64 := by omega
        omega
      omega
  have one : ∀ c : Bool, -(2 ^ 64) < (if c = true then (1 : Int) else 0) ∧ (if c = true then (1 : Int) else 0) < 2 ^ 64 := fun c => by cases c <;> decide
  obtain ⟨tT, hT, leafT⟩ : ∃ t, PSs (cxOf CX0 P w K mg base ["_law_script", "_law_at", "_law_cell", "_law_far"] "_law_bag" (defScope sBag) f cdv A outer s H E).nox ((defBody sBag).drop 2) t ∧ ∀ cell : Int, t { nx := fun _ H' => Q .non H', rt := Q } [some (.ref a), some (.int k), some (.int cell), none] H := by
    refine ⟨_, pss_cons (ps_set (i := 3) scBag.nd rfl (Or.inl rfl) (pe_callB call_abs rfl O.abs (by decide +kernel) (pa_cons (pv 2) pa_nil)))
      (pss_one (ps_ret (pe_lst (pa_cons (pe_op op_mul (pv 3) (pe_callTy call_int1 rfl O.int (by decide +kernel) (pa_cons (pe_cmpR op_ge (pv 3) (pe_op op_pow pe_int pe_int) (nomark _)) pa_nil)))
        (pa_cons (pe_op op_add (pe_op op_add (pe_op op_add (pe_op op_mod (pv 2) pe_int) (pe_op op_mul (pe_op op_mul pe_int (pv 1)) (pv 1))) (pe_op op_mul pe_int (pv 1))) pe_int) (pa_cons pe_int pa_nil)))))), ?_⟩
    intro cell
    refine ⟨_, rfl, _, rfl, ?_⟩
    refine ⟨_, rfl, _, rfl, _, _, rfl, rfl, ⟨by decide, by decide, by decide⟩, _, _, rfl, rfl, .inr ⟨_, rfl, _, _, rfl, rfl, .inr (one _), ?_⟩⟩
    refine ⟨_, rfl, _, _, rfl, rfl, (by show (0 : Int) < 1000000000000000003; decide), _, rfl, _, _, rfl, rfl, .inl ⟨by decide, by decide⟩, _, rfl, _, _, rfl, rfl, .inl ⟨by omega, by omega⟩, _, _, rfl, rfl, ?_⟩
    exact ⟨_, rfl, _, _, rfl, rfl, .inl ⟨by decide, by decide⟩, _, _, rfl, rfl, _, _, rfl, rfl, (by show 3 ≤ sizeLine; decide), fun p hp => fin cell p hp⟩
  refine ⟨_, pss_cons (ps_set (i := 2) scBag.nd rfl (Or.inl rfl) pe_int)
    (pss_cons (ps_if (pt_cmpR op_lt (pv 1) (pe_callB call_len_seq rfl O.len PySem.boot_len (pa_cons (pv 0) pa_nil)) (nomark _)) (pss_one (ps_set (i := 2) scBag.nd rfl (Or.inl rfl) (pe_ix ix_list (pv 0) (pv 1) (fun _ _ => rfl)))) pss_nil) hT), ?_⟩
  refine ⟨_, rfl, _, rfl, a, _, rfl, .inl hS, _, _, rfl, rfl, _, rfl, itD (fun c => ?_) (fun c => leafT 0)⟩
  rw [List.length_map] at c
  have hk : k.toNat < ns.length := by omega
  have ek : k = ((k.toNat : Nat) : Int) := by omega
  have q2 : atI (ns.map V.int) ((k.toNat : Nat) : Int) = some (.int ns[k.toNat]) := atI_nat (by rw [List.getElem?_map, List.getElem?_eq_getElem hk]; rfl)
  rw [← ek] at q2
  exact ⟨_, rfl, _, rfl, a, _, _, _, rfl, rfl, hS, q2, leafT _⟩
theorem ok_take (F : Fun K "_law_take" "_law_take" sTake f fd) : FnOk P w K mg base CX0 1 f fd ["_law_bag_here", "_law_many"] spTake := by
  refine F.ok scTake (fun vs H Q E h => ?_) (fun cdv A outer s H vs Q E hr h => ?_)
  · obtain ⟨b, m, n, rfl, _⟩ := h
    rfl
  obtain ⟨b, m, n, rfl, ⟨g, sd, c, hb, hg, hs0, hs1, hc0, hc1⟩, hm0, hm1, q⟩ := h
  refine ⟨_, pss_cons (ps_if (pt_cmpR op_gt (pe_ix ix_list (pv 0) pe_int (fun _ _ => rfl)) pe_int (nomark _))
      (pss_cons (ps_set (i := 2) scTake.nd rfl (Or.inl rfl) (pe_op op_mod (pe_ix ix_list (pv 0) pe_int (fun _ _ => rfl)) (pv 1)))
      (pss_cons (ps_asg (pe_op op_fdiv (pe_ix ix_list (pv 0) pe_int (fun _ _ => rfl)) (pv 1)) (pg_sub (pv 0) pe_int set_list))
      (pss_one (ps_ret (pv 2))))) pss_nil)
    (pss_cons (ps_set (i := 3) scTake.nd rfl (Or.inl rfl) (pe_tup (pa_cons pe_int (pa_cons pe_int (pa_cons pe_int (pa_cons pe_int (pa_cons pe_int (pa_cons pe_int (pa_cons pe_int pa_nil)))))))))
    (pss_cons (ps_asg (pe_op op_add (pe_ix ix_list (pv 0) pe_int (fun _ _ => rfl)) pe_int) (pg_sub (pv 0) pe_int set_list))
    (pss_cons (ps_set (i := 4) scTake.nd rfl (Or.inl rfl) (pe_ix ix_list (pv 0) pe_int (fun _ _ => rfl)))
    (pss_cons (ps_set (i := 5) scTake.nd rfl (Or.inl rfl) (pe_op op_add (pe_op op_add (pe_op op_mul (pe_ix ix_list (pv 0) pe_int (fun _ _ => rfl)) (pe_op op_add (pe_op op_mul pe_int (pv 4)) pe_int)) (pe_op op_mul (pe_op op_mul pe_int (pv 4)) (pv 4))) pe_int))
    (pss_cons (ps_set (i := 6) scTake.nd rfl (Or.inl rfl) (pe_op op_mod (pe_op op_powW (pv 5) pe_int) (pe_ix ix_tup (pv 3) (pe_op op_mod (pv 4) pe_int) (fun _ _ => rfl))))
    (pss_one (ps_ret (pe_op op_mod (pe_op op_fdiv (pe_op op_mod (pe_op op_mul (pv 6) (pe_op op_add (pe_op op_add (pe_op op_fdiv (pv 6) pe_int) (pe_op op_mul pe_int (pv 4))) pe_int)) (pe_ix ix_tup (pv 3) (pe_op op_mod (pe_op op_add (pv 4) pe_int) pe_int) (fun _ _ => rfl))) pe_int) (pv 1))))))))), ?_⟩
  refine ⟨_, rfl, b, _, _, _, rfl, rfl, SqL.of hb, atI_nat (j := 0) rfl, _, _, rfl, rfl, _, rfl, ?_⟩
  refine ite2 (fun c' => ?_) (fun c' => ?_)
  · refine ⟨_, rfl, b, _, _, _, rfl, rfl, SqL.of hb, atI_nat (j := 0) rfl, _, rfl, _, _, rfl, rfl, (by omega), ?_⟩
    refine ⟨_, rfl, b, _, _, _, rfl, rfl, SqL.of hb, atI_nat (j := 0) rfl, _, rfl, _, _, rfl, rfl, ⟨by omega, by omega⟩, ?_⟩
    refine ⟨_, rfl, b, _, _, 0, rfl, rfl, hb, rfl, ?_⟩
    refine ⟨_, rfl, q _ _ (Kept.put _) ⟨_, _, _, upd_same, ?_, hs0, hs1, hc0, by omega⟩ (Int.emod_nonneg _ (by omega)) (Int.emod_lt_of_pos _ (by omega))⟩
    exact Int.ediv_nonneg hg (by omega)
  · refine ⟨(by show 7 ≤ sizeLine; decide), fun p hp => ?_⟩
    have bp : b ≠ p := ne_of_none hb hp
    have hb1 : upd H p (.tup (primes.map V.int)) b = some (.lst [.int g, .int sd, .int c]) := by rw [upd_ne bp]; exact hb
    refine ⟨_, rfl, b, _, _, _, rfl, rfl, SqL.of hb1, atI_nat (j := 2) rfl, _, _, rfl, rfl, ?_⟩
    refine ⟨_, rfl, b, _, _, 2, rfl, rfl, hb1, rfl, ?_⟩
    have hb2 : upd (upd H p (.tup (primes.map V.int))) b (.lst [.int g, .int sd, .int (c + 1)]) b = some (.lst [.int g, .int sd, .int (c + 1)]) := upd_same
    have hp2 : upd (upd H p (.tup (primes.map V.int))) b (.lst [.int g, .int sd, .int (c + 1)]) p = some (.tup (primes.map V.int)) := by rw [upd_ne bp.symm]; exact upd_same
    have kept : Kept b H (upd (upd H p (.tup (primes.map V.int))) b (.lst [.int g, .int sd, .int (c + 1)])) := (Kept.new hp _).trans (Kept.put _)
    have bag : Bag (upd (upd H p (.tup (primes.map V.int))) b (.lst [.int g, .int sd, .int (c + 1)])) b n := ⟨_, _, _, hb2, hg, hs0, hs1, by omega, by omega⟩
    have c0 : 0 ≤ c + 1 := by omega
    have c1 : c + 1 < 2 ^ 40 := by omega
    refine ⟨_, rfl, b, _, _, _, rfl, rfl, SqL.of hb2, atI_nat (j := 2) rfl, ?_⟩
    refine ⟨_, rfl, b, _, _, _, rfl, rfl, SqL.of hb2, atI_nat (j := 1) rfl, _, rfl, _, _, rfl, rfl, .inl ⟨by decide, by decide⟩, _, _, rfl, rfl, _, _, rfl, rfl, .inl ⟨by omega, by omega⟩, ?_⟩
    refine ⟨_, rfl, _, _, rfl, rfl, .inl ⟨by decide, by decide⟩, _, rfl, _, _, rfl, rfl, .inl ⟨by omega, by omega⟩, _, _, rfl, rfl, _, _, rfl, rfl, ?_⟩
    obtain ⟨p1, e1, p10, p11⟩ := prime_at (r := (c + 1) % 7) (by omega) (by omega)
    refine ⟨_, rfl, _, _, rfl, rfl, base_bits hs0 hs1 c0 c1, _, rfl, _, rfl, _, _, rfl, rfl, (by show (0 : Int) < 7; decide), p, _, _, _, rfl, rfl, SqT.of hp2, e1, _, _, rfl, rfl, p10, ?_⟩
    have m2 : -(2 ^ 64) < (sd * (2 * (c + 1) + 1) + 4583 * (c + 1) * (c + 1) + 53) ^ Int.toNat 3 % p1 ∧ (sd * (2 * (c + 1) + 1) + 4583 * (c + 1) * (c + 1) + 53) ^ Int.toNat 3 % p1 < 2 ^ 64 := by
      have m0 := Int.emod_nonneg ((sd * (2 * (c + 1) + 1) + 4583 * (c + 1) * (c + 1) + 53) ^ Int.toNat 3) (show p1 ≠ 0 by omega)
      have m1 := Int.emod_lt_of_pos ((sd * (2 * (c + 1) + 1) + 4583 * (c + 1) * (c + 1) + 53) ^ Int.toNat 3) p10
      generalize (sd * (2 * (c + 1) + 1) + 4583 * (c + 1) * (c + 1) + 53) ^ Int.toNat 3 % p1 = mx at *
      omega
    obtain ⟨p2, e2, p20, p21⟩ := prime_at (r := (c + 1 + 4) % 7) (by omega) (by omega)
    refine ⟨_, rfl, _, rfl, _, _, rfl, rfl, ⟨by decide, by decide⟩, _, rfl, _, _, rfl, rfl, .inl ⟨by decide, by decide⟩, _, _, rfl, rfl, _, _, rfl, rfl, _, _, rfl, rfl, .inl m2, ?_⟩
    refine ⟨_, rfl, _, rfl, _, _, rfl, rfl, _, _, rfl, rfl, (by show (0 : Int) < 7; decide), p, _, _, _, rfl, rfl, SqT.of hp2, e2, _, _, rfl, rfl, p20, _, _, rfl, rfl, ⟨by decide, by decide⟩, _, rfl, _, _, rfl, rfl, (by omega), ?_⟩
    exact q _ _ kept bag (Int.emod_nonneg _ (by omega)) (Int.emod_lt_of_pos _ (by omega))
end
end Any
namespace Any
open L2 PySem PySem.Spec PyProof.Rows
abbrev sGone : Stmt := top 32
abbrev nmGone : List Str := ["_law_bag_here", "_law_runs", "_law_gap", "_law_is_answered", "_law_found", "_law_k", "_law_is_less"]
abbrev psGone : List Str := ["_law_bag_here", "_law_runs", "_law_gap", "_law_is_answered"]
theorem scGone : FnScope nmGone psGone (defScope sGone) := ⟨rfl, rfl, rfl, by decide +kernel, rfl, by decide +kernel, by decide +kernel⟩
/-- how many were lost last, by what is lost now -/
def runB (g : Int × Int) (l : Bool × Bool) (ans : Bool) : Int × Int := (if l.1 = true then g.1 + 1 else 0, if ans = true then (if l.2 = true then g.2 + 1 else 0) else g.2)
def RunAt (H : Hp) (r : Addr) (g : Int × Int) : Prop := H r = some (.lst [.int g.1, .int g.2])
def spGone : Sp := fun vs H Q _ => ∃ (b r : Addr) (n : Nat) (g : Int × Int) (gap : Int) (ans : Bool), vs = [.ref b, .ref r, .int gap, .bl ans] ∧ Bag H b (n + 2) ∧ RunAt H r g ∧
  ∀ p H' (l : Bool × Bool), Ks [b, r] H H' → Bag H' b n → RunAt H' r (runB g l ans) → H p = none → H' p = some (.tup [.bl l.1, .bl l.2]) → (l.1 = true → g.1 + 1 < gap) → (l.2 = true → g.2 + 1 < gap) → Q (.ref p) H'
def Tr (g : Int × Int) (gap : Int) (ans : Bool) (i : Nat) (ls : List Bool) (xs : List Int) : Prop :=
  (i = 0 ∧ ls = [] ∧ xs = [g.1, g.2]) ∨ (i = 1 ∧ ∃ l, ls = [l] ∧ xs = [(if l = true then g.1 + 1 else 0), g.2] ∧ (l = true → g.1 + 1 < gap)) ∨
  (i = 2 ∧ ∃ l m, ls = [l, m] ∧ xs = [(if l = true then g.1 + 1 else 0), if ans = true then (if m = true then g.2 + 1 else 0) else g.2] ∧ (l = true → g.1 + 1 < gap) ∧ (m = true → g.2 + 1 < gap))
theorem tr_step {g : Int × Int} {gap : Int} {ans : Bool} {i : Nat} {ls : List Bool} {xs : List Int} (h : Tr g gap ans i ls xs) (hi : i < 2) : ∃ v, xs[i]? = some v ∧ ls.length = i ∧ xs.length = 2 ∧ ∀ l : Bool, (l = true → v + 1 < gap) →
    ((i = 0 ∨ ans = true) → Tr g gap ans (i + 1) (ls ++ [l]) (xs.set i (if l = true then v + 1 else 0))) ∧ (¬ (i = 0 ∨ ans = true) → Tr g gap ans (i + 1) (ls ++ [l]) xs) := by
  rcases h with ⟨rfl, rfl, rfl⟩ | ⟨rfl, l, rfl, rfl, hl⟩ | ⟨rfl, _⟩
  · exact ⟨g.1, rfl, rfl, rfl, fun m hm => ⟨fun _ => .inr (.inl ⟨rfl, m, rfl, rfl, hm⟩), fun z => absurd (.inl rfl) z⟩⟩
  · refine ⟨g.2, rfl, rfl, rfl, fun m hm => ⟨fun z => .inr (.inr ⟨rfl, l, m, rfl, ?_, hl, hm⟩), fun z => .inr (.inr ⟨rfl, l, m, rfl, ?_, hl, hm⟩)⟩⟩
    · rcases z with z | z
      · cases z
      · rw [if_pos z]; rfl
    · rw [if_neg (fun q => z (.inr q))]
  · omega
section
variable {P : Program} {w : World} {K : PySem.W.Frag} {mg : Str → Option Value} {base : Heap} {f : Addr} {fd : FuncData}
theorem ok_gone (O : Own mg) (F : Fun K "_law_gone" "_law_gone" sGone f fd) (D1 : Df P w K mg base 1 "_law_take" ["_law_bag_here", "_law_many"] spTake) : FnOk P w K mg base CX0 2 f fd psGone spGone := by
  refine F.ok scGone (fun vs H Q E h => ?_) (fun cdv A outer s H vs Q E hr h => ?_)
  · obtain ⟨b, r, n, g, gap, ans, rfl, _⟩ := h
    rfl
  obtain ⟨b, r, n, g, gap, ans, rfl, hB, hR, q⟩ := h
  have br : b ≠ r := by
    obtain ⟨g1, s1, c1, h1, _⟩ := hB
    exact ne_of h1 hR (by intro z; cases z)
  -- a turn's end
  let X := (cxOf CX0 P w K mg base nmGone "_law_gone" (defScope sGone) f cdv A outer s H E).nox
  let Pv (Fd : Addr) (i : Nat) (σ : L2.St) (H' : Hp) : Prop := ∃ (ls : List Bool) (xs : List Int) (z5 z6 : Option V), σ = [some (.ref b), some (.ref r), some (.int gap), some (.bl ans), some (.ref Fd), z5, z6] ∧ H' Fd = some (.lst (ls.map V.bl)) ∧ H' r = some (.lst (xs.map V.int)) ∧ Tr g gap ans i ls xs ∧ Bag H' b (n + (2 - i)) ∧ Ks [b, r] H H'
  obtain ⟨tT, hT, leafT⟩ : ∃ t, PSs X ((forBody (stAt (defBody sGone) 1)).drop 1) t ∧ ∀ (Fd : Addr) (i : Nat) (ls : List Bool) (xs : List Int) (v : Int) (l : Bool) (H2 : Hp) (D : Ends), i < 2 → xs[i]? = some v → xs.length = 2 → ls.length = i → Fd ≠ b → r ≠ Fd →
      H2 Fd = some (.lst (ls.map V.bl)) → H2 r = some (.lst (xs.map V.int)) →
      (∀ H3, Ks [r, Fd] H2 H3 → H3 Fd = some (.lst ((ls ++ [l]).map V.bl)) → ((i = 0 ∨ ans = true) → H3 r = some (.lst ((xs.set i (if l = true then v + 1 else 0)).map V.int))) → (¬ (i = 0 ∨ ans = true) → H3 r = some (.lst (xs.map V.int))) →
        D.nx [some (.ref b), some (.ref r), some (.int gap), some (.bl ans), some (.ref Fd), some (.int (0 + i)), some (.bl l)] H3) →
      t D [some (.ref b), some (.ref r), some (.int gap), some (.bl ans), some (.ref Fd), some (.int (0 + i)), some (.bl l)] H2 := by
    refine ⟨_, pss_cons (ps_expr (pe_bm PySem.F.plainAttrs_list PySem.F.slot_list_append PySem.F.type_list_append mt_append (pv 4) (pa_cons (pv 6) pa_nil)))
      (pss_one (ps_if (PW.pt (pw_or (pt_cmpR op_eq (pv 5) pe_int (nomark _)) (pw_or1 (pt_val (pv 3))))) (pss_one (ps_asg (pe_ifExp (pt_val (pv 6)) (pe_op op_add (pe_ix ix_list (pv 1) (pv 5) (fun _ _ => rfl)) pe_int) pe_int) (pg_sub (pv 1) (pv 5) set_list))) pss_nil)), ?_⟩
    intro Fd i ls xs v l H2 D hi hv h2 hl bF rF hF hR2 nx
    have hat : atI (xs.map V.int) (0 + (i : Int)) = some (.int v) := by
      rw [Int.zero_add]
      exact atI_nat (by rw [List.getElem?_map, hv]; rfl)
    refine ⟨_, rfl, .inl ⟨rfl, _, SqL.of hF⟩, _, rfl, Fd, _, _, rfl, rfl, hF, small1000 (by rw [List.length_map]; omega), ?_⟩
    have e3 : upd H2 Fd (.lst (ls.map V.bl ++ [.bl l])) Fd = some (.lst ((ls ++ [l]).map V.bl)) := by rw [upd_same, List.map_append]; rfl
    have r3 : upd H2 Fd (.lst (ls.map V.bl ++ [.bl l])) r = some (.lst (xs.map V.int)) := by rw [upd_ne rF]; exact hR2
    have k3 : Ks [r, Fd] H2 (upd H2 Fd (.lst (ls.map V.bl ++ [.bl l]))) := ks_put (by simp) _
    generalize upd H2 Fd (.lst (ls.map V.bl ++ [.bl l])) = H3 at *
    have write : (i = 0 ∨ ans = true) → ∀ z : Int, z = (if l = true then v + 1 else 0) → D.nx [some (.ref b), some (.ref r), some (.int gap), some (.bl ans), some (.ref Fd), some (.int (0 + i)), some (.bl l)] (upd H3 r (.lst ((xs.map V.int).set i (.int z)))) := fun c z hz => by
      refine nx _ (k3.trans (ks_put (by simp) _)) (by rw [upd_ne rF.symm]; exact e3) (fun _ => ?_) (fun c' => absurd c c')
      rw [upd_same, hz, List.map_set]
    have hix : ixN (xs.map V.int).length (0 + (i : Int)) = some i := by
      rw [Int.zero_add, List.length_map]
      unfold ixN
      simp
      omega
    have set_ : (i = 0 ∨ ans = true) → tAsg (tIf (tTest (tVar 6)) (tOp (rI0 fun i j => V.int (i + j)) (tOp (rIxL K) (tVar 1) (tVar 5)) (tC (V.int 1))) (tC (V.int 0))) (gSub (tVar 1) (tVar 5) rSetL) D [some (.ref b), some (.ref r), some (.int gap), some (.bl ans), some (.ref Fd), some (.int (0 + i)), some (.bl l)] H3 := fun c => by
      refine ⟨_, rfl, l, rfl, ?_⟩
      cases l with
      | true => exact itT rfl ⟨_, rfl, _, rfl, r, _, _, _, rfl, rfl, SqL.of r3, hat, _, _, rfl, rfl, _, rfl, _, rfl, r, _, _, i, rfl, rfl, r3, hix, write c _ rfl⟩
      | false => exact itF rfl ⟨_, rfl, _, rfl, r, _, _, i, rfl, rfl, r3, hix, write c _ rfl⟩
    refine ⟨_, rfl, rfl, _, rfl, itEq (fun c => ?_) (fun c => ?_)⟩
    · exact itT rfl (set_ (.inl (by omega)))
    · refine ⟨_, rfl, ans, rfl, ?_⟩
      cases ha : ans with
      | true => exact itT rfl (by subst ha; exact set_ (.inr rfl))
      | false =>
        subst ha
        exact itF rfl (nx _ k3 e3 (fun z => by rcases z with z | z; omega; cases z) (fun _ => r3))
  refine ⟨_, pss_cons (ps_set (i := 4) scGone.nd rfl (Or.inl rfl) (pe_lst pa_nil))
    (pss_cons (ps_for PassesOwn.never rfl (pi_range1 rfl O.range (pa_cons pe_int pa_nil)) (pg_name (i := 5) scGone.nd rfl (Or.inl rfl))
      (pss_cons (ps_set (i := 6) scGone.nd rfl (Or.inl rfl) (pe_and (pe_cmpR op_lt (pe_op op_add (pe_ix ix_list (pv 1) (pv 5) (fun _ _ => rfl)) pe_int) (pv 2) (nomark _)) (pe_one (pe_cmpR op_gt (pe_D D1 hr rfl (pa_cons (pv 0) (pa_cons pe_int pa_nil))) pe_int (nomark _))))) hT))
    (pss_one (ps_ret (pe_tup (pa_cons (pe_ix ix_list (pv 4) pe_int (fun _ _ => rfl)) (pa_cons (pe_ix ix_list (pv 4) pe_int (fun _ _ => rfl)) pa_nil)))))), ?_⟩
  refine ⟨by show 0 ≤ sizeLine; decide, fun Fd hF => ?_⟩
  have bF : Fd ≠ b := hB.ne hF
  have rF : r ≠ Fd := ne_of_none hR hF
  refine ⟨2, rfl, by decide, by decide, ?_⟩
  refine for_range (lo := 0) (n := 2) (Pv Fd) ⟨[], [g.1, g.2], none, none, rfl, upd_same, by rw [upd_ne rF]; exact hR, .inl ⟨rfl, rfl, rfl⟩, hB.put bF.symm, ks_new hF _⟩ ?_ ?_
  · rintro i σ H1 hi ⟨ls, xs, z5, z6, rfl, hFd, hr1, tr, B1, k1⟩
    obtain ⟨v, hv, l1, l2, st⟩ := tr_step tr hi
    have hat : atI (xs.map V.int) (0 + (i : Int)) = some (.int v) := by
      rw [Int.zero_add]
      exact atI_nat (by rw [List.getElem?_map, hv]; rfl)
    refine ⟨_, rfl, _, rfl, r, _, _, _, rfl, rfl, SqL.of hr1, hat, _, _, rfl, rfl, _, rfl, _, _, rfl, rfl, _, rfl, ?_⟩
    have fin : ∀ (l : Bool) (H2 : Hp), (l = true → v + 1 < gap) → Kept b H1 H2 → Bag H2 b (n + (2 - (i + 1))) → ∀ D : Ends, D.nx = (fun σ' H' => Pv Fd (i + 1) σ' H') →
        tT D [some (.ref b), some (.ref r), some (.int gap), some (.bl ans), some (.ref Fd), some (.int (0 + i)), some (.bl l)] H2 := fun l H2 hl k2 B2 D hD => by
      refine leafT Fd i ls xs v l H2 D hi hv l2 l1 bF rF (k2 _ _ bF hFd) (k2 _ _ br.symm hr1) fun H3 k3 e3 y n3 => ?_
      rw [hD]
      have kk : Ks [b, r] H H3 := fun a o na ha => by
        have nb : a ≠ b := fun z => na (by simp [z])
        have nr : a ≠ r := fun z => na (by simp [z])
        refine k3 a o ?_ (k2 a o nb (k1 a o na ha))
        simp only [List.mem_cons, List.not_mem_nil, or_false, not_or]
        exact ⟨nr, ne_of_none ha hF⟩
      have B3 : Bag H3 b (n + (2 - (i + 1))) := by
        obtain ⟨g1, s1, c1, h1, h2⟩ := B2
        exact ⟨g1, s1, c1, k3 b _ (by simp only [List.mem_cons, List.not_mem_nil, or_false, not_or]; exact ⟨br, bF.symm⟩) h1, h2⟩
      obtain ⟨s1, s2⟩ := st l hl
      by_cases c : i = 0 ∨ ans = true
      · exact ⟨_, _, _, _, rfl, e3, y c, s1 c, B3, kk⟩
      · exact ⟨_, _, _, _, rfl, e3, n3 c, s2 c, B3, kk⟩
    refine itD (fun c => ?_) (fun c => ?_)
    · refine ⟨_, rfl, b, 3, n + (2 - (i + 1)), rfl, B1.less (by omega), by decide, by decide, fun d H2 k2 B2 d0 d1 => ⟨_, _, rfl, rfl, ?_⟩⟩
      exact fin _ H2 (fun _ => c) k2 B2 _ rfl
    · exact fin false H1 (fun z => nomatch z) Kept.refl (B1.less (by omega)) _ rfl
  · rintro σ H1 ⟨ls, xs, z5, z6, rfl, hFd, hr1, tr, B1, k1⟩
    rcases tr with ⟨z, _⟩ | ⟨z, _⟩ | ⟨_, l, m, rfl, rfl, hl, hm⟩
    · cases z
    · cases z
    refine ⟨_, rfl, Fd, _, _, _, rfl, rfl, SqL.of hFd, atI_nat (j := 0) rfl, _, rfl, Fd, _, _, _, rfl, rfl, SqL.of hFd, atI_nat (j := 1) rfl, two, fun p hp => ?_⟩
    have s2 := same_new hp (.tup [.bl l, .bl m])
    have hp0 : H p = none := by
      cases z : H p with
      | none => rfl
      | some o =>
        exfalso
        by_cases hb : p = b
        · obtain ⟨_, _, _, h1, _⟩ := B1
          rw [hb, h1] at hp; cases hp
        · by_cases hr' : p = r
          · rw [hr', hr1] at hp; cases hp
          · rw [k1 p o (by simp only [List.mem_cons, List.not_mem_nil, or_false, not_or]; exact ⟨hb, hr'⟩) z] at hp
            cases hp
    exact q p _ (l, m) (k1.trans (Same.ks s2)) (B1.keep s2) (s2 _ _ hr1) hp0 upd_same hl hm
end
end Any
namespace Any
open L2 PySem PySem.Spec PyProof.Rows
abbrev sLStore : Stmt := top 31
abbrev nmLS : List Str := ["_law_bag_here", "_law_size", "_law_top", "_law_marking", "_law_some", "_law_turn", "_law_echoing", "_law_two", "_law_front"]
abbrev psLS : List Str := ["_law_bag_here", "_law_size", "_law_top"]
theorem scLS : FnScope nmLS psLS (defScope sLStore) := ⟨rfl, rfl, rfl, by decide +kernel, rfl, by decide +kernel, by decide +kernel⟩
def spLStore : Sp := fun vs H Q _ => ∃ (b : Addr) (k : Num) (n : Nat), vs = [.ref b, .int k.hold, .int k.bound] ∧ Bag H b (n + 60) ∧ NumOk k ∧
  ∀ p H' s, Kept b H H' → Bag H' b n → H p = none → StoAt H' p s → StoOk k s → Q (.ref p) H'
/-- None or a number, by a draw -/
theorem pick2 {d e top : Int} (e0 : 0 ≤ e) (e1 : e < 2) (d0 : 0 ≤ d) (d1 : d < top) : ∃ o : Option Int, atI [V.non, V.int d] e = some (ov o) ∧ ∀ i, o = some i → 0 ≤ i ∧ i < top := by
  have : e = 0 ∨ e = 1 := by omega
  rcases this with rfl | rfl
  · exact ⟨none, rfl, fun i z => by cases z⟩
  · exact ⟨some d, rfl, fun i z => by cases z; exact ⟨d0, d1⟩⟩
/-- a row that grows -/
structure GrowAt (H : Hp) (S : Addr) (r : Row) : Prop where
  ex : ∃ as : List Addr, H S = some (.lst (as.map V.ref)) ∧ Paired (fun a p => H a = some (.tup (pairV p))) as r
theorem GrowAt.keep {H H' : Hp} {S b : Addr} {r : Row} (h : GrowAt H S r) (k : Kept b H H') (t : Tups H H') (n : S ≠ b) : GrowAt H' S r := by
  obtain ⟨as, h1, h2⟩ := h.ex
  exact ⟨as, k _ _ n h1, paired_imp (fun _ _ z => t _ _ z) h2⟩
theorem GrowAt.more {H : Hp} {S p : Addr} {r : Row} {as : List Addr} {e : Int × Option Int} (h1 : H S = some (.lst (as.map V.ref))) (h2 : Paired (fun a p => H a = some (.tup (pairV p))) as r) (hp : H p = some (.tup (pairV e))) :
    GrowAt (upd H S (.lst (as.map V.ref ++ [.ref p]))) S (r ++ [e]) := by
  have t : ∀ a xs, H a = some (.tup xs) → upd H S (.lst (as.map V.ref ++ [.ref p])) a = some (.tup xs) := fun a xs h => by
    rw [upd_ne (ne_of h h1 (by intro z; cases z))]
    exact h
  refine ⟨as ++ [p], by rw [upd_same, List.map_append]; rfl, paired_snoc (R := fun a p' => upd H S (.lst (as.map V.ref ++ [.ref p])) a = some (.tup (pairV p'))) (t _ _ hp) (paired_imp (fun _ _ z => t _ _ z) h2)⟩
theorem GrowAt.len {H : Hp} {r : Row} {as : List Addr} (h : Paired (fun a p => H a = some (.tup (pairV p))) as r) : (as.map V.ref).length = r.length := by rw [List.length_map]; exact paired_len h
section
variable {P : Program} {w : World} {K : PySem.W.Frag} {mg : Str → Option Value} {base : Heap} {f : Addr} {fd : FuncData}
theorem ok_lstore (O : Own mg) (F : Fun K "_law_store" "_law_store" sLStore f fd) (D1 : Df P w K mg base 1 "_law_take" ["_law_bag_here", "_law_many"] spTake) : FnOk P w K mg base CX0 2 f fd psLS spLStore := by
  refine F.ok scLS (fun vs H Q E h => ?_) (fun cdv A outer s H vs Q E hr h => ?_)
  · obtain ⟨b, k, n, rfl, _⟩ := h
    rfl
  obtain ⟨b, k, n, rfl, hB, hN, q⟩ := h
  obtain ⟨hh0, hh1, _, _, hb0, hb1⟩ := hN
  refine ⟨_, pss_cons (ps_asg (pe_tup (pa_cons (pe_op op_add (pe_op op_mul pe_int (pv 1)) pe_int) (pa_cons (pe_lst pa_nil) pa_nil))) (pg_tup rfl (pgs_cons (pg_name (i := 3) scLS.nd rfl (Or.inr rfl)) (pgs_cons (pg_name (i := 4) scLS.nd rfl (Or.inl rfl)) pgs_nil))))
    (pss_cons (ps_for PassesOwn.never rfl (pi_range1 rfl O.range (pa_cons (pe_D D1 hr rfl (pa_cons (pv 0) (pa_cons (pe_op op_add (pv 1) pe_int) pa_nil))) pa_nil)) (pg_name (i := 5) scLS.nd rfl (Or.inl rfl))
      (pss_one (ps_expr (pe_bm PySem.F.plainAttrs_list PySem.F.slot_list_append PySem.F.type_list_append mt_append (pv 4) (pa_cons (pe_tup (pa_cons (pe_D D1 hr rfl (pa_cons (pv 0) (pa_cons (pv 3) pa_nil)))
        (pa_cons (pe_ix ix_list (pe_lst (pa_cons pe_non (pa_cons (pe_D D1 hr rfl (pa_cons (pv 0) (pa_cons (pv 2) pa_nil))) pa_nil))) (pe_D D1 hr rfl (pa_cons (pv 0) (pa_cons pe_int pa_nil))) (fun _ _ => rfl)) pa_nil))) pa_nil)))))
    (pss_cons (ps_setLc (i := 6) (own := [("_law_turn", 5)]) (g := gName 5) (tt := tYes) (by rfl) scLS.nd rfl rfl (sw_true rfl rfl rfl (by decide +kernel)) (pi_range1 rfl O.range (pa_cons (pe_D D1 hr rfl (pa_cons (pv 0) (pa_cons (pe_op op_add (pv 1) pe_int) pa_nil))) pa_nil)) (blkOk_by (N := nmLS) (sc := defScope sLStore) (by decide +kernel))
        (fun _ _ _ _ _ => pg_name (i := 5) scLS.nd rfl (Or.inl rfl)) (fun _ _ _ _ _ => pts_nil) (fun _ _ _ _ _ => pe_tup (pa_cons (pe_D D1 hr rfl (pa_cons (pv 0) (pa_cons (pv 3) pa_nil))) (pa_cons (pe_D D1 hr rfl (pa_cons (pv 0) (pa_cons pe_int pa_nil))) pa_nil))))
    (pss_cons (ps_setLc (i := 7) (own := [("_law_turn", 5)]) (g := gName 5) (tt := tYes) (by rfl) scLS.nd rfl rfl (sw_true rfl rfl rfl (by decide +kernel)) (pi_range1 rfl O.range (pa_cons pe_int pa_nil)) (blkOk_by (N := nmLS) (sc := defScope sLStore) (by decide +kernel))
        (fun _ _ _ _ _ => pg_name (i := 5) scLS.nd rfl (Or.inl rfl)) (fun _ _ _ _ _ => pts_nil) (fun _ _ _ _ _ => pe_ix (show IxR _ (rIxL K) from ix_list) (pe_lst (pa_cons pe_non (pa_cons (pe_D D1 hr rfl (pa_cons (pv 0) (pa_cons (pv 2) pa_nil))) pa_nil))) (pe_D D1 hr rfl (pa_cons (pv 0) (pa_cons pe_int pa_nil))) (fun _ _ => rfl)))
    (pss_cons (ps_set (i := 8) scLS.nd rfl (Or.inl rfl) (pe_tup (pa_cons (pe_D D1 hr rfl (pa_cons (pv 0) (pa_cons (pv 3) pa_nil))) (pa_cons (pe_D D1 hr rfl (pa_cons (pv 0) (pa_cons pe_int pa_nil))) (pa_cons (pe_ix ix_list (pv 7) pe_int (fun _ _ => rfl)) (pa_cons (pe_callTy call_tuple_of rfl O.tuple (by decide +kernel) (pa_cons (pv 4) pa_nil)) pa_nil))))))
    (pss_one (ps_ret (pe_op op_catT (pv 8) (pe_tup (pa_cons (pe_D D1 hr rfl (pa_cons (pv 0) (pa_cons (pv 3) pa_nil))) (pa_cons (pe_D D1 hr rfl (pa_cons (pv 0) (pa_cons pe_int pa_nil))) (pa_cons (pe_ix ix_list (pv 7) pe_int (fun _ _ => rfl)) (pa_cons (pe_callTy call_tuple_of rfl O.tuple (by decide +kernel) (pa_cons (pv 6) pa_nil)) pa_nil)))))))))))), ?_⟩
  have okm : ∀ d : Int, 0 ≤ d → d < 2 * k.hold + 1 → 0 ≤ d ∧ d ≤ 2 * k.hold := fun d h0 h1 => ⟨h0, by omega⟩
  refine ⟨_, rfl, _, _, rfl, rfl, .inl ⟨by decide, by decide⟩, _, _, rfl, rfl, by show 0 ≤ sizeLine; decide, fun S hS => ⟨two, fun p0 hp0 => ⟨p0, _, rfl, SqT.of upd_same, rfl, _, _, rfl, _, _, rfl, rfl, ?_⟩⟩⟩
  have s1 := (same_new hS (.lst [])).trans (same_new hp0 (.tup [.int (2 * k.hold + 1), .ref S]))
  have eS : upd (upd H S (.lst [])) p0 (.tup [.int (2 * k.hold + 1), .ref S]) S = some (.lst ([].map V.ref)) := same_new hp0 _ _ _ upd_same
  have bS : S ≠ b := hB.ne hS
  have B1 := hB.keep s1
  have k1 : Kept b H _ := Kept.of s1
  clear hp0
  generalize upd (upd H S (.lst [])) p0 (.tup [.int (2 * k.hold + 1), .ref S]) = H1 at *
  refine ⟨_, rfl, _, rfl, _, _, rfl, rfl, b, k.hold + 1, n + 59, rfl, B1, by omega, by omega, fun d1 H2 k2 B2 d10 d11 => ⟨d1, rfl, by omega, by omega, ?_⟩⟩
  refine for_range (lo := 0) (fun i σ H' => ∃ (r : Row) (z5 : Option V), σ = [some (.ref b), some (.int k.hold), some (.int k.bound), some (.int (2 * k.hold + 1)), some (.ref S), z5, none, none, none] ∧ GrowAt H' S r ∧ r.length = i ∧
      (∀ e ∈ r, 0 ≤ e.1 ∧ e.1 ≤ 2 * k.hold ∧ ∀ i, e.2 = some i → 0 ≤ i ∧ i < k.bound) ∧ Bag H' b (n + 59 - 3 * i) ∧ Kept b H H') ⟨[], none, rfl, ⟨[], k2 _ _ bS eS, .nil⟩, rfl, (fun e he => by cases he), B2, k1.trans k2⟩ ?_ ?_
  · rintro i σ H3 hi ⟨r, z5, rfl, gr, rl, ok, B3, k3⟩
    have hi6 : i < 6 := by omega
    obtain ⟨as, hS3, hp3⟩ := gr.ex
    refine ⟨_, rfl, .inl ⟨rfl, _, SqL.of hS3⟩, ?_⟩
    refine ⟨_, rfl, _, rfl, b, 2 * k.hold + 1, n + 58 - 3 * i, rfl, B3.less (by omega), by omega, by omega, fun d4 H4 k4 B4 d40 d41 => ?_⟩
    refine ⟨_, rfl, _, rfl, b, k.bound, n + 57 - 3 * i, rfl, B4.less (by omega), by omega, by omega, fun d5 H5 k5 B5 d50 d51 => ⟨two, fun pl hpl => ?_⟩⟩
    have s5 := same_new hpl (.lst [.non, .int d5])
    refine ⟨_, rfl, b, 2, n + 56 - 3 * i, rfl, (B5.keep s5).less (by omega), by omega, by omega, fun d6 H6 k6 B6 d60 d61 => ?_⟩
    obtain ⟨o, ho, hoo⟩ := pick2 d60 d61 d50 d51
    have bl : pl ≠ b := B5.ne hpl
    refine ⟨pl, _, _, _, rfl, rfl, SqL.of (k6 _ _ bl upd_same), ho, two, fun p7 hp7 => ?_⟩
    have kk : Kept b H3 H6 := k4.trans (k5.trans ((Kept.of s5).trans k6))
    have tt := B3.tups kk
    have s7 := same_new hp7 (.tup [.int d4, ov o])
    have e7 := s7 _ _ (kk _ _ bS hS3)
    refine ⟨S, _, _, rfl, rfl, e7, small1000 (by rw [GrowAt.len hp3]; omega), ?_⟩
    refine ⟨r ++ [(d4, o)], _, rfl, GrowAt.more (e := (d4, o)) e7 (paired_imp (fun _ _ z => s7 _ _ (tt _ _ z)) hp3) upd_same, by rw [List.length_append, rl]; rfl, fun e he => ?_, ?_, ?_⟩
    · rcases List.mem_append.mp he with he | he
      · exact ok e he
      · rw [List.mem_singleton.mp he]
        exact ⟨d40, by show d4 ≤ _; omega, hoo⟩
    · exact ((B6.keep s7).put bS.symm).less (by omega)
    · intro a o' na ha
      rw [upd_ne (fun z => by rw [z, hS] at ha; cases ha)]
      exact s7 _ _ (kk _ _ na (k3 _ _ na ha))
  · rintro σ H3 ⟨r, z5, rfl, gr, rl, okr, B3, k3⟩
    have hr6 : r.length ≤ 6 := by omega
    have hrh : (r.length : Int) ≤ k.hold := by omega
    refine ⟨_, rfl, _, rfl, _, _, rfl, rfl, b, k.hold + 1, n + 40, rfl, B3.less (by omega), by omega, by omega, fun d4 H4 k4 B4 d40 d41 => ⟨d4, rfl, by omega, by omega, fun D hD => ?_⟩⟩
    have k4' : Kept b H H4 := k3.trans k4
    have bD : D ≠ b := B4.ne hD
    have gr4 : GrowAt H4 S r := gr.keep k4 (B3.tups k4) bS
    refine lc_range (lo := 0) (fun i Hc => ∃ r2 : Row, GrowAt Hc D r2 ∧ r2.length = i ∧ (∀ e ∈ r2, 0 ≤ e.1 ∧ e.1 ≤ 2 * k.hold ∧ (e.2 = some 0 ∨ e.2 = some 1)) ∧ Bag Hc b (n + 40 - 2 * i) ∧ Kept b H4 Hc) ⟨[], ⟨[], upd_same, .nil⟩, rfl, (fun e he => by cases he), B4.put bD.symm, Kept.new hD _⟩ ?_ ?_
    · rintro i Hc hi ⟨r2, g2, l2, ok2, B5, k5⟩
      have hi6 : i < 6 := by omega
      obtain ⟨as, hS3, hp3⟩ := g2.ex
      refine ⟨rfl, _, rfl, _, rfl, b, 2 * k.hold + 1, n + 39 - 2 * i, rfl, B5.less (by omega), by omega, by omega, fun d6 H6 k6 B6 d60 d61 => ?_⟩
      refine ⟨_, rfl, b, 2, n + 38 - 2 * i, rfl, B6.less (by omega), by omega, by omega, fun d7 H7 k7 B7 d70 d71 => ⟨two, fun p8 hp8 => ?_⟩⟩
      have kk : Kept b Hc H7 := k6.trans k7
      have tt := B5.tups kk
      have s8 := same_new hp8 (.tup [.int d6, .int d7])
      have e8 := s8 _ _ (kk _ _ bD hS3)
      refine ⟨_, e8, small1000 (by rw [GrowAt.len hp3]; omega), ?_⟩
      refine ⟨r2 ++ [(d6, some d7)], GrowAt.more (e := (d6, some d7)) e8 (paired_imp (fun _ _ z => s8 _ _ (tt _ _ z)) hp3) upd_same, by rw [List.length_append, l2]; rfl, fun e he => ?_, ?_, ?_⟩
      · rcases List.mem_append.mp he with he | he
        · exact ok2 e he
        · rw [List.mem_singleton.mp he]
          refine ⟨d60, by show d6 ≤ _; omega, ?_⟩
          have : d7 = 0 ∨ d7 = 1 := by omega
          rcases this with rfl | rfl
          · exact .inl rfl
          · exact .inr rfl
      · exact ((B7.keep s8).put bD.symm).less (by omega)
      · intro a o' na ha
        rw [upd_ne (fun z => by rw [z, hD] at ha; cases ha)]
        exact s8 _ _ (kk _ _ na (k5 _ _ na ha))
    · rintro Hc ⟨r2, g2, l2, ok2, B5, k5⟩
      have hr2 : r2.length ≤ 6 := by omega
      have hrh2 : (r2.length : Int) ≤ k.hold := by omega
      have k5' := k4'.trans k5
      have gr5 : GrowAt Hc S r := gr4.keep k5 (B4.tups k5) bS
      refine ⟨2, rfl, by decide, by decide, fun D2 hD2 => ?_⟩
      have bD2 : D2 ≠ b := B5.ne hD2
      refine lc_range (lo := 0) (n := 2) (fun i Hd => ∃ os : List (Option Int), Hd D2 = some (.lst (os.map ov)) ∧ os.length = i ∧ (∀ o ∈ os, ∀ i, o = some i → 0 ≤ i ∧ i < k.bound) ∧ Bag Hd b (n + 20 - 2 * i) ∧ Kept b Hc Hd) ⟨[], upd_same, rfl, (fun e he => by cases he), (B5.less (by omega)).put bD2.symm, Kept.new hD2 _⟩ ?_ ?_
      · rintro i Hd hi ⟨os, e6, l6, ok6, B6, k6⟩
        refine ⟨rfl, _, rfl, _, rfl, b, k.bound, n + 19 - 2 * i, rfl, B6.less (by omega), by omega, by omega, fun d7 H7 k7 B7 d70 d71 => ⟨two, fun pl hpl => ?_⟩⟩
        have s7 := same_new hpl (.lst [.non, .int d7])
        refine ⟨_, rfl, b, 2, n + 18 - 2 * i, rfl, (B7.keep s7).less (by omega), by omega, by omega, fun d8 H8 k8 B8 d80 d81 => ?_⟩
        obtain ⟨o, ho, hoo⟩ := pick2 d80 d81 d70 d71
        have bl : pl ≠ b := B7.ne hpl
        have kk : Kept b Hd H8 := k7.trans ((Kept.of s7).trans k8)
        refine ⟨pl, _, _, _, rfl, rfl, SqL.of (k8 _ _ bl upd_same), ho, ?_⟩
        refine ⟨_, kk _ _ bD2 e6, small1000 (by rw [List.length_map]; omega), os ++ [o], by rw [upd_same, List.map_append]; rfl, by rw [List.length_append, l6]; rfl, fun o' ho' => ?_, (B8.put bD2.symm).less (by omega), ?_⟩
        · rcases List.mem_append.mp ho' with h | h
          · exact ok6 o' h
          · rw [List.mem_singleton.mp h]
            exact hoo
        · intro a o' na ha
          rw [upd_ne (fun z => by rw [z, hD2] at ha; cases ha)]
          exact kk _ _ na (k6 _ _ na ha)
      · rintro Hd ⟨os, e6, l6, ok6, B6, k6⟩
        obtain ⟨o1, o2, rfl⟩ : ∃ o1 o2, os = [o1, o2] := by
          match os, l6 with
          | [o1, o2], _ => exact ⟨o1, o2, rfl⟩
        have k6' := k5'.trans k6
        have t6 := B5.tups k6
        have gr6 : GrowAt Hd S r := gr5.keep k6 t6 bS
        have g26 : GrowAt Hd D r2 := g2.keep k6 t6 bD
        -- the front
        refine ⟨_, rfl, _, rfl, b, 2 * k.hold + 1, n + 15, rfl, B6.less (by omega), by omega, by omega, fun d7 H7 k7 B7 d70 d71 => ?_⟩
        refine ⟨_, rfl, b, 2, n + 14, rfl, B7, by omega, by omega, fun d8 H8 k8 B8 d80 d81 => ?_⟩
        have k8' : Kept b Hd H8 := k7.trans k8
        have t8 := B6.tups k8'
        have gr8 := gr6.keep k8' t8 bS
        have g28 := g26.keep k8' t8 bD
        have e8 := k8' _ _ bD2 e6
        obtain ⟨as, hS8, hp8⟩ := gr8.ex
        refine ⟨_, rfl, D2, _, _, _, rfl, rfl, SqL.of e8, atI_nat (j := 0) rfl, _, rfl, S, _, rfl, .inl ⟨SqL.of hS8, fun L hL => ⟨by show 4 ≤ sizeLine; decide, fun p9 hp9 => ?_⟩⟩⟩
        have s9 := (same_new hL (.tup (as.map V.ref))).trans (same_new hp9 (.tup [.int d7, .int d8, ov o1, .ref L]))
        have e9 := @upd_same (upd H8 L (.tup (as.map V.ref))) p9 (.tup [.int d7, .int d8, ov o1, .ref L])
        have rL : RowAt (upd (upd H8 L (.tup (as.map V.ref))) p9 (.tup [.int d7, .int d8, ov o1, .ref L])) L r := ⟨as, same_new hp9 _ _ _ upd_same, paired_imp (fun _ _ z => s9 _ _ z) hp8⟩
        have B9 := B8.keep s9
        have k9 : Kept b H _ := (k6'.trans k8').trans (Kept.of s9)
        have e69 := s9 _ _ e8
        have g29 : GrowAt _ D r2 := g28.keep (b := b) (Kept.of s9) (Same.tups s9) bD
        have np9 : upd H8 L (.tup (as.map V.ref)) p9 = none := hp9
        clear hp9 s9
        generalize upd (upd H8 L (.tup (as.map V.ref))) p9 (.tup [.int d7, .int d8, ov o1, .ref L]) = H9 at *
        refine ⟨_, rfl, _, rfl, _, rfl, b, 2 * k.hold + 1, n + 13, rfl, B9, by omega, by omega, fun d10 H10 k10 B10 d100 d101 => ?_⟩
        refine ⟨_, rfl, b, 2, n + 12, rfl, B10, by omega, by omega, fun d11 H11 k11 B11 d110 d111 => ?_⟩
        have k11' : Kept b H9 H11 := k10.trans k11
        have t11 := B9.tups k11'
        obtain ⟨bs, hD11, hp11⟩ := (g29.keep k11' t11 bD).ex
        refine ⟨_, rfl, D2, _, _, _, rfl, rfl, SqL.of (k11' _ _ bD2 e69), atI_nat (j := 1) rfl, _, rfl, D, _, rfl, .inl ⟨SqL.of hD11, fun M hM => ⟨by show 4 ≤ sizeLine; decide, fun p12 hp12 => ?_⟩⟩⟩
        have s12 := (same_new hM (.tup (bs.map V.ref))).trans (same_new hp12 (.tup [.int d10, .int d11, ov o2, .ref M]))
        refine ⟨p9, p12, _, _, rfl, rfl, SqT.of (s12 _ _ (t11 _ _ e9)), SqT.of upd_same, by simp, by show 8 ≤ sizeLine; decide, (fun z => nomatch z), fun _ p13 hp13 => ?_⟩
        have s13 := s12.trans (same_new hp13 (.tup ([.int d7, .int d8, ov o1, .ref L] ++ [.int d10, .int d11, ov o2, .ref M])))
        have kf : Kept b H _ := (k9.trans k11').trans (Kept.of s13)
        have b01 : ∀ d : Int, 0 ≤ d → d < 2 → d = 0 ∨ d = 1 := fun d h0 h1 => by omega
        refine q p13 _ ⟨d7, d8, o1, r, d10, d11, o2, r2⟩ kf ((B11.keep s13).less (by omega)) ?_ ⟨L, M, upd_same, rL.keep (t11.trans (Same.tups s13)), ⟨bs, same_new hp13 _ _ _ (same_new hp12 _ _ _ upd_same), paired_imp (fun _ _ z => s13 _ _ z) hp11⟩⟩
          ⟨d70, by show d7 ≤ _; omega, b01 d8 d80 d81, ok6 o1 (by simp), hrh, okr, d100, by show d10 ≤ _; omega, b01 d11 d110 d111, ok6 o2 (by simp), hrh2, ok2⟩
        cases z : H p13 with
          | none => rfl
          | some o =>
            exfalso
            have nb : p13 ≠ b := (B11.keep s12).ne hp13
            rw [s12 _ _ (((k9.trans k11') _ _ nb z))] at hp13
            cases hp13
end
end Any
namespace Any
open L2 PySem PySem.Spec PyProof.Rows
/-! ### stores as data -/
def ovD : Option Int → PyData
  | none => .none
  | some i => .int i
def pairD (p : Int × Option Int) : PyData := .tuple [.int p.1, ovD p.2]
def rowD (r : Row) : PyData := .tuple (r.map pairD)
def stoD (s : Sto) : PyData := .tuple [.int s.mark, .int s.bears, ovD s.slot, rowD s.letters, .int s.last, .int s.took, ovD s.box, rowD s.echoes]
theorem ov_dp {K : PySem.W.Frag} {H : Hp} (o : Option Int) : Dp K H (ov o) (ovD o) := by
  cases o with
  | none => exact .non
  | some i => exact .int i
theorem row_dps {K : PySem.W.Frag} {H : Hp} : ∀ {as : List Addr} {r : Row}, Paired (fun a p => H a = some (.tup (pairV p))) as r → DpAll K H (as.map V.ref) (r.map pairD)
  | _, _, .nil => .nil
  | _, _, .cons h t => .cons (.tup (SqT.of h) (.cons (.int _) (.cons (ov_dp _) .nil))) (row_dps t)
theorem RowAt.dp {K : PySem.W.Frag} {H : Hp} {a : Addr} {r : Row} (h : RowAt H a r) : Dp K H (.ref a) (rowD r) := by
  obtain ⟨as, h1, h2⟩ := h
  exact .tup (SqT.of h1) (row_dps h2)
theorem StoAt.dp {K : PySem.W.Frag} {H : Hp} {a : Addr} {s : Sto} (h : StoAt H a s) : Dp K H (.ref a) (stoD s) := by
  obtain ⟨L, E, h1, h2, h3⟩ := h
  exact .tup (SqT.of h1) (.cons (.int _) (.cons (.int _) (.cons (ov_dp _) (.cons h2.dp (.cons (.int _) (.cons (.int _) (.cons (ov_dp _) (.cons h3.dp .nil))))))))
theorem ov_lay (o : Option Int) : (ovD o).canLay0 = true ∧ (ovD o).depth = 0 := by cases o <;> exact ⟨rfl, rfl⟩
theorem row_lay : ∀ r : Row, PyData.canLayAll0 (r.map pairD) = true ∧ PyData.depthAll (r.map pairD) ≤ 1
  | [] => ⟨rfl, by decide⟩
  | p :: r => by
    obtain ⟨h1, h2⟩ := row_lay r
    obtain ⟨o1, o2⟩ := ov_lay p.2
    constructor
    · show ((true && (PyData.canLay0 (ovD p.2) && true)) && PyData.canLayAll0 (r.map pairD)) = true
      rw [h1, o1]
      rfl
    · show max (max 0 (max (PyData.depth (ovD p.2)) 0) + 1) (PyData.depthAll (r.map pairD)) ≤ 1
      rw [o2]
      omega
theorem row_shaped (r : Row) : SeqAt.shaped (rowD r) = true := by
  obtain ⟨h1, h2⟩ := row_lay r
  unfold SeqAt.shaped
  rw [show (rowD r).canLay0 = true from h1, decide_eq_true (show (rowD r).depth ≤ 64 from (by show PyData.depthAll (r.map pairD) + 1 ≤ 64; omega))]
  rfl
theorem row_nil (r : Row) : PyData.eqv (rowD r) (.tuple []) = decide (r = []) := by
  cases r <;> rfl
theorem four : 4 ≤ sizeLine := by decide
theorem nil_ : 0 ≤ sizeLine := by decide
theorem five : 5 ≤ sizeLine := by decide
section
variable {K : PySem.W.Frag} {H : Hp} {a b : Addr} {r s : Row} {Q : VK}
theorem cat_rows (h : RowAt H a r) (k : RowAt H b s) (zr : r.length ≤ 1000) (zs : s.length ≤ 1000) (q : ∀ p H', Same H H' → RowAt H' p (r ++ s) → Q (.ref p) H') : rCatA K (.ref a) (.ref b) H Q := by
  obtain ⟨as, ha, hp⟩ := id h
  obtain ⟨bs, hb, hq⟩ := id k
  have hl := paired_len hp
  have hl2 := paired_len hq
  refine ⟨a, b, _, _, rfl, rfl, SqT.of ha, SqT.of hb, twoK (by rw [List.length_map]; omega) (by rw [List.length_map]; omega), fun c => ?_, fun _ c => ?_, fun _ _ p2 hp2 => ?_⟩
  · have c2 : as = [] := List.map_eq_nil_iff.mp c
    subst c2
    have : r = [] := List.eq_nil_of_length_eq_zero hl.symm
    subst this
    exact q b H same_refl k
  · have c2 : bs = [] := List.map_eq_nil_iff.mp c
    subst c2
    have : s = [] := List.eq_nil_of_length_eq_zero hl2.symm
    subst this
    refine q a H same_refl ?_
    rw [List.append_nil]
    exact h
  · have s2 := same_new hp2 (.tup (as.map V.ref ++ bs.map V.ref))
    refine q p2 _ s2 ⟨as ++ bs, by rw [upd_same, List.map_append], paired_app (paired_imp (fun _ _ z => s2 _ _ z) hq) (paired_imp (fun _ _ z => s2 _ _ z) hp)⟩
theorem slice1_row (h : RowAt H a r) (q : ∀ p H', Same H H' → RowAt H' p (r.drop 1) → Q (.ref p) H') : rSlA K (.ref a) (some 1) none H Q := by
  obtain ⟨as, ha, hp⟩ := h
  have e : cutV (as.map V.ref) (some 1) none = (as.drop 1).map V.ref := by rw [show (1 : Int) = ((1 : Nat) : Int) from rfl, cut_from, List.map_drop]
  refine ⟨a, _, rfl, SqT.of ha, fun c => ?_, fun c p hp2 => ?_⟩
  · have c1 := c.1
    rw [show (1 : Int) = ((1 : Nat) : Int) from rfl, HT.sIx_nat, List.length_map] at c1
    have : as = [] := List.eq_nil_of_length_eq_zero (by omega)
    subst this
    cases hp
    exact q a H same_refl ⟨[], ha, .nil⟩
  · have s2 := same_new hp2 (.tup (cutV (as.map V.ref) (some 1) none))
    exact q p _ s2 ⟨as.drop 1, by rw [upd_same, e], paired_drop 1 (paired_imp (fun _ _ z => s2 _ _ z) hp)⟩
theorem rep_row {k : Int} (h : RowAt H a r) (hk : k = 0 ∨ k = 1) (q : ∀ p H', Same H H' → RowAt H' p (if k = 1 then r else []) → Q (.ref p) H') : rRep01 K (.ref a) (.int k) H Q := by
  obtain ⟨as, ha, hp⟩ := id h
  refine ⟨a, k, _, rfl, rfl, SqT.of ha, hk, fun c => q a H same_refl ?_, fun c k0 p hp2 => q p _ (same_new hp2 _) ?_⟩
  · by_cases k1 : k = 1
    · rw [if_pos k1]
      exact h
    · rw [if_neg k1]
      have c2 : as = [] := List.map_eq_nil_iff.mp (c.elim id fun z => absurd z k1)
      subst c2
      exact ⟨[], ha, .nil⟩
  · rw [if_neg (by omega)]
    exact ⟨[], upd_same, .nil⟩
end
theorem LostAt.at0 {K : PySem.W.Frag} {H : Hp} {g : Addr} {l : Bool × Bool} (h : LostAt K H g l) : SqT K H g [.bl l.1, .bl l.2] := h
/-- the way's methods -/
structure WayD (P : Program) (w : World) (K : PySem.W.Frag) (mg : Str → Option Value) (base : Heap) (C : Addr) : Prop where
  cls : WayC K C
  store : Mf0 P w K mg base C 1 "store" ["self"] [] (spStore C)
  beat0 : ∃ lz, (∀ H, SqT K H lz [.bl false, .bl false]) ∧ Mf0 P w K mg base C 4 "beat" psBeat [.non, .bl false, .ref lz] (spBeat K C)
  beatLW : MfK P w K mg base C 4 "beat" psBeat ["lost", "word"] (fun vs zs => vs ++ zs.drop 1 ++ [.bl false] ++ zs.take 1) (spBeat K C)
  beatA : MfK P w K mg base C 4 "beat" psBeat ["word", "taking", "lost"] (fun vs zs => vs ++ zs) (spBeat K C)
theorem run_gone (s : Sto) (g : Int × Int) (l : Bool × Bool) : runB g l (!decide (s.letters = [])) = goneB s g l := by
  unfold runB goneB
  by_cases c : s.letters = []
  · rw [dec_true c, if_pos c]
    rfl
  · rw [decide_eq_false c, if_neg c]
    rfl
theorem drop_len {α : Type} {l m : List α} {h : Int} (hl : (l.length : Int) ≤ h) (h0 : 1 ≤ h) (hm : m.length ≤ 1) : ((l.drop 1 ++ m).length : Int) ≤ h := by
  rw [List.length_append, List.length_drop]
  omega
theorem sender_ok {n : Num} {s : Sto} (hN : NumOk n) (h : StoOk n s) : 0 ≤ (senderB s.mark s.bears s.slot (2 * n.hold + 1) s.echoes).1 ∧ (senderB s.mark s.bears s.slot (2 * n.hold + 1) s.echoes).1 ≤ 2 * n.hold ∧
    ((senderB s.mark s.bears s.slot (2 * n.hold + 1) s.echoes).2.1 = 0 ∨ (senderB s.mark s.bears s.slot (2 * n.hold + 1) s.echoes).2.1 = 1) ∧ ∀ i, (senderB s.mark s.bears s.slot (2 * n.hold + 1) s.echoes).2.2 = some i → 0 ≤ i ∧ i < n.bound := by
  have h0 := hN.h0
  have m := Int.emod_nonneg (s.mark + 1) (show 2 * n.hold + 1 ≠ 0 by omega)
  have m2 := Int.emod_lt_of_pos (s.mark + 1) (show 0 < 2 * n.hold + 1 by omega)
  unfold senderB
  split
  · exact ⟨h.m0, h.m1, h.b, h.slot⟩
  · split
    · split
      · exact ⟨m, by show (s.mark + 1) % (2 * n.hold + 1) ≤ _; omega, .inl rfl, fun i z => by cases z⟩
      · refine ⟨m, by show (s.mark + 1) % (2 * n.hold + 1) ≤ _; omega, ?_, h.slot⟩
        show (if s.slot = none then (0 : Int) else 1) = 0 ∨ (if s.slot = none then (0 : Int) else 1) = 1
        split
        · exact .inl rfl
        · exact .inr rfl
    · exact ⟨h.m0, h.m1, h.b, h.slot⟩
theorem taker_ok {n : Num} {s : Sto} (h : StoOk n s) : 0 ≤ (takerB s.last s.took s.box s.letters).1 ∧ (takerB s.last s.took s.box s.letters).1 ≤ 2 * n.hold ∧
    ((takerB s.last s.took s.box s.letters).2.1 = 0 ∨ (takerB s.last s.took s.box s.letters).2.1 = 1) ∧ ∀ i, (takerB s.last s.took s.box s.letters).2.2 = some i → 0 ≤ i ∧ i < n.bound := by
  have hl := h.lets
  unfold takerB
  split
  · exact ⟨h.l0, h.l1, h.t, h.box⟩
  · rename_i e r he
    obtain ⟨l1, l2, l3⟩ := hl e (by rw [he]; exact List.mem_cons_self ..)
    split
    · exact ⟨h.l0, h.l1, h.t, h.box⟩
    · split
      · exact ⟨l1, l2, .inr rfl, l3⟩
      · exact ⟨l1, l2, .inl rfl, h.box⟩
theorem beat_ok {n : Num} {s : Sto} {d : Deed} (hN : NumOk n) (h : StoOk n s) (hw : ∀ i, d.word = some i → 0 ≤ i ∧ i < n.bound) : StoOk n (beatB n s d) := by
  obtain ⟨a1, a2, a3, a4⟩ := sender_ok hN h
  obtain ⟨b1, b2, b3, b4⟩ := taker_ok h
  have h0 := hN.h0
  refine ⟨a1, a2, a3, fun i z => ?_, drop_len h.let0 h0 (by split <;> simp), fun e he => ?_, b1, b2, b3, fun i z => ?_, drop_len h.ech0 h0 (by split; exact Nat.zero_le _; unfold echoB; split <;> simp), fun e he => ?_⟩
  · have z : (if d.word ≠ none ∧ s.slot = none then d.word else (senderB s.mark s.bears s.slot (2 * n.hold + 1) s.echoes).2.2) = some i := z
    split at z
    · exact hw i z
    · exact a4 i z
  · rcases List.mem_append.mp he with he | he
    · exact h.lets e (List.mem_of_mem_drop he)
    · split at he
      · cases he
      · rw [List.mem_singleton.mp he]
        refine ⟨h.m0, h.m1, fun i z => ?_⟩
        have z : (if s.bears = 1 then s.slot else none) = some i := z
        split at z
        · exact h.slot i z
        · cases z
  · have z : (if d.taking = true ∧ s.box ≠ none then none else (takerB s.last s.took s.box s.letters).2.2) = some i := z
    split at z
    · cases z
    · exact b4 i z
  · rcases List.mem_append.mp he with he | he
    · exact h.echs e (List.mem_of_mem_drop he)
    · split at he
      · cases he
      · unfold echoB at he
        split at he
        · cases he
        · rw [List.mem_singleton.mp he]
          refine ⟨b1, b2, ?_⟩
          rcases b3 with z | z
          · exact .inl (by show some _ = some (0 : Int); rw [z])
          · exact .inr (by show some _ = some (1 : Int); rw [z])
/-- how a way stands, with what was lost last -/
structure Go (C : Addr) (H : Hp) (b x r : Addr) (k : Nat) (n : Num) (s : Sto) (g : Int × Int) : Prop where
  bag : Bag H b k
  way : WayAt C H x n s g
  run : RunAt H r g
  ok : StoOk n s
  g0 : g.1 < n.miss
  g1 : g.2 < n.miss
theorem lost_lt {n : Num} {s : Sto} {g : Int × Int} {l : Bool × Bool} (h0 : 1 ≤ n.miss) (g1 : g.2 < n.miss) (l0 : l.1 = true → g.1 + 1 < n.miss) (l1 : l.2 = true → g.2 + 1 < n.miss) : (goneB s g l).1 < n.miss ∧ (goneB s g l).2 < n.miss := by
  unfold goneB
  constructor
  · show (if l.1 = true then g.1 + 1 else 0) < _
    split
    · exact l0 (by assumption)
    · omega
  · show (if s.letters = [] then g.2 else if l.2 = true then g.2 + 1 else 0) < _
    split
    · exact g1
    · split
      · exact l1 (by assumption)
      · omega
theorem ov_tm {o : Option Int} {p : Nat} (h : ∀ i, o = some i → 0 ≤ i ∧ i < 1024) : Tm (ovD o) 11 p := by
  cases o with
  | none => exact Tm.more .non (by decide)
  | some i =>
    obtain ⟨h0, h1⟩ := h i rfl
    exact .int h0 h1
theorem row_tm : ∀ {r : Row}, (∀ e ∈ r, (0 ≤ e.1 ∧ e.1 < 1024) ∧ ∀ i, e.2 = some i → 0 ≤ i ∧ i < 1024) → TmAll (r.map pairD) (25 * r.length) 1
  | [], _ => .nil
  | p :: r, h => by
    obtain ⟨h1, h2⟩ := h p (List.mem_cons_self ..)
    exact .cons (w := 24) (v := 25 * r.length) (.tup (.cons (w := 11) (v := 12) (.int h1.1 h1.2) (.cons (w := 11) (v := 0) (ov_tm h2) .nil (by decide)) (by decide))) (row_tm fun e he => h e (List.mem_cons_of_mem _ he)) (by rw [List.length_cons]; omega)
theorem sto_tm {n : Num} {s : Sto} (hN : NumOk n) (h : StoOk n s) : Tm (stoD s) 500 3 := by
  have h6 := hN.h1
  have b1 := hN.b1
  have l0 := h.let0
  have e0 := h.ech0
  have m1 := h.m1
  have l1 := h.l1
  have hb : 0 ≤ s.bears ∧ s.bears < 1024 := by rcases h.b with z | z <;> omega
  have ht : 0 ≤ s.took ∧ s.took < 1024 := by rcases h.t with z | z <;> omega
  have ow : ∀ {o : Option Int}, (∀ i, o = some i → 0 ≤ i ∧ i < n.bound) → ∀ i, o = some i → 0 ≤ i ∧ i < 1024 := fun k i z => by have := k i z; omega
  have rl : TmAll (s.letters.map pairD) 150 1 := by
    have z := row_tm (r := s.letters) fun e he => by
      obtain ⟨a1, a2, a3⟩ := h.lets e he
      exact ⟨⟨a1, by omega⟩, ow a3⟩
    exact ⟨z.short, z.show_, z.lay, Nat.le_trans z.wt (by omega), z.dp⟩
  have re : TmAll (s.echoes.map pairD) 150 1 := by
    have z := row_tm (r := s.echoes) fun e he => by
      obtain ⟨a1, a2, a3⟩ := h.echs e he
      refine ⟨⟨a1, by omega⟩, fun i z => ?_⟩
      rcases a3 with a | a <;> rw [a] at z <;> cases z <;> decide
    exact ⟨z.short, z.show_, z.lay, Nat.le_trans z.wt (by omega), z.dp⟩
  have a8 : TmAll [rowD s.echoes] 151 2 := .cons (w := 150) (v := 0) (.tup re) .nil (by decide)
  have a7 : TmAll [ovD s.box, rowD s.echoes] 163 2 := .cons (w := 11) (ov_tm (ow h.box)) a8 (by decide)
  have a6 : TmAll [.int s.took, ovD s.box, rowD s.echoes] 175 2 := .cons (w := 11) (.int ht.1 ht.2) a7 (by decide)
  have a5 : TmAll [.int s.last, .int s.took, ovD s.box, rowD s.echoes] 187 2 := .cons (w := 11) (.int h.l0 (by omega)) a6 (by decide)
  have a4 : TmAll [rowD s.letters, .int s.last, .int s.took, ovD s.box, rowD s.echoes] 338 2 := .cons (w := 150) (.tup rl) a5 (by decide)
  have a3 : TmAll [ovD s.slot, rowD s.letters, .int s.last, .int s.took, ovD s.box, rowD s.echoes] 350 2 := .cons (w := 11) (ov_tm (ow h.slot)) a4 (by decide)
  have a2 : TmAll [.int s.bears, ovD s.slot, rowD s.letters, .int s.last, .int s.took, ovD s.box, rowD s.echoes] 362 2 := .cons (w := 11) (.int hb.1 hb.2) a3 (by decide)
  exact .tup (.cons (w := 11) (.int h.m0 (by omega)) a2 (by decide))
/-- what is told of a beat, as data -/
def toldD (s : Sto) (d : Deed) : PyData := .tuple [if d.word = none then .none else .bool (decide (s.slot = none)), if d.taking = true then ovD s.box else .none]
theorem told_dp {K : PySem.W.Frag} {H : Hp} {t : Addr} {s : Sto} {d : Deed} (h : H t = some (.tup (toldB s d))) : Dp K H (.ref t) (toldD s d) := by
  refine .tup (SqT.of h) (.cons ?_ (.cons ?_ .nil))
  · by_cases c : d.word = none
    · rw [if_pos c, if_pos c]
      exact .non
    · rw [if_neg c, if_neg c]
      exact .bl _
  · by_cases c : d.taking = true
    · rw [if_pos c, if_pos c]
      exact ov_dp _
    · rw [if_neg c, if_neg c]
      exact .non
theorem told_tm {n : Num} {s : Sto} {d : Deed} (hN : NumOk n) (h : StoOk n s) : Tm (toldD s d) 30 2 := by
  have b1 := hN.b1
  refine .tup (.cons (w := 0) (v := 12) ?_ (.cons (w := 11) (v := 0) ?_ .nil (by decide)) (by decide))
  · split
    · exact .non
    · exact .bl
  · split
    · exact ov_tm fun i z => by have := h.box i z; omega
    · exact Tm.more .non (by decide)
theorem told_shows {K : PySem.W.Frag} {H : Hp} {n : Num} {s : Sto} {d : Deed} (hN : NumOk n) (h : StoOk n s) : ∃ dd : PyData, dd.showable = true ∧ dd.depth ≤ 60 ∧ dd.shown.length ≤ sizeLine ∧ ∀ t, H t = some (.tup (toldB s d)) → Shows K H t dd := by
  obtain ⟨w1, w2, w3⟩ := (told_tm (d := d) hN h).fits (by decide) (by decide)
  exact ⟨toldD s d, w1, w2, w3, fun t ht => .seq (told_dp ht) (told_tm (d := d) hN h).noDict⟩
theorem sto_shows {K : PySem.W.Frag} {H : Hp} {n : Num} {s : Sto} (hN : NumOk n) (h : StoOk n s) : ∃ dd : PyData, dd.showable = true ∧ dd.depth ≤ 60 ∧ dd.shown.length ≤ sizeLine ∧ ∀ t, StoAt H t s → Shows K H t dd := by
  obtain ⟨w1, w2, w3⟩ := (sto_tm hN h).fits (by decide) (by decide)
  exact ⟨stoD s, w1, w2, w3, fun t ht => .seq ht.dp (sto_tm hN h).noDict⟩
theorem Same.since {H H1 H2 : Hp} {S : List Addr} (s : Same H H1) (k : Ks S H1 H2) (n : ∀ a ∈ S, H a = none) : Same H H2 := fun a o h => k a o (fun z => by rw [n a z] at h; cases h) (s a o h)
theorem Same.none {H H1 : Hp} {p : Addr} (s : Same H H1) (h : H1 p = none) : H p = none := s.free h
section
variable {X : Cx} {C : Addr}
/-- len of a way -/
def LenD (P : Program) (w : World) (K : PySem.W.Frag) (mg : Str → Option Value) (base : Heap) (C : Addr) : Prop := ∃ f fd, PySem.W.findIn K (.ref C) "__len__" = some (some (.ref f)) ∧ PySem.W.isFn K (.ref f) = true ∧ FnOk P w K mg base CX0 1 f fd ["self"] (spLen C) ∧ Binds K fd ["self"] []
theorem call_lenW (D : LenD X.prog X.w X.K X.mg X.base C) (hr : Room 2 X.A) : CallR X (.builtin "len") (fun xs H Q => ∃ a dx fs, xs = [.ref a] ∧ H a = some (.ins C dx fs) ∧ spLen C [.ref a] H (fun v H' => ∃ n : Int, v = .int n ∧ 0 ≤ n ∧ n < 2 ^ 63 ∧ Q (.int n) H') E0) := by
  obtain ⟨f, fd, h1, h2, F, hb⟩ := D
  exact call_lenO F h1 h2 hb pass0 hr
end
end Any
namespace Any
open L2 PySem PySem.Spec PyProof.Rows
/-! ### equal rows -/
theorem ov_eqv (o p : Option Int) : PyData.eqv (ovD o) (ovD p) = decide (o = p) := by
  cases o with
  | none => cases p <;> simp [ovD, PyData.eqv]
  | some i =>
    cases p with
    | none => simp [ovD, PyData.eqv]
    | some j =>
      show (i == j) = decide (some i = some j)
      by_cases c : i = j
      · rw [c]; simp
      · rw [decide_eq_false (fun z => c (Option.some.inj z))]
        simpa using c
theorem pair_eqv (p q : Int × Option Int) : PyData.eqv (pairD p) (pairD q) = decide (p = q) := by
  show ((p.1 == q.1) && (PyData.eqv (ovD p.2) (ovD q.2) && true)) = decide (p = q)
  rw [ov_eqv, Bool.and_true]
  by_cases c : p.1 = q.1
  · by_cases e : p.2 = q.2
    · rw [decide_eq_true e, decide_eq_true (Prod.ext c e)]
      simp [c]
    · rw [decide_eq_false e, decide_eq_false (fun z => e (by rw [z])), Bool.and_false]
  · rw [decide_eq_false (fun z : p = q => c (by rw [z]))]
    simp [c]
theorem rows_eqv : ∀ l m : Row, PyData.eqvAll (l.map pairD) (m.map pairD) = decide (l = m)
  | [], [] => rfl
  | [], _ :: _ => rfl
  | _ :: _, [] => rfl
  | p :: l, q :: m => by
    show (PyData.eqv (pairD p) (pairD q) && PyData.eqvAll (l.map pairD) (m.map pairD)) = decide (p :: l = q :: m)
    rw [pair_eqv, rows_eqv l m]
    by_cases c : p = q
    · by_cases e : l = m
      · rw [c, e]; simp
      · rw [decide_eq_false e, decide_eq_false (fun z => e (List.cons.inj z).2), Bool.and_false]
    · rw [decide_eq_false c, decide_eq_false (fun z => c (List.cons.inj z).1), Bool.false_and]
theorem rows_shaped (r : Row) : SeqAt.shaped (.list (r.map pairD)) = true := by
  obtain ⟨h1, h2⟩ := row_lay r
  unfold SeqAt.shaped
  rw [show (PyData.list (r.map pairD)).canLay0 = true from h1, decide_eq_true (show (PyData.list (r.map pairD)).depth ≤ 64 from (by show PyData.depthAll (r.map pairD) + 1 ≤ 64; omega))]
  rfl
/-! ### which of a row are not of the mark ahead -/
def laterR (r : Row) (fore : Int) : Row := r.filter fun e => decide (e.1 ≠ fore)
def laterG (fore : Int) : List Addr → Row → List (Option V)
  | a :: as, e :: r => (if e.1 = fore then none else some (.ref a)) :: laterG fore as r
  | _, _ => []
def laterA (fore : Int) : List Addr → Row → List Addr
  | a :: as, e :: r => if e.1 = fore then laterA fore as r else a :: laterA fore as r
  | _, _ => []
theorem later_len (fore : Int) {R : Addr → Int × Option Int → Prop} : ∀ {as : List Addr} {r : Row}, Paired R as r → (laterG fore as r).length = as.length
  | _, _, .nil => rfl
  | _, _, .cons _ t => by
    show (laterG fore _ _).length + 1 = _
    rw [later_len fore t]
    rfl
theorem later_fm (fore : Int) : ∀ (as : List Addr) (r : Row), (laterG fore as r).filterMap id = (laterA fore as r).map V.ref
  | [], r => by cases r <;> rfl
  | a :: as, [] => rfl
  | a :: as, e :: r => by
    unfold laterG laterA
    by_cases c : e.1 = fore
    · rw [if_pos c, if_pos c, ← later_fm fore as r]
      rfl
    · rw [if_neg c, if_neg c, List.map_cons, ← later_fm fore as r]
      rfl
theorem later_pair (fore : Int) {R : Addr → Int × Option Int → Prop} : ∀ {as : List Addr} {r : Row}, Paired R as r → Paired R (laterA fore as r) (laterR r fore)
  | _, _, .nil => .nil
  | _, _, .cons (a := a) (b := e) h t => by
    unfold laterA laterR
    rw [List.filter_cons]
    by_cases c : e.1 = fore
    · rw [if_pos c, if_neg (by simpa using c)]
      exact later_pair fore t
    · rw [if_neg c, if_pos (by simpa using c)]
      exact .cons h (later_pair fore t)
theorem later_at {fore : Int} : ∀ {as : List Addr} {r : Row} {i : Nat} {a : Addr} {e : Int × Option Int}, as[i]? = some a → r[i]? = some e → (laterG fore as r)[i]? = some (if e.1 = fore then none else some (.ref a))
  | a :: as, e :: r, 0, _, _, h1, h2 => by
    cases h1
    cases h2
    rfl
  | a :: as, e :: r, i + 1, _, _, h1, h2 => later_at (as := as) (r := r) (i := i) h1 h2
  | [], _, _, _, _, h1, _ => by simp at h1
  | _ :: _, [], _, _, _, _, h2 => by simp at h2
def rowPB (r : Row) (fore : Int) (own : Int × Option Int) : Bool := decide (laterR r fore = List.replicate (laterR r fore).length own) && decide (laterR r fore = r.drop (r.length - (laterR r fore).length))
theorem laterR_le (r : Row) (fore : Int) : (laterR r fore).length ≤ r.length := List.length_filter_le ..
abbrev sRowP : Stmt := top 20
abbrev nmRowP : List Str := ["row", "ahead", "own", "later", "one"]
theorem scRowP : FnScope nmRowP ["row", "ahead", "own"] (defScope sRowP) := ⟨rfl, rfl, rfl, by decide +kernel, rfl, by decide +kernel, by decide +kernel⟩
def spRowP : Sp := fun vs H Q _ => ∃ (a o : Addr) (r : Row) (fore : Int) (own : Int × Option Int), vs = [.ref a, .int fore, .ref o] ∧ RowAt H a r ∧ r.length ≤ 1000 ∧ H o = some (.tup (pairV own)) ∧ ∀ H', Same H H' → Q (.bl (rowPB r fore own)) H'
theorem rep_flat (x : V) : ∀ k : Nat, (List.replicate k [x]).flatten = List.replicate k x
  | 0 => rfl
  | k + 1 => by rw [List.replicate_succ, List.flatten_cons, rep_flat x k, List.replicate_succ]; rfl
theorem rep_dp {K : PySem.W.Frag} {H : Hp} {x : V} {d : PyData} (h : Dp K H x d) : ∀ k : Nat, DpAll K H (List.replicate k x) (List.replicate k d)
  | 0 => .nil
  | k + 1 => .cons h (rep_dp h k)
section
variable {P : Program} {w : World} {K : PySem.W.Frag} {mg : Str → Option Value} {base : Heap} {f : Addr} {fd : FuncData}
theorem ok_rowp (O : Own mg) (F : Fun K "row_is_plain" "row_is_plain" sRowP f fd) : FnOk P w K mg base CX0 1 f fd ["row", "ahead", "own"] spRowP := by
  refine F.ok scRowP (fun vs H Q E h => ?_) (fun cdv A outer s H vs Q E hr h => ?_)
  · obtain ⟨a, o, r, fore, own, rfl, _⟩ := h
    rfl
  obtain ⟨a, o, r, fore, own, rfl, ⟨as, ha, hp⟩, hz, ho, q⟩ := h
  have hl := paired_len hp
  refine ⟨_, pss_cons (ps_setLc (i := 3) (own := [("one", 4)]) (g := gName 4) (by rfl) scRowP.nd rfl rfl (sw_true rfl rfl rfl (by decide +kernel)) (pi_tup (pv 0)) (blkOk_by (N := nmRowP) (sc := defScope sRowP) (by decide +kernel))
        (fun _ _ _ _ _ => pg_name (i := 4) scRowP.nd rfl (Or.inl rfl)) (fun _ _ _ _ _ => pts_one (pt_cmpR op_ne (pe_ix (show IxR _ (rIxT K) from ix_tup) (pv 4) pe_int (fun _ _ => rfl)) (pv 1) (nomark _))) (fun _ _ _ _ _ => pv 4))
    (pss_one (ps_ret (pe_and (pe_cmpR (op_eqD hr.units) (pv 3) (pe_op op_rep (pe_lst (pa_cons (pv 2) pa_nil)) (pe_callB call_len_seq rfl O.len PySem.boot_len (pa_cons (pv 3) pa_nil))) (nomark _))
      (pe_one (pe_cmpR (op_eqD hr.units) (pv 3) (pe_callTy call_list_of rfl O.list (by decide +kernel) (pa_cons (pe_slice sl_tupA (pv 0) (po_some (pe_op op_sub (pe_callB call_len_seq rfl O.len PySem.boot_len (pa_cons (pv 0) pa_nil)) (pe_callB call_len_seq rfl O.len PySem.boot_len (pa_cons (pv 3) pa_nil)))) po_none) pa_nil)) (nomark _)))))), ?_⟩
  refine ⟨_, rfl, a, rfl, ⟨_, SqT.of ha⟩, fun D hD => ?_⟩
  refine turns_tup (K := K) (a := a) (xs := as.map V.ref) (laterG fore as r) hD (fun Hc sm => SqT.of (sm _ _ ha)) (by rw [later_len fore hp, List.length_map]) (small (by rw [List.length_map]; omega)) ?_ ?_
  · intro i z o' Hc Y N hz2 ho' sm hY hN
    obtain ⟨e, he, rfl⟩ := refs_at hz2
    obtain ⟨b, hb, hat⟩ := paired_get hp he
    rw [later_at he hb] at ho'
    have ho' := Option.some.inj ho'
    refine ⟨rfl, _, rfl, e, _, _, _, rfl, rfl, SqT.of (sm _ _ hat), atI_nat (j := 0) rfl, _, rfl, rfl, _, rfl, ?_⟩
    refine itNe (fun c => ?_) (fun c => ?_)
    · rw [if_neg c] at ho'
      exact ⟨_, rfl, hY _ ho'.symm Hc same_refl⟩
    · rw [if_pos c] at ho'
      exact hN ho'.symm Hc same_refl
  · intro H1 hc1 s1
    rw [later_fm] at hc1
    have lp := paired_imp (S := fun a p => H1 a = some (.tup (pairV p))) (fun _ _ z => s1 _ _ z) (later_pair fore hp)
    have ll := paired_len lp
    have lle := laterR_le r fore
    have dl : ∀ {H2 : Hp}, Same H1 H2 → Dp K H2 (.ref D) (.list ((laterR r fore).map pairD)) := fun s2 => .lst (SqL.of (s2 _ _ hc1)) (row_dps (paired_imp (fun _ _ z => s2 _ _ z) lp))
    refine ⟨_, rfl, _, rfl, one_, fun p2 hp2 => ?_⟩
    have s2 := same_new hp2 (.lst [.ref o])
    refine ⟨_, rfl, D, _, rfl, .inl (SqL.of (s2 _ _ hc1)), p2, _, _, rfl, rfl, upd_same, by omega, ?_, ?_, fun p3 hp3 => ?_⟩
    · rw [List.length_map]
      omega
    · rw [List.length_map, List.length_singleton, Nat.one_mul]
      exact small (by omega)
    have s3 := s2.trans (same_new hp3 (.lst (List.replicate (((laterA fore as r).map V.ref).length : Int).toNat [V.ref o]).flatten))
    have dr : Dp K (upd (upd H1 p2 (.lst [.ref o])) p3 (.lst (List.replicate (((laterA fore as r).map V.ref).length : Int).toNat [V.ref o]).flatten)) (.ref p3) (.list ((List.replicate (laterR r fore).length own).map pairD)) := by
      have eL : (List.replicate (((laterA fore as r).map V.ref).length : Int).toNat [V.ref o]).flatten = List.replicate (laterR r fore).length (V.ref o) := by rw [rep_flat, List.length_map, Int.toNat_natCast, ll]
      refine .lst (xs := List.replicate (laterR r fore).length (V.ref o)) (SqL.of (by rw [upd_same, eL])) ?_
      rw [List.map_replicate]
      exact rep_dp (.tup (SqT.of (s3 _ _ (s1 _ _ ho))) (.cons (.int _) (.cons (ov_dp _) .nil))) _
    refine ⟨_, _, dl s3, dr, rows_shaped _, rows_shaped _, ?_⟩
    generalize upd (upd H1 p2 (.lst [.ref o])) p3 (.lst (List.replicate (((laterA fore as r).map V.ref).length : Int).toNat [V.ref o]).flatten) = H3 at *
    have e1 : PyData.eqv (.list ((laterR r fore).map pairD)) (.list ((List.replicate (laterR r fore).length own).map pairD)) = decide (laterR r fore = List.replicate (laterR r fore).length own) := rows_eqv _ _
    rw [e1]
    have s13 := s1.trans s3
    refine ⟨_, rfl, itD (fun c => ?_) (fun c => ?_)⟩
    · have q2 : ∀ H', Same H H' → Q (.bl (decide (laterR r fore = r.drop (r.length - (laterR r fore).length)))) H' := fun H' s' => by
        have z := q H' s'
        unfold rowPB at z
        rw [dec_true c, Bool.true_and] at z
        exact z
      have ha3 := s13 _ _ ha
      have hp3' := paired_imp (S := fun a p => H3 a = some (.tup (pairV p))) (fun _ _ z => s13 _ _ z) hp
      have idx : (((as.map V.ref).length : Nat) : Int) - (((laterA fore as r).map V.ref).length : Nat) = ((r.length - (laterR r fore).length : Nat) : Int) := by
        rw [List.length_map, List.length_map, hl, ll]
        omega
      refine ⟨_, rfl, _, rfl, _, rfl, a, _, rfl, .inr (SqT.of ha3), _, rfl, D, _, rfl, .inl (SqL.of (s3 _ _ hc1)), _, _, rfl, rfl, _, rfl, ?_⟩
      unfold tNoPart
      dsimp only
      rw [idx]
      have fin : ∀ (p : Addr) (H4 : Hp), Same H3 H4 → H4 p = some (.tup ((as.drop (r.length - (laterR r fore).length)).map V.ref)) → ∀ p5, H4 p5 = none → Q (.bl (PyData.eqv (.list ((laterR r fore).map pairD)) (.list ((r.drop (r.length - (laterR r fore).length)).map pairD)))) (upd H4 p5 (.lst ((as.drop (r.length - (laterR r fore).length)).map V.ref))) ∧ True := fun p H4 s4 e4 p5 hp5 => ⟨by
        rw [show PyData.eqv (.list ((laterR r fore).map pairD)) (.list ((r.drop (r.length - (laterR r fore).length)).map pairD)) = decide (laterR r fore = r.drop (r.length - (laterR r fore).length)) from rows_eqv _ _]
        exact q2 _ (s13.trans (s4.trans (same_new hp5 _))), trivial⟩
      have go : ∀ (p : Addr) (H4 : Hp), Same H3 H4 → H4 p = some (.tup ((as.drop (r.length - (laterR r fore).length)).map V.ref)) → ∃ q ys, [V.ref p] = [.ref q] ∧ (SqL K H4 q ys ∨ SqT K H4 q ys) ∧ ∀ l, H4 l = none → (∃ d e, Dp K (upd H4 l (.lst ys)) (.ref D) d ∧ Dp K (upd H4 l (.lst ys)) (.ref l) e ∧ SeqAt.shaped d = true ∧ SeqAt.shaped e = true ∧ Q (.bl (PyData.eqv d e)) (upd H4 l (.lst ys))) := fun p H4 s4 e4 => by
        refine ⟨p, _, rfl, .inr (SqT.of e4), fun l hl5 => ?_⟩
        have s5 := same_new hl5 (.lst ((as.drop (r.length - (laterR r fore).length)).map V.ref))
        refine ⟨_, .list ((r.drop (r.length - (laterR r fore).length)).map pairD), dl (s3.trans (s4.trans s5)), .lst (SqL.of upd_same) (row_dps (paired_drop _ (paired_imp (fun _ _ z => s5 _ _ (s4 _ _ z)) hp3'))), rows_shaped _, rows_shaped _, (fin p H4 s4 e4 l hl5).1⟩
      refine ⟨a, _, rfl, SqT.of ha3, fun cw => ?_, fun cw p4 hp4 => ?_⟩
      · have z : r.length - (laterR r fore).length = 0 ∨ as = [] := by
          have c1 := cw.1
          rw [HT.sIx_nat, List.length_map] at c1
          have := hl
          by_cases e : as = []
          · exact .inr e
          · have : as.length ≠ 0 := fun z => e (List.eq_nil_of_length_eq_zero z)
            exact .inl (by omega)
        refine go a H3 same_refl ?_
        rcases z with z | z
        · rw [z]
          exact ha3
        · rw [z] at ha3 ⊢
          rw [List.drop_nil]
          exact ha3
      · refine go p4 _ (same_new hp4 _) ?_
        rw [upd_same, cut_from, List.map_drop]
    · have z := q H3 s13
      unfold rowPB at z
      rw [decide_eq_false c, Bool.false_and] at z
      exact z
end
end Any
namespace Any
open L2 PySem PySem.Spec PyProof.Rows
def foreB (n : Num) (s : Sto) : Int := (s.mark - 1) % (2 * n.hold + 1)
def plainB (n : Num) (s : Sto) : Bool :=
  !(decide (s.bears = 1) && decide (s.slot = none)) && (!(decide (s.last ≠ s.mark) && decide (s.last ≠ foreB n s)) && (rowPB s.letters (foreB n s) (letterB s) && (rowPB s.echoes (foreB n s) (s.mark, some s.took) &&
    (!(decide (s.last = s.mark) && s.letters.any fun e => decide (e.1 = foreB n s)) && !(decide (s.last ≠ s.mark) && s.echoes.any fun e => decide (e.1 = s.mark))))))
def owedB (s : Sto) : List Int := s.box.toList ++ (if s.bears = 1 ∧ s.took = 1 ∧ s.last = s.mark then [] else s.slot.toList)
abbrev sIsPlain : Stmt := inClass (top 16) 6
abbrev nmIP : List Str := ["self", "mark", "bears", "slot", "letters", "last", "took", "box", "echoes", "ahead", "letter", "echo"]
theorem scIP : FnScope nmIP ["self"] (defScope sIsPlain) := ⟨rfl, rfl, rfl, by decide +kernel, rfl, by decide +kernel, by decide +kernel⟩
def spIsPlain (C : Addr) : Sp := fun vs H Q _ => ∃ (x : Addr) (n : Num) (s : Sto) (g : Int × Int), vs = [.ref x] ∧ WayAt C H x n s g ∧ NumOk n ∧ StoOk n s ∧ ∀ H', Same H H' → Q (.bl (plainB n s)) H'
theorem in_firsts (i : Int) : ∀ r : Row, inV (.int i) (r.map fun e => V.int e.1) = r.any fun e => decide (e.1 = i)
  | [] => rfl
  | e :: r => by
    have ih := in_firsts i r
    unfold inV at ih ⊢
    rw [List.map_cons, List.any_cons, List.any_cons, ih]
    congr 1
theorem firsts_flat : ∀ r : Row, (r.map fun e => V.int e.1).all flatV = true
  | [] => rfl
  | e :: r => by
    rw [List.map_cons, List.all_cons, firsts_flat r]
    rfl
theorem fm_none : ∀ r : Row, (r.map fun _ => (none : Option V)).filterMap id = []
  | [] => rfl
  | e :: r => by
    rw [List.map_cons, ← fm_none r]
    rfl
section
variable {P : Program} {w : World} {K : PySem.W.Frag} {mg : Str → Option Value} {base : Heap} {f C : Addr} {fd : FuncData}
set_option maxHeartbeats 2000000 in
theorem ok_isplain (O : Own mg) (T : WayC K C) (F : Fun K "is_plain" "Way.is_plain" sIsPlain f fd) (D1 : Df P w K mg base 1 "marks" ["hold"] spMarks) (D2 : Df P w K mg base 1 "row_is_plain" ["row", "ahead", "own"] spRowP) : FnOk P w K mg base CX0 2 f fd ["self"] (spIsPlain C) := by
  refine F.ok scIP (fun vs H Q E h => ?_) (fun cdv A outer s H vs Q E hr h => ?_)
  · obtain ⟨x, n, s, g, rfl, _⟩ := h
    rfl
  obtain ⟨x, n, st, g, rfl, ⟨dx, k, ga, hx, ⟨L, Ec, hk, hL, hE⟩, hg⟩, hN, hS, q⟩ := h
  have hh := hN.h1
  have hh0 := hN.h0
  have zl : st.letters.length ≤ 1000 := by have := hS.let0; omega
  have ze : st.echoes.length ≤ 1000 := by have := hS.ech0; omega
  let X := (cxOf CX0 P w K mg base nmIP "Way.is_plain" (defScope sIsPlain) f cdv A outer s H E).nox
  let σ0 : L2.St := [some (.ref x), some (.int st.mark), some (.int st.bears), some (ov st.slot), some (.ref L), some (.int st.last), some (.int st.took), some (ov st.box), some (.ref Ec), some (.int (foreB n st)), none, none]
  obtain ⟨tE, hEnd, leafE⟩ : ∃ t, PSs X ((defBody sIsPlain).drop 4) t ∧ ((∀ H', Same H H' → Q (.bl (rowPB st.letters (foreB n st) (letterB st) && (rowPB st.echoes (foreB n st) (st.mark, some st.took) &&
    (!(decide (st.last = st.mark) && st.letters.any fun e => decide (e.1 = foreB n st)) && !(decide (st.last ≠ st.mark) && st.echoes.any fun e => decide (e.1 = st.mark)))))) H') → t { nx := fun _ H' => Q .non H', rt := Q } σ0 H) := by
    refine ⟨_, (pss_one (ps_ret (pe_and (pe_D D2 hr rfl (pa_cons (pv 4) (pa_cons (pv 9) (pa_cons (pe_tup (pa_cons (pv 1) (pa_cons (pe_ifExp (pt_cmpR op_eq (pv 2) pe_int (nomark _)) (pv 3) pe_non) pa_nil))) pa_nil))))
      (pe_and (pe_D D2 hr rfl (pa_cons (pv 8) (pa_cons (pv 9) (pa_cons (pe_tup (pa_cons (pv 1) (pa_cons (pv 6) pa_nil))) pa_nil))))
      (pe_and (pe_cmpR op_notIn_seq (pv 9) (pe_lc (own := [("letter", 10)]) (g := gName 10) rfl scIP.nd (pi_tup (pv 4)) (blkOk_by (N := nmIP) (sc := defScope sIsPlain) (by decide +kernel)) (fun _ _ _ _ _ => pg_name (i := 10) scIP.nd rfl (Or.inl rfl)) (fun _ _ _ _ _ => pts_one (pt_cmpR op_eq (pv 5) (pv 1) (nomark _))) (fun _ _ _ _ _ => pe_ix (show IxR _ (rIxT K) from ix_tup) (pv 10) pe_int (fun _ _ => rfl))) (by rfl))
      (pe_one (pe_cmpR op_notIn_seq (pv 1) (pe_lc (own := [("echo", 11)]) (g := gName 11) rfl scIP.nd (pi_tup (pv 8)) (blkOk_by (N := nmIP) (sc := defScope sIsPlain) (by decide +kernel)) (fun _ _ _ _ _ => pg_name (i := 11) scIP.nd rfl (Or.inl rfl)) (fun _ _ _ _ _ => pts_one (pt_cmpR op_ne (pv 5) (pv 1) (nomark _))) (fun _ _ _ _ _ => pe_ix (show IxR _ (rIxT K) from ix_tup) (pv 11) pe_int (fun _ _ => rfl))) (by rfl)))))))), ?_⟩
    intro q
    have gsm : ∀ (b : Bool) (r : Row) (j : Int), (((r.map fun e => if b = true then some (V.int e.1) else none).filterMap id).all flatV = true) ∧ (!inV (.int j) ((r.map fun e => if b = true then some (V.int e.1) else none).filterMap id)) = (!(b && r.any fun e => decide (e.1 = j))) := fun b r j => by
      cases b with
      | true =>
        have e : (r.map fun e => if true = true then some (V.int e.1) else none).filterMap id = r.map fun e => V.int e.1 := fm_some (fun e : Int × Option Int => V.int e.1) r
        rw [e, in_firsts]
        exact ⟨firsts_flat r, rfl⟩
      | false =>
        have e : (r.map fun e => if false = true then some (V.int e.1) else none).filterMap id = [] := fm_none r
        rw [e]
        exact ⟨rfl, rfl⟩
    refine ⟨_, rfl, _, rfl, _, rfl, _, rfl, rfl, _, rfl, itEq (fun b1 => ⟨_, rfl, two, fun p1 hp1 => ?_⟩) (fun b1 => ⟨two, fun p1 hp1 => ?_⟩)⟩
    all_goals
      have e1 : ∀ v : V, v = ov (letterB st).2 → upd H p1 (.tup [.int st.mark, v]) p1 = some (.tup (pairV (letterB st))) := fun v hv => by rw [upd_same, hv]; rfl
      refine ⟨L, p1, st.letters, foreB n st, letterB st, rfl, hL.keep (Same.tups (same_new hp1 _)), zl, e1 _ (by show _ = ov (if st.bears = 1 then st.slot else none); first | rw [if_pos b1] | (rw [if_neg b1]; rfl)), fun H1 s1 => ⟨_, rfl, ?_⟩⟩
      have s1 := (same_new hp1 _).trans s1
      cases hb3 : rowPB st.letters (foreB n st) (letterB st) with
      | false =>
        rw [hb3] at q
        exact itF rfl (q H1 s1)
      | true =>
        rw [hb3] at q
        refine itT rfl ⟨_, rfl, _, rfl, _, rfl, _, rfl, two, fun p2 hp2 => ?_⟩
        have s2 := s1.trans (same_new hp2 (.tup [.int st.mark, .int st.took]))
        refine ⟨Ec, p2, st.echoes, foreB n st, (st.mark, some st.took), rfl, hE.keep (Same.tups s2), ze, upd_same, fun H3 s3 => ⟨_, rfl, ?_⟩⟩
        have s3 := s2.trans s3
        cases hb4 : rowPB st.echoes (foreB n st) (st.mark, some st.took) with
        | false =>
          rw [hb4] at q
          exact itF rfl (q H3 s3)
        | true =>
          rw [hb4] at q
          obtain ⟨as, hLL, hpL⟩ := hL.keep (Same.tups s3)
          have hlL := paired_len hpL
          refine itT rfl ⟨_, rfl, _, rfl, L, rfl, ⟨_, SqT.of hLL⟩, fun D hD => ?_⟩
          refine turns_tup (K := K) (a := L) (xs := as.map V.ref) (st.letters.map fun e => if decide (st.last = st.mark) = true then some (V.int e.1) else none) hD (fun Hc sm => SqT.of (sm _ _ hLL)) (by rw [List.length_map, List.length_map]; exact hlL.symm) (small (by rw [List.length_map]; omega)) ?_ ?_
          · intro i z o Hc Y N hz2 ho sm hY hN'
            obtain ⟨e, he, rfl⟩ := refs_at hz2
            obtain ⟨b, hb, hat⟩ := paired_get hpL he
            rw [List.getElem?_map, hb] at ho
            have ho : (if decide (st.last = st.mark) = true then some (V.int b.1) else none) = o := Option.some.inj ho
            refine ⟨rfl, _, rfl, _, rfl, rfl, _, rfl, itEq (fun c => ?_) (fun c => ?_)⟩
            · rw [if_pos (dec_true c)] at ho
              exact ⟨_, rfl, e, _, _, _, rfl, rfl, SqT.of (sm _ _ hat), atI_nat (j := 0) rfl, hY _ ho.symm Hc same_refl⟩
            · rw [if_neg (by rw [decide_eq_false c]; decide)] at ho
              exact hN' ho.symm Hc same_refl
          · intro H4 hc4 s4
            obtain ⟨fl, iv⟩ := gsm (decide (st.last = st.mark)) st.letters (foreB n st)
            refine ⟨D, _, rfl, .inl (SqL.of hc4), rfl, fl, _, rfl, ?_⟩
            have s4 := s3.trans s4
            show if (!inV (.int (foreB n st)) ((st.letters.map fun e => if decide (st.last = st.mark) = true then some (V.int e.1) else none).filterMap id)) = true then _ else _
            rw [iv]
            cases hb5 : (decide (st.last = st.mark) && st.letters.any fun e => decide (e.1 = foreB n st)) with
            | true =>
              rw [hb5] at q
              exact itF rfl (q H4 s4)
            | false =>
              rw [hb5] at q
              obtain ⟨bs, hEE, hpE⟩ := hE.keep (Same.tups s4)
              have hlE := paired_len hpE
              refine itT rfl ⟨_, rfl, _, rfl, Ec, rfl, ⟨_, SqT.of hEE⟩, fun D2 hD2 => ?_⟩
              refine turns_tup (K := K) (a := Ec) (xs := bs.map V.ref) (st.echoes.map fun e => if decide (st.last ≠ st.mark) = true then some (V.int e.1) else none) hD2 (fun Hc sm => SqT.of (sm _ _ hEE)) (by rw [List.length_map, List.length_map]; exact hlE.symm) (small (by rw [List.length_map]; omega)) ?_ ?_
              · intro i z o Hc Y N hz2 ho sm hY hN'
                obtain ⟨e, he, rfl⟩ := refs_at hz2
                obtain ⟨b, hb, hat⟩ := paired_get hpE he
                rw [List.getElem?_map, hb] at ho
                have ho : (if decide (st.last ≠ st.mark) = true then some (V.int b.1) else none) = o := Option.some.inj ho
                refine ⟨rfl, _, rfl, _, rfl, rfl, _, rfl, itNe (fun c => ?_) (fun c => ?_)⟩
                · rw [if_pos (dec_true c)] at ho
                  exact ⟨_, rfl, e, _, _, _, rfl, rfl, SqT.of (sm _ _ hat), atI_nat (j := 0) rfl, hY _ ho.symm Hc same_refl⟩
                · rw [if_neg (by rw [decide_eq_false (fun z => z c)]; decide)] at ho
                  exact hN' ho.symm Hc same_refl
              · intro H5 hc5 s5
                obtain ⟨fl, iv⟩ := gsm (decide (st.last ≠ st.mark)) st.echoes st.mark
                refine ⟨D2, _, rfl, .inl (SqL.of hc5), rfl, fl, ?_⟩
                show Q (.bl (!inV (.int st.mark) ((st.echoes.map fun e => if decide (st.last ≠ st.mark) = true then some (V.int e.1) else none).filterMap id))) H5
                rw [iv]
                exact q H5 (s4.trans s5)
  obtain ⟨tD, hD3, leafD⟩ : ∃ t, PSs X ((defBody sIsPlain).drop 3) t ∧ ((decide (st.bears = 1) && decide (st.slot = none)) = false → t { nx := fun _ H' => Q .non H', rt := Q } σ0 H) := by
    refine ⟨_, pss_cons (ps_if (PW.pt (pw_and (pt_cmpR op_ne (pv 5) (pv 1) (nomark _)) (pw_and1 (pt_cmpR op_ne (pv 5) (pv 9) (nomark _))))) (pss_one (ps_ret pe_bl)) pss_nil) hEnd, ?_⟩
    intro h1
    have q1 := q
    unfold plainB at q1
    rw [h1] at q1
    have leaf : (decide (st.last ≠ st.mark) && decide (st.last ≠ foreB n st)) = false → tE { nx := fun _ H' => Q .non H', rt := Q } σ0 H := fun h2 => by
      rw [h2] at q1
      exact leafE q1
    refine ⟨_, rfl, _, rfl, rfl, _, rfl, itNe (fun c => ?_) (fun c => ?_)⟩
    · refine ⟨_, rfl, _, rfl, rfl, _, rfl, itNe (fun c2 => ?_) (fun c2 => ?_)⟩
      · rw [dec_true c, dec_true c2] at q1
        exact q1 H same_refl
      · exact leaf (by rw [show decide (st.last ≠ foreB n st) = false from decide_eq_false (fun z => z c2), Bool.and_false])
    · exact itF rfl (leaf (by rw [decide_eq_false (fun z => z c), Bool.false_and]))
  refine ⟨_, pss_cons (ps_asg (pe_fld (pv 0) rfl) (pg_tup rfl (pgs_cons (pg_name (i := 1) scIP.nd rfl (Or.inr rfl)) (pgs_cons (pg_name (i := 2) scIP.nd rfl (Or.inl rfl)) (pgs_cons (pg_name (i := 3) scIP.nd rfl (Or.inl rfl)) (pgs_cons (pg_name (i := 4) scIP.nd rfl (Or.inl rfl))
        (pgs_cons (pg_name (i := 5) scIP.nd rfl (Or.inr rfl)) (pgs_cons (pg_name (i := 6) scIP.nd rfl (Or.inl rfl)) (pgs_cons (pg_name (i := 7) scIP.nd rfl (Or.inl rfl)) (pgs_cons (pg_name (i := 8) scIP.nd rfl (Or.inl rfl)) pgs_nil))))))))))
    (pss_cons (ps_set (i := 9) scIP.nd rfl (Or.inl rfl) (pe_op op_mod (pe_op op_sub (pv 1) pe_int) (pe_D D1 hr rfl (pa_cons (pe_fld (pv 0) rfl) pa_nil))))
    (pss_cons (ps_if (PW.pt (pw_and (pt_cmpR op_eq (pv 2) pe_int (nomark _)) (pw_and1 (pt_cmpR op_isN (pv 3) pe_non (nomark _))))) (pss_one (ps_ret pe_bl)) pss_nil) hD3)), ?_⟩
  refine ⟨_, rfl, x, C, dx, _, _, rfl, hx, T.cl, T.n4, wf_kept, k, _, rfl, SqT.of hk, rfl, _, _, rfl, _, _, rfl, _, _, rfl, _, _, rfl, _, _, rfl, _, _, rfl, _, _, rfl, _, _, rfl, rfl, ?_⟩
  refine ⟨_, rfl, _, _, rfl, rfl, _, rfl, x, C, dx, _, _, rfl, hx, T.cl, T.n1, wf_hold, n.hold, rfl, _, _, rfl, rfl, by omega, ?_⟩
  refine ⟨_, rfl, rfl, _, rfl, itEq (fun c => ?_) (fun c => ?_)⟩
  · refine ⟨_, rfl, rfl, _, rfl, itO (fun c2 => ?_) (fun c2 => ?_)⟩
    · have q1 := q
      unfold plainB at q1
      rw [dec_true c, dec_true c2] at q1
      exact q1 H same_refl
    · exact leafD (by rw [decide_eq_false c2, Bool.and_false])
  · exact itF rfl (leafD (by rw [decide_eq_false c, Bool.false_and]))
end
end Any
namespace Any
open L2 PySem PySem.Spec PyProof.Rows
abbrev sUnder : Stmt := inClass (top 16) 7
abbrev nmUW : List Str := ["self", "mark", "bears", "slot", "letters", "last", "took", "box", "echoes", "word"]
theorem scUW : FnScope nmUW ["self"] (defScope sUnder) := ⟨rfl, rfl, rfl, by decide +kernel, rfl, by decide +kernel, by decide +kernel⟩
def spUnder (C : Addr) : Sp := fun vs H Q _ => ∃ (x : Addr) (n : Num) (s : Sto) (g : Int × Int), vs = [.ref x] ∧ WayAt C H x n s g ∧ NumOk n ∧ StoOk n s ∧ (plainB n s = false → ∀ H', Same H H' → Q .non H') ∧ (plainB n s = true → ∀ p H', H p = none → Same H H' → H' p = some (.lst ((owedB s).map V.int)) → Q (.ref p) H')
theorem two_fm (a b : Option Int) : (([a, b].map fun o => match o with | none => (none : Option V) | some i => some (V.int i)).filterMap id) = (a.toList ++ b.toList).map V.int := by
  cases a <;> cases b <;> rfl
section
variable {P : Program} {w : World} {K : PySem.W.Frag} {mg : Str → Option Value} {base : Heap} {f C : Addr} {fd : FuncData}
theorem ok_under (T : WayC K C) (F : Fun K "under_way" "Way.under_way" sUnder f fd) (D1 : Mf0 P w K mg base C 2 "is_plain" ["self"] [] (spIsPlain C)) : FnOk P w K mg base CX0 3 f fd ["self"] (spUnder C) := by
  refine F.ok scUW (fun vs H Q E h => ?_) (fun cdv A outer s H vs Q E hr h => ?_)
  · obtain ⟨x, n, s, g, rfl, _⟩ := h
    rfl
  obtain ⟨x, n, st, g, rfl, hW, hN, hS, q0, q1⟩ := h
  obtain ⟨dx, k, ga, hx, ⟨L, Ec, hk, hL, hE⟩, hg⟩ := id hW
  let X := (cxOf CX0 P w K mg base nmUW "Way.under_way" (defScope sUnder) f cdv A outer s H E).nox
  obtain ⟨tE, hEnd, leafE⟩ : ∃ t, PSs X ((defBody sUnder).drop 3) t ∧ ∀ (sl : Option Int) (H1 : Hp), Same H H1 → plainB n st = true → st.box.toList ++ sl.toList = owedB st →
      t { nx := fun _ H' => Q .non H', rt := Q } [some (.ref x), some (.int st.mark), some (.int st.bears), some (ov sl), some (.ref L), some (.int st.last), some (.int st.took), some (ov st.box), some (.ref Ec), none] H1 := by
    refine ⟨_, pss_one (ps_ret (pe_lc (own := [("word", 9)]) (g := gName 9) rfl scUW.nd (pi_tup (pe_tup (pa_cons (pv 7) (pa_cons (pv 3) pa_nil)))) (blkOk_by (N := nmUW) (sc := defScope sUnder) (by decide +kernel)) (fun _ _ _ _ _ => pg_name (i := 9) scUW.nd rfl (Or.inl rfl)) (fun _ _ _ _ _ => pts_one (pt_cmpR op_notN (pv 9) pe_non (nomark _))) (fun _ _ _ _ _ => pv 9))), ?_⟩
    intro sl H1 s1 hp he
    refine ⟨_, rfl, _, rfl, two, fun p2 hp2 => ⟨p2, rfl, ⟨_, SqT.of upd_same⟩, fun D hD => ?_⟩⟩
    have s2 := same_new hp2 (.tup [ov st.box, ov sl])
    refine turns_tup (K := K) (a := p2) (xs := [ov st.box, ov sl]) ([st.box, sl].map fun o => match o with | none => (none : Option V) | some i => some (V.int i)) hD (fun Hc sm => SqT.of (sm _ _ upd_same)) rfl two ?_ ?_
    · intro i z o Hc Y N hz2 ho sm hY hN'
      have key : ∃ o' : Option Int, z = ov o' ∧ o = (match o' with | none => (none : Option V) | some i => some (V.int i)) := by
        match i, hz2, ho with
        | 0, h1, h2 => cases h1; cases h2; exact ⟨_, rfl, rfl⟩
        | 1, h1, h2 => cases h1; cases h2; exact ⟨_, rfl, rfl⟩
        | i + 2, h1, _ => simp at h1
      obtain ⟨o', rfl, rfl⟩ := key
      refine ⟨rfl, _, rfl, rfl, _, rfl, itS (fun c => ?_) (fun c => ?_)⟩
      · cases o' with
        | none => exact absurd rfl c
        | some i => exact ⟨_, rfl, hY _ rfl Hc same_refl⟩
      · cases o' with
        | some i => cases c
        | none => exact hN' rfl Hc same_refl
    · intro H4 hc4 s4
      rw [two_fm, he] at hc4
      exact q1 hp D H4 ((s1.trans s2).free hD) (s1.trans (s2.trans s4)) hc4
  refine ⟨_, pss_cons (ps_if (pt_not (pt_val (pe_M0 D1 T.cl (pv 0) hr))) (pss_one (ps_ret pe_non)) pss_nil)
    (pss_cons (ps_asg (pe_fld (pv 0) rfl) (pg_tup rfl (pgs_cons (pg_name (i := 1) scUW.nd rfl (Or.inl rfl)) (pgs_cons (pg_name (i := 2) scUW.nd rfl (Or.inl rfl)) (pgs_cons (pg_name (i := 3) scUW.nd rfl (Or.inl rfl)) (pgs_cons (pg_name (i := 4) scUW.nd rfl (Or.inl rfl))
        (pgs_cons (pg_name (i := 5) scUW.nd rfl (Or.inl rfl)) (pgs_cons (pg_name (i := 6) scUW.nd rfl (Or.inl rfl)) (pgs_cons (pg_name (i := 7) scUW.nd rfl (Or.inl rfl)) (pgs_cons (pg_name (i := 8) scUW.nd rfl (Or.inl rfl)) pgs_nil))))))))))
    (pss_cons (ps_if (PW.pt (pw_and (pt_cmpR op_eq (pv 2) pe_int (nomark _)) (pw_and (pt_cmpR op_eq (pv 6) pe_int (nomark _)) (pw_and1 (pt_cmpR op_eq (pv 5) (pv 1) (nomark _)))))) (pss_one (ps_set (i := 3) scUW.nd rfl (Or.inl rfl) pe_non)) pss_nil) hEnd)), ?_⟩
  refine ⟨_, rfl, x, dx, _, rfl, hx, wf_none (by decide +kernel), x, n, st, g, rfl, hW, hN, hS, fun H1 s1 => ⟨_, rfl, ?_⟩⟩
  cases hp : plainB n st with
  | false => exact itT rfl (q0 hp H1 s1)
  | true =>
    refine itF rfl ?_
    refine ⟨_, rfl, x, C, dx, _, _, rfl, s1 _ _ hx, T.cl, T.n4, wf_kept, k, _, rfl, SqT.of (s1 _ _ hk), rfl, _, _, rfl, _, _, rfl, _, _, rfl, _, _, rfl, _, _, rfl, _, _, rfl, _, _, rfl, _, _, rfl, rfl, ?_⟩
    have no : ¬ (st.bears = 1 ∧ st.took = 1 ∧ st.last = st.mark) → st.box.toList ++ st.slot.toList = owedB st := fun z => by unfold owedB; rw [if_neg z]
    refine ⟨_, rfl, rfl, _, rfl, itEq (fun c1 => ?_) (fun c1 => ?_)⟩
    · refine ⟨_, rfl, rfl, _, rfl, itEq (fun c2 => ?_) (fun c2 => ?_)⟩
      · refine ⟨_, rfl, _, rfl, rfl, _, rfl, itEq (fun c3 => ?_) (fun c3 => ?_)⟩
        · exact leafE none H1 s1 hp (by unfold owedB; rw [if_pos ⟨c1, c2, c3⟩]; rfl)
        · exact leafE st.slot H1 s1 hp (no fun z => c3 z.2.2)
      · exact itF rfl (leafE st.slot H1 s1 hp (no fun z => c2 z.2.1))
    · exact itF rfl (leafE st.slot H1 s1 hp (no fun z => c1 z.1))
end
end Any
namespace Any
/-! ### marks alone -/
structure Mk where
  mark : Int
  ls : List Int
  last : Int
  es : List Int
def lastM (k : Mk) : Int := k.ls.head?.getD k.last
def stepM (M : Int) (k : Mk) (l0 l1 : Bool) : Mk where
  mark := if k.es.head? = some k.mark then (k.mark + 1) % M else k.mark
  ls := k.ls.drop 1 ++ (if l0 = true then [] else [k.mark])
  last := lastM k
  es := k.es.drop 1 ++ (if l1 = true ∨ k.ls = [] then [] else [lastM k])
def lab (M mark : Int) (d : Nat) : Int := (mark - d) % M
abbrev Sd (l : List Nat) : Prop := l.Pairwise (· ≥ ·)
/-- how far behind the sender's mark all is; garbage stands first -/
structure Ch (M : Int) (h t b : Nat) (k : Mk) (lg eg : List Int) (dt de : List Nat) (dl : Option Nat) : Prop where
  ls : k.ls = lg ++ dt.map (lab M k.mark)
  es : k.es = eg ++ de.map (lab M k.mark)
  gl : lg.length ≤ h - t
  ge : eg.length ≤ 2 * h - t
  last : ∀ d, dl = some d → k.last = lab M k.mark d
  wild : dl = none → de = []
  old : lg ≠ [] → dl = none
  sd : Sd (de ++ (dl.toList ++ dt))
  le : ∀ d ∈ de ++ (dl.toList ++ dt), d ≤ b
theorem lab_next {M mark : Int} (d : Nat) : lab M ((mark + 1) % M) (d + 1) = lab M mark d := by
  unfold lab
  rw [Int.sub_emod, Int.emod_emod_of_dvd _ (Int.dvd_refl M), ← Int.sub_emod]
  congr 1
  omega
theorem lab_zero {M mark : Int} (h0 : 0 ≤ mark) (h1 : mark < M) : lab M mark 0 = mark := by
  unfold lab
  rw [show mark - ((0 : Nat) : Int) = mark by omega]
  exact Int.emod_eq_of_lt h0 h1
/-- by one, if the mark goes on -/
def byM (k : Mk) : Nat := if k.es.head? = some k.mark then 1 else 0
theorem lab_by {M : Int} {k : Mk} {l0 l1 : Bool} (d : Nat) : lab M (stepM M k l0 l1).mark (d + byM k) = lab M k.mark d := by
  unfold stepM byM
  split
  · exact lab_next d
  · rfl
theorem map_by {M : Int} {k : Mk} {l0 l1 : Bool} (ds : List Nat) : ds.map (lab M k.mark) = (ds.map (· + byM k)).map (lab M (stepM M k l0 l1).mark) := by
  rw [List.map_map]
  refine List.map_congr_left fun d _ => ?_
  exact (lab_by d).symm
theorem by_le (k : Mk) : byM k ≤ 1 := by unfold byM; split <;> omega
theorem sd_map {l : List Nat} (v : Nat) (h : Sd l) : Sd (l.map (· + v)) := by
  refine List.Pairwise.map _ ?_ h
  intro a b hab
  show a + v ≥ b + v
  omega
theorem sd_snoc {l : List Nat} {v : Nat} (h : Sd l) (k : ∀ d ∈ l, d ≥ v) : Sd (l ++ [v]) := by
  refine List.pairwise_append.mpr ⟨h, List.pairwise_singleton _ _, fun a ha b hb => ?_⟩
  rw [List.mem_singleton.mp hb]
  exact k a ha
/-- what a beat does to the distances -/
theorem Ch.step {M : Int} {h t b : Nat} {k : Mk} {lg eg : List Int} {dt de : List Nat} {dl : Option Nat} (c : Ch M h t b k lg eg dt de dl) (hh : 1 ≤ h) (h0 : 0 ≤ k.mark) (h1 : k.mark < M) (zl : k.ls.length ≤ h) (ze : k.es.length ≤ h) (l0 l1 : Bool) :
    ∃ lg' eg' dt' de' dl', Ch M h (t + 1) (b + byM k) (stepM M k l0 l1) lg' eg' dt' de' dl' := by
  have hv := by_le k
  have new : k.mark = lab M (stepM M k l0 l1).mark (byM k) := by
    have z := lab_by (M := M) (k := k) (l0 := l0) (l1 := l1) 0
    rw [Nat.zero_add, lab_zero h0 h1] at z
    exact z.symm
  -- the letters' distances with the new letter's
  let tail : List Nat := if l0 = true then [] else [byM k]
  have tl : (if l0 = true then [] else [k.mark]) = tail.map (lab M (stepM M k l0 l1).mark) := by
    show _ = (if l0 = true then [] else [byM k]).map _
    split
    · rfl
    · rw [List.map_singleton, ← new]
  have tmem : ∀ d ∈ tail, d = byM k := fun d hd => by
    have hd : d ∈ (if l0 = true then [] else [byM k]) := hd
    split at hd
    · cases hd
    · exact List.mem_singleton.mp hd
  have tsd : ∀ l : List Nat, Sd l → (∀ d ∈ l, d ≥ byM k) → Sd (l ++ tail) := fun l hl hk => by
    show Sd (l ++ (if l0 = true then [] else [byM k]))
    split
    · rw [List.append_nil]; exact hl
    · exact sd_snoc hl hk
  have allge : ∀ (l : List Nat), ∀ d ∈ l.map (· + byM k), d ≥ byM k := fun l d hd => by
    obtain ⟨e, _, rfl⟩ := List.mem_map.mp hd
    omega
  have allle : ∀ (l : List Nat), (∀ d ∈ l, d ≤ b) → ∀ d ∈ l.map (· + byM k) ++ tail, d ≤ b + byM k := fun l hl d hd => by
    rcases List.mem_append.mp hd with hd | hd
    · obtain ⟨e, he, rfl⟩ := List.mem_map.mp hd
      have := hl e he
      omega
    · rw [tmem d hd]
      omega
  have csd := c.sd
  have cle := c.le
  cases lg with
  | cons x lg' =>
    have dn : dl = none := c.old (by simp)
    subst dn
    have den : de = [] := c.wild rfl
    subst den
    have hls : k.ls = x :: (lg' ++ dt.map (lab M k.mark)) := c.ls
    have gl := c.gl
    rw [List.length_cons] at gl
    refine ⟨lg', (stepM M k l0 l1).es, dt.map (· + byM k) ++ tail, [], none, ?_, ?_, by omega, ?_, (fun d z => by cases z), (fun _ => rfl), (fun _ => rfl), ?_, ?_⟩
    · show k.ls.drop 1 ++ (if l0 = true then [] else [k.mark]) = _
      rw [hls, List.drop_one, List.tail_cons, tl, List.map_append, ← map_by, List.append_assoc]
    · rw [List.map_nil, List.append_nil]
    · show (k.es.drop 1 ++ (if l1 = true ∨ k.ls = [] then [] else [lastM k])).length ≤ _
      rw [List.length_append, List.length_drop]
      have : (if l1 = true ∨ k.ls = [] then ([] : List Int) else [lastM k]).length ≤ 1 := by split <;> simp
      omega
    · exact tsd _ (sd_map _ csd) (allge dt)
    · exact allle dt cle
  | nil =>
    have hls : k.ls = dt.map (lab M k.mark) := c.ls
    -- what is left of the echoes
    obtain ⟨eg', de1, he1, hge, hsub⟩ : ∃ (eg' : List Int) (de1 : List Nat), k.es.drop 1 = eg' ++ de1.map (lab M k.mark) ∧ eg'.length ≤ 2 * h - (t + 1) ∧ de1.Sublist de := by
      have ge := c.ge
      cases eg with
      | cons y eg' =>
        rw [List.length_cons] at ge
        exact ⟨eg', de, by rw [c.es]; rfl, by omega, List.Sublist.refl _⟩
      | nil =>
        refine ⟨[], de.drop 1, ?_, Nat.zero_le _, List.drop_sublist ..⟩
        rw [c.es, List.nil_append, List.nil_append, List.map_drop]
    have sub1 : (de1 ++ (dl.toList ++ dt)).Sublist (de ++ (dl.toList ++ dt)) := hsub.append (List.Sublist.refl _)
    have csd1 := csd.sublist sub1
    have cle1 : ∀ d ∈ de1 ++ (dl.toList ++ dt), d ≤ b := fun d hd => cle d (sub1.subset hd)
    cases dt with
    | nil =>
      have hnil : k.ls = [] := hls
      refine ⟨[], eg', tail, de1.map (· + byM k), dl.map (· + byM k), ?_, ?_, Nat.zero_le _, hge, ?_, ?_, (fun z => absurd rfl z), ?_, ?_⟩
      · show k.ls.drop 1 ++ (if l0 = true then [] else [k.mark]) = _
        rw [hnil, tl]
        rfl
      · show k.es.drop 1 ++ (if l1 = true ∨ k.ls = [] then [] else [lastM k]) = _
        rw [if_pos (.inr hnil), List.append_nil, he1, map_by (l0 := l0) (l1 := l1)]
      · intro d hd
        show lastM k = _
        unfold lastM
        rw [hnil]
        obtain ⟨e, he, rfl⟩ := Option.map_eq_some_iff.mp hd
        show k.last = _
        rw [c.last e he]
        exact (lab_by e).symm
      · intro z
        have z2 : dl = none := Option.map_eq_none_iff.mp z
        have := c.wild z2
        subst this
        rw [List.eq_nil_of_sublist_nil hsub]
        rfl
      · have e : de1.map (· + byM k) ++ ((dl.map (· + byM k)).toList ++ tail) = (de1 ++ (dl.toList ++ [])).map (· + byM k) ++ tail := by
          cases dl <;> simp
        rw [e]
        exact tsd _ (sd_map _ csd1) (allge _)
      · have e : de1.map (· + byM k) ++ ((dl.map (· + byM k)).toList ++ tail) = (de1 ++ (dl.toList ++ [])).map (· + byM k) ++ tail := by
          cases dl <;> simp
        rw [e]
        exact allle _ cle1
    | cons d0 dt1 =>
      have hcons : k.ls = lab M k.mark d0 :: dt1.map (lab M k.mark) := hls
      have hlast : lastM k = lab M k.mark d0 := by unfold lastM; rw [hcons]; rfl
      -- the echo sent
      let snt : List Nat := if l1 = true then [] else [d0]
      have es' : (stepM M k l0 l1).es = eg' ++ ((de1 ++ snt).map (· + byM k)).map (lab M (stepM M k l0 l1).mark) := by
        show k.es.drop 1 ++ (if l1 = true ∨ k.ls = [] then [] else [lastM k]) = _
        rw [← map_by, he1, List.map_append, List.append_assoc]
        congr 2
        show _ = (if l1 = true then [] else [d0]).map _
        by_cases c1 : l1 = true
        · rw [if_pos (.inl c1), if_pos c1]
          rfl
        · rw [if_neg (by rw [hcons]; simp [c1]), if_neg c1, hlast]
          rfl
      have srt : Sd ((de1 ++ snt) ++ ((some d0).toList ++ dt1)) := by
        have b1 : Sd (de1 ++ (d0 :: dt1)) := csd1.sublist ((List.Sublist.refl de1).append (List.sublist_append_right _ _))
        have b2 := List.pairwise_append.mp b1
        have b3 := List.pairwise_cons.mp b2.2.1
        show Sd ((de1 ++ (if l1 = true then [] else [d0])) ++ (d0 :: dt1))
        split
        · rw [List.append_nil]; exact b1
        · rw [List.append_assoc]
          refine List.pairwise_append.mpr ⟨b2.1, ?_, fun a ha b hb => ?_⟩
          · refine List.pairwise_cons.mpr ⟨fun b hb => ?_, b2.2.1⟩
            rcases List.mem_cons.mp hb with z | z
            · rw [z]; exact Nat.le_refl _
            · exact b3.1 b z
          · rcases List.mem_cons.mp hb with z | z
            · rw [z]; exact b2.2.2 a ha d0 (List.mem_cons_self ..)
            · exact b2.2.2 a ha b z
      have bnd : ∀ d ∈ (de1 ++ snt) ++ ((some d0).toList ++ dt1), d ≤ b := fun d hd => by
        have in1 : ∀ d ∈ d0 :: dt1, d ≤ b := fun d hd => cle1 d (List.mem_append_right _ (List.mem_append_right _ hd))
        rcases List.mem_append.mp hd with hd | hd
        · rcases List.mem_append.mp hd with hd | hd
          · exact cle1 d (List.mem_append_left _ hd)
          · have hd : d ∈ (if l1 = true then [] else [d0]) := hd
            split at hd
            · cases hd
            · rw [List.mem_singleton.mp hd]
              exact in1 d0 (List.mem_cons_self ..)
        · exact in1 d hd
      have e : ((de1 ++ snt).map (· + byM k)) ++ ((some (d0 + byM k)).toList ++ (dt1.map (· + byM k) ++ tail)) = ((de1 ++ snt) ++ ((some d0).toList ++ dt1)).map (· + byM k) ++ tail := by simp
      refine ⟨[], eg', dt1.map (· + byM k) ++ tail, (de1 ++ snt).map (· + byM k), some (d0 + byM k), ?_, es', Nat.zero_le _, hge, ?_, (fun z => by cases z), (fun z => absurd rfl z), ?_, ?_⟩
      · show k.ls.drop 1 ++ (if l0 = true then [] else [k.mark]) = _
        rw [hcons, List.drop_one, List.tail_cons, tl, List.map_append, ← map_by]
        rfl
      · intro d hd
        cases hd
        show lastM k = _
        rw [hlast]
        exact (lab_by d0).symm
      · rw [e]
        exact tsd _ (sd_map _ srt) (allge _)
      · rw [e]
        exact allle _ bnd
theorem lab_inj {M mark : Int} {d : Nat} (h0 : 0 ≤ mark) (h1 : mark < M) (hd : (d : Int) < M) (e : lab M mark d = mark) : d = 0 := by
  unfold lab at e
  have z := Int.emod_add_mul_ediv (mark - d) M
  rw [e] at z
  have q : M * ((mark - d) / M) = -(d : Int) := by omega
  generalize (mark - d) / M = w at q
  rcases Int.lt_trichotomy w 0 with c | c | c
  · have : M * w ≤ M * (-1) := Int.mul_le_mul_of_nonneg_left (by omega) (by omega)
    omega
  · rw [c] at q
    omega
  · have : M * 1 ≤ M * w := Int.mul_le_mul_of_nonneg_left (by omega) (by omega)
    omega
/-- where the mark goes on by what is sure, all is of the mark -/
theorem Ch.all {M : Int} {h t b : Nat} {k : Mk} {lg eg : List Int} {dt de : List Nat} {dl : Option Nat} (c : Ch M h t b k lg eg dt de dl) (hM : M = 2 * h + 1) (ht : 2 * h ≤ t) (hb : b ≤ 2 * h) (h0 : 0 ≤ k.mark) (h1 : k.mark < M) (adv : k.es.head? = some k.mark) :
    (∀ e ∈ k.es, e = k.mark) ∧ k.last = k.mark ∧ ∀ l ∈ k.ls, l = k.mark := by
  have lg0 : lg = [] := List.eq_nil_of_length_eq_zero (by have := c.gl; omega)
  have eg0 : eg = [] := List.eq_nil_of_length_eq_zero (by have := c.ge; omega)
  subst lg0 eg0
  have es : k.es = de.map (lab M k.mark) := c.es
  have ls : k.ls = dt.map (lab M k.mark) := c.ls
  cases de with
  | nil => rw [es] at adv; cases adv
  | cons d0 de1 =>
    rw [es] at adv
    have e0 : lab M k.mark d0 = k.mark := Option.some.inj adv
    have z0 : d0 = 0 := lab_inj h0 h1 (by have := c.le d0 (by simp); omega) e0
    have zz : ∀ d ∈ (d0 :: de1) ++ (dl.toList ++ dt), d = 0 := fun d hd => by
      have s := c.sd
      rw [List.cons_append] at s hd
      rcases List.mem_cons.mp hd with z | z
      · omega
      · have := (List.pairwise_cons.mp s).1 d z
        omega
    refine ⟨fun e he => ?_, ?_, fun l hl => ?_⟩
    · rw [es] at he
      obtain ⟨d, hd, rfl⟩ := List.mem_map.mp he
      rw [zz d (List.mem_append_left _ hd)]
      exact lab_zero h0 h1
    · cases hdl : dl with
      | none => exact absurd (c.wild hdl) (by simp)
      | some d =>
        rw [c.last d hdl, zz d (by rw [hdl]; simp)]
        exact lab_zero h0 h1
    · rw [ls] at hl
      obtain ⟨d, hd, rfl⟩ := List.mem_map.mp hl
      rw [zz d (by simp [hd])]
      exact lab_zero h0 h1
theorem Ch.more {M : Int} {h t b b' : Nat} {k : Mk} {lg eg : List Int} {dt de : List Nat} {dl : Option Nat} (c : Ch M h t b k lg eg dt de dl) (z : b ≤ b') : Ch M h t b' k lg eg dt de dl :=
  { c with le := fun d hd => Nat.le_trans (c.le d hd) z }
theorem Ch.late {M : Int} {h t t' b : Nat} {k : Mk} {lg eg : List Int} {dt de : List Nat} {dl : Option Nat} (c : Ch M h t b k lg eg dt de dl) (z : t' ≤ t) : Ch M h t' b k lg eg dt de dl :=
  { c with gl := by have := c.gl; omega, ge := by have := c.ge; omega }
theorem Ch.first {M : Int} {h : Nat} {k : Mk} (zl : k.ls.length ≤ h) (ze : k.es.length ≤ h) : Ch M h 0 0 k k.ls k.es [] [] none where
  ls := by simp
  es := by simp
  gl := by omega
  ge := by omega
  last := fun d z => by cases z
  wild := fun _ => rfl
  old := fun _ => rfl
  sd := List.Pairwise.nil
  le := fun d hd => by cases hd
/-! ### the mark goes on in time -/
def Lv (m h u : Nat) (k : Mk) (g0 g1 : Nat) : Prop :=
  (∃ (old : List Int) (r c : Nat), k.ls = old ++ List.replicate r k.mark ∧ (old ≠ [] → c = 0) ∧ c ≤ g1 ∧ u ≤ (c + r) * m + g0 ∧ ∀ i < r, u + old.length + i + 1 ≤ (c + i + 1) * m + h) ∨
  (∃ x z, k.es = x ++ k.mark :: z ∧ u + x.length + 1 ≤ m * m + 2 * h)
theorem Lv.first {m h : Nat} {k : Mk} {g0 g1 : Nat} : Lv m h 0 k g0 g1 := .inl ⟨k.ls, 0, 0, by simp, fun _ => rfl, Nat.zero_le _, Nat.zero_le _, fun i hi => by omega⟩
theorem rep_one (r : Nat) (x : Int) : List.replicate r x ++ [x] = List.replicate (r + 1) x := by
  rw [List.replicate_succ']
theorem Lv.step {M : Int} {m h u : Nat} {k : Mk} {g0 g1 : Nat} {l0 l1 : Bool} (v : Lv m h u k g0 g1) (hh : 1 ≤ h) (zl : k.ls.length ≤ h) (ze : k.es.length ≤ h) (a0 : g0 < m) (a1 : g1 < m) (na : ¬ k.es.head? = some k.mark) :
    Lv m h (u + 1) (stepM M k l0 l1) (if l0 = true then g0 + 1 else 0) (if k.ls = [] then g1 else if l1 = true then g1 + 1 else 0) := by
  have mk : (stepM M k l0 l1).mark = k.mark := if_neg na
  have ls' : (stepM M k l0 l1).ls = k.ls.drop 1 ++ (if l0 = true then [] else [k.mark]) := rfl
  have es' : (stepM M k l0 l1).es = k.es.drop 1 ++ (if l1 = true ∨ k.ls = [] then [] else [lastM k]) := rfl
  rcases v with ⟨old, r, c, hl, h1, h2, h3, h4⟩ | ⟨x, z, he, hu⟩
  · -- one more letter
    have key : ∀ (old' : List Int) (r1 c' G : Nat), k.ls.drop 1 = old' ++ List.replicate r1 k.mark → (old' ≠ [] → c' = 0) → c' ≤ G → c' + r1 = c + r → (∀ i < r1, (u + 1) + old'.length + i + 1 ≤ (c' + i + 1) * m + h) → old'.length + r1 + 1 ≤ h →
        (∃ (old : List Int) (r c : Nat), (stepM M k l0 l1).ls = old ++ List.replicate r (stepM M k l0 l1).mark ∧ (old ≠ [] → c = 0) ∧ c ≤ G ∧ u + 1 ≤ (c + r) * m + (if l0 = true then g0 + 1 else 0) ∧ ∀ i < r, (u + 1) + old.length + i + 1 ≤ (c + i + 1) * m + h) := fun old' r1 c' G e1 e2 e3 e4 e5 e6 => by
      rw [mk, ls', e1]
      have grow : u + 1 ≤ (c' + r1 + 1) * m := by
        rw [e4, Nat.add_mul, Nat.one_mul]
        omega
      cases l0 with
      | true => exact ⟨old', r1, c', by simp, e2, e3, by rw [e4]; simp; omega, e5⟩
      | false =>
        refine ⟨old', r1 + 1, c', by rw [List.append_assoc]; simp only [Bool.false_eq_true, if_false]; rw [rep_one], e2, e3, by rw [← Nat.add_assoc]; simpa using grow, fun i hi => ?_⟩
        by_cases ir : i < r1
        · exact e5 i ir
        · have : i = r1 := by omega
          subst this
          omega
    cases old with
    | cons x old' =>
      have c0 := h1 (by simp)
      subst c0
      refine .inl (key old' r 0 _ ?_ (fun _ => rfl) (Nat.zero_le _) rfl (fun i hi => ?_) ?_)
      · rw [hl]; rfl
      · have := h4 i hi
        rw [List.length_cons] at this
        omega
      · rw [hl] at zl
        simp at zl
        omega
    | nil =>
      cases r with
      | zero =>
        have hn : k.ls = [] := by rw [hl]; rfl
        rw [if_pos hn]
        refine .inl (key [] 0 c _ (by rw [hn]; rfl) (fun z => absurd rfl z) h2 rfl (fun i hi => by omega) (by simpa using hh))
      | succ r1 =>
        have hc : k.ls = k.mark :: List.replicate r1 k.mark := by rw [hl]; rfl
        have nn : ¬ k.ls = [] := by rw [hc]; simp
        rw [if_neg nn]
        have lm : lastM k = k.mark := by unfold lastM; rw [hc]; rfl
        cases l1 with
        | true =>
          refine .inl (key [] r1 (c + 1) _ (by rw [hc]; rfl) (fun z => absurd rfl z) (by simpa using h2) (by omega) (fun i hi => ?_) ?_)
          · have := h4 (i + 1) (by omega)
            simp only [List.length_nil] at this ⊢
            rw [show c + 1 + i + 1 = c + (i + 1) + 1 by omega]
            omega
          · rw [hc] at zl
            simp at zl
            simpa using zl
        | false =>
          refine .inr ⟨k.es.drop 1, [], ?_, ?_⟩
          · rw [es', mk, if_neg (by simp [nn]), lm]
          · have i2 := h4 0 (by omega)
            simp only [List.length_nil] at i2
            have mm : (c + 0 + 1) * m ≤ m * m := Nat.mul_le_mul_right m (by omega)
            rw [List.length_drop]
            omega
  · cases x with
    | nil => rw [he] at na; exact absurd rfl na
    | cons y x' =>
      refine .inr ⟨x', z ++ (if l1 = true ∨ k.ls = [] then [] else [lastM k]), ?_, ?_⟩
      · rw [es', mk, he]
        simp
      · rw [List.length_cons] at hu
        omega
theorem Lv.end_ {m h : Nat} {k : Mk} {g0 g1 : Nat} (v : Lv m h (m * m + 2 * h) k g0 g1) (hh : 1 ≤ h) (a0 : g0 < m) (a1 : g1 < m) : False := by
  rcases v with ⟨old, r, c, hl, h1, h2, h3, h4⟩ | ⟨x, z, he, hu⟩
  · cases r with
    | zero =>
      have : (c + 0) * m ≤ (m - 1) * m := Nat.mul_le_mul_right m (by omega)
      have e : (m - 1) * m + m = m * m := by rw [← Nat.succ_mul, show (m - 1).succ = m by omega]
      omega
    | succ r =>
      have i2 := h4 0 (by omega)
      have mm : (c + 0 + 1) * m ≤ m * m := Nat.mul_le_mul_right m (by omega)
      omega
  · omega
end Any
namespace Any
open L2 PySem PySem.Spec PyProof.Rows
/-! ### plain stores -/
def RowP (r : Row) (fore : Int) (own : Int × Option Int) (a : Row) (b : Nat) : Prop := r = a ++ List.replicate b own ∧ ∀ e ∈ a, e.1 = fore
theorem filt_all {a : Row} {fore : Int} (h : ∀ e ∈ a, e.1 = fore) : laterR a fore = [] := by
  unfold laterR
  exact List.filter_eq_nil_iff.mpr fun e he => by simp [h e he]
theorem filt_own {own : Int × Option Int} {fore : Int} (h : own.1 ≠ fore) (b : Nat) : laterR (List.replicate b own) fore = List.replicate b own := by
  unfold laterR
  exact List.filter_eq_self.mpr fun e he => by rw [(List.mem_replicate.mp he).2]; simpa using h
theorem later_app (a b : Row) (fore : Int) : laterR (a ++ b) fore = laterR a fore ++ laterR b fore := List.filter_append ..
theorem rowPB_of {r : Row} {fore : Int} {own : Int × Option Int} {a : Row} {b : Nat} (h : own.1 ≠ fore) (p : RowP r fore own a b) : rowPB r fore own = true := by
  obtain ⟨rfl, ha⟩ := p
  have e : laterR (a ++ List.replicate b own) fore = List.replicate b own := by rw [later_app, filt_all ha, filt_own h, List.nil_append]
  unfold rowPB
  rw [e, List.length_replicate, decide_eq_true rfl, List.length_append, List.length_replicate, Nat.add_sub_cancel, List.drop_left, decide_eq_true rfl]
  rfl
theorem rowPB_to {r : Row} {fore : Int} {own : Int × Option Int} (h : own.1 ≠ fore) (p : rowPB r fore own = true) : ∃ a b, RowP r fore own a b := by
  unfold rowPB at p
  rw [Bool.and_eq_true] at p
  have p1 := of_decide_eq_true p.1
  have p2 := of_decide_eq_true p.2
  generalize hL : laterR r fore = l at *
  refine ⟨r.take (r.length - l.length), l.length, ?_, ?_⟩
  · rw [← p1]
    conv => lhs; rw [← List.take_append_drop (r.length - l.length) r]
    rw [← p2]
  · have f := later_app (r.take (r.length - l.length)) (r.drop (r.length - l.length)) fore
    rw [List.take_append_drop, hL, ← p2] at f
    have own2 : laterR l fore = l := by
      rw [p1]
      exact filt_own h _
    rw [own2] at f
    have z : laterR (r.take (r.length - l.length)) fore = [] := by
      have := congrArg List.length f
      rw [List.length_append] at this
      exact List.eq_nil_of_length_eq_zero (by omega)
    intro e he
    unfold laterR at z
    have := List.filter_eq_nil_iff.mp z e he
    simpa using this
structure PlainP (n : Num) (s : Sto) (la : Row) (lb : Nat) (ea : Row) (eb : Nat) : Prop where
  bears : s.bears = 1 → s.slot ≠ none
  lets : RowP s.letters (foreB n s) (letterB s) la lb
  echs : RowP s.echoes (foreB n s) (s.mark, some s.took) ea eb
  two : (s.last = s.mark ∧ la = []) ∨ (s.last = foreB n s ∧ eb = 0)
def Plain (n : Num) (s : Sto) : Prop := ∃ la lb ea eb, PlainP n s la lb ea eb
theorem fore_lab (n : Num) (s : Sto) : foreB n s = lab (2 * n.hold + 1) s.mark 1 := rfl
theorem fore_ne {n : Num} {s : Sto} (hN : NumOk n) (h : StoOk n s) : s.mark ≠ foreB n s := fun z => by
  have h0 := hN.h0
  have := lab_inj (M := 2 * n.hold + 1) (mark := s.mark) (d := 1) h.m0 (by have := h.m1; omega) (by omega) z.symm
  cases this
theorem plain_of {n : Num} {s : Sto} (hN : NumOk n) (h : StoOk n s) (p : Plain n s) : plainB n s = true := by
  obtain ⟨la, lb, ea, eb, p⟩ := p
  have ne := fore_ne hN h
  have r1 := rowPB_of (own := letterB s) (show (letterB s).1 ≠ foreB n s from ne) p.lets
  have r2 := rowPB_of (own := (s.mark, some s.took)) ne p.echs
  unfold plainB
  rw [r1, r2]
  have b1 : (decide (s.bears = 1) && decide (s.slot = none)) = false := by
    by_cases c : s.bears = 1
    · rw [decide_eq_false (p.bears c), Bool.and_false]
    · rw [decide_eq_false c, Bool.false_and]
  rw [b1]
  rcases p.two with ⟨t1, t2⟩ | ⟨t1, t2⟩
  · have l1 : (s.letters.any fun e => decide (e.1 = foreB n s)) = false := by
      rw [p.lets.1, t2, List.nil_append]
      refine List.any_eq_false.mpr fun e he => ?_
      rw [(List.mem_replicate.mp he).2]
      simpa using (show (letterB s).1 ≠ foreB n s from ne)
    rw [l1, show decide (s.last ≠ s.mark) = false from decide_eq_false (fun z => z t1)]
    simp
  · have l1 : (s.echoes.any fun e => decide (e.1 = s.mark)) = false := by
      rw [p.echs.1, t2]
      refine List.any_eq_false.mpr fun e he => ?_
      have he : e ∈ ea := by simpa using he
      rw [p.echs.2 e he]
      simpa using ne.symm
    rw [l1, show decide (s.last = s.mark) = false from decide_eq_false (fun z => ne (by rw [← z, t1])), show decide (s.last ≠ foreB n s) = false from decide_eq_false (fun z => z t1)]
    simp
theorem plain_to {n : Num} {s : Sto} (hN : NumOk n) (h : StoOk n s) (p : plainB n s = true) : Plain n s := by
  have ne := fore_ne hN h
  unfold plainB at p
  simp only [Bool.and_eq_true, Bool.not_eq_true', Bool.and_eq_false_iff, decide_eq_false_iff_not] at p
  obtain ⟨p1, p2, p3, p4, p5, p6⟩ := p
  obtain ⟨la, lb, hl⟩ := rowPB_to (show (letterB s).1 ≠ foreB n s from ne) p3
  obtain ⟨ea, eb, he⟩ := rowPB_to (own := (s.mark, some s.took)) ne p4
  refine ⟨la, lb, ea, eb, fun b => ?_, hl, he, ?_⟩
  · rcases p1 with z | z
    · exact absurd b z
    · exact z
  · by_cases c : s.last = s.mark
    · refine .inl ⟨c, ?_⟩
      have z := p5.resolve_left (fun z => z c)
      cases la with
      | nil => rfl
      | cons x la =>
        exfalso
        have := List.any_eq_false.mp z x (by rw [hl.1]; simp)
        exact this (by simpa using hl.2 x (by simp))
    · refine .inr ⟨?_, ?_⟩
      · rcases p2 with z | z
        · exact absurd c z
        · exact Decidable.not_not.mp z
      · have z := p6.resolve_left (fun z => z c)
        cases eb with
        | zero => rfl
        | succ eb =>
          exfalso
          have := List.any_eq_false.mp z (s.mark, some s.took) (by rw [he.1]; simp)
          exact this (by simp)
/-! ### a beat, by the marks -/
def Sto.mk_ (s : Sto) : Mk := ⟨s.mark, s.letters.map (·.1), s.last, s.echoes.map (·.1)⟩
theorem taker_one (l t : Int) (o : Option Int) (r : Row) : (takerB l t o r).1 = (r.map (·.1)).head?.getD l := by
  cases r with
  | nil => rfl
  | cons e r =>
    show (if e.1 = l then (l, t, o) else if e.2 ≠ none ∧ o = none then (e.1, 1, e.2) else (e.1, 0, o)).1 = e.1
    split
    · rename_i c; exact c.symm
    · split <;> rfl
theorem sender_one (m b : Int) (o : Option Int) (M : Int) (r : Row) : (senderB m b o M r).1 = if (r.map (·.1)).head? = some m then (m + 1) % M else m := by
  cases r with
  | nil => rfl
  | cons e r =>
    show (if e.1 = m then (if b = 1 ∧ e.2 = some 1 then ((m + 1) % M, 0, none) else ((m + 1) % M, (if o = none then 0 else 1), o)) else (m, b, o)).1 = if some e.1 = some m then (m + 1) % M else m
    by_cases c : e.1 = m
    · rw [if_pos c, show (if some e.1 = some m then (m + 1) % M else m) = (m + 1) % M from if_pos (by rw [c])]
      split <;> rfl
    · rw [if_neg c, if_neg (fun z => c (Option.some.inj z))]
theorem beat_mk (n : Num) (s : Sto) (d : Deed) : (beatB n s d).mk_ = stepM (2 * n.hold + 1) s.mk_ d.lost.1 d.lost.2 := by
  have e1 : (beatB n s d).mk_.ls = (stepM (2 * n.hold + 1) s.mk_ d.lost.1 d.lost.2).ls := by
    show (s.letters.drop 1 ++ (if d.lost.1 = true then [] else [letterB s])).map (·.1) = (s.letters.map (·.1)).drop 1 ++ (if d.lost.1 = true then [] else [s.mark])
    rw [List.map_append, List.map_drop]
    congr 1
    split <;> rfl
  have e2 : (beatB n s d).mk_.last = (stepM (2 * n.hold + 1) s.mk_ d.lost.1 d.lost.2).last := taker_one ..
  have e3 : (beatB n s d).mk_.es = (stepM (2 * n.hold + 1) s.mk_ d.lost.1 d.lost.2).es := by
    show (s.echoes.drop 1 ++ (if d.lost.2 = true then [] else echoB s)).map (·.1) = (s.echoes.map (·.1)).drop 1 ++ (if d.lost.2 = true ∨ s.letters.map (·.1) = [] then [] else [lastM s.mk_])
    rw [List.map_append, List.map_drop]
    congr 1
    by_cases c : d.lost.2 = true
    · rw [if_pos c, if_pos (.inl c)]
      rfl
    · rw [if_neg c]
      unfold echoB
      by_cases c2 : s.letters = []
      · rw [if_pos c2, if_pos (.inr (by rw [c2]; rfl))]
        rfl
      · rw [if_neg c2, if_neg (by simp [c, c2])]
        show [(takerB s.last s.took s.box s.letters).1] = _
        rw [taker_one]
        rfl
  have e0 : (beatB n s d).mk_.mark = (stepM (2 * n.hold + 1) s.mk_ d.lost.1 d.lost.2).mark := sender_one ..
  revert e0 e1 e2 e3
  generalize (beatB n s d).mk_ = x
  generalize stepM (2 * n.hold + 1) s.mk_ d.lost.1 d.lost.2 = y
  intro e0 e1 e2 e3
  cases x
  cases y
  cases e0
  cases e1
  cases e2
  cases e3
  rfl
end Any
namespace Any
open L2 PySem PySem.Spec PyProof.Rows
/-- what the sender does by the first echo -/
theorem sender_cases (m b : Int) (o : Option Int) (M : Int) (r : Row) : (senderB m b o M r = (m, b, o) ∧ (r.map (·.1)).head? ≠ some m) ∨
    (∃ e r', r = e :: r' ∧ e.1 = m ∧ senderB m b o M r = if b = 1 ∧ e.2 = some 1 then ((m + 1) % M, 0, none) else ((m + 1) % M, (if o = none then 0 else 1), o)) := by
  cases r with
  | nil => exact .inl ⟨rfl, fun z => by cases z⟩
  | cons e r =>
    by_cases c : e.1 = m
    · exact .inr ⟨e, r, rfl, c, if_pos c⟩
    · exact .inl ⟨if_neg c, fun z => c (Option.some.inj z)⟩
theorem fore_next {n : Num} {s : Sto} (hN : NumOk n) (h : StoOk n s) : ((s.mark + 1) % (2 * n.hold + 1) - 1) % (2 * n.hold + 1) = s.mark := by
  have z := lab_next (M := 2 * n.hold + 1) (mark := s.mark) 0
  rw [lab_zero h.m0 (by have := h.m1; omega)] at z
  exact z
/-- the mark goes on while all is of it: plain then -/
theorem adv_plain {n : Num} {s : Sto} {d : Deed} (hN : NumOk n) (h : StoOk n s) (he : ∀ e ∈ s.echoes, e.1 = s.mark) (hl : s.last = s.mark) (hs : ∀ e ∈ s.letters, e.1 = s.mark) (adv : (s.echoes.map (·.1)).head? = some s.mark) :
    PlainP n (beatB n s d) (beatB n s d).letters 0 (beatB n s d).echoes 0 := by
  obtain ⟨z, z2⟩ | ⟨e, r', er, em, es⟩ := sender_cases s.mark s.bears s.slot (2 * n.hold + 1) s.echoes
  · exact absurd adv z2
  have mk : (beatB n s d).mark = (s.mark + 1) % (2 * n.hold + 1) := by
    show (senderB s.mark s.bears s.slot (2 * n.hold + 1) s.echoes).1 = _
    rw [es]
    split <;> rfl
  have fo : foreB n (beatB n s d) = s.mark := by
    show ((beatB n s d).mark - 1) % (2 * n.hold + 1) = s.mark
    rw [mk]
    exact fore_next hN h
  have t1 : (takerB s.last s.took s.box s.letters).1 = s.mark := by
    rw [taker_one]
    cases hx : s.letters with
    | nil => exact hl
    | cons e r => exact hs e (by rw [hx]; exact List.mem_cons_self ..)
  refine ⟨fun b => ?_, ⟨by simp, fun e he' => ?_⟩, ⟨by simp, fun e he' => ?_⟩, .inr ⟨by rw [fo]; exact t1, rfl⟩⟩
  · have b : (senderB s.mark s.bears s.slot (2 * n.hold + 1) s.echoes).2.1 = 1 := b
    show (if d.word ≠ none ∧ s.slot = none then d.word else (senderB s.mark s.bears s.slot (2 * n.hold + 1) s.echoes).2.2) ≠ none
    rw [es] at b ⊢
    split at b
    · cases b
    · rename_i c
      rw [if_neg c]
      have b : (if s.slot = none then (0 : Int) else 1) = 1 := b
      split at b
      · cases b
      · rename_i c2
        rw [if_neg (fun z => c2 z.2)]
        exact c2
  · rw [fo]
    rcases List.mem_append.mp he' with z | z
    · exact hs e (List.mem_of_mem_drop z)
    · split at z
      · cases z
      · rw [List.mem_singleton.mp z]
        rfl
  · rw [fo]
    rcases List.mem_append.mp he' with z | z
    · exact he e (List.mem_of_mem_drop z)
    · split at z
      · cases z
      · unfold echoB at z
        split at z
        · cases z
        · rw [List.mem_singleton.mp z]
          exact t1
/-- a plain store stays plain -/
theorem plain_step {n : Num} {s : Sto} {d : Deed} (hN : NumOk n) (h : StoOk n s) (p : Plain n s) : Plain n (beatB n s d) := by
  obtain ⟨la, lb, ea, eb, p⟩ := p
  have ne := fore_ne hN h
  by_cases adv : (s.echoes.map (·.1)).head? = some s.mark
  · -- then all is of the mark
    have ea0 : ea = [] := by
      cases ea with
      | nil => rfl
      | cons x ea =>
        exfalso
        rw [p.echs.1] at adv
        have := p.echs.2 x (by simp)
        exact ne (by rw [← this]; exact (Option.some.inj adv).symm)
    have eb1 : eb ≠ 0 := fun z => by
      rw [p.echs.1, ea0, z] at adv
      cases adv
    obtain ⟨l1, l2⟩ := p.two.resolve_right (fun z => eb1 z.2)
    refine ⟨_, _, _, _, adv_plain hN h (fun e he => ?_) l1 (fun e he => ?_) adv⟩
    · rw [p.echs.1, ea0, List.nil_append] at he
      rw [(List.mem_replicate.mp he).2]
    · rw [p.lets.1, l2, List.nil_append] at he
      rw [(List.mem_replicate.mp he).2]
      rfl
  · have sb : senderB s.mark s.bears s.slot (2 * n.hold + 1) s.echoes = (s.mark, s.bears, s.slot) := by
      obtain ⟨z, _⟩ | ⟨e, r', er, em, _⟩ := sender_cases s.mark s.bears s.slot (2 * n.hold + 1) s.echoes
      · exact z
      · exact absurd (by rw [er]; show some e.1 = _; rw [em]) adv
    have mk : (beatB n s d).mark = s.mark := by show (senderB ..).1 = _; rw [sb]
    have br : (beatB n s d).bears = s.bears := by show (senderB ..).2.1 = _; rw [sb]
    have sl : (beatB n s d).slot = if d.word ≠ none ∧ s.slot = none then d.word else s.slot := by show (if _ then _ else (senderB ..).2.2) = _; rw [sb]
    have fo : foreB n (beatB n s d) = foreB n s := by unfold foreB; rw [mk]
    have lt : letterB (beatB n s d) = letterB s := by
      unfold letterB
      rw [mk, br, sl]
      by_cases c : s.bears = 1
      · rw [if_pos c, if_pos c, if_neg (fun z => p.bears c z.2)]
      · rw [if_neg c, if_neg c]
    have bs : (beatB n s d).bears = 1 → (beatB n s d).slot ≠ none := fun z => by
      rw [br] at z
      rw [sl, if_neg (fun w => p.bears z w.2)]
      exact p.bears z
    have rep : ∀ (b : Nat) (x : Int × Option Int), List.replicate b x ++ [x] = List.replicate (b + 1) x := fun b x => by rw [List.replicate_succ']
    -- letters
    have lets : ∀ (a : Row) (b : Nat), s.letters.drop 1 = a ++ List.replicate b (letterB s) → (∀ e ∈ a, e.1 = foreB n s) → ∃ b', RowP (beatB n s d).letters (foreB n (beatB n s d)) (letterB (beatB n s d)) a b' := fun a b e1 e2 => by
      rw [fo, lt]
      show ∃ b', (s.letters.drop 1 ++ (if d.lost.1 = true then [] else [letterB s])) = a ++ List.replicate b' (letterB s) ∧ _
      rw [e1]
      split
      · exact ⟨b, by simp, e2⟩
      · exact ⟨b + 1, by rw [List.append_assoc, rep], e2⟩
    have tk1 := taker_one s.last s.took s.box s.letters
    cases hx : s.letters with
    | nil =>
      have tk : takerB s.last s.took s.box s.letters = (s.last, s.took, s.box) := by rw [hx]; rfl
      have la0 : la = [] := by
        have := p.lets.1
        rw [hx] at this
        exact (List.append_eq_nil_iff.mp this.symm).1
      obtain ⟨b', hb'⟩ := lets [] 0 (by rw [hx]; rfl) (fun e he => by cases he)
      have ls : (beatB n s d).last = s.last := by show (takerB ..).1 = _; rw [tk]
      have tt : (beatB n s d).took = s.took := by show (takerB ..).2.1 = _; rw [tk]
      have ec : (beatB n s d).echoes = s.echoes.drop 1 := by
        show s.echoes.drop 1 ++ (if d.lost.2 = true then [] else echoB s) = _
        unfold echoB
        rw [if_pos hx]
        simp
      obtain ⟨ea', eb', he', h2'⟩ : ∃ ea' eb', RowP (s.echoes.drop 1) (foreB n s) (s.mark, some s.took) ea' eb' ∧ (eb = 0 → eb' = 0) := by
        cases ea with
        | cons x ea => exact ⟨ea, eb, ⟨by rw [p.echs.1]; rfl, fun e he => p.echs.2 e (by simp [he])⟩, id⟩
        | nil => exact ⟨[], eb - 1, ⟨by rw [p.echs.1, List.nil_append, List.drop_replicate]; rfl, fun e he => by cases he⟩, fun z => by omega⟩
      refine ⟨[], b', ea', eb', bs, hb', by rw [ec, fo, mk, tt]; exact he', ?_⟩
      rw [ls, mk, fo]
      rcases p.two with ⟨t1, _⟩ | ⟨t1, t2⟩
      · exact .inl ⟨t1, rfl⟩
      · exact .inr ⟨t1, h2' t2⟩
    | cons e0 r0 =>
      have nn : s.letters ≠ [] := by rw [hx]; simp
      have l1 : (beatB n s d).last = e0.1 := by show (takerB ..).1 = _; rw [tk1, hx]; rfl
      have ech : (beatB n s d).echoes = s.echoes.drop 1 ++ (if d.lost.2 = true then [] else [(e0.1, some (beatB n s d).took)]) := by
        show s.echoes.drop 1 ++ (if d.lost.2 = true then [] else echoB s) = _
        unfold echoB
        rw [if_neg nn]
        have z : (takerB s.last s.took s.box s.letters).1 = e0.1 := l1
        rw [z]
        rfl
      have keep : e0.1 = s.last → (beatB n s d).took = s.took := fun z => by
        show (takerB s.last s.took s.box s.letters).2.1 = _
        rw [hx]
        show (if e0.1 = s.last then (s.last, s.took, s.box) else _).2.1 = _
        rw [if_pos z]
      rcases p.two with ⟨t1, t2⟩ | ⟨t1, t2⟩
      · -- the taker has the mark
        have lr : s.letters = List.replicate lb (letterB s) := by rw [p.lets.1, t2, List.nil_append]
        have e0m : e0 = letterB s := by
          have : e0 ∈ List.replicate lb (letterB s) := by rw [← lr, hx]; simp
          exact (List.mem_replicate.mp this).2
        have tt := keep (by rw [e0m, t1]; rfl)
        obtain ⟨b', hb'⟩ := lets [] (lb - 1) (by rw [lr, List.drop_replicate]; rfl) (fun e he => by cases he)
        obtain ⟨ea', eb', he'⟩ : ∃ ea' eb', RowP (s.echoes.drop 1) (foreB n s) (s.mark, some s.took) ea' eb' := by
          cases ea with
          | cons x ea => exact ⟨ea, eb, by rw [p.echs.1]; rfl, fun e he => p.echs.2 e (by simp [he])⟩
          | nil => exact ⟨[], eb - 1, by rw [p.echs.1, List.nil_append, List.drop_replicate]; rfl, fun e he => by cases he⟩
        obtain ⟨eb2, he2⟩ : ∃ eb2, RowP (beatB n s d).echoes (foreB n (beatB n s d)) ((beatB n s d).mark, some (beatB n s d).took) ea' eb2 := by
          rw [fo, mk, tt, ech, tt, he'.1, e0m]
          split
          · exact ⟨eb', by simp, he'.2⟩
          · exact ⟨eb' + 1, by rw [List.append_assoc]; exact congrArg (ea' ++ ·) (rep eb' (s.mark, some s.took)), he'.2⟩
        exact ⟨[], b', ea', eb2, bs, hb', he2, .inl ⟨by rw [l1, e0m, mk]; rfl, rfl⟩⟩
      · -- the taker has the one ahead
        have er : s.echoes = ea := by rw [p.echs.1, t2]; simp
        have ed : ∀ e ∈ s.echoes.drop 1, e.1 = foreB n s := fun e he => p.echs.2 e (by rw [← er]; exact List.mem_of_mem_drop he)
        cases la with
        | cons x la =>
          have hxx : s.letters = x :: (la ++ List.replicate lb (letterB s)) := p.lets.1
          have e0x : e0 = x := by rw [hxx] at hx; exact (List.cons.inj hx).1.symm
          have e0f : e0.1 = foreB n s := by rw [e0x]; exact p.lets.2 x (by simp)
          have tt := keep (by rw [e0f, t1])
          obtain ⟨b', hb'⟩ := lets la lb (by rw [hxx]; rfl) (fun e he => p.lets.2 e (by simp [he]))
          refine ⟨la, b', (beatB n s d).echoes, 0, bs, hb', ⟨by simp, fun e he => ?_⟩, .inr ⟨by rw [l1, fo, e0f], rfl⟩⟩
          rw [fo]
          rw [ech] at he
          rcases List.mem_append.mp he with z | z
          · exact ed e z
          · split at z
            · cases z
            · rw [List.mem_singleton.mp z]
              exact e0f
        | nil =>
          have lr : s.letters = List.replicate lb (letterB s) := by rw [p.lets.1, List.nil_append]
          have e0m : e0 = letterB s := by
            have : e0 ∈ List.replicate lb (letterB s) := by rw [← lr, hx]; simp
            exact (List.mem_replicate.mp this).2
          obtain ⟨b', hb'⟩ := lets [] (lb - 1) (by rw [lr, List.drop_replicate]; rfl) (fun e he => by cases he)
          obtain ⟨eb2, he2⟩ : ∃ eb2, RowP (beatB n s d).echoes (foreB n (beatB n s d)) ((beatB n s d).mark, some (beatB n s d).took) (s.echoes.drop 1) eb2 := by
            rw [fo, mk, ech, e0m]
            split
            · exact ⟨0, by simp, ed⟩
            · exact ⟨1, rfl, ed⟩
          exact ⟨[], b', _, eb2, bs, hb', he2, .inl ⟨by rw [l1, e0m, mk]; rfl, rfl⟩⟩
/-! ### from any store on -/
def hN_ (n : Num) : Nat := n.hold.toNat
def mN_ (n : Num) : Nat := n.miss.toNat
/-- how far a store has come by so many beats -/
def Stg (n : Num) (j : Nat) (s : Sto) (g : Int × Int) : Prop :=
  Plain n s ∨ (j ≤ 2 * hN_ n ∧ ∃ lg eg dt de dl, Ch (2 * n.hold + 1) (hN_ n) j j s.mk_ lg eg dt de dl) ∨
    ∃ u, j = 2 * hN_ n + u ∧ (∃ lg eg dt de dl, Ch (2 * n.hold + 1) (hN_ n) (2 * hN_ n) (2 * hN_ n) s.mk_ lg eg dt de dl) ∧ Lv (mN_ n) (hN_ n) u s.mk_ g.1.toNat g.2.toNat
theorem Stg.first {n : Num} {s : Sto} {g : Int × Int} (hN : NumOk n) (h : StoOk n s) : Stg n 0 s g := by
  have z1 := h.let0
  have z2 := h.ech0
  have h0 := hN.h0
  refine .inr (.inl ⟨Nat.zero_le _, _, _, _, _, _, Ch.first ?_ ?_⟩)
  · show (s.letters.map (·.1)).length ≤ n.hold.toNat
    rw [List.length_map]
    omega
  · show (s.echoes.map (·.1)).length ≤ n.hold.toNat
    rw [List.length_map]
    omega
theorem Stg.step {n : Num} {j : Nat} {s : Sto} {g : Int × Int} {d : Deed} (hN : NumOk n) (h : StoOk n s) (a0 : 0 ≤ g.1) (a1 : 0 ≤ g.2) (b0 : g.1 < n.miss) (b1 : g.2 < n.miss) (p : Stg n j s g) : Stg n (j + 1) (beatB n s d) (goneB s g d.lost) := by
  have z1 := h.let0
  have z2 := h.ech0
  have h0 := hN.h0
  have m1 := h.m1
  have hh : 1 ≤ hN_ n := by unfold hN_; omega
  have zl : s.mk_.ls.length ≤ hN_ n := by
    show (s.letters.map (·.1)).length ≤ n.hold.toNat
    rw [List.length_map]
    omega
  have ze : s.mk_.es.length ≤ hN_ n := by
    show (s.echoes.map (·.1)).length ≤ n.hold.toNat
    rw [List.length_map]
    omega
  have hM : 2 * n.hold + 1 = 2 * (hN_ n : Int) + 1 := by unfold hN_; omega
  have mm0 : 0 ≤ s.mk_.mark := h.m0
  have mm1 : s.mk_.mark < 2 * n.hold + 1 := by show s.mark < _; omega
  -- the later stage
  have late : ∀ u, (∃ lg eg dt de dl, Ch (2 * n.hold + 1) (hN_ n) (2 * hN_ n) (2 * hN_ n) s.mk_ lg eg dt de dl) → Lv (mN_ n) (hN_ n) u s.mk_ g.1.toNat g.2.toNat → j = 2 * hN_ n + u → Stg n (j + 1) (beatB n s d) (goneB s g d.lost) := fun u ⟨lg, eg, dt, de, dl, c⟩ v hj => by
    by_cases adv : s.mk_.es.head? = some s.mk_.mark
    · obtain ⟨c1, c2, c3⟩ := c.all hM (Nat.le_refl _) (Nat.le_refl _) mm0 mm1 adv
      exact .inl ⟨_, _, _, _, adv_plain hN h (fun e he => c1 e.1 (List.mem_map_of_mem he)) c2 (fun e he => c3 e.1 (List.mem_map_of_mem he)) adv⟩
    · obtain ⟨lg', eg', dt', de', dl', c'⟩ := c.step hh mm0 mm1 zl ze d.lost.1 d.lost.2
      have by0 : byM s.mk_ = 0 := if_neg adv
      rw [by0, Nat.add_zero, ← beat_mk] at c'
      refine .inr (.inr ⟨u + 1, by omega, ⟨_, _, _, _, _, c'.late (Nat.le_succ _)⟩, ?_⟩)
      have v' := v.step (M := 2 * n.hold + 1) (l0 := d.lost.1) (l1 := d.lost.2) hh zl ze (by unfold mN_; omega) (by unfold mN_; omega) adv
      rw [← beat_mk] at v'
      have e0 : (goneB s g d.lost).1.toNat = if d.lost.1 = true then g.1.toNat + 1 else 0 := by
        show (if d.lost.1 = true then g.1 + 1 else 0).toNat = _
        split
        · omega
        · rfl
      have e1 : (goneB s g d.lost).2.toNat = if s.mk_.ls = [] then g.2.toNat else if d.lost.2 = true then g.2.toNat + 1 else 0 := by
        show (if s.letters = [] then g.2 else if d.lost.2 = true then g.2 + 1 else 0).toNat = if s.letters.map (·.1) = [] then _ else _
        by_cases c : s.letters = []
        · rw [if_pos c, if_pos (by rw [c]; rfl)]
        · have c2 : ¬ s.letters.map (·.1) = [] := fun w => c (List.map_eq_nil_iff.mp w)
          rw [if_neg c, if_neg c2]
          split
          · omega
          · rfl
      rw [e0, e1]
      exact v'
  rcases p with p | ⟨hj, lg, eg, dt, de, dl, c⟩ | ⟨u, hj, c, v⟩
  · exact .inl (plain_step hN h p)
  · by_cases e : j = 2 * hN_ n
    · subst e
      exact late 0 ⟨_, _, _, _, _, c⟩ Lv.first rfl
    · obtain ⟨lg', eg', dt', de', dl', c'⟩ := c.step hh mm0 mm1 zl ze d.lost.1 d.lost.2
      rw [← beat_mk] at c'
      exact .inr (.inl ⟨by omega, _, _, _, _, _, c'.more (Nat.add_le_add_left (by_le _) _)⟩)
  · exact late u c v hj
theorem Stg.end_ {n : Num} {s : Sto} {g : Int × Int} (hN : NumOk n) (a0 : 0 ≤ g.1) (a1 : 0 ≤ g.2) (b0 : g.1 < n.miss) (b1 : g.2 < n.miss) (p : Stg n (mN_ n * mN_ n + 4 * hN_ n) s g) : Plain n s := by
  have h0 := hN.h0
  have m0 := hN.m0
  have hh : 1 ≤ hN_ n := by unfold hN_; omega
  rcases p with p | ⟨hj, _⟩ | ⟨u, hj, _, v⟩
  · exact p
  · exfalso
    have : 1 ≤ mN_ n := by unfold mN_; omega
    have : 1 * 1 ≤ mN_ n * mN_ n := Nat.mul_le_mul this this
    omega
  · have e : u = mN_ n * mN_ n + 2 * hN_ n := by omega
    subst e
    exact (v.end_ hh (by unfold mN_; omega) (by unfold mN_; omega)).elim
end Any
namespace Any
open L2 PySem PySem.Spec PyProof.Rows
/-! ### words, once and in order -/
def putB (s : Sto) (d : Deed) : List Int := if d.word ≠ none ∧ s.slot = none then d.word.toList else []
def outB (s : Sto) (d : Deed) : List Int := if d.taking = true then s.box.toList else []
theorem out_box (s : Sto) (d : Deed) : outB s d ++ (if d.taking = true ∧ s.box ≠ none then (none : Option Int) else s.box).toList = s.box.toList := by
  unfold outB
  by_cases t : d.taking = true
  · rw [if_pos t]
    by_cases b : s.box = none
    · rw [if_neg (fun z => z.2 b), b]
      rfl
    · rw [if_pos ⟨t, b⟩]
      simp
  · rw [if_neg t, if_neg (fun z => t z.1)]
    rfl
theorem owed_step {n : Num} {s : Sto} {d : Deed} (hN : NumOk n) (h : StoOk n s) (p : Plain n s) : owedB s ++ putB s d = outB s d ++ owedB (beatB n s d) := by
  obtain ⟨la, lb, ea, eb, p⟩ := p
  have ne := fore_ne hN h
  have ob := out_box s d
  have box' : (beatB n s d).box = if d.taking = true ∧ s.box ≠ none then none else (takerB s.last s.took s.box s.letters).2.2 := rfl
  have last' : (beatB n s d).last = (takerB s.last s.took s.box s.letters).1 := rfl
  have took' : (beatB n s d).took = (takerB s.last s.took s.box s.letters).2.1 := rfl
  have mark' : (beatB n s d).mark = (senderB s.mark s.bears s.slot (2 * n.hold + 1) s.echoes).1 := rfl
  have bears' : (beatB n s d).bears = (senderB s.mark s.bears s.slot (2 * n.hold + 1) s.echoes).2.1 := rfl
  have slot' : (beatB n s d).slot = if d.word ≠ none ∧ s.slot = none then d.word else (senderB s.mark s.bears s.slot (2 * n.hold + 1) s.echoes).2.2 := rfl
  by_cases adv : (s.echoes.map (·.1)).head? = some s.mark
  · -- the round ends
    have ea0 : ea = [] := by
      cases ea with
      | nil => rfl
      | cons x ea =>
        exfalso
        rw [p.echs.1] at adv
        have := p.echs.2 x (by simp)
        exact ne (by rw [← this]; exact (Option.some.inj adv).symm)
    have eb1 : eb ≠ 0 := fun z => by
      rw [p.echs.1, ea0, z] at adv
      cases adv
    obtain ⟨l1, l2⟩ := p.two.resolve_right (fun z => eb1 z.2)
    obtain ⟨e, r, er⟩ : ∃ e r, s.echoes = e :: r := by
      cases z : s.echoes with
      | nil => rw [z] at adv; cases adv
      | cons e r => exact ⟨e, r, rfl⟩
    have ee : e = (s.mark, some s.took) := by
      have : e ∈ List.replicate eb (s.mark, some s.took) := by
        have z := p.echs.1
        rw [ea0, List.nil_append] at z
        rw [← z, er]; simp
      exact (List.mem_replicate.mp this).2
    have tk : takerB s.last s.took s.box s.letters = (s.last, s.took, s.box) := by
      cases z : s.letters with
      | nil => rfl
      | cons e0 r0 =>
        have : e0 ∈ List.replicate lb (letterB s) := by
          have w := p.lets.1
          rw [l2, List.nil_append] at w
          rw [← w, z]; simp
        have e0m := (List.mem_replicate.mp this).2
        show (if e0.1 = s.last then _ else _) = _
        rw [if_pos (by rw [e0m, l1]; rfl)]
    have sn : senderB s.mark s.bears s.slot (2 * n.hold + 1) s.echoes = if s.bears = 1 ∧ s.took = 1 then ((s.mark + 1) % (2 * n.hold + 1), 0, none) else ((s.mark + 1) % (2 * n.hold + 1), (if s.slot = none then 0 else 1), s.slot) := by
      rw [er, ee]
      show (if s.mark = s.mark then (if s.bears = 1 ∧ (some s.took : Option Int) = some 1 then _ else _) else _) = _
      rw [if_pos rfl]
      by_cases c : s.bears = 1 ∧ s.took = 1
      · rw [if_pos c, if_pos ⟨c.1, by rw [c.2]⟩]
      · rw [if_neg c, if_neg (fun z => c ⟨z.1, Option.some.inj z.2⟩)]
    have mk : (beatB n s d).mark = (s.mark + 1) % (2 * n.hold + 1) := by rw [mark', sn]; split <;> rfl
    have mne : (beatB n s d).last ≠ (beatB n s d).mark := by
      rw [last', tk, mk]
      show s.last ≠ _
      rw [l1]
      have m0 := h.m0
      have m1 := h.m1
      have h0 := hN.h0
      intro z
      by_cases c : s.mark = 2 * n.hold
      · rw [c, Int.emod_self] at z
        omega
      · rw [Int.emod_eq_of_lt (by omega) (by omega)] at z
        omega
    have e2 : owedB (beatB n s d) = (beatB n s d).box.toList ++ (beatB n s d).slot.toList := by
      unfold owedB
      rw [if_neg (fun z => mne z.2.2)]
    rw [e2, box', tk]
    unfold owedB
    show _ = outB s d ++ ((if d.taking = true ∧ s.box ≠ none then none else s.box).toList ++ _)
    rw [← List.append_assoc, ob, slot', sn, List.append_assoc]
    congr 1
    unfold putB
    by_cases w : d.word ≠ none ∧ s.slot = none
    · rw [if_pos w, if_pos w, w.2]
      have : ¬ (s.bears = 1 ∧ s.took = 1 ∧ s.last = s.mark) := fun z => p.bears z.1 w.2
      rw [if_neg this]
      rfl
    · rw [if_neg w, if_neg w, List.append_nil]
      by_cases c : s.bears = 1 ∧ s.took = 1
      · rw [if_pos c, if_pos ⟨c.1, c.2, l1⟩]
        rfl
      · rw [if_neg c, if_neg (fun z => c ⟨z.1, z.2.1⟩)]
  · have sb : senderB s.mark s.bears s.slot (2 * n.hold + 1) s.echoes = (s.mark, s.bears, s.slot) := by
      obtain ⟨z, _⟩ | ⟨e, r', er, em, _⟩ := sender_cases s.mark s.bears s.slot (2 * n.hold + 1) s.echoes
      · exact z
      · exact absurd (by rw [er]; show some e.1 = _; rw [em]) adv
    rw [sb] at mark' bears' slot'
    have mark' : (beatB n s d).mark = s.mark := mark'
    have bears' : (beatB n s d).bears = s.bears := bears'
    have slot' : (beatB n s d).slot = if d.word ≠ none ∧ s.slot = none then d.word else s.slot := slot'
    -- what the slot has, where the taker has no word of it
    have slots : s.slot.toList ++ putB s d = (beatB n s d).slot.toList := by
      rw [slot']
      unfold putB
      by_cases w : d.word ≠ none ∧ s.slot = none
      · rw [if_pos w, if_pos w, w.2]
        rfl
      · rw [if_neg w, if_neg w, List.append_nil]
    have noput : s.bears = 1 → putB s d = [] := fun z => if_neg (fun w => p.bears z w.2)
    have same : takerB s.last s.took s.box s.letters = (s.last, s.took, s.box) → owedB s ++ putB s d = outB s d ++ owedB (beatB n s d) := fun tk => by
      rw [tk] at box' last' took'
      have box' : (beatB n s d).box = if d.taking = true ∧ s.box ≠ none then none else s.box := box'
      have last' : (beatB n s d).last = s.last := last'
      have took' : (beatB n s d).took = s.took := took'
      unfold owedB
      rw [box', bears', took', last', mark', ← List.append_assoc, ob, List.append_assoc]
      congr 1
      by_cases c : s.bears = 1 ∧ s.took = 1 ∧ s.last = s.mark
      · rw [if_pos c, if_pos c, noput c.1]
        rfl
      · rw [if_neg c, if_neg c, slots]
    cases hx : s.letters with
    | nil => exact same (by rw [hx]; rfl)
    | cons e0 r0 =>
      by_cases c : e0.1 = s.last
      · exact same (by rw [hx]; show (if e0.1 = s.last then _ else _) = _; rw [if_pos c])
      · -- the taker gets the mark's letter
        have lf : s.last = foreB n s := by
          rcases p.two with ⟨t1, t2⟩ | ⟨t1, _⟩
          · exfalso
            have : e0 ∈ List.replicate lb (letterB s) := by
              have w := p.lets.1
              rw [t2, List.nil_append] at w
              rw [← w, hx]; simp
            exact c (by rw [(List.mem_replicate.mp this).2, t1]; rfl)
          · exact t1
        have e0m : e0 = letterB s := by
          cases la with
          | nil =>
            have : e0 ∈ List.replicate lb (letterB s) := by
              have w := p.lets.1
              rw [List.nil_append] at w
              rw [← w, hx]; simp
            exact (List.mem_replicate.mp this).2
          | cons x la =>
            exfalso
            have w := p.lets.1
            rw [hx] at w
            exact c (by rw [(List.cons.inj w).1, lf]; exact p.lets.2 x (by simp))
        have nc : ¬ (s.bears = 1 ∧ s.took = 1 ∧ s.last = s.mark) := fun z => ne (by rw [← z.2.2, lf])
        have tk : takerB s.last s.took s.box s.letters = if (letterB s).2 ≠ none ∧ s.box = none then (s.mark, 1, (letterB s).2) else (s.mark, 0, s.box) := by
          rw [hx]
          show (if e0.1 = s.last then _ else _) = _
          rw [if_neg c, e0m]
          rfl
        by_cases a : (letterB s).2 ≠ none ∧ s.box = none
        · rw [if_pos a] at tk
          rw [tk] at box' last' took'
          have b1 : s.bears = 1 := by
            by_cases b : s.bears = 1
            · exact b
            · exact absurd (show (if s.bears = 1 then s.slot else none) = none from if_neg b) a.1
          have ls : (letterB s).2 = s.slot := if_pos b1
          have box' : (beatB n s d).box = s.slot := by rw [box', if_neg (fun z => z.2 a.2)]; exact ls
          have last' : (beatB n s d).last = s.mark := last'
          have took' : (beatB n s d).took = 1 := took'
          have o0 : outB s d = [] := by unfold outB; rw [a.2]; split <;> rfl
          unfold owedB
          rw [if_neg nc, a.2, noput b1, box', bears', took', last', mark', if_pos ⟨b1, rfl, rfl⟩, o0]
          simp
        · rw [if_neg a] at tk
          rw [tk] at box' last' took'
          have box' : (beatB n s d).box = if d.taking = true ∧ s.box ≠ none then none else s.box := box'
          have took' : (beatB n s d).took = 0 := took'
          have e2 : owedB (beatB n s d) = (beatB n s d).box.toList ++ (beatB n s d).slot.toList := by
            unfold owedB
            rw [if_neg (fun z => by have y := z.2.1; rw [took'] at y; exact absurd y (by decide))]
          rw [e2, box']
          unfold owedB
          rw [if_neg nc, ← List.append_assoc, ob, List.append_assoc, slots]
end Any
namespace Any
open L2 PySem PySem.Spec PyProof.Rows
/-! ### all that is owed comes -/
theorem adv_facts {n : Num} {s : Sto} (hN : NumOk n) (h : StoOk n s) (p : Plain n s) (adv : (s.echoes.map (·.1)).head? = some s.mark) : s.last = s.mark ∧ takerB s.last s.took s.box s.letters = (s.last, s.took, s.box) ∧
    senderB s.mark s.bears s.slot (2 * n.hold + 1) s.echoes = if s.bears = 1 ∧ s.took = 1 then ((s.mark + 1) % (2 * n.hold + 1), 0, none) else ((s.mark + 1) % (2 * n.hold + 1), (if s.slot = none then 0 else 1), s.slot) := by
  obtain ⟨la, lb, ea, eb, p⟩ := p
  have ne := fore_ne hN h
  have ea0 : ea = [] := by
    cases ea with
    | nil => rfl
    | cons x ea =>
      exfalso
      rw [p.echs.1] at adv
      have := p.echs.2 x (by simp)
      exact ne (by rw [← this]; exact (Option.some.inj adv).symm)
  have eb1 : eb ≠ 0 := fun z => by
    rw [p.echs.1, ea0, z] at adv
    cases adv
  obtain ⟨l1, l2⟩ := p.two.resolve_right (fun z => eb1 z.2)
  obtain ⟨e, r, er⟩ : ∃ e r, s.echoes = e :: r := by
    cases z : s.echoes with
    | nil => rw [z] at adv; cases adv
    | cons e r => exact ⟨e, r, rfl⟩
  have ee : e = (s.mark, some s.took) := by
    have : e ∈ List.replicate eb (s.mark, some s.took) := by
      have z := p.echs.1
      rw [ea0, List.nil_append] at z
      rw [← z, er]; simp
    exact (List.mem_replicate.mp this).2
  have tk : takerB s.last s.took s.box s.letters = (s.last, s.took, s.box) := by
    cases z : s.letters with
    | nil => rfl
    | cons e0 r0 =>
      have : e0 ∈ List.replicate lb (letterB s) := by
        have w := p.lets.1
        rw [l2, List.nil_append] at w
        rw [← w, z]; simp
      have e0m := (List.mem_replicate.mp this).2
      show (if e0.1 = s.last then _ else _) = _
      rw [if_pos (by rw [e0m, l1]; rfl)]
  have sn : senderB s.mark s.bears s.slot (2 * n.hold + 1) s.echoes = if s.bears = 1 ∧ s.took = 1 then ((s.mark + 1) % (2 * n.hold + 1), 0, none) else ((s.mark + 1) % (2 * n.hold + 1), (if s.slot = none then 0 else 1), s.slot) := by
    rw [er, ee]
    show (if s.mark = s.mark then (if s.bears = 1 ∧ (some s.took : Option Int) = some 1 then _ else _) else _) = _
    rw [if_pos rfl]
    by_cases c : s.bears = 1 ∧ s.took = 1
    · rw [if_pos c, if_pos ⟨c.1, by rw [c.2]⟩]
    · rw [if_neg c, if_neg (fun z => c ⟨z.1, Option.some.inj z.2⟩)]
  exact ⟨l1, tk, sn⟩
theorem next_ne {n : Num} {s : Sto} (hN : NumOk n) (h : StoOk n s) : s.mark ≠ (s.mark + 1) % (2 * n.hold + 1) := by
  have m0 := h.m0
  have m1 := h.m1
  have h0 := hN.h0
  intro z
  by_cases c : s.mark = 2 * n.hold
  · rw [c, Int.emod_self] at z
    omega
  · rw [Int.emod_eq_of_lt (by omega) (by omega)] at z
    omega
theorem Lv.less {m h u v : Nat} {k : Mk} {g0 g1 : Nat} (l : Lv m h u k g0 g1) (z : v ≤ u) : Lv m h v k g0 g1 := by
  rcases l with ⟨old, r, c, hl, h1, h2, h3, h4⟩ | ⟨x, y, he, hu⟩
  · exact .inl ⟨old, r, c, hl, h1, h2, by omega, fun i hi => by have := h4 i hi; omega⟩
  · exact .inr ⟨x, y, he, by omega⟩
/-- a round's beats -/
def rN_ (n : Num) : Nat := mN_ n * mN_ n + 2 * hN_ n
/-- a round goes on: how far -/
theorem lv_beat {n : Num} {u : Nat} {s : Sto} {g : Int × Int} {d : Deed} (hN : NumOk n) (h : StoOk n s) (a0 : 0 ≤ g.1) (a1 : 0 ≤ g.2) (b0 : g.1 < n.miss) (b1 : g.2 < n.miss) (v : Lv (mN_ n) (hN_ n) u s.mk_ g.1.toNat g.2.toNat) (adv : ¬ s.mk_.es.head? = some s.mk_.mark) : Lv (mN_ n) (hN_ n) (u + 1) (beatB n s d).mk_ (goneB s g d.lost).1.toNat (goneB s g d.lost).2.toNat := by
  have z1 := h.let0
  have z2 := h.ech0
  have h0 := hN.h0
  have hh : 1 ≤ hN_ n := by unfold hN_; omega
  have zl : s.mk_.ls.length ≤ hN_ n := by
    show (s.letters.map (·.1)).length ≤ n.hold.toNat
    rw [List.length_map]
    omega
  have ze : s.mk_.es.length ≤ hN_ n := by
    show (s.echoes.map (·.1)).length ≤ n.hold.toNat
    rw [List.length_map]
    omega
  have v' := v.step (M := 2 * n.hold + 1) (l0 := d.lost.1) (l1 := d.lost.2) hh zl ze (by unfold mN_; omega) (by unfold mN_; omega) adv
  rw [← beat_mk] at v'
  have e0 : (goneB s g d.lost).1.toNat = if d.lost.1 = true then g.1.toNat + 1 else 0 := by
    show (if d.lost.1 = true then g.1 + 1 else 0).toNat = _
    split
    · omega
    · rfl
  have e1 : (goneB s g d.lost).2.toNat = if s.mk_.ls = [] then g.2.toNat else if d.lost.2 = true then g.2.toNat + 1 else 0 := by
    show (if s.letters = [] then g.2 else if d.lost.2 = true then g.2 + 1 else 0).toNat = if s.letters.map (·.1) = [] then _ else _
    by_cases c : s.letters = []
    · rw [if_pos c, if_pos (by rw [c]; rfl)]
    · have c2 : ¬ s.letters.map (·.1) = [] := fun w => c (List.map_eq_nil_iff.mp w)
      rw [if_neg c, if_neg c2]
      split
      · omega
      · rfl
  rw [e0, e1]
  exact v'
theorem lv_end {n : Num} {u : Nat} {s : Sto} {g : Int × Int} (hN : NumOk n) (a0 : 0 ≤ g.1) (a1 : 0 ≤ g.2) (b0 : g.1 < n.miss) (b1 : g.2 < n.miss) (v : Lv (mN_ n) (hN_ n) u s.mk_ g.1.toNat g.2.toNat) : u < rN_ n := by
  have h0 := hN.h0
  by_cases c : u < rN_ n
  · exact c
  · exact ((v.less (v := rN_ n) (by omega)).end_ (by unfold hN_; omega) (by unfold mN_; omega) (by unfold mN_; omega)).elim
/-- its word is on the way, and will be taken -/
def Bx (s : Sto) : Prop := s.bears = 1 ∧ ((s.last ≠ s.mark ∧ s.box = none) ∨ (s.last = s.mark ∧ s.took = 1))
def Come (n : Num) (j : Nat) (s : Sto) (g : Int × Int) : Prop := owedB s = [] ∨ Lv (mN_ n) (hN_ n) j s.mk_ g.1.toNat g.2.toNat ∨ (Bx s ∧ ∃ u, j ≤ rN_ n + u ∧ Lv (mN_ n) (hN_ n) u s.mk_ g.1.toNat g.2.toNat)
theorem Come.first {n : Num} {s : Sto} {g : Int × Int} : Come n 0 s g := .inr (.inl Lv.first)
theorem Come.end_ {n : Num} {j : Nat} {s : Sto} {g : Int × Int} (hN : NumOk n) (a0 : 0 ≤ g.1) (a1 : 0 ≤ g.2) (b0 : g.1 < n.miss) (b1 : g.2 < n.miss) (p : Come n j s g) (hj : 2 * rN_ n ≤ j) : owedB s = [] := by
  rcases p with p | v | ⟨_, u, hu, v⟩
  · exact p
  · have := lv_end hN a0 a1 b0 b1 v
    omega
  · have := lv_end hN a0 a1 b0 b1 v
    omega
theorem Come.step {n : Num} {j : Nat} {s : Sto} {g : Int × Int} {d : Deed} (hN : NumOk n) (h : StoOk n s) (pl : Plain n s) (a0 : 0 ≤ g.1) (a1 : 0 ≤ g.2) (b0 : g.1 < n.miss) (b1 : g.2 < n.miss) (hw : d.word = none) (ht : d.taking = true) (p : Come n j s g) : Come n (j + 1) (beatB n s d) (goneB s g d.lost) := by
  have os := owed_step (d := d) hN h pl
  have put0 : putB s d = [] := if_neg (fun z => z.1 hw)
  have slot' : (beatB n s d).slot = (senderB s.mark s.bears s.slot (2 * n.hold + 1) s.echoes).2.2 := if_neg (fun z => z.1 hw)
  have box' : (beatB n s d).box = if d.taking = true ∧ s.box ≠ none then none else (takerB s.last s.took s.box s.letters).2.2 := rfl
  have empty : takerB s.last s.took s.box s.letters = (s.last, s.took, s.box) → (beatB n s d).box = none := fun tk => by
    rw [box', tk]
    by_cases b : s.box = none
    · rw [if_neg (fun z => z.2 b)]
      exact b
    · rw [if_pos ⟨ht, b⟩]
  rcases p with p | v | ⟨bx, u, hu, v⟩
  · rw [p, put0] at os
    exact .inl (List.append_eq_nil_iff.mp os.symm).2
  · by_cases adv : s.mk_.es.head? = some s.mk_.mark
    · obtain ⟨l1, tk, sn⟩ := adv_facts hN h pl adv
      have lt := lv_end hN a0 a1 b0 b1 v
      have mk : (beatB n s d).mark = (s.mark + 1) % (2 * n.hold + 1) := by show (senderB ..).1 = _; rw [sn]; split <;> rfl
      have la : (beatB n s d).last = s.mark := by show (takerB ..).1 = _; rw [tk]; exact l1
      have bn := empty tk
      rw [sn] at slot'
      cases hs : (beatB n s d).slot with
      | none =>
        refine .inl ?_
        unfold owedB
        rw [bn, hs]
        split <;> rfl
      | some i =>
        have nb : ¬ (s.bears = 1 ∧ s.took = 1) := fun c => by
          rw [if_pos c, hs] at slot'
          cases slot'
        rw [if_neg nb] at slot'
        have be : (beatB n s d).bears = 1 := by
          show (senderB s.mark s.bears s.slot (2 * n.hold + 1) s.echoes).2.1 = 1
          rw [sn, if_neg nb]
          show (if s.slot = none then (0 : Int) else 1) = 1
          rw [if_neg (fun z => by rw [hs] at slot'; rw [show s.slot = some i from slot'.symm] at z; cases z)]
        exact .inr (.inr ⟨⟨be, .inl ⟨by rw [la, mk]; exact next_ne hN h, bn⟩⟩, 0, by omega, Lv.first⟩)
    · exact .inr (.inl (lv_beat hN h a0 a1 b0 b1 v adv))
  · by_cases adv : s.mk_.es.head? = some s.mk_.mark
    · obtain ⟨l1, tk, sn⟩ := adv_facts hN h pl adv
      have t1 : s.took = 1 := by
        rcases bx.2 with z | z
        · exact absurd l1 z.1
        · exact z.2
      rw [sn, if_pos ⟨bx.1, t1⟩] at slot'
      refine .inl ?_
      unfold owedB
      rw [empty tk, show (beatB n s d).slot = none from slot']
      split <;> rfl
    · refine .inr (.inr ⟨?_, u + 1, by omega, lv_beat hN h a0 a1 b0 b1 v adv⟩)
      have adv' : ¬ (s.echoes.map (·.1)).head? = some s.mark := adv
      have sb : senderB s.mark s.bears s.slot (2 * n.hold + 1) s.echoes = (s.mark, s.bears, s.slot) := by
        obtain ⟨z, _⟩ | ⟨e, r', er, em, _⟩ := sender_cases s.mark s.bears s.slot (2 * n.hold + 1) s.echoes
        · exact z
        · exact absurd (by rw [er]; show some e.1 = _; rw [em]) adv'
      have mk : (beatB n s d).mark = s.mark := by show (senderB ..).1 = _; rw [sb]
      have br : (beatB n s d).bears = s.bears := by show (senderB ..).2.1 = _; rw [sb]
      refine ⟨by rw [br]; exact bx.1, ?_⟩
      rw [mk]
      have last' : (beatB n s d).last = (takerB s.last s.took s.box s.letters).1 := rfl
      have took' : (beatB n s d).took = (takerB s.last s.took s.box s.letters).2.1 := rfl
      have same : takerB s.last s.took s.box s.letters = (s.last, s.took, s.box) → (beatB n s d).last ≠ s.mark ∧ (beatB n s d).box = none ∨ (beatB n s d).last = s.mark ∧ (beatB n s d).took = 1 := fun tk => by
        have bn := empty tk
        rw [tk] at last' took'
        rcases bx.2 with z | z
        · exact .inl ⟨by rw [last']; exact z.1, bn⟩
        · exact .inr ⟨by rw [last']; exact z.1, by rw [took']; exact z.2⟩
      obtain ⟨lp, lb, ea, eb, p⟩ := pl
      cases hx : s.letters with
      | nil => exact same (by rw [hx]; rfl)
      | cons e0 r0 =>
        by_cases c : e0.1 = s.last
        · exact same (by rw [hx]; show (if e0.1 = s.last then _ else _) = _; rw [if_pos c])
        · have lf : s.last = foreB n s ∧ e0 = letterB s := by
            have w := p.lets.1
            rw [hx] at w
            rcases p.two with ⟨t1, t2⟩ | ⟨t1, _⟩
            · exfalso
              rw [t2, List.nil_append] at w
              have : e0 ∈ List.replicate lb (letterB s) := by rw [← w]; simp
              exact c (by rw [(List.mem_replicate.mp this).2, t1]; rfl)
            · refine ⟨t1, ?_⟩
              cases lp with
              | nil =>
                rw [List.nil_append] at w
                have : e0 ∈ List.replicate lb (letterB s) := by rw [← w]; simp
                exact (List.mem_replicate.mp this).2
              | cons x lp =>
                exfalso
                exact c (by rw [(List.cons.inj w).1, t1]; exact p.lets.2 x (by simp))
          have bn : s.box = none := by
            rcases bx.2 with z | z
            · exact z.2
            · exact absurd (by rw [← z.1, lf.1]) (fore_ne hN h)
          have ls : (letterB s).2 = s.slot := if_pos bx.1
          have tk : takerB s.last s.took s.box s.letters = (s.mark, 1, s.slot) := by
            rw [hx]
            show (if e0.1 = s.last then _ else if e0.2 ≠ none ∧ s.box = none then (e0.1, 1, e0.2) else _) = _
            rw [if_neg c, lf.2, if_pos ⟨by rw [ls]; exact p.bears bx.1, bn⟩, ls]
            rfl
          rw [tk] at last' took'
          exact .inr ⟨last', took'⟩
end Any
namespace Any
open L2 PySem PySem.Spec PyProof.Rows
/-! ### words in time -/
/-- the mark's first letter is not there yet -/
def Lf (m h u : Nat) (ls : List Int) (mark : Int) (g0 : Nat) : Prop := ∃ (old : List Int) (r : Nat), ls = old ++ List.replicate r mark ∧ (r = 0 → u ≤ g0) ∧ (0 < r → u + old.length + 1 ≤ m + h)
theorem Lf.first {m h : Nat} {ls : List Int} {mark : Int} {g0 : Nat} : Lf m h 0 ls mark g0 := ⟨ls, 0, by simp, fun _ => Nat.zero_le _, fun z => absurd z (by decide)⟩
theorem Lf.end_ {m h u : Nat} {ls : List Int} {mark : Int} {g0 : Nat} (v : Lf m h u ls mark g0) (hh : 1 ≤ h) (a0 : g0 < m) : u + 1 ≤ m + h := by
  obtain ⟨old, r, e, h1, h2⟩ := v
  by_cases c : r = 0
  · have := h1 c
    omega
  · have := h2 (by omega)
    omega
theorem Lf.step {m h u : Nat} {ls : List Int} {mark : Int} {g0 : Nat} {l0 : Bool} (v : Lf m h u ls mark g0) (hh : 1 ≤ h) (zl : ls.length ≤ h) (a0 : g0 < m) (nh : ls.head? ≠ some mark) :
    Lf m h (u + 1) (ls.drop 1 ++ (if l0 = true then [] else [mark])) mark (if l0 = true then g0 + 1 else 0) := by
  obtain ⟨old, r, e, h1, h2⟩ := v
  cases old with
  | nil =>
    cases r with
    | succ r => exact absurd (by rw [e]; rfl) nh
    | zero =>
      rw [e]
      cases l0 with
      | true => exact ⟨[], 0, rfl, fun _ => by have := h1 rfl; simp; omega, fun z => absurd z (by decide)⟩
      | false => exact ⟨[], 1, rfl, (fun z => absurd z (by decide)), fun _ => by have := h1 rfl; simp; omega⟩
  | cons x old =>
    have ed : ls.drop 1 = old ++ List.replicate r mark := by rw [e]; rfl
    have el : ls.length = old.length + 1 + r := by rw [e]; simp; omega
    rw [ed]
    cases l0 with
    | true =>
      refine ⟨old, r, by simp, fun z => by have := h1 z; simp; omega, fun z => ?_⟩
      have := h2 z
      rw [List.length_cons] at this
      omega
    | false =>
      refine ⟨old, r + 1, by rw [List.append_assoc]; simp only [Bool.false_eq_true, if_false]; rw [rep_one], (fun z => by omega), fun _ => ?_⟩
      by_cases c : r = 0
      · have := h1 c
        omega
      · have := h2 (by omega)
        rw [List.length_cons] at this
        omega
/-- what the taker does by the first letter of a plain store -/
theorem tk_cases {n : Num} {s : Sto} (hN : NumOk n) (h : StoOk n s) (pl : Plain n s) :
    (takerB s.last s.took s.box s.letters = (s.last, s.took, s.box) ∧ (s.last ≠ s.mark → (s.letters.map (·.1)).head? ≠ some s.mark)) ∨
    (s.last ≠ s.mark ∧ takerB s.last s.took s.box s.letters = if (letterB s).2 ≠ none ∧ s.box = none then (s.mark, 1, (letterB s).2) else (s.mark, 0, s.box)) := by
  have ne := fore_ne hN h
  obtain ⟨la, lb, ea, eb, p⟩ := pl
  cases hx : s.letters with
  | nil => exact .inl ⟨rfl, fun _ z => by cases z⟩
  | cons e0 r0 =>
    by_cases c : e0.1 = s.last
    · refine .inl ⟨by show (if e0.1 = s.last then _ else _) = _; rw [if_pos c], fun nl z => nl ?_⟩
      rw [← c]
      exact Option.some.inj z
    · have w := p.lets.1
      rw [hx] at w
      have lf : s.last = foreB n s := by
        rcases p.two with ⟨t1, t2⟩ | ⟨t1, _⟩
        · exfalso
          rw [t2, List.nil_append] at w
          have : e0 ∈ List.replicate lb (letterB s) := by rw [← w]; simp
          exact c (by rw [(List.mem_replicate.mp this).2, t1]; rfl)
        · exact t1
      have e0m : e0 = letterB s := by
        cases la with
        | nil =>
          rw [List.nil_append] at w
          have : e0 ∈ List.replicate lb (letterB s) := by rw [← w]; simp
          exact (List.mem_replicate.mp this).2
        | cons x la =>
          exfalso
          exact c (by rw [(List.cons.inj w).1, lf]; exact p.lets.2 x (by simp))
      refine .inr ⟨by rw [lf]; exact fun z => ne z.symm, ?_⟩
      show (if e0.1 = s.last then _ else if e0.2 ≠ none ∧ s.box = none then (e0.1, 1, e0.2) else (e0.1, 0, s.box)) = _
      rw [if_neg c, e0m]
      rfl
/-- how long a word may take -/
def soonB (n : Num) : Int := (rN_ n : Int) + n.hold + n.miss + 1
/-- the slot's word is owed -/
def SlotO (s : Sto) : Prop := s.slot ≠ none ∧ ¬ (s.bears = 1 ∧ s.took = 1 ∧ s.last = s.mark)
/-- how long ago the last word was put -/
def InT (n : Num) (T e : Int) (s : Sto) (g : Int × Int) : Prop := (s.slot = none ∧ T - e ≤ 2 * (rN_ n : Int) + 1) ∨ (s.slot ≠ none ∧
  ((∃ u : Nat, T - e ≤ 1 + u ∧ Lv (mN_ n) (hN_ n) u s.mk_ g.1.toNat g.2.toNat) ∨
   (Bx s ∧ ∃ v : Nat, T - e ≤ (rN_ n : Int) + 1 + v ∧ Lv (mN_ n) (hN_ n) v s.mk_ g.1.toNat g.2.toNat ∧ (s.last ≠ s.mark → Lf (mN_ n) (hN_ n) v s.mk_.ls s.mark g.1.toNat))))
/-- when the words under way were put -/
def Beg (n : Num) (T e : Int) (s : Sto) (bs : List Int) : Prop := ∃ (b0 : Int) (so : List Int), bs = (if s.box = none then [] else [b0]) ++ so ∧ T - b0 ≤ soonB n ∧ (SlotO s → so = [e]) ∧ (¬ SlotO s → so = [])
section
variable {n : Num} {T e : Int} {s : Sto} {g : Int × Int} {bs : List Int}
theorem InT.first (hN : NumOk n) : InT n 0 1 s g := by
  by_cases c : s.slot = none
  · exact .inl ⟨c, by omega⟩
  · exact .inr ⟨c, .inl ⟨0, by decide, Lv.first⟩⟩
theorem soon_pos (hN : NumOk n) : 1 ≤ soonB n := by
  have h0 := hN.h0
  have m0 := hN.m0
  unfold soonB
  omega
theorem Beg.first (hN : NumOk n) : Beg n 0 1 s (List.replicate (owedB s).length 1) := by
  have sp := soon_pos hN
  by_cases c : SlotO s
  · refine ⟨1, [1], ?_, by omega, fun _ => rfl, fun z => absurd c z⟩
    unfold owedB
    rw [if_neg c.2]
    cases hb : s.box <;> cases hs : s.slot
    · exact absurd hs c.1
    · rfl
    · exact absurd hs c.1
    · rfl
  · refine ⟨1, [], ?_, by omega, fun z => absurd z c, fun _ => rfl⟩
    have : (if s.bears = 1 ∧ s.took = 1 ∧ s.last = s.mark then [] else s.slot.toList) = [] := by
      split
      · rfl
      · rename_i c2
        cases hs : s.slot with
        | none => rfl
        | some i => exact absurd ⟨by rw [hs]; simp, c2⟩ c
    unfold owedB
    rw [this]
    cases hb : s.box <;> rfl
/-- in time -/
theorem InT.elder (hN : NumOk n) (a0 : 0 ≤ g.1) (a1 : 0 ≤ g.2) (b0 : g.1 < n.miss) (b1 : g.2 < n.miss) (p : InT n T e s g) : T - e ≤ soonB n + rN_ n := by
  have h0 := hN.h0
  have m0 := hN.m0
  unfold soonB
  rcases p with ⟨_, p⟩ | ⟨_, ⟨u, p, v⟩ | ⟨_, u, p, v, _⟩⟩
  · omega
  · have := lv_end hN a0 a1 b0 b1 v
    omega
  · have := lv_end hN a0 a1 b0 b1 v
    omega
theorem lf_le (hN : NumOk n) {v : Nat} (a0 : 0 ≤ g.1) (b0 : g.1 < n.miss) (l : Lf (mN_ n) (hN_ n) v s.mk_.ls s.mark g.1.toNat) : (v : Int) + 1 ≤ n.miss + n.hold := by
  have h0 := hN.h0
  have m0 := hN.m0
  have := l.end_ (by unfold hN_; omega) (by unfold mN_; omega)
  unfold mN_ hN_ at this
  omega
/-- the slot's word, while owed -/
theorem InT.owed (hN : NumOk n) (a0 : 0 ≤ g.1) (a1 : 0 ≤ g.2) (b0 : g.1 < n.miss) (b1 : g.2 < n.miss) (p : InT n T e s g) (c : SlotO s) : T + 1 - e ≤ soonB n := by
  have h0 := hN.h0
  have m0 := hN.m0
  unfold soonB
  rcases p with ⟨z, p⟩ | ⟨_, ⟨u, p, v⟩ | ⟨bx, u, p, v, l⟩⟩
  · exact absurd z c.1
  · have := lv_end hN a0 a1 b0 b1 v
    omega
  · have nl : s.last ≠ s.mark := by
      rcases bx.2 with z | z
      · exact z.1
      · exact absurd ⟨bx.1, z.2, z.1⟩ c.2
    have := lf_le hN a0 b0 (l nl)
    omega
theorem Beg.soon (hN : NumOk n) (a0 : 0 ≤ g.1) (a1 : 0 ≤ g.2) (b0 : g.1 < n.miss) (b1 : g.2 < n.miss) (p : InT n T e s g) (q : Beg n T e s bs) : (s.box ≠ none → bs ≠ []) ∧ ∀ x r, bs = x :: r → T - x ≤ soonB n := by
  obtain ⟨b, so, rfl, hb, h1, h2⟩ := q
  by_cases c : s.box = none
  · rw [if_pos c, List.nil_append]
    refine ⟨fun z => absurd c z, fun x r hx => ?_⟩
    by_cases d : SlotO s
    · rw [h1 d] at hx
      have := p.owed hN a0 a1 b0 b1 d
      cases hx
      omega
    · rw [h2 d] at hx
      cases hx
  · rw [if_neg c]
    exact ⟨(fun _ z => by cases z), fun x r hx => by cases hx; exact hb⟩
/-- the words' turns behind a beat -/
def begB (s : Sto) (T : Int) (bs : List Int) : List Int := (if s.box = none then bs else bs.drop 1) ++ (if s.slot = none then [T] else [])
theorem Beg.pop (q : Beg n T e s bs) : (SlotO s → begB s T bs = [e] ++ (if s.slot = none then [T] else [])) ∧ (¬ SlotO s → begB s T bs = (if s.slot = none then [T] else [])) := by
  obtain ⟨b, so, rfl, hb, h1, h2⟩ := q
  have e1 : (if s.box = none then ((if s.box = none then [] else [b]) ++ so) else ((if s.box = none then [] else [b]) ++ so).drop 1) = so := by
    by_cases c : s.box = none
    · rw [if_pos c, if_pos c]; rfl
    · rw [if_neg c, if_neg c]; rfl
  unfold begB
  rw [e1]
  exact ⟨fun c => by rw [h1 c], fun c => by rw [h2 c]; rfl⟩
theorem word_step {w : Int} {l : Bool × Bool} (hN : NumOk n) (h : StoOk n s) (pl : Plain n s) (a0 : 0 ≤ g.1) (a1 : 0 ≤ g.2) (b0 : g.1 < n.miss) (b1 : g.2 < n.miss) (p : InT n T e s g) (q : Beg n T e s bs) :
    InT n (T + 1) (if s.slot = none then T else e) (beatB n s ⟨some w, true, l⟩) (goneB s g l) ∧ Beg n (T + 1) (if s.slot = none then T else e) (beatB n s ⟨some w, true, l⟩) (begB s T bs) := by
  have sp := soon_pos hN
  have h0 := hN.h0
  have m0 := hN.m0
  obtain ⟨pop1, pop0⟩ := q.pop
  have adm : ∀ {u : Nat}, Lv (mN_ n) (hN_ n) u s.mk_ g.1.toNat g.2.toNat → (u : Int) + 1 ≤ rN_ n := fun v => by
    have := lv_end hN a0 a1 b0 b1 v
    omega
  generalize hd : (⟨some w, true, l⟩ : Deed) = d
  have dw : d.word = some w := by rw [← hd]
  have ht : d.taking = true := by rw [← hd]
  have dl : d.lost = l := by rw [← hd]
  have box' : (beatB n s d).box = if d.taking = true ∧ s.box ≠ none then none else (takerB s.last s.took s.box s.letters).2.2 := rfl
  have empty : takerB s.last s.took s.box s.letters = (s.last, s.took, s.box) → (beatB n s d).box = none := fun tk => by
    rw [box', tk]
    by_cases b : s.box = none
    · rw [if_neg (fun z => z.2 b)]
      exact b
    · rw [if_pos ⟨ht, b⟩]
  have slot' : (beatB n s d).slot = if d.word ≠ none ∧ s.slot = none then d.word else (senderB s.mark s.bears s.slot (2 * n.hold + 1) s.echoes).2.2 := rfl
  have last' : (beatB n s d).last = (takerB s.last s.took s.box s.letters).1 := rfl
  have took' : (beatB n s d).took = (takerB s.last s.took s.box s.letters).2.1 := rfl
  have wn : d.word ≠ none := by rw [dw]; simp
  have pbears : s.bears = 1 → s.slot ≠ none := by
    obtain ⟨_, _, _, _, pp⟩ := pl
    exact pp.bears
  by_cases hs : s.slot = none
  · -- a word is put
    have b0' : s.bears = 0 := h.b.resolve_right fun z => pbears z hs
    have sl : (beatB n s d).slot = some w := by rw [slot', if_pos ⟨wn, hs⟩, dw]
    have br : (beatB n s d).bears = 0 := by
      show (senderB s.mark s.bears s.slot (2 * n.hold + 1) s.echoes).2.1 = 0
      obtain ⟨z, _⟩ | ⟨e, r', er, em, z⟩ := sender_cases s.mark s.bears s.slot (2 * n.hold + 1) s.echoes
      · rw [z]; exact b0'
      · rw [z, if_neg (fun c => by rw [b0'] at c; exact absurd c.1 (by decide)), if_pos hs]
    have bx : (beatB n s d).box = none := by
      rcases tk_cases hN h pl with ⟨tk, _⟩ | ⟨_, tk⟩
      · exact empty tk
      · have l2 : (letterB s).2 = none := by
          show (if s.bears = 1 then s.slot else none) = none
          rw [hs]; split <;> rfl
        rw [if_neg (fun c => c.1 l2)] at tk
        rw [box', tk]
        by_cases b : s.box = none
        · rw [if_neg (fun z => z.2 b)]
          exact b
        · rw [if_pos ⟨ht, b⟩]
    have so' : SlotO (beatB n s d) := ⟨by rw [sl]; simp, fun c => by rw [br] at c; exact absurd c.1 (by decide)⟩
    rw [if_pos hs]
    refine ⟨.inr ⟨by rw [sl]; simp, .inl ⟨0, by omega, Lv.first⟩⟩, T, [T], ?_, by omega, fun _ => rfl, fun z => absurd so' z⟩
    rw [bx, if_pos rfl, List.nil_append, pop0 (fun c => c.1 hs), if_pos hs]
  · rw [if_neg hs]
    rw [if_neg hs] at pop1 pop0
    rw [if_neg (fun z => hs z.2)] at slot'
    by_cases adv : s.mk_.es.head? = some s.mk_.mark
    · obtain ⟨l1, tk, sn⟩ := adv_facts hN h pl adv
      have bn := empty tk
      have mk : (beatB n s d).mark = (s.mark + 1) % (2 * n.hold + 1) := by show (senderB ..).1 = _; rw [sn]; split <;> rfl
      have la : (beatB n s d).last = s.mark := by rw [last', tk]; exact l1
      have late : T - e ≤ 2 * (rN_ n : Int) := by
        rcases p with ⟨z, _⟩ | ⟨_, ⟨u, p, v⟩ | ⟨_, u, p, v, _⟩⟩
        · exact absurd z hs
        · have := adm v; omega
        · have := adm v; omega
      by_cases c : s.bears = 1 ∧ s.took = 1
      · rw [sn, if_pos c] at slot'
        have slot' : (beatB n s d).slot = none := slot'
        refine ⟨.inl ⟨slot', by omega⟩, T, [], ?_, by omega, fun z => absurd slot' z.1, fun _ => rfl⟩
        rw [bn, if_pos rfl, pop0 (fun z => z.2 ⟨c.1, c.2, l1⟩)]
        rfl
      · rw [sn, if_neg c] at slot'
        have slot' : (beatB n s d).slot = s.slot := slot'
        have be : (beatB n s d).bears = 1 := by
          show (senderB s.mark s.bears s.slot (2 * n.hold + 1) s.echoes).2.1 = 1
          rw [sn, if_neg c]
          show (if s.slot = none then (0 : Int) else 1) = 1
          rw [if_neg hs]
        have nl : (beatB n s d).last ≠ (beatB n s d).mark := by rw [la, mk]; exact next_ne hN h
        have so' : SlotO (beatB n s d) := ⟨by rw [slot']; exact hs, fun z => nl z.2.2⟩
        have tm : T - e ≤ rN_ n := by
          rcases p with ⟨z, _⟩ | ⟨_, ⟨u, p, v⟩ | ⟨bx, u, p, v, _⟩⟩
          · exact absurd z hs
          · have := adm v; omega
          · rcases bx.2 with z | z
            · exact absurd l1 z.1
            · exact absurd ⟨bx.1, z.2⟩ c
        refine ⟨.inr ⟨by rw [slot']; exact hs, .inr ⟨⟨be, .inl ⟨nl, bn⟩⟩, 0, by omega, Lv.first, fun _ => Lf.first⟩⟩, T, [e], ?_, by omega, fun _ => rfl, fun z => absurd so' z⟩
        rw [bn, if_pos rfl, pop1 ⟨hs, fun z => c ⟨z.1, z.2.1⟩⟩]
        rfl
    · have adv' : ¬ (s.echoes.map (·.1)).head? = some s.mark := adv
      have sb : senderB s.mark s.bears s.slot (2 * n.hold + 1) s.echoes = (s.mark, s.bears, s.slot) := by
        obtain ⟨z, _⟩ | ⟨e, r', er, em, _⟩ := sender_cases s.mark s.bears s.slot (2 * n.hold + 1) s.echoes
        · exact z
        · exact absurd (by rw [er]; show some e.1 = _; rw [em]) adv'
      have mk : (beatB n s d).mark = s.mark := by show (senderB ..).1 = _; rw [sb]
      have br : (beatB n s d).bears = s.bears := by show (senderB ..).2.1 = _; rw [sb]
      rw [sb] at slot'
      have slot' : (beatB n s d).slot = s.slot := slot'
      have hs' : (beatB n s d).slot ≠ none := by rw [slot']; exact hs
      have lv' : ∀ {u : Nat}, Lv (mN_ n) (hN_ n) u s.mk_ g.1.toNat g.2.toNat → Lv (mN_ n) (hN_ n) (u + 1) (beatB n s d).mk_ (goneB s g l).1.toNat (goneB s g l).2.toNat := fun v => by
        have := lv_beat (d := d) hN h a0 a1 b0 b1 v adv
        rw [dl] at this
        exact this
      rcases tk_cases hN h pl with ⟨tk, nh⟩ | ⟨nl, tk⟩
      · have bn := empty tk
        have la : (beatB n s d).last = s.last := by rw [last', tk]
        have tt : (beatB n s d).took = s.took := by rw [took', tk]
        have so' : SlotO (beatB n s d) ↔ SlotO s := by unfold SlotO; rw [slot', br, tt, la, mk]
        constructor
        · rcases p with ⟨z, _⟩ | ⟨_, ⟨u, p, v⟩ | ⟨bx, u, p, v, lf⟩⟩
          · exact absurd z hs
          · exact .inr ⟨hs', .inl ⟨u + 1, by omega, lv' v⟩⟩
          · refine .inr ⟨hs', .inr ⟨⟨by rw [br]; exact bx.1, ?_⟩, u + 1, by omega, lv' v, fun z => ?_⟩⟩
            · rw [la, mk, tt]
              rcases bx.2 with z | z
              · exact .inl ⟨z.1, bn⟩
              · exact .inr z
            · rw [la, mk] at z
              have zl : (s.letters.map (·.1)).length ≤ hN_ n := by
                have z1 := h.let0
                rw [List.length_map]
                unfold hN_
                omega
              have st := (lf z).step (l0 := d.lost.1) (by unfold hN_; omega) zl (by unfold mN_; omega) (nh z)
              rw [beat_mk, mk]
              show Lf _ _ _ (s.mk_.ls.drop 1 ++ (if d.lost.1 = true then [] else [s.mk_.mark])) s.mark _
              have eg : (goneB s g l).1.toNat = if d.lost.1 = true then g.1.toNat + 1 else 0 := by
                rw [dl]
                show (if l.1 = true then g.1 + 1 else 0).toNat = _
                split
                · omega
                · rfl
              rw [eg]
              exact st
        · by_cases c : SlotO s
          · refine ⟨T, [e], ?_, by omega, fun _ => rfl, fun z => absurd (so'.mpr c) z⟩
            rw [bn, if_pos rfl, pop1 c]
            rfl
          · refine ⟨T, [], ?_, by omega, fun z => absurd (so'.mp z) c, fun _ => rfl⟩
            rw [bn, if_pos rfl, pop0 c]
            rfl
      · have c : SlotO s := ⟨hs, fun z => nl z.2.2⟩
        have la : (beatB n s d).last = s.mark := by rw [last', tk]; split <;> rfl
        by_cases a : (letterB s).2 ≠ none ∧ s.box = none
        · rw [if_pos a] at tk
          have b1' : s.bears = 1 := by
            by_cases b : s.bears = 1
            · exact b
            · exact absurd (show (if s.bears = 1 then s.slot else none) = none from if_neg b) a.1
          have ls : (letterB s).2 = s.slot := if_pos b1'
          have bx' : (beatB n s d).box = s.slot := by rw [box', if_neg (fun z => z.2 a.2), tk]; exact ls
          have tt : (beatB n s d).took = 1 := by rw [took', tk]
          have nso : ¬ SlotO (beatB n s d) := fun z => z.2 ⟨by rw [br]; exact b1', tt, by rw [la, mk]⟩
          have tm := p.owed hN a0 a1 b0 b1 c
          constructor
          · rcases p with ⟨z, _⟩ | ⟨_, ⟨u, p, v⟩ | ⟨bx, u, p, v, lf⟩⟩
            · exact absurd z hs
            · exact .inr ⟨hs', .inl ⟨u + 1, by omega, lv' v⟩⟩
            · exact .inr ⟨hs', .inr ⟨⟨by rw [br]; exact b1', .inr ⟨by rw [la, mk], tt⟩⟩, u + 1, by omega, lv' v, fun z => absurd (by rw [la, mk]) z⟩⟩
          · refine ⟨e, [], ?_, tm, fun z => absurd z nso, fun _ => rfl⟩
            rw [bx', if_neg hs, pop1 c]
        · rw [if_neg a] at tk
          have tt : (beatB n s d).took = 0 := by rw [took', tk]
          have bn : (beatB n s d).box = none := by
            rw [box', tk]
            by_cases b : s.box = none
            · rw [if_neg (fun z => z.2 b)]
              exact b
            · rw [if_pos ⟨ht, b⟩]
          have so' : SlotO (beatB n s d) := ⟨hs', fun z => by rw [tt] at z; exact absurd z.2.1 (by decide)⟩
          constructor
          · rcases p with ⟨z, _⟩ | ⟨_, ⟨u, p, v⟩ | ⟨bx, u, p, v, lf⟩⟩
            · exact absurd z hs
            · exact .inr ⟨hs', .inl ⟨u + 1, by omega, lv' v⟩⟩
            · exfalso
              have bn0 : s.box = none := by
                rcases bx.2 with z | z
                · exact z.2
                · exact absurd z.1 nl
              exact a ⟨by rw [show (letterB s).2 = s.slot from if_pos bx.1]; exact hs, bn0⟩
          · refine ⟨T, [e], ?_, by omega, fun _ => rfl, fun z => absurd so' z⟩
            rw [bn, if_pos rfl, pop1 c]
            rfl
end
end Any
namespace Any
open L2 PySem PySem.Spec PyProof.Rows
abbrev sLostW : Stmt := top 33
abbrev nmLostW : List Str := ["_law_bag_here", "_law_way", "_law_runs", "_law_gap", "_law_habit", "_law_is_answered", "_law_gone_here"]
abbrev psLostW : List Str := ["_law_bag_here", "_law_way", "_law_runs", "_law_gap", "_law_habit"]
theorem scLostW : FnScope nmLostW psLostW (defScope sLostW) := ⟨rfl, rfl, rfl, by decide +kernel, rfl, by decide +kernel, by decide +kernel⟩
def spLostW (C : Addr) : Sp := fun vs H Q _ => ∃ (b x r : Addr) (n : Num) (k : Nat) (st : Sto) (g : Int × Int) (habit : Int), vs = [.ref b, .ref x, .ref r, .int n.miss, .int habit] ∧ Bag H b (k + 2) ∧ WayAt C H x n st g ∧ RunAt H r g ∧ 1 ≤ n.miss ∧
  ∀ p H' (l : Bool × Bool), Ks [b, r] H H' → Bag H' b k → RunAt H' r (goneB st g l) → H p = none → H' p = some (.tup [.bl l.1, .bl l.2]) → (l.1 = true → g.1 + 1 < n.miss) → (l.2 = true → g.2 + 1 < n.miss) → Q (.ref p) H'
section
variable {P : Program} {w : World} {K : PySem.W.Frag} {mg : Str → Option Value} {base : Heap} {f C : Addr} {fd : FuncData}
theorem ok_lostW (W : WayD P w K mg base C) (F : Fun K "_law_lost_by" "_law_lost_by" sLostW f fd) (D1 : Df P w K mg base 2 "_law_gone" psGone spGone) : FnOk P w K mg base CX0 3 f fd psLostW (spLostW C) := by
  refine F.ok scLostW (fun vs H Q E h => ?_) (fun cdv A outer s H vs Q E hr h => ?_)
  · obtain ⟨b, x, r, n, k, st, g, habit, rfl, _⟩ := h
    rfl
  obtain ⟨b, x, r, n, k, st, g, habit, rfl, hB, hW, hR, hm, q⟩ := h
  obtain ⟨dx, ka, ga, hx, hK, hg⟩ := id hW
  have hr1 := hr.mono (show 1 ≤ 2 by decide)
  have br : b ≠ r := by
    obtain ⟨_, _, _, h1, _⟩ := hB
    exact ne_of h1 hR (by intro z; cases z)
  let X := (cxOf CX0 P w K mg base nmLostW "_law_lost_by" (defScope sLostW) f cdv A outer s H E).nox
  obtain ⟨tE, hEnd, leafE⟩ : ∃ t, PSs X ((defBody sLostW).drop 4) t ∧ ∀ (p : Addr) (H2 : Hp) (l0 l1 : Bool), Ks [b, r] H H2 → Bag H2 b k → H p = none → p ≠ r → H2 p = some (.tup [.bl l0, .bl l1]) → H2 r = some (.lst [.int (if l0 = true then g.1 + 1 else 0), .int g.2]) → (l0 = true → g.1 + 1 < n.miss) → (l1 = true → g.2 + 1 < n.miss) →
      t { nx := fun _ H' => Q .non H', rt := Q } [some (.ref b), some (.ref x), some (.ref r), some (.int n.miss), some (.int habit), some (.bl (!decide (st.letters = []))), some (.ref p)] H2 := by
    refine ⟨_, pss_cons (ps_if (pt_val (pv 5)) (pss_one (ps_asg (pe_ifExp (pt_val (pe_ix ix_tup (pv 6) pe_int (fun _ _ => rfl))) (pe_op op_add (pe_ix ix_list (pv 2) pe_int (fun _ _ => rfl)) pe_int) pe_int) (pg_sub (pv 2) pe_int set_list))) pss_nil)
      (pss_one (ps_ret (pv 6))), ?_⟩
    intro p H2 l0 l1 k2 B2 np pr ep er h0 h1
    have fin : ∀ (v : Int), v = (if l1 = true then g.2 + 1 else 0) → st.letters ≠ [] → Q (.ref p) (upd H2 r (.lst [.int (if l0 = true then g.1 + 1 else 0), .int v])) := fun v hv c => by
      refine q p _ (l0, l1) (k2.trans (ks_put (by simp) _)) (B2.put br) ?_ np (by rw [upd_ne pr]; exact ep) h0 h1
      show _ = _
      rw [upd_same, hv]
      unfold goneB
      rw [if_neg c]
    refine ⟨_, rfl, _, rfl, ?_⟩
    by_cases c : st.letters = []
    · rw [decide_eq_true c]
      refine itF rfl ⟨_, rfl, q p H2 (l0, l1) k2 B2 ?_ np ep h0 h1⟩
      show _ = _
      rw [er]
      unfold goneB
      rw [if_pos c]
    · rw [decide_eq_false c]
      refine itT rfl ⟨_, rfl, p, _, _, _, rfl, rfl, SqT.of ep, atI_nat (j := 1) rfl, l1, rfl, ?_⟩
      cases l1 with
      | true => exact itT rfl ⟨_, rfl, r, _, _, _, rfl, rfl, SqL.of er, atI_nat (j := 1) rfl, _, _, rfl, rfl, _, rfl, r, _, _, 1, rfl, rfl, er, rfl, _, rfl, fin _ rfl c⟩
      | false => exact itF rfl ⟨_, rfl, r, _, _, 1, rfl, rfl, er, rfl, _, rfl, fin _ rfl c⟩
  have viaG : ∀ (H1 : Hp), Same H H1 → spGone [.ref b, .ref r, .int n.miss, .bl (!decide (st.letters = []))] H1 Q E0 := fun H1 s1 =>
    ⟨b, r, k, g, n.miss, _, rfl, hB.keep s1, s1 _ _ hR, fun p H' l k1 B1 R1 np ep l0 l1 => q p H' l ((Same.ks s1).trans k1) B1 (by rw [← run_gone]; exact R1) (s1.free np) ep l0 l1⟩
  obtain ⟨tD, hD, leafD⟩ : ∃ t, PSs X ((defBody sLostW).drop 3) t ∧ ∀ (p : Addr) (H4 : Hp) (l0 l1 : Bool), Same H H4 → H4 p = none → (l0 = true → g.1 + 1 < n.miss) → (l1 = true → g.2 + 1 < n.miss) →
      t { nx := fun _ H' => Q .non H', rt := Q } [some (.ref b), some (.ref x), some (.ref r), some (.int n.miss), some (.int habit), some (.bl (!decide (st.letters = []))), some (.ref p)] (upd H4 p (.tup [.bl l0, .bl l1])) := by
    refine ⟨_, pss_cons (ps_asg (pe_ifExp (pt_val (pe_ix ix_tup (pv 6) pe_int (fun _ _ => rfl))) (pe_op op_add (pe_ix ix_list (pv 2) pe_int (fun _ _ => rfl)) pe_int) pe_int) (pg_sub (pv 2) pe_int set_list)) hEnd, ?_⟩
    intro p H4 l0 l1 s4 hp h0 h1
    have sp := same_new hp (.tup [.bl l0, .bl l1])
    have ep := @upd_same H4 p (.tup [.bl l0, .bl l1])
    have np : H p = none := s4.free hp
    have R4 := s4 _ _ hR
    have pr : p ≠ r := fun z => by rw [z, R4] at hp; cases hp
    have R5 := sp _ _ R4
    have B5 := (hB.keep s4).keep sp
    have s5 := s4.trans sp
    generalize upd H4 p _ = H5 at *
    have go : ∀ v : Int, v = (if l0 = true then g.1 + 1 else 0) → tE { nx := fun _ H' => Q .non H', rt := Q } [some (.ref b), some (.ref x), some (.ref r), some (.int n.miss), some (.int habit), some (.bl (!decide (st.letters = []))), some (.ref p)] (upd H5 r (.lst [.int v, .int g.2])) := fun v hv =>
      leafE p _ l0 l1 ((Same.ks s5).trans (ks_put (by simp) _)) ((B5.put br).less (by omega)) np pr (by rw [upd_ne pr]; exact ep) (by rw [upd_same, hv]) h0 h1
    refine ⟨_, rfl, p, _, _, _, rfl, rfl, SqT.of ep, atI_nat (j := 0) rfl, _, rfl, ?_⟩
    cases l0 with
    | true => exact itT rfl ⟨_, rfl, r, _, _, _, rfl, rfl, SqL.of R5, atI_nat (j := 0) rfl, _, _, rfl, rfl, _, rfl, r, _, _, 0, rfl, rfl, R5, rfl, go (g.1 + 1) rfl⟩
    | false => exact itF rfl ⟨_, rfl, r, _, _, 0, rfl, rfl, R5, rfl, go 0 rfl⟩
  refine ⟨_, pss_cons (ps_set (i := 5) scLostW.nd rfl (Or.inl rfl) (pe_cmpR (op_neD hr.units) (pe_ix ix_tup (pe_M0 W.store W.cls.cl (pv 1) hr1) pe_int (fun _ _ => rfl)) (pe_tup pa_nil) (nomark _)))
    (pss_cons (ps_if (pt_cmpR op_eq (pv 4) pe_int (nomark _)) (pss_one (ps_ret (pe_D D1 hr rfl (pa_cons (pv 0) (pa_cons (pv 2) (pa_cons (pv 3) (pa_cons (pv 5) pa_nil))))))) pss_nil)
    (pss_cons (ps_set (i := 6) scLostW.nd rfl (Or.inl rfl) (pe_tup (pa_cons (pe_and (pe_cmpR op_ne (pv 4) pe_int (nomark _)) (pe_one (pe_cmpR op_lt (pe_op op_add (pe_ix ix_list (pv 2) pe_int (fun _ _ => rfl)) pe_int) (pv 3) (nomark _)))) (pa_cons (pe_and (pe_cmpR op_ne (pv 4) pe_int (nomark _)) (pe_one (pe_cmpR op_lt (pe_op op_add (pe_ix ix_list (pv 2) pe_int (fun _ _ => rfl)) pe_int) (pv 3) (nomark _)))) pa_nil)))) hD)), ?_⟩
  refine ⟨_, rfl, x, dx, _, rfl, hx, wf_none (by decide +kernel), x, n, st, g, rfl, hW, fun kb hKb => ?_⟩
  obtain ⟨L, Ec, hk3, hL3, hE3⟩ := hKb
  refine ⟨kb, _, _, _, rfl, rfl, SqT.of hk3, atI_nat (j := 3) rfl, nil_, fun p4 hp4 => ?_⟩
  have s4 := same_new hp4 (.tup [])
  refine ⟨_, _, (hL3.keep (Same.tups s4)).dp, .tup (SqT.of upd_same) .nil, row_shaped _, rfl, ?_⟩
  rw [row_nil]
  have R4 := s4 _ _ hR
  have B4 := hB.keep s4
  generalize upd H p4 (.tup []) = H4 at *
  refine ⟨_, rfl, rfl, _, rfl, itEq (fun c => ?_) (fun c => ?_)⟩
  · exact ⟨_, rfl, _, rfl, _, rfl, _, rfl, viaG H4 s4⟩
  · have two_ : ∀ l0 l1 : Bool, (l0 = true → g.1 + 1 < n.miss) → (l1 = true → g.2 + 1 < n.miss) → 2 ≤ sizeLine ∧ ∀ p, H4 p = none → tD { nx := fun _ H' => Q .non H', rt := Q } [some (.ref b), some (.ref x), some (.ref r), some (.int n.miss), some (.int habit), some (.bl (!decide (st.letters = []))), some (.ref p)] (upd H4 p (.tup [.bl l0, .bl l1])) := fun l0 l1 h0 h1 => ⟨two, fun p hp => leafD p H4 l0 l1 s4 hp h0 h1⟩
    refine ⟨_, rfl, rfl, _, rfl, itNe (fun c2 => ?_) (fun c2 => ?_)⟩
    · refine ⟨_, rfl, r, _, _, _, rfl, rfl, SqL.of R4, atI_nat (j := 0) rfl, _, _, rfl, rfl, _, rfl, _, _, rfl, rfl, ?_⟩
      refine ⟨_, rfl, rfl, _, rfl, itNe (fun c3 => ?_) (fun c3 => ?_)⟩
      · refine ⟨_, rfl, r, _, _, _, rfl, rfl, SqL.of R4, atI_nat (j := 1) rfl, _, _, rfl, rfl, _, rfl, _, _, rfl, rfl, ?_⟩
        exact two_ _ _ of_decide_eq_true of_decide_eq_true
      · exact two_ _ _ of_decide_eq_true (fun z => by cases z)
    · refine ⟨_, rfl, rfl, _, rfl, itNe (fun c3 => ?_) (fun c3 => ?_)⟩
      · refine ⟨_, rfl, r, _, _, _, rfl, rfl, SqL.of R4, atI_nat (j := 1) rfl, _, _, rfl, rfl, _, rfl, _, _, rfl, rfl, ?_⟩
        exact two_ _ _ (fun z => by cases z) of_decide_eq_true
      · exact two_ _ _ (fun z => by cases z) (fun z => by cases z)
end
end Any
namespace Any
open L2 PySem PySem.Spec PyProof.Rows
/-! ### lists of ints as data -/
theorem ints_eqv : ∀ l m : List Int, PyData.eqvAll (l.map PyData.int) (m.map PyData.int) = decide (l = m)
  | [], [] => rfl
  | [], _ :: _ => rfl
  | _ :: _, [] => rfl
  | p :: l, q :: m => by
    show ((p == q) && PyData.eqvAll (l.map PyData.int) (m.map PyData.int)) = decide (p :: l = q :: m)
    rw [ints_eqv l m]
    by_cases c : p = q
    · by_cases e : l = m
      · rw [c, e]; simp
      · rw [decide_eq_false e, decide_eq_false (fun z => e (List.cons.inj z).2), Bool.and_false]
    · rw [decide_eq_false (fun z => c (List.cons.inj z).1)]
      simp [c]
theorem ints_lay : ∀ l : List Int, PyData.canLayAll0 (l.map PyData.int) = true ∧ PyData.depthAll (l.map PyData.int) = 0
  | [] => ⟨rfl, rfl⟩
  | p :: l => by
    obtain ⟨h1, h2⟩ := ints_lay l
    constructor
    · show (true && PyData.canLayAll0 (l.map PyData.int)) = true
      rw [h1]; rfl
    · show max 0 (PyData.depthAll (l.map PyData.int)) = 0
      rw [h2]; rfl
theorem ints_shaped (l : List Int) : SeqAt.shaped (.list (l.map PyData.int)) = true := by
  obtain ⟨h1, h2⟩ := ints_lay l
  unfold SeqAt.shaped
  rw [show (PyData.list (l.map PyData.int)).canLay0 = true from h1, decide_eq_true (show (PyData.list (l.map PyData.int)).depth ≤ 64 from (by show PyData.depthAll (l.map PyData.int) + 1 ≤ 64; omega))]
  rfl
theorem ints_dp {K : PySem.W.Frag} {H : Hp} : ∀ l : List Int, DpAll K H (l.map V.int) (l.map PyData.int)
  | [] => .nil
  | p :: l => .cons (.int _) (ints_dp l)
/-- a list of ints -/
abbrev Ints (H : Hp) (a : Addr) (l : List Int) : Prop := H a = some (.lst (l.map V.int))
section
variable {X : Cx} {H : Hp} {a b : Addr} {l m : List Int} {Q : VK}
theorem eqI {K : PySem.W.Frag} (ha : Ints H a l) (hb : Ints H b m) (q : Q (.bl (decide (l = m))) H) : rEqD K (.ref a) (.ref b) H Q := by
  refine ⟨_, _, .lst (SqL.of ha) (ints_dp l), .lst (SqL.of hb) (ints_dp m), ints_shaped _, ints_shaped _, ?_⟩
  rw [show PyData.eqv (.list (l.map PyData.int)) (.list (m.map PyData.int)) = decide (l = m) from ints_eqv _ _]
  exact q
theorem neI {K : PySem.W.Frag} (ha : Ints H a l) (hb : Ints H b m) (q : Q (.bl (!decide (l = m))) H) : rNeD K (.ref a) (.ref b) H Q := by
  refine ⟨_, _, .lst (SqL.of ha) (ints_dp l), .lst (SqL.of hb) (ints_dp m), ints_shaped _, ints_shaped _, ?_⟩
  rw [show PyData.eqv (.list (l.map PyData.int)) (.list (m.map PyData.int)) = decide (l = m) from ints_eqv _ _]
  exact q
end
theorem gone_nn {s : Sto} {g : Int × Int} {l : Bool × Bool} (a0 : 0 ≤ g.1) (a1 : 0 ≤ g.2) : 0 ≤ (goneB s g l).1 ∧ 0 ≤ (goneB s g l).2 := by
  unfold goneB
  constructor
  · show 0 ≤ (if l.1 = true then g.1 + 1 else 0)
    split <;> omega
  · show 0 ≤ (if s.letters = [] then g.2 else if l.2 = true then g.2 + 1 else 0)
    split
    · exact a1
    · split <;> omega
section
variable {K : PySem.W.Frag} {H : Hp} {a : Addr} {l : List Int} {Q : VK}
theorem slI_to {i : Nat} (h : Ints H a l) (hi : i ≤ l.length) (q : ∀ p, H p = none → Q (.ref p) (upd H p (.lst ((l.take i).map V.int)))) : rSlL K (.ref a) none (some (i : Int)) H Q := by
  refine ⟨a, _, rfl, SqL.of h, fun p hp => ?_⟩
  rw [cut_to _ _ (by rw [List.length_map]; exact hi), ← List.map_take]
  exact q p hp
theorem slI_from {i : Nat} (h : Ints H a l) (q : ∀ p, H p = none → Q (.ref p) (upd H p (.lst ((l.drop i).map V.int)))) : rSlL K (.ref a) (some (i : Int)) none H Q := by
  refine ⟨a, _, rfl, SqL.of h, fun p hp => ?_⟩
  rw [cut_from, ← List.map_drop]
  exact q p hp
end
section
variable {C : Addr}
/-- a list by itself is changed -/
theorem Go.put {H : Hp} {b x r p : Addr} {k : Nat} {n : Num} {s : Sto} {g : Int × Int} {l : List Int} (go : Go C H b x r k n s g) (hp : Ints H p l) (pb : p ≠ b) (px : p ≠ x) (pr : p ≠ r) (o : HO) : Go C (upd H p o) b x r k n s g := by
  refine ⟨go.bag.put pb.symm, ?_, by show _ = _; rw [upd_ne pr.symm]; exact go.run, go.ok, go.g0, go.g1⟩
  obtain ⟨dx6, ka6, ga6, hx6, hK6, hg6⟩ := go.way
  have t6 := (Kept.put (b := p) (H := H) o).tups hp
  exact ⟨dx6, ka6, ga6, by rw [upd_ne px.symm]; exact hx6, hK6.keep t6, t6 _ _ hg6⟩
end
/-- a def of the module, called with n values and these keywords -/
def DfN (P : Program) (w : World) (K : PySem.W.Frag) (mg : Str → Option Value) (base : Heap) (k : Nat) (x : Str) (n : Nat) (ps ks : List Str) (gV : List V → List V → List V) (sp : Sp) : Prop := ∃ f fd g, mg x = some (.ref f) ∧ PySem.W.keepIn K (.ref f) = true ∧ FnOk P w K mg base CX0 k f fd ps sp ∧ KBn K fd ps n ks g gV
section
variable {X : Cx} {k n : Nat} {x : Str} {ps ks : List Str} {sp : Sp} {p pos : Pos} {e : Expr} {es : List Expr} {t tk : TA} {kws : List Keyword} {gV : List V → List V → List V}
theorem pe_DN (D : DfN X.prog X.w X.K X.mg X.base k x n ps ks gV sp) (hr : Room k X.A) (hg : Gl X x) (ha : PA X (e :: es) t) (hkw : PK X kws tk)
    (hall : (backToKw pos (keywordEach kws X.env)).all (·.1.isSome) = true := by rfl) (hks : (backToKw pos (keywordEach kws X.env)).filterMap (·.1) = ks := by rfl) (hdb : (x == ("__debug__" : Str)) = false := by decide)
    (he : starEach (e :: es) X.env = (false, eval e X.env) :: starEach es X.env := by rfl) (hpl : ((backTo pos (starEach (e :: es) X.env)).any (·.1) || (backToKw pos (keywordEach kws X.env)).any (·.1.isNone)) = false := by rfl) :
    PE X (.Call (.Name x p) (e :: es) kws pos) (tCallN n ks.length sp gV E0 t tk) := by
  obtain ⟨f, fd, g, hm, hk, F, hb⟩ := D
  exact pe_callN F hr hg hm hk hb pass0 ha hkw hall hks hdb he hpl
end
abbrev sRB : Stmt := top 15
theorem scRB : FnScope ["hold", "miss"] ["hold", "miss"] (defScope sRB) := ⟨rfl, rfl, rfl, by decide +kernel, rfl, by decide +kernel, by decide +kernel⟩
def spRB : Sp := fun vs H Q _ => ∃ h m : Int, vs = [.int h, .int m] ∧ (-(2 ^ 64) < m ∧ m < 2 ^ 64) ∧ Q (.int (m * m + 2 * h)) H
section
variable {P : Program} {w : World} {K : PySem.W.Frag} {mg : Str → Option Value} {base : Heap} {f : Addr} {fd : FuncData}
theorem ok_rb {kws : List (Str × V)} (F : FunD K "round_beats" "round_beats" (defArgs sRB) (defBody sRB) (defScope sRB) [] kws f fd) : FnOk P w K mg base CX0 1 f fd ["hold", "miss"] spRB := by
  refine F.ok scRB (fun vs H Q E h => ?_) (fun cdv A outer s H vs Q E hr h => ?_)
  · obtain ⟨h, m, rfl, _⟩ := h
    rfl
  obtain ⟨h, m, rfl, b, q⟩ := h
  exact ⟨_, pss_one (ps_ret (pe_op op_add (pe_op op_mul (pv 1) (pv 1)) (pe_op op_mul pe_int (pv 0)))), _, rfl, _, rfl, _, _, rfl, rfl, .inl b, _, rfl, _, _, rfl, rfl, .inl ⟨by decide, by decide⟩, _, _, rfl, rfl, q⟩
theorem kb_rb {kws : List (Str × V)} (F : FunD K "round_beats" "round_beats" (defArgs sRB) (defBody sRB) (defScope sRB) [] kws f fd) : KBn K fd ["hold", "miss"] 1 ["miss"] (fun us ws => us ++ ws) (fun us ws => us ++ ws) := by
  obtain ⟨oc, od, dV, kV, doc, pm, an, cdv, ct, osl, rfl, lk, hcd, hD, hK⟩ := F.ex
  have hd : dV = .none := hD.elim (fun z => z.2) (fun z => absurd rfl z.1)
  subst hd
  refine ⟨fun s us ws _ l1 l2 => ?_, fun r1 r2 => r1.append r2⟩
  match us, ws, l1, l2 with
  | [u1], [w1], _, _ => exact .of_eq rfl
end
theorem rN_eq {n : Num} (hN : NumOk n) : n.miss * n.miss + 2 * n.hold = (rN_ n : Int) := by
  have h0 := hN.h0
  have m0 := hN.m0
  have a : (mN_ n : Int) = n.miss := by unfold mN_; omega
  have b : (hN_ n : Int) = n.hold := by unfold hN_; omega
  unfold rN_
  rw [Int.natCast_add, Int.natCast_mul, Int.natCast_mul, a, b]
  rfl
end Any
namespace Any
open L2 PySem PySem.Spec PyProof.Rows
abbrev sTime : Stmt := top 34
abbrev nmTime : List Str := ["_law_bag_here", "_law_way", "_law_runs", "_law_numbers", "_law_habit", "_law_size", "_law_gap", "_law_top", "_law_beats", "_law_soon", "_law_begun", "_law_elder", "_law_turn", "_law_gone_here", "_law_put", "_law_out"]
abbrev psTime : List Str := ["_law_bag_here", "_law_way", "_law_runs", "_law_numbers", "_law_habit"]
theorem scTime : FnScope nmTime psTime (defScope sTime) := ⟨rfl, rfl, rfl, by decide +kernel, rfl, by decide +kernel, by decide +kernel⟩
def spTime (C : Addr) : Sp := fun vs H Q _ => ∃ (b x r nu : Addr) (k : Nat) (n : Num) (s : Sto) (g : Int × Int) (habit : Int), vs = [.ref b, .ref x, .ref r, .ref nu, .int habit] ∧ H nu = some (.tup [.int n.hold, .int n.miss, .int n.bound]) ∧ NumOk n ∧ Go C H b x r (k + 750) n s g ∧ Plain n s ∧ 0 ≤ g.1 ∧ 0 ≤ g.2 ∧
  ∀ H', Ks [b, x, r] H H' → Bag H' b k → Q (.bl true) H'
theorem beg_len {n : Num} {T e : Int} {s : Sto} {bs : List Int} (q : Beg n T e s bs) : bs.length ≤ 2 := by
  obtain ⟨b, so, rfl, _, h1, h2⟩ := q
  have : so.length ≤ 1 := by
    by_cases c : SlotO s
    · rw [h1 c]; exact Nat.le_refl _
    · rw [h2 c]; exact Nat.zero_le _
  rw [List.length_append]
  split
  · show 0 + _ ≤ 2
    omega
  · show 1 + _ ≤ 2
    omega
theorem rep_ones (k : Nat) : (List.replicate k [V.int 1]).flatten = (List.replicate k (1 : Int)).map V.int := by
  induction k with
  | zero => rfl
  | succ k ih => rw [List.replicate_succ, List.replicate_succ, List.flatten_cons, ih]; rfl
theorem owed_len (s : Sto) : (owedB s).length ≤ 2 := by
  unfold owedB
  cases s.box <;> cases s.slot <;> split <;> simp
theorem told_w (s : Sto) (w : Int) (l : Bool × Bool) : toldB s ⟨some w, true, l⟩ = [.bl (decide (s.slot = none)), ov s.box] := by
  unfold toldB
  rw [if_neg (by simp), if_pos rfl]
section
variable {P : Program} {w : World} {K : PySem.W.Frag} {mg : Str → Option Value} {base : Heap} {f C : Addr} {fd : FuncData}
set_option maxHeartbeats 4000000 in
theorem ok_time (O : Own mg) (W : WayD P w K mg base C) (WU : Mf0 P w K mg base C 3 "under_way" ["self"] [] (spUnder C)) (WB : DfN P w K mg base 1 "round_beats" 1 ["hold", "miss"] ["miss"] (fun vs zs => vs ++ zs) spRB) (F : Fun K "_law_in_time" "_law_in_time" sTime f fd) (D1 : Df P w K mg base 1 "_law_take" ["_law_bag_here", "_law_many"] spTake) (D2 : Df P w K mg base 3 "_law_lost_by" psLostW (spLostW C)) : FnOk P w K mg base CX0 5 f fd psTime (spTime C) := by
  refine F.ok scTime (fun vs H Q E h => ?_) (fun cdv A outer s H vs Q E hr h => ?_)
  · obtain ⟨b, x, r, nu, k, n, s, g, habit, rfl, _⟩ := h
    rfl
  obtain ⟨b, x, r, nu, k, n, s0, g, habit, rfl, hnu, hN, go, pl, a0, a1, q⟩ := h
  have hm0 := hN.m0
  have hm1 := hN.m1
  have hh0 := hN.h0
  have hh1 := hN.h1
  have hb0 := hN.b0
  have hb1 := hN.b1
  have hr1 := hr.mono (show 1 ≤ 4 by decide)
  have hr3 := hr.mono (show 3 ≤ 4 by decide)
  obtain ⟨dx0, ka0, ga0, hx0, hK0, hg0⟩ := id go.way
  have bx : b ≠ x := by
    obtain ⟨_, _, _, h1, _⟩ := go.bag
    exact ne_of h1 hx0 (by intro z; cases z)
  have rx : r ≠ x := ne_of go.run hx0 (by intro z; cases z)
  have br : b ≠ r := by
    obtain ⟨_, _, _, h1, _⟩ := go.bag
    exact ne_of h1 go.run (by intro z; cases z)
  have free : ∀ {a : Addr}, H a = none → a ≠ b ∧ a ≠ x ∧ a ≠ r := fun h => ⟨go.bag.ne h, (ne_of_none hx0 h).symm, (ne_of_none go.run h).symm⟩
  let X := (cxOf CX0 P w K mg base nmTime "_law_in_time" (defScope sTime) f cdv A outer s H E).nox
  -- what is put
  obtain ⟨tP, hP, leafP⟩ : ∃ t, PSs X ((forBody (stAt (defBody sTime) 4)).drop 5) t ∧ ∀ (bg : Addr) (j : Nat) (st st' : Sto) (g' : Int × Int) (bs : List Int) (T e : Int) (H1 : Hp) (z13 z15 : Option V) (D : Ends), Go C H1 b x r j n st' g' → Ints H1 bg bs → H bg = none → Ks [b, x, r] H H1 → bs.length < 1000 →
      (∀ (H2 : Hp), Go C H2 b x r j n st' g' → Ks [b, x, r] H H2 → Ints H2 bg (bs ++ (if st.slot = none then [T] else [])) → D.nx [some (.ref b), some (.ref x), some (.ref r), some (.ref nu), some (.int habit), some (.int n.hold), some (.int n.miss), some (.int n.bound), some (.int (rN_ n : Int)), some (.int (soonB n)), some (.ref bg), some (.int (if st.slot = none then T else e)), some (.int T), z13, some (.bl (decide (st.slot = none))), z15] H2) →
      t D [some (.ref b), some (.ref x), some (.ref r), some (.ref nu), some (.int habit), some (.int n.hold), some (.int n.miss), some (.int n.bound), some (.int (rN_ n : Int)), some (.int (soonB n)), some (.ref bg), some (.int e), some (.int T), z13, some (.bl (decide (st.slot = none))), z15] H1 := by
    refine ⟨_, pss_one (ps_if (pt_val (pv 14)) (pss_cons (ps_expr (pe_bm PySem.F.plainAttrs_list PySem.F.slot_list_append PySem.F.type_list_append mt_append (pv 10) (pa_cons (pv 12) pa_nil))) (pss_one (ps_set (i := 11) scTime.nd rfl (Or.inl rfl) (pv 12)))) pss_nil), ?_⟩
    intro bg j st st' g' bs T e H1 z13 z15 D go1 hb1 nb k1 hl nx
    refine ⟨_, rfl, _, rfl, ?_⟩
    by_cases c : st.slot = none
    · have nx := fun H2 => nx H2
      rw [if_pos c, if_pos c] at nx
      obtain ⟨f1, f2, f3⟩ := free nb
      rw [decide_eq_true c] at nx ⊢
      refine itT rfl ⟨_, rfl, .inl ⟨rfl, _, SqL.of hb1⟩, _, rfl, bg, _, _, rfl, rfl, hb1, Nat.lt_of_lt_of_le (by rw [List.length_map]; exact hl) (by decide), _, rfl, ?_⟩
      refine nx _ (go1.put hb1 f1 f2 f3 _) (Ks.drop (p := bg) ((k1.mono fun a ha => List.mem_cons_of_mem _ ha).trans (ks_put (List.mem_cons_self ..) _)) nb) ?_
      show _ = _
      rw [upd_same, List.map_append]
      rfl
    · have nx := nx H1 go1 k1
      rw [if_neg c, if_neg c, List.append_nil] at nx
      rw [decide_eq_false c] at nx ⊢
      exact itF rfl (nx hb1)
  -- the words' turns
  obtain ⟨tN, hNt, leafN⟩ : ∃ t, PSs X ((forBody (stAt (defBody sTime) 4)).drop 4) t ∧ ∀ (bg : Addr) (j : Nat) (st st' : Sto) (g' : Int × Int) (bs : List Int) (T e : Int) (H1 : Hp) (z13 : Option V) (D : Ends), Go C H1 b x r j n st' g' → Ints H1 bg bs → H bg = none → Ks [b, x, r] H H1 → bs.length ≤ 2 →
      (∀ (H2 : Hp) (bg' : Addr) (z15 : Option V), H bg' = none → Go C H2 b x r j n st' g' → Ks [b, x, r] H H2 → Ints H2 bg' (begB st T bs) → D.nx [some (.ref b), some (.ref x), some (.ref r), some (.ref nu), some (.int habit), some (.int n.hold), some (.int n.miss), some (.int n.bound), some (.int (rN_ n : Int)), some (.int (soonB n)), some (.ref bg'), some (.int (if st.slot = none then T else e)), some (.int T), z13, some (.bl (decide (st.slot = none))), z15] H2) →
      t D [some (.ref b), some (.ref x), some (.ref r), some (.ref nu), some (.int habit), some (.int n.hold), some (.int n.miss), some (.int n.bound), some (.int (rN_ n : Int)), some (.int (soonB n)), some (.ref bg), some (.int e), some (.int T), z13, some (.bl (decide (st.slot = none))), some (ov st.box)] H1 := by
    refine ⟨_, pss_cons (ps_set (i := 10) scTime.nd rfl (Or.inl rfl) (pe_ifExp (pt_cmpR op_isN (pv 15) pe_non (nomark _)) (pv 10) (pe_slice sl_list (pv 10) (po_some pe_int) po_none))) hP, ?_⟩
    intro bg j st st' g' bs T e H1 z13 D go1 hb1 nb k1 hl nx
    refine ⟨_, rfl, rfl, _, rfl, ?_⟩
    cases hbx : st.box with
    | none =>
      refine itD (fun _ => ?_) (fun c => absurd rfl c)
      refine ⟨_, rfl, leafP bg j st st' g' bs T e H1 z13 _ D go1 hb1 nb k1 (by omega) fun H2 go2 k2 hb2 => nx H2 bg _ nb go2 k2 ?_⟩
      unfold begB
      rw [if_pos hbx]
      exact hb2
    | some i =>
      refine itD (fun c => by cases c) (fun _ => ?_)
      refine ⟨_, rfl, _, rfl, ?_⟩
      unfold tNoPart
      dsimp only
      refine slI_from (i := 1) hb1 fun p2 hp2 => ?_
      have s2 := same_new hp2 (.lst ((bs.drop 1).map V.int))
      have np : H p2 = none := by
        cases z : H p2 with
        | none => rfl
        | some o =>
          by_cases m : p2 ∈ [b, x, r]
          · obtain ⟨dx, ka, ga, hx, _⟩ := go1.way
            obtain ⟨_, hbb⟩ := go1.bag.lst
            have hrr := go1.run
            rcases List.mem_cons.mp m with m | m
            · rw [m, hbb] at hp2; cases hp2
            · rcases List.mem_cons.mp m with m | m
              · rw [m, hx] at hp2; cases hp2
              · rw [List.mem_singleton.mp m, show H1 r = _ from hrr] at hp2; cases hp2
          · rw [k1 _ _ m z] at hp2; cases hp2
      refine leafP p2 j st st' g' (bs.drop 1) T e _ z13 _ D ⟨go1.bag.keep s2, go1.way.keep s2, s2 _ _ go1.run, go1.ok, go1.g0, go1.g1⟩ upd_same np (k1.trans (Same.ks s2)) (by rw [List.length_drop]; omega) fun H2 go2 k2 hb2 => nx H2 p2 _ np go2 k2 ?_
      unfold begB
      rw [if_neg (by rw [hbx]; simp)]
      exact hb2
  -- the first of them in time
  obtain ⟨tS, hSt, leafS⟩ : ∃ t, PSs X ((forBody (stAt (defBody sTime) 4)).drop 3) t ∧ ∀ (bg : Addr) (j : Nat) (st st' : Sto) (g' : Int × Int) (bs : List Int) (T e : Int) (H1 : Hp) (z13 : Option V) (D : Ends), Go C H1 b x r j n st' g' → Ints H1 bg bs → H bg = none → Ks [b, x, r] H H1 → bs.length ≤ 2 → (∀ y r, bs = y :: r → T - y ≤ soonB n) →
      (∀ (H2 : Hp) (bg' : Addr) (z15 : Option V), H bg' = none → Go C H2 b x r j n st' g' → Ks [b, x, r] H H2 → Ints H2 bg' (begB st T bs) → D.nx [some (.ref b), some (.ref x), some (.ref r), some (.ref nu), some (.int habit), some (.int n.hold), some (.int n.miss), some (.int n.bound), some (.int (rN_ n : Int)), some (.int (soonB n)), some (.ref bg'), some (.int (if st.slot = none then T else e)), some (.int T), z13, some (.bl (decide (st.slot = none))), z15] H2) →
      t D [some (.ref b), some (.ref x), some (.ref r), some (.ref nu), some (.int habit), some (.int n.hold), some (.int n.miss), some (.int n.bound), some (.int (rN_ n : Int)), some (.int (soonB n)), some (.ref bg), some (.int e), some (.int T), z13, some (.bl (decide (st.slot = none))), some (ov st.box)] H1 := by
    refine ⟨_, pss_cons (ps_if (PW.pt (pw_and (pt_cmpR (op_neD hr.units) (pv 10) (pe_lst pa_nil) (nomark _)) (pw_and1 (pt_cmpR op_gt (pe_op op_sub (pv 12) (pe_ix ix_list (pv 10) pe_int (fun _ _ => rfl))) (pv 9) (nomark _))))) (pss_one (ps_ret pe_bl)) pss_nil) hNt, ?_⟩
    intro bg j st st' g' bs T e H1 z13 D go1 hb1 nb k1 hl hb nx
    refine ⟨_, rfl, nil_, fun p2 hp2 => ?_⟩
    have s2 := same_new hp2 (.lst [])
    refine neI (m := []) (s2 _ _ hb1) upd_same ⟨_, rfl, ?_⟩
    have go2 : Go C (upd H1 p2 (.lst [])) b x r j n st' g' := ⟨go1.bag.keep s2, go1.way.keep s2, s2 _ _ go1.run, go1.ok, go1.g0, go1.g1⟩
    have hb2 : Ints (upd H1 p2 (.lst [])) bg bs := s2 _ _ hb1
    have k2 : Ks [b, x, r] H (upd H1 p2 (.lst [])) := k1.trans (Same.ks s2)
    clear s2
    generalize upd H1 p2 (.lst []) = H2 at *
    have fin := leafN bg j st st' g' bs T e H2 z13 D go2 hb2 nb k2 hl nx
    cases bs with
    | nil => exact itF rfl fin
    | cons y r' =>
      have := hb y r' rfl
      refine itT rfl ⟨_, rfl, _, rfl, bg, _, _, _, rfl, rfl, SqL.of hb2, atI_nat (j := 0) rfl, _, _, rfl, rfl, _, rfl, _, _, rfl, rfl, _, rfl, itD (fun c => by omega) (fun _ => fin)⟩
  -- what is looked at
  obtain ⟨tL, hL, leafL⟩ : ∃ t, PSs X ((forBody (stAt (defBody sTime) 4)).drop 2) t ∧ ∀ (bg : Addr) (j : Nat) (st st' : Sto) (g g' : Int × Int) (bs : List Int) (T e : Int) (H1 : Hp) (z13 : Option V) (D : Ends), Go C H1 b x r j n st' g' → Ints H1 bg bs → H bg = none → Ks [b, x, r] H H1 → 0 ≤ g.1 → 0 ≤ g.2 → g.1 < n.miss → g.2 < n.miss → InT n T e st g → Beg n T e st bs →
      (∀ (H2 : Hp) (bg' : Addr) (z15 : Option V), H bg' = none → Go C H2 b x r j n st' g' → Ks [b, x, r] H H2 → Ints H2 bg' (begB st T bs) → D.nx [some (.ref b), some (.ref x), some (.ref r), some (.ref nu), some (.int habit), some (.int n.hold), some (.int n.miss), some (.int n.bound), some (.int (rN_ n : Int)), some (.int (soonB n)), some (.ref bg'), some (.int (if st.slot = none then T else e)), some (.int T), z13, some (.bl (decide (st.slot = none))), z15] H2) →
      t D [some (.ref b), some (.ref x), some (.ref r), some (.ref nu), some (.int habit), some (.int n.hold), some (.int n.miss), some (.int n.bound), some (.int (rN_ n : Int)), some (.int (soonB n)), some (.ref bg), some (.int e), some (.int T), z13, some (.bl (decide (st.slot = none))), some (ov st.box)] H1 := by
    refine ⟨_, pss_cons (ps_if (PW.pt (pw_or (pt_cmpR op_gt (pe_op op_sub (pv 12) (pv 11)) (pe_op op_add (pv 9) (pv 8)) (nomark _)) (pw_or1 (PW.pt (pw_and (pt_cmpR op_notN (pv 15) pe_non (nomark _)) (pw_and1 (pt_cmpR (op_eqD hr.units) (pv 10) (pe_lst pa_nil) (nomark _)))))))) (pss_one (ps_ret pe_bl)) pss_nil) hSt, ?_⟩
    intro bg j st st' g g' bs T e H1 z13 D go1 hb1 nb k1 c0 c1 c2 c3 inT beg nx
    have hl := beg_len beg
    obtain ⟨bx1, bx2⟩ := beg.soon hN c0 c1 c2 c3 inT
    have el := inT.elder hN c0 c1 c2 c3
    refine ⟨_, rfl, _, rfl, _, _, rfl, rfl, _, rfl, _, rfl, _, _, rfl, rfl, _, _, rfl, rfl, _, rfl, itD (fun c => by omega) (fun _ => ?_)⟩
    refine ⟨_, rfl, rfl, _, rfl, ?_⟩
    by_cases hbx : st.box = none
    · have fin := leafS bg j st st' g' bs T e H1 z13 D go1 hb1 nb k1 hl bx2 nx
      rw [hbx] at fin ⊢
      exact itN (fun c => absurd rfl c) (fun _ => fin)
    · refine itN (fun _ => ?_) (fun c => ?_)
      · refine ⟨_, rfl, nil_, fun p2 hp2 => ?_⟩
        have s2 := same_new hp2 (.lst [])
        refine eqI (m := []) (s2 _ _ hb1) upd_same ⟨_, rfl, ?_⟩
        rw [decide_eq_false (bx1 hbx)]
        refine itF rfl ?_
        exact leafS bg j st st' g' bs T e _ z13 D ⟨go1.bag.keep s2, go1.way.keep s2, s2 _ _ go1.run, go1.ok, go1.g0, go1.g1⟩ (s2 _ _ hb1) nb (k1.trans (Same.ks s2)) hl bx2 nx
      · cases z : st.box with
        | none => exact absurd z hbx
        | some i => rw [z] at c; cases c
  refine ⟨_, pss_cons (ps_asg (pv 3) (pg_tup rfl (pgs_cons (pg_name (i := 5) scTime.nd rfl (Or.inl rfl)) (pgs_cons (pg_name (i := 6) scTime.nd rfl (Or.inl rfl)) (pgs_cons (pg_name (i := 7) scTime.nd rfl (Or.inl rfl)) pgs_nil)))))
    (pss_cons (ps_set (i := 8) scTime.nd rfl (Or.inl rfl) (pe_DN WB hr1 rfl (pa_cons (pv 5) pa_nil) (pk_cons (pv 6) pk_nil)))
    (pss_cons (ps_set (i := 9) scTime.nd rfl (Or.inl rfl) (pe_op op_add (pe_op op_add (pe_op op_add (pv 8) (pv 5)) (pv 6)) pe_int))
    (pss_cons (ps_par (i := 10) (j := 11) (by rfl) scTime.nd rfl rfl (by decide) rfl rfl (pa_cons (pe_op op_rep (pe_lst (pa_cons pe_int pa_nil)) (pe_callB call_len_seq rfl O.len PySem.boot_len (pa_cons (pe_M0 WU W.cls.cl (pv 1) hr3) pa_nil))) (pa_cons pe_int pa_nil)) (by rfl))
    (pss_cons (ps_for PassesOwn.never rfl (pi_range1 rfl O.range (pa_cons pe_int pa_nil)) (pg_name (i := 12) scTime.nd rfl (Or.inl rfl))
      (pss_cons (ps_set (i := 13) scTime.nd rfl (Or.inl rfl) (pe_D D2 hr3 rfl (pa_cons (pv 0) (pa_cons (pv 1) (pa_cons (pv 2) (pa_cons (pv 6) (pa_cons (pv 4) pa_nil)))))))
      (pss_cons (ps_asg (pe_MK W.beatA W.cls.cl (pv 1) hr (pk_cons (pe_D D1 hr1 rfl (pa_cons (pv 0) (pa_cons (pv 7) pa_nil))) (pk_cons pe_bl (pk_cons (pv 13) pk_nil)))) (pg_tup rfl (pgs_cons (pg_name (i := 14) scTime.nd rfl (Or.inl rfl)) (pgs_cons (pg_name (i := 15) scTime.nd rfl (Or.inl rfl)) pgs_nil)))) hL)))
    (pss_one (ps_ret pe_bl)))))), ?_⟩
  have bm : -(2 ^ 64) < n.miss ∧ n.miss < 2 ^ 64 := ⟨by omega, by omega⟩
  refine ⟨_, rfl, nu, _, rfl, SqT.of hnu, rfl, _, _, rfl, _, _, rfl, _, _, rfl, rfl, ?_⟩
  refine ⟨_, rfl, _, rfl, rfl, rfl, n.hold, n.miss, rfl, bm, ?_⟩
  rw [rN_eq hN]
  refine ⟨_, rfl, _, rfl, _, _, rfl, rfl, _, rfl, _, _, rfl, rfl, _, _, rfl, rfl, ?_⟩
  show _
  refine ⟨one_, fun p1 hp1 => ?_⟩
  have s1 := same_new hp1 (.lst [.int 1])
  refine ⟨_, rfl, x, dx0, _, rfl, s1 _ _ hx0, wf_none (by decide +kernel), x, n, s0, g, rfl, go.way.keep s1, hN, go.ok, ?_, ?_⟩
  · intro z
    rw [plain_of hN go.ok pl] at z
    cases z
  intro _ du H2 ndu s2 e2
  refine ⟨du, _, rfl, .inl (SqL.of e2), ?_⟩
  rw [List.length_map]
  have hol := owed_len s0
  refine ⟨p1, _, _, rfl, rfl, s2 _ _ upd_same, by omega, by omega, Nat.le_trans (m := 2) (by show 1 * _ ≤ 2; omega) (by decide), fun bg hbg => ⟨_, _, rfl, ?_⟩⟩
  have s3 := same_new hbg (.lst (List.replicate ((owedB s0).length : Int).toNat [V.int 1]).flatten)
  have e3 : Ints (upd H2 bg (.lst (List.replicate ((owedB s0).length : Int).toNat [V.int 1]).flatten)) bg (List.replicate (owedB s0).length 1) := by
    show _ = _
    rw [upd_same, Int.toNat_natCast, rep_ones]
  have s03 := s1.trans (s2.trans s3)
  have nbg : H bg = none := (s1.trans s2).free hbg
  clear s3
  generalize upd H2 bg _ = H3 at *
  refine ⟨150, rfl, by decide, by decide, ?_⟩
  refine for_range (lo := 0) (n := 150) (fun j σ H' => ∃ (bg : Addr) (e : Int) (z12 z13 z14 z15 : Option V), σ = [some (.ref b), some (.ref x), some (.ref r), some (.ref nu), some (.int habit), some (.int n.hold), some (.int n.miss), some (.int n.bound), some (.int (rN_ n : Int)), some (.int (soonB n)), some (.ref bg), some (.int e), z12, z13, z14, z15] ∧ Ks [b, x, r] H H' ∧ H bg = none ∧ ∃ st g bs, Go C H' b x r (k + 750 - 3 * j) n st g ∧ Plain n st ∧ 0 ≤ g.1 ∧ 0 ≤ g.2 ∧ Ints H' bg bs ∧ InT n (0 + j) e st g ∧ Beg n (0 + j) e st bs)
    ⟨bg, 1, _, _, _, _, rfl, Same.ks s03, nbg, s0, g, _, ⟨go.bag.keep s03, go.way.keep s03, s03 _ _ go.run, go.ok, go.g0, go.g1⟩, pl, a0, a1, e3, InT.first hN, by rw [show (0 : Int) + ((0 : Nat) : Int) = 0 from rfl]; exact Beg.first hN⟩ ?_ ?_
  · rintro j σ H4 hj ⟨bg, e, z12, z13, z14, z15, rfl, k4, nbg, st, g, bs, go4, pl4, c0, c1, hb4, inT, beg⟩
    obtain ⟨dx, ka, ga, hx, hK, hg⟩ := id go4.way
    have nbr : ∀ {a : Addr}, a ≠ b → a ≠ r → a ∉ [b, r] := fun h1 h2 z => by
      rcases List.mem_cons.mp z with z | z
      · exact h1 z
      · exact h2 (List.mem_singleton.mp z)
    have loose : Loose H4 [b, r] := by
      obtain ⟨_, h⟩ := go4.bag.lst
      exact .cons h (by intro _ z; cases z) (.cons go4.run (by intro _ z; cases z) .nil)
    refine ⟨_, rfl, _, rfl, _, rfl, _, rfl, _, rfl, b, x, r, n, k + 750 - 3 * (j + 1) + 1, st, g, habit, rfl, go4.bag.less (by omega), go4.way, go4.run, hm0, fun gh H5 l ks5 B5 R5 ngh e5 l0 l1 => ?_⟩
    obtain ⟨lt0, lt1⟩ := lost_lt (s := st) (l := l) hm0 go4.g1 l0 l1
    refine ⟨_, rfl, x, dx, _, rfl, ks5 _ _ (nbr bx.symm rx.symm) hx, wf_none (by decide +kernel), _, rfl, _, rfl, b, n.bound, k + 750 - 3 * (j + 1), rfl, B5, by omega, by omega, fun wd H6 k6 B6 wd0 wd1 => ⟨_, rfl, rfl, ?_⟩⟩
    have k56 : Ks [b, r] H4 H6 := ks5.trans (k6.ks (by simp))
    have t6 := k56.tups loose
    have W6 : WayAt C H6 x n st g := ⟨dx, ka, ga, k56 _ _ (nbr bx.symm rx.symm) hx, hK.keep t6, t6 _ _ hg⟩
    have R6 : RunAt H6 r (goneB st g l) := k6 _ _ br.symm R5
    have e6 : H6 gh = some (.tup [.bl l.1, .bl l.2]) := k6 _ _ (go4.bag.ne ngh) e5
    have hwd : ∀ i, some wd = some i → 0 ≤ i ∧ i < n.bound := fun i z => by cases z; exact ⟨wd0, wd1⟩
    refine ⟨x, gh, n, st, g, ⟨some wd, true, l⟩, rfl, W6, hN, go4.ok, .inl (.inl e6), hwd, lt0, lt1, fun td H7 k7 W7 ntd e7 => ?_⟩
    rw [told_w] at e7
    refine ⟨td, _, rfl, SqT.of e7, rfl, _, _, rfl, _, _, rfl, rfl, ?_⟩
    obtain ⟨d0, d1⟩ := gone_nn (s := st) (l := l) c0 c1
    have k47 : Ks [b, x, r] H4 H7 := (k56.mono fun a ha => by rcases List.mem_cons.mp ha with z | z; simp [z]; rw [List.mem_singleton.mp z]; simp).trans (k7.ks (by simp))
    have n3 : bg ∉ [b, x, r] := fun z => by
      obtain ⟨f1, f2, f3⟩ := free nbg
      rcases List.mem_cons.mp z with z | z
      · exact f1 z
      · rcases List.mem_cons.mp z with z | z
        · exact f2 z
        · exact f3 (List.mem_singleton.mp z)
    obtain ⟨inT', beg'⟩ := word_step (w := wd) (l := l) hN go4.ok pl4 c0 c1 go4.g0 go4.g1 inT beg
    refine leafL bg (k + 750 - 3 * (j + 1)) st (beatB n st ⟨some wd, true, l⟩) g (goneB st g l) bs (0 + j) e H7 _ _ ⟨B6.keepX k7 bx, W7, k7 _ _ rx R6, beat_ok hN go4.ok hwd, lt0, lt1⟩ (k47 _ _ n3 hb4) nbg (k4.trans k47) c0 c1 go4.g0 go4.g1 inT beg fun H8 bg' z15 nbg' go8 k8 hb8 => ?_
    refine ⟨bg', _, _, _, _, _, rfl, k8, nbg', _, _, _, go8, plain_step hN go4.ok pl4, d0, d1, hb8, ?_, ?_⟩
    · rw [show (0 : Int) + ((j + 1 : Nat) : Int) = 0 + (j : Int) + 1 by omega]
      exact inT'
    · rw [show (0 : Int) + ((j + 1 : Nat) : Int) = 0 + (j : Int) + 1 by omega]
      exact beg'
  · rintro σ H4 ⟨bg, e, z12, z13, z14, z15, rfl, k4, nbg, st, g, bs, go4, pl4, c0, c1, hb4, inT, beg⟩
    exact q H4 k4 (go4.bag.less (by omega))
end
end Any
namespace Any
open L2 PySem PySem.Spec PyProof.Rows
theorem miss_sq {n : Num} (hN : NumOk n) : n.miss * n.miss + 4 * n.hold = ((mN_ n * mN_ n + 4 * hN_ n : Nat) : Int) ∧ mN_ n * mN_ n + 4 * hN_ n ≤ 40 := by
  have h0 := hN.h0
  have h1 := hN.h1
  have m0 := hN.m0
  have m1 := hN.m1
  have a : (mN_ n : Int) = n.miss := by unfold mN_; omega
  have b : (hN_ n : Int) = n.hold := by unfold hN_; omega
  constructor
  · rw [Int.natCast_add, Int.natCast_mul, Int.natCast_mul, a, b]
    rfl
  · have c : mN_ n ≤ 4 := by omega
    have d : mN_ n * mN_ n ≤ 4 * 4 := Nat.mul_le_mul c c
    omega
theorem plain_start (n : Num) : Plain n sto0 := ⟨[], 0, [], 0, (fun z => by cases z), ⟨rfl, fun e he => by cases he⟩, ⟨rfl, fun e he => by cases he⟩, .inl ⟨rfl, rfl⟩⟩
abbrev sLaw : Stmt := top 35
abbrev nmLaw : List Str := ["_law_script", "_law_at", "_law_bag_here", "_law_habit", "_law_size", "_law_gap", "_law_top", "_law_way", "_law_runs", "_law_k", "_law_gone_here"]
theorem scLaw : FnScope nmLaw ["_law_script"] (defScope sLaw) := ⟨rfl, rfl, rfl, by decide +kernel, rfl, by decide +kernel, by decide +kernel⟩
def spLaw (K : PySem.W.Frag) : Sp := fun vs H Q _ => ∃ (a : Addr) (ns : List Int), vs = [.ref a] ∧ SqL K H a (ns.map V.int) ∧ ns.length ≤ 63 ∧ ∀ H', Q (.bl true) H'
section
variable {P : Program} {w : World} {K : PySem.W.Frag} {mg : Str → Option Value} {base : Heap} {f C : Addr} {fd : FuncData}
set_option maxHeartbeats 4000000 in
theorem ok_law (O : Own mg) (W : WayD P w K mg base C) (WP : Mf0 P w K mg base C 2 "is_plain" ["self"] [] (spIsPlain C)) (WS : Mf P w K mg base C 7 "spoil" ["self", "store"] (spSpoil C)) (WM : MkK P w K mg base 3 "Way" C 1 ["self", "hold", "miss", "bound"] ["miss", "bound"] (fun vs zs => vs ++ zs) (spInit C)) (F : Fun K "law" "law" sLaw f fd)
    (D1 : Df P w K mg base 1 "_law_bag" ["_law_script", "_law_at"] (spBag K)) (D2 : Df P w K mg base 1 "_law_take" ["_law_bag_here", "_law_many"] spTake) (D3 : Df P w K mg base 2 "_law_store" psLS spLStore) (D4 : Df P w K mg base 3 "_law_lost_by" psLostW (spLostW C)) (D5 : Df P w K mg base 5 "_law_in_time" psTime (spTime C)) :
    FnG P w K mg base CX0 9 f fd ["_law_script"] (spLaw K) := by
  refine fun_g F scLaw (fun vs H Q E h => ?_) (fun cdv A outer s H vs Q E hG hr h => ?_)
  · obtain ⟨a, ns, rfl, _⟩ := h
    rfl
  obtain ⟨a, ns, rfl, hS, h63, q⟩ := h
  have hr1 := hr.mono (show 1 ≤ 8 by decide)
  have hr2 := hr.mono (show 2 ≤ 8 by decide)
  have hr3 := hr.mono (show 3 ≤ 8 by decide)
  have hr4 := hr.mono (show 4 ≤ 8 by decide)
  have hr5 := hr.mono (show 5 ≤ 8 by decide)
  let X := (cxOf CX0 P w K mg base nmLaw "law" (defScope sLaw) f cdv A outer s H E).nox
  -- the end of a turn
  obtain ⟨tE, hE, leafE⟩ : ∃ t, PSs X ((forBody (stAt (forBody (stAt (defBody sLaw) 0)) 1)).drop 3) t ∧ ∀ (b x r : Addr) (n : Num) (k : Nat) (st : Sto) (g : Int × Int) (H8 : Hp) (z1 z9 z10 : Option V) (hb : Int) (D : Ends), NumOk n → Same H H8 → Go C H8 b x r (k + 750) n st g → Plain n st → 0 ≤ g.1 → 0 ≤ g.2 → H b = none → H x = none → H r = none →
      (∀ H', Same H H' → Bag H' b k → D.nx [some (.ref a), z1, some (.ref b), some (.int hb), some (.int n.hold), some (.int n.miss), some (.int n.bound), some (.ref x), some (.ref r), z9, z10] H') →
      t D [some (.ref a), z1, some (.ref b), some (.int hb), some (.int n.hold), some (.int n.miss), some (.int n.bound), some (.ref x), some (.ref r), z9, z10] H8 := by
    refine ⟨_, pss_one (ps_if (pt_not (pt_val (pe_D D5 hr5 rfl (pa_cons (pv 2) (pa_cons (pv 7) (pa_cons (pv 8) (pa_cons (pe_tup (pa_cons (pv 4) (pa_cons (pv 5) (pa_cons (pv 6) pa_nil)))) (pa_cons (pv 3) pa_nil)))))))) (pss_one (ps_ret pe_bl)) pss_nil), ?_⟩
    intro b x r n k st g H8 z1 z9 z10 hb D hN s8 go pl a0 a1 nb0 nx0 nr0 nx
    obtain ⟨dx, ka, ga, hx, hK, hg⟩ := id go.way
    have none3 : ∀ a ∈ [b, x, r], H a = none := fun a ha => by
      rcases List.mem_cons.mp ha with z | ha
      · rw [z]; exact nb0
      · rcases List.mem_cons.mp ha with z | ha
        · rw [z]; exact nx0
        · rw [List.mem_singleton.mp ha]; exact nr0
    refine ⟨_, rfl, _, rfl, _, rfl, _, rfl, _, rfl, _, rfl, three, fun nu hnu => ?_⟩
    have s9 := same_new hnu (.tup [.int n.hold, .int n.miss, .int n.bound])
    refine ⟨_, rfl, b, x, r, nu, k, n, st, g, hb, rfl, upd_same, hN, ⟨go.bag.keep s9, go.way.keep s9, s9 _ _ go.run, go.ok, go.g0, go.g1⟩, pl, a0, a1, fun H10 k10 B10 => ⟨_, rfl, itF rfl ?_⟩⟩
    exact nx H10 (Same.since (s8.trans s9) k10 none3) B10
  refine ⟨_, pss_cons (ps_for PassesOwn.never rfl (pi_range1 rfl O.range (pa_cons (pe_callB (call_max2 rfl) rfl O.max (by decide +kernel) (pa_cons pe_int (pa_cons (pe_callB (call_min2 rfl) rfl O.min (by decide +kernel) (pa_cons pe_int (pa_cons (pe_callB call_len_seq rfl O.len PySem.boot_len (pa_cons (pv 0) pa_nil)) pa_nil))) pa_nil))) pa_nil))
      (pg_name (i := 1) scLaw.nd rfl (Or.inl rfl))
      (pss_cons (ps_set (i := 2) scLaw.nd rfl (Or.inl rfl) (pe_D D1 hr1 rfl (pa_cons (pv 0) (pa_cons (pv 1) pa_nil))))
      (pss_one (ps_for PassesOwn.never rfl (pi_range1 rfl O.range (pa_cons pe_int pa_nil)) (pg_name (i := 3) scLaw.nd rfl (Or.inl rfl))
        (pss_cons (ps_par3 (i := 4) (j := 5) (l := 6) (by rfl) scLaw.nd rfl rfl rfl (by decide) (by decide) (by decide) rfl rfl rfl (pa_cons (pe_op op_add pe_int (pe_D D2 hr1 rfl (pa_cons (pv 2) (pa_cons pe_int pa_nil)))) (pa_cons (pe_op op_add pe_int (pe_D D2 hr1 rfl (pa_cons (pv 2) (pa_cons pe_int pa_nil)))) (pa_cons (pe_op op_add pe_int (pe_D D2 hr1 rfl (pa_cons (pv 2) (pa_cons pe_int pa_nil)))) pa_nil))) (by rfl))
        (pss_cons (ps_par (i := 7) (j := 8) (by rfl) scLaw.nd rfl rfl (by decide) rfl rfl (pa_cons (pe_CK WM (hr.mono (by decide)) rfl (pa_cons (pv 4) pa_nil) (pk_cons (pv 5) (pk_cons (pv 6) pk_nil))) (pa_cons (pe_lst (pa_cons pe_int (pa_cons pe_int pa_nil))) pa_nil)) (by rfl))
        (pss_cons (ps_if (pt_cmpR op_gt (pe_D D2 hr1 rfl (pa_cons (pv 2) (pa_cons pe_int pa_nil))) pe_int (nomark _))
          (pss_cons (ps_expr (pe_M WS W.cls.cl (pv 7) (hr.mono (by decide)) (pa_cons (pe_D D3 hr2 rfl (pa_cons (pv 2) (pa_cons (pv 4) (pa_cons (pv 6) pa_nil)))) pa_nil)))
          (pss_one (ps_for PassesOwn.never rfl (pi_range1 rfl O.range (pa_cons (pe_op op_add (pe_op op_mul (pv 5) (pv 5)) (pe_op op_mul pe_int (pv 4))) pa_nil)) (pg_name (i := 9) scLaw.nd rfl (Or.inl rfl))
            (pss_cons (ps_set (i := 10) scLaw.nd rfl (Or.inl rfl) (pe_D D4 hr3 rfl (pa_cons (pv 2) (pa_cons (pv 7) (pa_cons (pv 8) (pa_cons (pv 5) (pa_cons (pv 3) pa_nil)))))))
            (pss_one (ps_expr (pe_MK W.beatA W.cls.cl (pv 7) hr4 (pk_cons (pe_D D2 hr1 rfl (pa_cons (pv 2) (pa_cons (pv 6) pa_nil))) (pk_cons (pe_cmpR op_eq (pe_D D2 hr1 rfl (pa_cons (pv 2) (pa_cons pe_int pa_nil))) pe_int (nomark _)) (pk_cons (pv 10) pk_nil))))))))))
          pss_nil)
        hE)))))))
    (pss_one (ps_ret pe_bl)), ?_⟩
  refine ⟨_, rfl, a, _, rfl, .inl hS, _, _, rfl, _, _, rfl, _, rfl, ?_, ?_, ?_⟩
  · split <;> (try split) <;> omega
  · rw [List.length_map]
    split <;> (try split) <;> omega
  refine for_range (lo := 0) (fun i σ H' => ∃ x1 x2 x3 x4 x5 x6 x7 x8 x9 x10 : Option V, σ = [some (.ref a), x1, x2, x3, x4, x5, x6, x7, x8, x9, x10] ∧ Same H H') ⟨_, _, _, _, _, _, _, _, _, _, rfl, same_refl⟩ ?_ (fun σ H' _ => q H')
  rintro i σ H1 hi ⟨x1, x2, x3, x4, x5, x6, x7, x8, x9, x10, rfl, s1⟩
  have hi6 : i < 6 := by
    rw [List.length_map] at hi
    split at hi <;> (try split at hi) <;> omega
  refine ⟨_, rfl, _, rfl, a, ns, _, rfl, s1.seq hS, by omega, by omega, fun b H2 nb s2 B2 => ?_⟩
  have nb0 : H b = none := s1.free nb
  have s2 := s1.trans s2
  refine ⟨4, rfl, by decide, by decide, ?_⟩
  refine for_range (lo := 0) (n := 4) (fun i2 σ H' => ∃ y3 y4 y5 y6 y7 y8 y9 y10 : Option V, σ = [some (.ref a), some (.int (0 + i)), some (.ref b), y3, y4, y5, y6, y7, y8, y9, y10] ∧ Same H H' ∧ Bag H' b (999999 - 10000 * i2)) ⟨_, _, _, _, _, _, _, _, rfl, s2, B2.less (by decide)⟩ ?_ ?_
  · rintro i2 σ Ha hi2 ⟨y3, y4, y5, y6, y7, y8, y9, y10, rfl, sa, Ba⟩
    refine ⟨_, rfl, b, 6, 999999 - 10000 * i2 - 1, rfl, Ba.less (by omega), by decide, by decide, fun d3 H3 k3 B3 d30 d31 => ⟨_, _, rfl, rfl, ?_⟩⟩
    refine ⟨_, rfl, b, 4, 999999 - 10000 * i2 - 2, rfl, B3.less (by omega), by decide, by decide, fun d4 H4 k4 B4 d40 d41 => ⟨_, _, rfl, rfl, ?_⟩⟩
    refine ⟨_, rfl, b, 40, 999999 - 10000 * i2 - 3, rfl, B4.less (by omega), by decide, by decide, fun d5 H5 k5 B5 d50 d51 => ⟨_, _, rfl, rfl, _, _, _, rfl, ?_⟩⟩
    have s5 : Same H H5 := Same.since sa ((k3.trans (k4.trans k5)).ks (S := [b]) (by simp)) (fun a ha => by rw [List.mem_singleton.mp ha]; exact nb0)
    let n : Num := ⟨1 + d3, 1 + d4, 1 + d5⟩
    have hN : NumOk n := ⟨by show 1 ≤ 1 + d3; omega, by show 1 + d3 ≤ 6; omega, by show 1 ≤ 1 + d4; omega, by show 1 + d4 ≤ 4; omega, by show 1 ≤ 1 + d5; omega, by show 1 + d5 ≤ 40; omega⟩
    refine ⟨_, rfl, _, rfl, _, rfl, rfl, rfl, fun x dx hx hdx nex => ?_⟩
    have s6 : Same H5 (upd (upd H5 dx (.own x)) x (.ins C dx [])) := (same_new hdx _).trans (same_new (by rw [upd_ne nex.symm]; exact hx) _)
    refine ⟨x, dx, n, rfl, hN, upd_same, fun H7 k7 W7 => ⟨rfl, ?_⟩⟩
    have nx0 : H x = none := s5.free hx
    have B6 := B5.keep s6
    have bx : b ≠ x := by
      obtain ⟨_, _, _, h1, _⟩ := B5
      exact ne_of_none h1 hx
    have B7 : Bag H7 b (999999 - 10000 * i2 - 3) := B6.keepX k7 bx
    have s7 : Same H H7 := Same.since (s5.trans s6) (k7.ks (S := [x]) (by simp)) (fun a ha => by rw [List.mem_singleton.mp ha]; exact nx0)
    refine ⟨two, fun r hr8 => ⟨_, _, rfl, ?_⟩⟩
    have sr := same_new hr8 (.lst [.int 0, .int 0])
    have nr0 : H r = none := s7.free hr8
    have rx : r ≠ x := by
      obtain ⟨dx, ka, ga, h1, _⟩ := W7
      exact fun z => by rw [z, h1] at hr8; cases hr8
    have br : b ≠ r := by
      obtain ⟨_, _, _, h1, _⟩ := B7
      exact ne_of_none h1 hr8
    have B8 := B7.keep sr
    have W8 := W7.keep sr
    have R8 : RunAt (upd H7 r (.lst [.int 0, .int 0])) r (0, 0) := upd_same
    have s8 := s7.trans sr
    clear sr
    generalize upd H7 r (.lst [.int 0, .int 0]) = H8 at *
    have hm0 := hN.m0
    have hm1 := hN.m1
    have hb0 := hN.b0
    have hb1 := hN.b1
    have none3 : ∀ a ∈ [b, x, r], H a = none := fun a ha => by
      rcases List.mem_cons.mp ha with z | ha
      · rw [z]; exact nb0
      · rcases List.mem_cons.mp ha with z | ha
        · rw [z]; exact nx0
        · rw [List.mem_singleton.mp ha]; exact nr0
    refine ⟨_, rfl, b, 3, 999999 - 10000 * i2 - 4, rfl, B8.less (by omega), by decide, by decide, fun e1 H8' k8' B8' _ _ => ⟨_, _, rfl, rfl, _, rfl, ?_⟩⟩
    have s8' : Same H H8' := Same.since s8 (k8'.ks (S := [b]) (by simp)) (fun a ha => by rw [List.mem_singleton.mp ha]; exact nb0)
    have W8' : WayAt C H8' x n sto0 (0, 0) := by
      have t8 := B8.tups k8'
      obtain ⟨dx, ka, ga, hx, hS8, hg⟩ := W8
      exact ⟨dx, ka, ga, k8' _ _ bx.symm hx, hS8.keep t8, t8 _ _ hg⟩
    have R8' : RunAt H8' r (0, 0) := k8' _ _ br.symm R8
    clear s8 W8 R8 B8 k8'
    have s8 := s8'
    have W8 := W8'
    have R8 := R8'
    have B8 := B8'
    clear s8' W8' R8' B8'
    refine itD (fun c => ?_) (fun c => ?_)
    · obtain ⟨dx', ka, ga, hx8, hS8, hg8⟩ := id W8
      refine ⟨_, rfl, x, dx', _, rfl, hx8, wf_none (by decide +kernel), _, rfl, _, rfl, _, rfl, b, n, 999999 - 10000 * i2 - 64, rfl, B8.less (by omega), hN, fun p9 H9 s' k9 B9 np9 hst ok' => ?_⟩
      have t9 := B8.tups k9
      have hx9 := k9 _ _ bx.symm hx8
      have R9 : RunAt H9 r (0, 0) := k9 _ _ br.symm R8
      have s9 : Same H H9 := Same.since s8 (k9.ks (S := [b]) (by simp)) (fun a ha => by rw [List.mem_singleton.mp ha]; exact nb0)
      refine ⟨x, p9, n, s', rfl, ⟨dx', ka, ga, hx9⟩, hN, hst, ok', fun H10 k10 W10 _ => ?_⟩
      have s10 : Same H H10 := Same.since s9 (k10.ks (S := [x]) (by simp)) (fun a ha => by rw [List.mem_singleton.mp ha]; exact nx0)
      have B10 := B9.keepX k10 bx
      have R10 : RunAt H10 r (0, 0) := k10 _ _ rx R9
      obtain ⟨sq, sq40⟩ := miss_sq hN
      refine ⟨_, rfl, _, rfl, _, _, rfl, rfl, .inl ⟨by omega, by omega⟩, _, rfl, _, _, rfl, rfl, .inl ⟨by decide, by decide⟩, _, _, rfl, rfl, _, rfl, ?_, ?_, ?_⟩
      · show -2 ^ 62 ≤ n.miss * n.miss + 4 * n.hold
        omega
      · show n.miss * n.miss + 4 * n.hold < 2 ^ 62
        omega
      rw [show (((1 + d4) * (1 + d4) + 4 * (1 + d3) : Int)).toNat = mN_ n * mN_ n + 4 * hN_ n by rw [show (1 + d4) * (1 + d4) + 4 * (1 + d3) = n.miss * n.miss + 4 * n.hold from rfl, sq]; rfl]
      refine for_range (lo := 0) (fun j σ H' => ∃ z10 z11 : Option V, σ = [some (.ref a), some (.int (0 + i)), some (.ref b), some (.int (0 + i2)), some (.int n.hold), some (.int n.miss), some (.int n.bound), some (.ref x), some (.ref r), z10, z11] ∧ Same H H' ∧ ∃ st g, Go C H' b x r (999999 - 10000 * i2 - 64 - 5 * j) n st g ∧ 0 ≤ g.1 ∧ 0 ≤ g.2 ∧ Stg n j st g)
        ⟨_, _, rfl, s10, s', (0, 0), ⟨B10.less (by omega), W10, R10, ok', by show (0 : Int) < _; omega, by show (0 : Int) < _; omega⟩, by decide, by decide, Stg.first hN ok'⟩ ?_ ?_
      · rintro j σ H12 hj ⟨z10, z11, rfl, s12, st, g, go, a0, a1, sg⟩
        obtain ⟨dx, ka, ga, hx, hK, hg⟩ := id go.way
        refine ⟨_, rfl, _, rfl, _, rfl, _, rfl, _, rfl, b, x, r, n, 999999 - 10000 * i2 - 64 - 5 * j - 2, st, g, (0 + i2), rfl, go.bag.less (by omega), go.way, go.run, hm0, fun gh H13 l ks13 B13 R13 ngh e13 l0 l1 => ?_⟩
        obtain ⟨lt0, lt1⟩ := lost_lt (s := st) (l := l) hm0 go.g1 l0 l1
        have nbr : ∀ {a : Addr}, a ≠ b → a ≠ r → a ∉ [b, r] := fun h1 h2 z => by
          rcases List.mem_cons.mp z with z | z
          · exact h1 z
          · exact h2 (List.mem_singleton.mp z)
        have loose : Loose H12 [b, r] := by
          obtain ⟨_, h⟩ := go.bag.lst
          exact .cons h (by intro _ z; cases z) (.cons go.run (by intro _ z; cases z) .nil)
        have hx13 := ks13 _ _ (nbr bx.symm rx.symm) hx
        refine ⟨_, rfl, x, dx, _, rfl, hx13, wf_none (by decide +kernel), _, rfl, _, rfl, b, n.bound, 999999 - 10000 * i2 - 64 - 5 * j - 3, rfl, B13.less (by omega), by omega, by omega, fun wd H14 k14 B14 wd0 wd1 => ?_⟩
        refine ⟨_, rfl, b, 2, 999999 - 10000 * i2 - 64 - 5 * j - 4, rfl, B14.less (by omega), by decide, by decide, fun d2 H15 k15 B15 _ _ => ⟨rfl, _, rfl, rfl, ?_⟩⟩
        have k1315 : Kept b H13 H15 := k14.trans k15
        have k12 : Ks [b, r] H12 H15 := ks13.trans (k1315.ks (by simp))
        have t15 := k12.tups loose
        have W15 : WayAt C H15 x n st g := ⟨dx, ka, ga, k12 _ _ (nbr bx.symm rx.symm) hx, hK.keep t15, t15 _ _ hg⟩
        have R15 : RunAt H15 r (goneB st g l) := k1315 _ _ br.symm R13
        have e15 : H15 gh = some (.tup [.bl l.1, .bl l.2]) := k1315 _ _ (go.bag.ne ngh) e13
        have hwd : ∀ i, some wd = some i → 0 ≤ i ∧ i < n.bound := fun i z => by cases z; exact ⟨wd0, wd1⟩
        refine ⟨x, gh, n, st, g, ⟨some wd, decide (V.int d2 = V.int 0), l⟩, rfl, W15, hN, go.ok, .inl (.inl e15), hwd, lt0, lt1, fun td H16 k16 W16 ntd e16 => ?_⟩
        obtain ⟨c0, c1⟩ := gone_nn (s := st) (l := l) a0 a1
        have k1216 : Ks [b, x, r] H12 H16 := (k12.mono fun a ha => by rcases List.mem_cons.mp ha with z | z; simp [z]; rw [List.mem_singleton.mp z]; simp).trans (k16.ks (by simp))
        exact ⟨_, _, rfl, Same.since s12 k1216 none3, _, _, ⟨(B15.keepX k16 bx).less (by omega), W16, k16 _ _ rx R15, beat_ok hN go.ok hwd, lt0, lt1⟩, c0, c1, sg.step hN go.ok a0 a1 go.g0 go.g1⟩
      · rintro σ H12 ⟨z10, z11, rfl, s12, st, g, go, a0, a1, sg⟩
        have pl := sg.end_ hN a0 a1 go.g0 go.g1
        refine leafE b x r n (999999 - 10000 * (i2 + 1)) st g H12 _ _ _ _ _ hN s12 ⟨go.bag.less (by omega), go.way, go.run, go.ok, go.g0, go.g1⟩ pl a0 a1 nb0 nx0 nr0 fun H' s' B' => ?_
        exact ⟨_, _, _, _, _, _, _, _, rfl, s', B'⟩
    · refine leafE b x r n (999999 - 10000 * (i2 + 1)) sto0 (0, 0) _ _ _ _ _ _ hN s8 ⟨B8.less (by omega), W8, R8, sto0_ok hN, by show (0 : Int) < _; omega, by show (0 : Int) < _; omega⟩ (plain_start n) (by decide) (by decide) nb0 nx0 nr0 fun H' s' B' => ?_
      exact ⟨_, _, _, _, _, _, _, _, rfl, s', B'⟩
  · rintro σ Ha ⟨y3, y4, y5, y6, y7, y8, y9, y10, rfl, sa, Ba⟩
    exact ⟨_, _, _, _, _, _, _, _, _, _, rfl, sa⟩
end
end Any
namespace Any
open L2 PySem PySem.Spec PyProof.Rows
abbrev psInit : List Str := ["self", "hold", "miss", "bound"]
abbrev kwsI : List (Str × V) := [("miss", .int 1), ("bound", .int 10)]
abbrev kwsB (lz : Addr) : List (Str × V) := [("word", .non), ("taking", .bl false), ("lost", .ref lz)]
section
variable {K : PySem.W.Frag} {f : Addr} {fd : FuncData}
theorem kb_init {kws : List (Str × V)} (F : FunD K "__init__" "Way.__init__" (defArgs sInit) (defBody sInit) (defScope sInit) [] kws f fd) : KBn K fd psInit 2 ["miss", "bound"] (fun us ws => us ++ ws) (fun us ws => us ++ ws) := by
  obtain ⟨oc, od, dV, kV, doc, pm, an, cdv, ct, osl, rfl, lk, hcd, hD, hK⟩ := F.ex
  have hd : dV = .none := hD.elim (fun z => z.2) (fun z => absurd rfl z.1)
  subst hd
  refine ⟨fun s us ws _ l1 l2 => ?_, fun r1 r2 => r1.append r2⟩
  match us, ws, l1, l2 with
  | [u1, u2], [w1, w2], _, _ => exact .of_eq rfl
theorem kb_beatA {kws : List (Str × V)} (F : FunD K "beat" "Way.beat" (defArgs sBeat) (defBody sBeat) (defScope sBeat) [] kws f fd) : KBn K fd psBeat 1 ["word", "taking", "lost"] (fun us ws => us ++ ws) (fun us ws => us ++ ws) := by
  obtain ⟨oc, od, dV, kV, doc, pm, an, cdv, ct, osl, rfl, lk, hcd, hD, hK⟩ := F.ex
  have hd : dV = .none := hD.elim (fun z => z.2) (fun z => absurd rfl z.1)
  subst hd
  refine ⟨fun s us ws _ l1 l2 => ?_, fun r1 r2 => r1.append r2⟩
  match us, ws, l1, l2 with
  | [u1], [w1, w2, w3], _, _ => exact .of_eq rfl
theorem kb_beatLW {lz : Addr} (F : FunD K "beat" "Way.beat" (defArgs sBeat) (defBody sBeat) (defScope sBeat) [] (kwsB lz) f fd) : ∃ mv : List Value, KBn K fd psBeat 1 ["lost", "word"] (fun us ws => us ++ ws.drop 1 ++ mv ++ ws.take 1) (fun vs zs => vs ++ zs.drop 1 ++ [.bl false] ++ zs.take 1) := by
  refine F.kbinds0 1 ["lost", "word"] [("taking", .bl false)] (fun us mv ws => us ++ ws.drop 1 ++ mv ++ ws.take 1) (by simp) (by simp) (fun r1 r2 r3 => ((r1.append (r3.drop 1)).append r2).append (r3.take 1)) fun D doc pm an cdv ct us mv ws l1 l2 l3 => ?_
  match us, mv, ws, l1, l2, l3 with
  | [u1], [m1], [w1, w2], _, _, _ => exact ⟨_, _, _, _, _, _, rfl, rfl, rfl⟩
theorem kb_beat0 {lz : Addr} (F : FunD K "beat" "Way.beat" (defArgs sBeat) (defBody sBeat) (defScope sBeat) [] (kwsB lz) f fd) : ∃ ds, Vals [.non, .bl false, .ref lz] ds ∧ Binds K fd psBeat ds := by
  refine F.binds0 1 (by simp) rfl fun D doc pm an cdv ct us ks l1 l2 => ?_
  match us, ks, l1, l2 with
  | [u1], [w1, w2, w3], _, _ => exact ⟨_, _, _, _, _, _, rfl, rfl, _, _, _, _, _, _, rfl, rfl, _, _, _, _, _, _, rfl, rfl, rfl⟩
end
end Any
namespace Any
open L2 PySem PySem.Spec PyProof.Rows
theorem all_mk {l : PySem.W.OpenLaw} {w : World} {K : PySem.W.Frag} {h : Heap} {mg : Str → Option Value} {fa C lz : Addr} (X : K.In h) (G : h.Ns mainGlobals mg) (hfa : mg "law" = some (.ref fa))
    {f1 f2 f3 f4 f5 f6 f7 f8 f9 f10 f11 f12 f13 f14 f15 f16 f17 f18 f19 f20 f21 f22 f23 f24 f25 f26 f27 f28 f29 f30 f31 D29 D30 D31 : Addr} {od1 an1 od2 an2 od3 an3 od4 an4 od5 an5 od6 an6 od7 an7 od8 an8 od9 an9 od10 an10 od11 an11 od12 an12 od13 an13 od14 an14 od15 an15 od16 an16 od17 an17 od18 an18 od19 an19 od20 an20 od21 an21 od22 an22 od23 an23 od24 an24 od25 an25 od26 an26 od27 an27 od28 an28 od29 an29 od30 an30 od31 an31 : Option Addr} {sl1 sl2 sl3 sl4 sl5 sl6 sl7 sl8 sl9 sl10 sl11 sl12 sl13 sl14 sl15 sl16 sl17 sl18 sl19 sl20 sl21 sl22 sl23 sl24 sl25 sl26 sl27 sl28 sl29 sl30 sl31 : Array (Option Value)}
    {oc1 kV1 dc1 pm1 cd1 ct1 oc2 kV2 dc2 pm2 cd2 ct2 oc3 kV3 dc3 pm3 cd3 ct3 oc4 kV4 dc4 pm4 cd4 ct4 oc5 kV5 dc5 pm5 cd5 ct5 oc6 kV6 dc6 pm6 cd6 ct6 oc7 kV7 dc7 pm7 cd7 ct7 oc8 kV8 dc8 pm8 cd8 ct8 oc9 kV9 dc9 pm9 cd9 ct9 oc10 kV10 dc10 pm10 cd10 ct10 oc11 kV11 dc11 pm11 cd11 ct11 oc12 kV12 dc12 pm12 cd12 ct12 oc13 kV13 dc13 pm13 cd13 ct13 oc14 kV14 dc14 pm14 cd14 ct14 oc15 kV15 dc15 pm15 cd15 ct15 oc16 kV16 dc16 pm16 cd16 ct16 oc17 kV17 dc17 pm17 cd17 ct17 oc18 kV18 dc18 pm18 cd18 ct18 oc19 kV19 dc19 pm19 cd19 ct19 oc20 kV20 dc20 pm20 cd20 ct20 oc21 kV21 dc21 pm21 cd21 ct21 oc22 kV22 dc22 pm22 cd22 ct22 oc23 kV23 dc23 pm23 cd23 ct23 oc24 kV24 dc24 pm24 cd24 ct24 oc25 kV25 dc25 pm25 cd25 ct25 oc26 kV26 dc26 pm26 cd26 ct26 oc27 kV27 dc27 pm27 cd27 ct27 oc28 kV28 dc28 pm28 cd28 ct28 oc29 dc29 pm29 cd29 ct29 oc30 dc30 pm30 cd30 ct30 oc31 dc31 pm31 cd31 ct31 : Value} {ot : Obj} {nt : Nat} {t1 t2 t3 tk29_0 tk29_1 tk31_0 : Tok}
    (aC : PySem.W.nsIn K mainGlobals "Way" = some (some (.ref C)))
    (a1 : PySem.W.nsIn K mainGlobals "is_whole" = some (some (.ref f1)))
    (l1 : K.lookup f1 = some ⟨oc1, od1, .func (PySem.W.fnOf "is_whole" "is_whole" (defArgs sWhole) (defBody sWhole) (defScope sWhole) .none kV1 dc1 pm1 an1 cd1 ct1), sl1⟩)
    (c1 : PySem.W.codeIn K cd1 "is_whole" = true)
    (k1 : PySem.W.keepIn K (.ref f1) = true)
    (a2 : PySem.W.nsIn K mainGlobals "is_within" = some (some (.ref f2)))
    (l2 : K.lookup f2 = some ⟨oc2, od2, .func (PySem.W.fnOf "is_within" "is_within" (defArgs sWithin) (defBody sWithin) (defScope sWithin) .none kV2 dc2 pm2 an2 cd2 ct2), sl2⟩)
    (c2 : PySem.W.codeIn K cd2 "is_within" = true)
    (k2 : PySem.W.keepIn K (.ref f2) = true)
    (a3 : PySem.W.nsIn K mainGlobals "put" = some (some (.ref f3)))
    (l3 : K.lookup f3 = some ⟨oc3, od3, .func (PySem.W.fnOf "put" "put" (defArgs sPut) (defBody sPut) (defScope sPut) .none kV3 dc3 pm3 an3 cd3 ct3), sl3⟩)
    (c3 : PySem.W.codeIn K cd3 "put" = true)
    (k3 : PySem.W.keepIn K (.ref f3) = true)
    (a4 : PySem.W.nsIn K mainGlobals "marks" = some (some (.ref f4)))
    (l4 : K.lookup f4 = some ⟨oc4, od4, .func (PySem.W.fnOf "marks" "marks" (defArgs sMarks) (defBody sMarks) (defScope sMarks) .none kV4 dc4 pm4 an4 cd4 ct4), sl4⟩)
    (c4 : PySem.W.codeIn K cd4 "marks" = true)
    (k4 : PySem.W.keepIn K (.ref f4) = true)
    (a5 : PySem.W.nsIn K mainGlobals "sender_behind" = some (some (.ref f5)))
    (l5 : K.lookup f5 = some ⟨oc5, od5, .func (PySem.W.fnOf "sender_behind" "sender_behind" (defArgs sSender) (defBody sSender) (defScope sSender) .none kV5 dc5 pm5 an5 cd5 ct5), sl5⟩)
    (c5 : PySem.W.codeIn K cd5 "sender_behind" = true)
    (k5 : PySem.W.keepIn K (.ref f5) = true)
    (a6 : PySem.W.nsIn K mainGlobals "taker_behind" = some (some (.ref f6)))
    (l6 : K.lookup f6 = some ⟨oc6, od6, .func (PySem.W.fnOf "taker_behind" "taker_behind" (defArgs sTaker) (defBody sTaker) (defScope sTaker) .none kV6 dc6 pm6 an6 cd6 ct6), sl6⟩)
    (c6 : PySem.W.codeIn K cd6 "taker_behind" = true)
    (k6 : PySem.W.keepIn K (.ref f6) = true)
    (a7 : PySem.W.nsIn K mainGlobals "row_behind" = some (some (.ref f7)))
    (l7 : K.lookup f7 = some ⟨oc7, od7, .func (PySem.W.fnOf "row_behind" "row_behind" (defArgs sRowB) (defBody sRowB) (defScope sRowB) .none kV7 dc7 pm7 an7 cd7 ct7), sl7⟩)
    (c7 : PySem.W.codeIn K cd7 "row_behind" = true)
    (k7 : PySem.W.keepIn K (.ref f7) = true)
    (a8 : PySem.W.nsIn K mainGlobals "is_word" = some (some (.ref f8)))
    (l8 : K.lookup f8 = some ⟨oc8, od8, .func (PySem.W.fnOf "is_word" "is_word" (defArgs sIsWord) (defBody sIsWord) (defScope sIsWord) .none kV8 dc8 pm8 an8 cd8 ct8), sl8⟩)
    (c8 : PySem.W.codeIn K cd8 "is_word" = true)
    (k8 : PySem.W.keepIn K (.ref f8) = true)
    (a9 : PySem.W.nsIn K mainGlobals "is_store" = some (some (.ref f9)))
    (l9 : K.lookup f9 = some ⟨oc9, od9, .func (PySem.W.fnOf "is_store" "is_store" (defArgs sIsStore) (defBody sIsStore) (defScope sIsStore) .none kV9 dc9 pm9 an9 cd9 ct9), sl9⟩)
    (c9 : PySem.W.codeIn K cd9 "is_store" = true)
    (k9 : PySem.W.keepIn K (.ref f9) = true)
    (a10 : PySem.W.nsIn K mainGlobals "is_mark" = some (some (.ref f10)))
    (l10 : K.lookup f10 = some ⟨oc10, od10, .func (PySem.W.fnOf "is_mark" "is_mark" (defArgs sIsMark) (defBody sIsMark) (defScope sIsMark) .none kV10 dc10 pm10 an10 cd10 ct10), sl10⟩)
    (c10 : PySem.W.codeIn K cd10 "is_mark" = true)
    (k10 : PySem.W.keepIn K (.ref f10) = true)
    (a11 : PySem.W.nsIn K mainGlobals "is_slot" = some (some (.ref f11)))
    (l11 : K.lookup f11 = some ⟨oc11, od11, .func (PySem.W.fnOf "is_slot" "is_slot" (defArgs sIsSlot) (defBody sIsSlot) (defScope sIsSlot) .none kV11 dc11 pm11 an11 cd11 ct11), sl11⟩)
    (c11 : PySem.W.codeIn K cd11 "is_slot" = true)
    (k11 : PySem.W.keepIn K (.ref f11) = true)
    (a12 : PySem.W.nsIn K mainGlobals "is_letters" = some (some (.ref f12)))
    (l12 : K.lookup f12 = some ⟨oc12, od12, .func (PySem.W.fnOf "is_letters" "is_letters" (defArgs sIsLet) (defBody sIsLet) (defScope sIsLet) .none kV12 dc12 pm12 an12 cd12 ct12), sl12⟩)
    (c12 : PySem.W.codeIn K cd12 "is_letters" = true)
    (k12 : PySem.W.keepIn K (.ref f12) = true)
    (a13 : PySem.W.nsIn K mainGlobals "is_echoes" = some (some (.ref f13)))
    (l13 : K.lookup f13 = some ⟨oc13, od13, .func (PySem.W.fnOf "is_echoes" "is_echoes" (defArgs sIsEch) (defBody sIsEch) (defScope sIsEch) .none kV13 dc13 pm13 an13 cd13 ct13), sl13⟩)
    (c13 : PySem.W.codeIn K cd13 "is_echoes" = true)
    (k13 : PySem.W.keepIn K (.ref f13) = true)
    (a14 : PySem.W.nsIn K mainGlobals "is_row_of_pairs" = some (some (.ref f14)))
    (l14 : K.lookup f14 = some ⟨oc14, od14, .func (PySem.W.fnOf "is_row_of_pairs" "is_row_of_pairs" (defArgs sIsRow) (defBody sIsRow) (defScope sIsRow) .none kV14 dc14 pm14 an14 cd14 ct14), sl14⟩)
    (c14 : PySem.W.codeIn K cd14 "is_row_of_pairs" = true)
    (k14 : PySem.W.keepIn K (.ref f14) = true)
    (a15 : PySem.W.nsIn K mainGlobals "_law_bag" = some (some (.ref f15)))
    (l15 : K.lookup f15 = some ⟨oc15, od15, .func (PySem.W.fnOf "_law_bag" "_law_bag" (defArgs sBag) (defBody sBag) (defScope sBag) .none kV15 dc15 pm15 an15 cd15 ct15), sl15⟩)
    (c15 : PySem.W.codeIn K cd15 "_law_bag" = true)
    (k15 : PySem.W.keepIn K (.ref f15) = true)
    (a16 : PySem.W.nsIn K mainGlobals "_law_take" = some (some (.ref f16)))
    (l16 : K.lookup f16 = some ⟨oc16, od16, .func (PySem.W.fnOf "_law_take" "_law_take" (defArgs sTake) (defBody sTake) (defScope sTake) .none kV16 dc16 pm16 an16 cd16 ct16), sl16⟩)
    (c16 : PySem.W.codeIn K cd16 "_law_take" = true)
    (k16 : PySem.W.keepIn K (.ref f16) = true)
    (a17 : PySem.W.nsIn K mainGlobals "_law_store" = some (some (.ref f17)))
    (l17 : K.lookup f17 = some ⟨oc17, od17, .func (PySem.W.fnOf "_law_store" "_law_store" (defArgs sLStore) (defBody sLStore) (defScope sLStore) .none kV17 dc17 pm17 an17 cd17 ct17), sl17⟩)
    (c17 : PySem.W.codeIn K cd17 "_law_store" = true)
    (k17 : PySem.W.keepIn K (.ref f17) = true)
    (a18 : PySem.W.nsIn K mainGlobals "_law_gone" = some (some (.ref f18)))
    (l18 : K.lookup f18 = some ⟨oc18, od18, .func (PySem.W.fnOf "_law_gone" "_law_gone" (defArgs sGone) (defBody sGone) (defScope sGone) .none kV18 dc18 pm18 an18 cd18 ct18), sl18⟩)
    (c18 : PySem.W.codeIn K cd18 "_law_gone" = true)
    (k18 : PySem.W.keepIn K (.ref f18) = true)
    (a19 : PySem.W.nsIn K mainGlobals "row_is_plain" = some (some (.ref f19)))
    (l19 : K.lookup f19 = some ⟨oc19, od19, .func (PySem.W.fnOf "row_is_plain" "row_is_plain" (defArgs sRowP) (defBody sRowP) (defScope sRowP) .none kV19 dc19 pm19 an19 cd19 ct19), sl19⟩)
    (c19 : PySem.W.codeIn K cd19 "row_is_plain" = true)
    (k19 : PySem.W.keepIn K (.ref f19) = true)
    (a20 : PySem.W.nsIn K mainGlobals "_law_lost_by" = some (some (.ref f20)))
    (l20 : K.lookup f20 = some ⟨oc20, od20, .func (PySem.W.fnOf "_law_lost_by" "_law_lost_by" (defArgs sLostW) (defBody sLostW) (defScope sLostW) .none kV20 dc20 pm20 an20 cd20 ct20), sl20⟩)
    (c20 : PySem.W.codeIn K cd20 "_law_lost_by" = true)
    (k20 : PySem.W.keepIn K (.ref f20) = true)
    (a21 : PySem.W.nsIn K mainGlobals "_law_in_time" = some (some (.ref f21)))
    (l21 : K.lookup f21 = some ⟨oc21, od21, .func (PySem.W.fnOf "_law_in_time" "_law_in_time" (defArgs sTime) (defBody sTime) (defScope sTime) .none kV21 dc21 pm21 an21 cd21 ct21), sl21⟩)
    (c21 : PySem.W.codeIn K cd21 "_law_in_time" = true)
    (k21 : PySem.W.keepIn K (.ref f21) = true)
    (a22 : PySem.W.nsIn K mainGlobals "law" = some (some (.ref f22)))
    (l22 : K.lookup f22 = some ⟨oc22, od22, .func (PySem.W.fnOf "law" "law" (defArgs sLaw) (defBody sLaw) (defScope sLaw) .none kV22 dc22 pm22 an22 cd22 ct22), sl22⟩)
    (c22 : PySem.W.codeIn K cd22 "law" = true)
    (k22 : PySem.W.keepIn K (.ref f22) = true)
    (a23 : PySem.W.findIn K (.ref C) "side_lost" = some (some (.ref f23)))
    (i23 : PySem.W.isFn K (.ref f23) = true)
    (l23 : K.lookup f23 = some ⟨oc23, od23, .func (PySem.W.fnOf "side_lost" "Way.side_lost" (defArgs sSide) (defBody sSide) (defScope sSide) .none kV23 dc23 pm23 an23 cd23 ct23), sl23⟩)
    (c23 : PySem.W.codeIn K cd23 "Way.side_lost" = true)
    (k23 : PySem.W.keepIn K (.ref f23) = true)
    (a24 : PySem.W.findIn K (.ref C) "gone_behind" = some (some (.ref f24)))
    (i24 : PySem.W.isFn K (.ref f24) = true)
    (l24 : K.lookup f24 = some ⟨oc24, od24, .func (PySem.W.fnOf "gone_behind" "Way.gone_behind" (defArgs sGoneB) (defBody sGoneB) (defScope sGoneB) .none kV24 dc24 pm24 an24 cd24 ct24), sl24⟩)
    (c24 : PySem.W.codeIn K cd24 "Way.gone_behind" = true)
    (k24 : PySem.W.keepIn K (.ref f24) = true)
    (a25 : PySem.W.findIn K (.ref C) "store" = some (some (.ref f25)))
    (i25 : PySem.W.isFn K (.ref f25) = true)
    (l25 : K.lookup f25 = some ⟨oc25, od25, .func (PySem.W.fnOf "store" "Way.store" (defArgs sStore) (defBody sStore) (defScope sStore) .none kV25 dc25 pm25 an25 cd25 ct25), sl25⟩)
    (c25 : PySem.W.codeIn K cd25 "Way.store" = true)
    (k25 : PySem.W.keepIn K (.ref f25) = true)
    (a26 : PySem.W.findIn K (.ref C) "spoil" = some (some (.ref f26)))
    (i26 : PySem.W.isFn K (.ref f26) = true)
    (l26 : K.lookup f26 = some ⟨oc26, od26, .func (PySem.W.fnOf "spoil" "Way.spoil" (defArgs sSpoil) (defBody sSpoil) (defScope sSpoil) .none kV26 dc26 pm26 an26 cd26 ct26), sl26⟩)
    (c26 : PySem.W.codeIn K cd26 "Way.spoil" = true)
    (k26 : PySem.W.keepIn K (.ref f26) = true)
    (a27 : PySem.W.findIn K (.ref C) "is_plain" = some (some (.ref f27)))
    (i27 : PySem.W.isFn K (.ref f27) = true)
    (l27 : K.lookup f27 = some ⟨oc27, od27, .func (PySem.W.fnOf "is_plain" "Way.is_plain" (defArgs sIsPlain) (defBody sIsPlain) (defScope sIsPlain) .none kV27 dc27 pm27 an27 cd27 ct27), sl27⟩)
    (c27 : PySem.W.codeIn K cd27 "Way.is_plain" = true)
    (k27 : PySem.W.keepIn K (.ref f27) = true)
    (a28 : PySem.W.findIn K (.ref C) "under_way" = some (some (.ref f28)))
    (i28 : PySem.W.isFn K (.ref f28) = true)
    (l28 : K.lookup f28 = some ⟨oc28, od28, .func (PySem.W.fnOf "under_way" "Way.under_way" (defArgs sUnder) (defBody sUnder) (defScope sUnder) .none kV28 dc28 pm28 an28 cd28 ct28), sl28⟩)
    (c28 : PySem.W.codeIn K cd28 "Way.under_way" = true)
    (k28 : PySem.W.keepIn K (.ref f28) = true)
    (a29 : PySem.W.findIn K (.ref C) "__init__" = some (some (.ref f29)))
    (i29 : PySem.W.isFn K (.ref f29) = true)
    (l29 : K.lookup f29 = some ⟨oc29, od29, .func (PySem.W.fnOf "__init__" "Way.__init__" (defArgs sInit) (defBody sInit) (defScope sInit) .none (.ref D29) dc29 pm29 an29 cd29 ct29), sl29⟩)
    (c29 : PySem.W.codeIn K cd29 "Way.__init__" = true)
    (k29 : PySem.W.keepIn K (.ref f29) = true)
    (w29_0 : PySem.W.nsIn K D29 "miss" = some (some (.int 1 tk29_0)))
    (w29_1 : PySem.W.nsIn K D29 "bound" = some (some (.int 10 tk29_1)))
    (a30 : PySem.W.findIn K (.ref C) "beat" = some (some (.ref f30)))
    (i30 : PySem.W.isFn K (.ref f30) = true)
    (l30 : K.lookup f30 = some ⟨oc30, od30, .func (PySem.W.fnOf "beat" "Way.beat" (defArgs sBeat) (defBody sBeat) (defScope sBeat) .none (.ref D30) dc30 pm30 an30 cd30 ct30), sl30⟩)
    (c30 : PySem.W.codeIn K cd30 "Way.beat" = true)
    (k30 : PySem.W.keepIn K (.ref f30) = true)
    (w30_0 : PySem.W.nsIn K D30 "word" = some (some .none))
    (w30_1 : PySem.W.nsIn K D30 "taking" = some (some (.bool false)))
    (w30_2 : PySem.W.nsIn K D30 "lost" = some (some (.ref lz)))
    (a31 : PySem.W.nsIn K mainGlobals "round_beats" = some (some (.ref f31)))
    (l31 : K.lookup f31 = some ⟨oc31, od31, .func (PySem.W.fnOf "round_beats" "round_beats" (defArgs sRB) (defBody sRB) (defScope sRB) .none (.ref D31) dc31 pm31 an31 cd31 ct31), sl31⟩)
    (c31 : PySem.W.codeIn K cd31 "round_beats" = true)
    (k31 : PySem.W.keepIn K (.ref f31) = true)
    (w31_0 : PySem.W.nsIn K D31 "miss" = some (some (.int 1 tk31_0)))
    (lt : K.lookup lz = some ot)
    (lc : ot.cls = .type "tuple")
    (ld : ot.data = .seq #[.bool false, .bool false] nt)
    (pg : PySem.W.plainGet K C Str.empty = true)
    (hd : PySem.W.hasDictIn K C = true)
    (po : PySem.W.plainOver K C = true)
    (mk : PySem.W.makesIn K C = true)
    (kc : PySem.W.keepIn K (.ref C) = true)
    (sa : PySem.W.findIn K (.ref C) "__setattr__" = some (some (.builtin "object.__setattr__")))
    (n_hold : PySem.W.findIn K (.ref C) "hold" = some none)
    (n_miss : PySem.W.findIn K (.ref C) "miss" = some none)
    (n_bound : PySem.W.findIn K (.ref C) "bound" = some none)
    (n_kept : PySem.W.findIn K (.ref C) "kept" = some none)
    (n_gone : PySem.W.findIn K (.ref C) "gone" = some none)
    (q1 : PySem.W.nsIn K mainGlobals "MOST_HOLD" = some (some (.int 6 t1)))
    (q2 : PySem.W.nsIn K mainGlobals "MOST_MISS" = some (some (.int 4 t2)))
    (q3 : PySem.W.nsIn K mainGlobals "MOST_BOUND" = some (some (.int 40 t3)))
    (z1 : PySem.W.nsIn K mainGlobals "isinstance" = some none)
    (z2 : PySem.W.nsIn K mainGlobals "int" = some none)
    (z3 : PySem.W.nsIn K mainGlobals "bool" = some none)
    (z4 : PySem.W.nsIn K mainGlobals "tuple" = some none)
    (z5 : PySem.W.nsIn K mainGlobals "len" = some none)
    (z6 : PySem.W.nsIn K mainGlobals "all" = some none)
    (z7 : PySem.W.nsIn K mainGlobals "abs" = some none)
    (z8 : PySem.W.nsIn K mainGlobals "range" = some none)
    (z9 : PySem.W.nsIn K mainGlobals "max" = some none)
    (z10 : PySem.W.nsIn K mainGlobals "min" = some none)
    (z11 : PySem.W.nsIn K mainGlobals "repr" = some none)
    (z12 : PySem.W.nsIn K mainGlobals "list" = some none)
    (z13 : PySem.W.nsIn K mainGlobals "sorted" = some none)
    :
    ∃ fd : FuncData, (∀ (s : Shared) (v : Value), BindsTo s fd ⟨[v], []⟩ [("_law_script", v)]) ∧ ∀ base : Heap, K.In base → base.Ns mainGlobals mg → FnG l.prog w K mg base CX0 9 fa fd ["_law_script"] (spLaw K) := by
  have e := hfa.symm.trans (PySem.W.mg_of X G a22)
  cases e
  have F1 := fun_mk (st := sWhole) l1 c1 k1
  have b1 := F1.binds (ps := ["thing"]) fun _ _ _ _ _ _ us hl => match us, hl with | [_], _ => rfl
  have m1 := PySem.W.mg_of X G a1
  have F2 := fun_mk (st := sWithin) l2 c2 k2
  have b2 := F2.binds (ps := ["thing", "least", "most"]) fun _ _ _ _ _ _ us hl => match us, hl with | [_, _, _], _ => rfl
  have m2 := PySem.W.mg_of X G a2
  have F3 := fun_mk (st := sPut) l3 c3 k3
  have b3 := F3.binds (ps := ["numbers", "at", "number"]) fun _ _ _ _ _ _ us hl => match us, hl with | [_, _, _], _ => rfl
  have m3 := PySem.W.mg_of X G a3
  have F4 := fun_mk (st := sMarks) l4 c4 k4
  have b4 := F4.binds (ps := ["hold"]) fun _ _ _ _ _ _ us hl => match us, hl with | [_], _ => rfl
  have m4 := PySem.W.mg_of X G a4
  have F5 := fun_mk (st := sSender) l5 c5 k5
  have b5 := F5.binds (ps := ["mark", "bears", "slot", "echoes", "many"]) fun _ _ _ _ _ _ us hl => match us, hl with | [_, _, _, _, _], _ => rfl
  have m5 := PySem.W.mg_of X G a5
  have F6 := fun_mk (st := sTaker) l6 c6 k6
  have b6 := F6.binds (ps := ["last", "took", "box", "letters"]) fun _ _ _ _ _ _ us hl => match us, hl with | [_, _, _, _], _ => rfl
  have m6 := PySem.W.mg_of X G a6
  have F7 := fun_mk (st := sRowB) l7 c7 k7
  have b7 := F7.binds (ps := ["row", "sent", "is_lost"]) fun _ _ _ _ _ _ us hl => match us, hl with | [_, _, _], _ => rfl
  have m7 := PySem.W.mg_of X G a7
  have F8 := fun_mk (st := sIsWord) l8 c8 k8
  have b8 := F8.binds (ps := ["thing", "bound"]) fun _ _ _ _ _ _ us hl => match us, hl with | [_, _], _ => rfl
  have m8 := PySem.W.mg_of X G a8
  have F9 := fun_mk (st := sIsStore) l9 c9 k9
  have b9 := F9.binds (ps := ["way", "thing"]) fun _ _ _ _ _ _ us hl => match us, hl with | [_, _], _ => rfl
  have m9 := PySem.W.mg_of X G a9
  have F10 := fun_mk (st := sIsMark) l10 c10 k10
  have b10 := F10.binds (ps := ["way", "thing"]) fun _ _ _ _ _ _ us hl => match us, hl with | [_, _], _ => rfl
  have m10 := PySem.W.mg_of X G a10
  have F11 := fun_mk (st := sIsSlot) l11 c11 k11
  have b11 := F11.binds (ps := ["way", "thing"]) fun _ _ _ _ _ _ us hl => match us, hl with | [_, _], _ => rfl
  have m11 := PySem.W.mg_of X G a11
  have F12 := fun_mk (st := sIsLet) l12 c12 k12
  have b12 := F12.binds (ps := ["way", "thing"]) fun _ _ _ _ _ _ us hl => match us, hl with | [_, _], _ => rfl
  have m12 := PySem.W.mg_of X G a12
  have F13 := fun_mk (st := sIsEch) l13 c13 k13
  have b13 := F13.binds (ps := ["way", "thing"]) fun _ _ _ _ _ _ us hl => match us, hl with | [_, _], _ => rfl
  have m13 := PySem.W.mg_of X G a13
  have F14 := fun_mk (st := sIsRow) l14 c14 k14
  have b14 := F14.binds (ps := ["way", "thing"]) fun _ _ _ _ _ _ us hl => match us, hl with | [_, _], _ => rfl
  have m14 := PySem.W.mg_of X G a14
  have F15 := fun_mk (st := sBag) l15 c15 k15
  have b15 := F15.binds (ps := ["_law_script", "_law_at"]) fun _ _ _ _ _ _ us hl => match us, hl with | [_, _], _ => rfl
  have m15 := PySem.W.mg_of X G a15
  have F16 := fun_mk (st := sTake) l16 c16 k16
  have b16 := F16.binds (ps := ["_law_bag_here", "_law_many"]) fun _ _ _ _ _ _ us hl => match us, hl with | [_, _], _ => rfl
  have m16 := PySem.W.mg_of X G a16
  have F17 := fun_mk (st := sLStore) l17 c17 k17
  have b17 := F17.binds (ps := ["_law_bag_here", "_law_size", "_law_top"]) fun _ _ _ _ _ _ us hl => match us, hl with | [_, _, _], _ => rfl
  have m17 := PySem.W.mg_of X G a17
  have F18 := fun_mk (st := sGone) l18 c18 k18
  have b18 := F18.binds (ps := ["_law_bag_here", "_law_runs", "_law_gap", "_law_is_answered"]) fun _ _ _ _ _ _ us hl => match us, hl with | [_, _, _, _], _ => rfl
  have m18 := PySem.W.mg_of X G a18
  have F19 := fun_mk (st := sRowP) l19 c19 k19
  have b19 := F19.binds (ps := ["row", "ahead", "own"]) fun _ _ _ _ _ _ us hl => match us, hl with | [_, _, _], _ => rfl
  have m19 := PySem.W.mg_of X G a19
  have F20 := fun_mk (st := sLostW) l20 c20 k20
  have b20 := F20.binds (ps := ["_law_bag_here", "_law_way", "_law_runs", "_law_gap", "_law_habit"]) fun _ _ _ _ _ _ us hl => match us, hl with | [_, _, _, _, _], _ => rfl
  have m20 := PySem.W.mg_of X G a20
  have F21 := fun_mk (st := sTime) l21 c21 k21
  have b21 := F21.binds (ps := ["_law_bag_here", "_law_way", "_law_runs", "_law_numbers", "_law_habit"]) fun _ _ _ _ _ _ us hl => match us, hl with | [_, _, _, _, _], _ => rfl
  have m21 := PySem.W.mg_of X G a21
  have F22 := fun_mk (st := sLaw) l22 c22 k22
  have m22 := PySem.W.mg_of X G a22
  have F23 := fun_mk (st := sSide) l23 c23 k23
  have b23 := F23.binds (ps := ["self", "lost"]) fun _ _ _ _ _ _ us hl => match us, hl with | [_, _], _ => rfl
  have F24 := fun_mk (st := sGoneB) l24 c24 k24
  have b24 := F24.binds (ps := ["self", "lost"]) fun _ _ _ _ _ _ us hl => match us, hl with | [_, _], _ => rfl
  have F25 := fun_mk (st := sStore) l25 c25 k25
  have b25 := F25.binds (ps := ["self"]) fun _ _ _ _ _ _ us hl => match us, hl with | [_], _ => rfl
  have F26 := fun_mk (st := sSpoil) l26 c26 k26
  have b26 := F26.binds (ps := ["self", "store"]) fun _ _ _ _ _ _ us hl => match us, hl with | [_, _], _ => rfl
  have F27 := fun_mk (st := sIsPlain) l27 c27 k27
  have b27 := F27.binds (ps := ["self"]) fun _ _ _ _ _ _ us hl => match us, hl with | [_], _ => rfl
  have F28 := fun_mk (st := sUnder) l28 c28 k28
  have b28 := F28.binds (ps := ["self"]) fun _ _ _ _ _ _ us hl => match us, hl with | [_], _ => rfl
  have F29 : FunD K "__init__" "Way.__init__" (defArgs sInit) (defBody sInit) (defScope sInit) [] [("miss", .int 1), ("bound", .int 10)] f29 (PySem.W.fnOf "__init__" "Way.__init__" (defArgs sInit) (defBody sInit) (defScope sInit) .none (.ref D29) dc29 pm29 an29 cd29 ct29) :=
    ⟨⟨oc29, od29, .none, .ref D29, dc29, pm29, an29, cd29, ct29, sl29, rfl, l29, c29, .inl ⟨rfl, rfl⟩, .inr ⟨D29, rfl, fun q hq => by
      simp only [List.mem_cons, List.not_mem_nil, or_false] at hq
      rcases hq with rfl | rfl
      · exact ⟨_, w29_0, ⟨_, rfl⟩⟩
      · exact ⟨_, w29_1, ⟨_, rfl⟩⟩⟩⟩, k29⟩
  have F30 : FunD K "beat" "Way.beat" (defArgs sBeat) (defBody sBeat) (defScope sBeat) [] [("word", .non), ("taking", .bl false), ("lost", .ref lz)] f30 (PySem.W.fnOf "beat" "Way.beat" (defArgs sBeat) (defBody sBeat) (defScope sBeat) .none (.ref D30) dc30 pm30 an30 cd30 ct30) :=
    ⟨⟨oc30, od30, .none, .ref D30, dc30, pm30, an30, cd30, ct30, sl30, rfl, l30, c30, .inl ⟨rfl, rfl⟩, .inr ⟨D30, rfl, fun q hq => by
      simp only [List.mem_cons, List.not_mem_nil, or_false] at hq
      rcases hq with rfl | rfl | rfl
      · exact ⟨_, w30_0, rfl⟩
      · exact ⟨_, w30_1, rfl⟩
      · exact ⟨_, w30_2, rfl⟩⟩⟩, k30⟩
  have F31 : FunD K "round_beats" "round_beats" (defArgs sRB) (defBody sRB) (defScope sRB) [] [("miss", .int 1)] f31 (PySem.W.fnOf "round_beats" "round_beats" (defArgs sRB) (defBody sRB) (defScope sRB) .none (.ref D31) dc31 pm31 an31 cd31 ct31) :=
    ⟨⟨oc31, od31, .none, .ref D31, dc31, pm31, an31, cd31, ct31, sl31, rfl, l31, c31, .inl ⟨rfl, rfl⟩, .inr ⟨D31, rfl, fun q hq => by
      simp only [List.mem_cons, List.not_mem_nil, or_false] at hq
      rcases hq with rfl
      · exact ⟨_, w31_0, ⟨_, rfl⟩⟩⟩⟩, k31⟩
  have m31 := PySem.W.mg_of X G a31
  have O : Own mg := ⟨PySem.W.mg_none_of X G z1, PySem.W.mg_none_of X G z2, PySem.W.mg_none_of X G z3, PySem.W.mg_none_of X G z4, PySem.W.mg_none_of X G z5, PySem.W.mg_none_of X G z6, PySem.W.mg_none_of X G z7, PySem.W.mg_none_of X G z8, PySem.W.mg_none_of X G z9, PySem.W.mg_none_of X G z10, PySem.W.mg_none_of X G z11, PySem.W.mg_none_of X G z12, PySem.W.mg_none_of X G z13⟩
  have M : Most mg := ⟨⟨_, PySem.W.mg_of X G q1⟩, ⟨_, PySem.W.mg_of X G q2⟩, ⟨_, PySem.W.mg_of X G q3⟩⟩
  have T : WayC K C := ⟨⟨pg, hd, po, sa⟩, n_hold, n_miss, n_bound, n_kept, n_gone⟩
  have mC := PySem.W.mg_of X G aC
  have hlz : ∀ H, SqT K H lz [.bl false, .bl false] := fun H => .inr ⟨ot, _, nt, lt, lc, ld, by decide, .cons rfl (.cons rfl .nil)⟩
  refine ⟨PySem.W.fnOf "law" "law" (defArgs sLaw) (defBody sLaw) (defScope sLaw) .none kV22 dc22 pm22 an22 cd22 ct22, fun s v => .of_eq rfl, fun base _ _ => ?_⟩
  have Dwhole : Df l.prog w K mg base 1 "is_whole" _ spWhole := ⟨f1, _, m1, k1, ok_whole O F1, b1⟩
  have Dwithin : Df l.prog w K mg base 2 "is_within" _ spWithin := ⟨f2, _, m2, k2, ok_within F2 Dwhole, b2⟩
  have Dput : Df l.prog w K mg base 1 "put" _ spPut := ⟨f3, _, m3, k3, ok_put F3, b3⟩
  have Dmarks : Df l.prog w K mg base 1 "marks" _ spMarks := ⟨f4, _, m4, k4, ok_marks F4, b4⟩
  have Dsend : Df l.prog w K mg base 1 "sender_behind" _ spSender := ⟨f5, _, m5, k5, ok_sender O F5, b5⟩
  have Dtake : Df l.prog w K mg base 1 "taker_behind" _ spTaker := ⟨f6, _, m6, k6, ok_taker O F6, b6⟩
  have Drow : Df l.prog w K mg base 1 "row_behind" _ spRowB := ⟨f7, _, m7, k7, ok_rowb F7, b7⟩
  have Dword : Df l.prog w K mg base 3 "is_word" _ spIsWord := ⟨f8, _, m8, k8, ok_isword F8 Dwithin, b8⟩
  have Dmark : Df l.prog w K mg base 3 "is_mark" _ (spIsMark C) := ⟨f10, _, m10, k10, ok_ismark T F10 Dwithin Dmarks, b10⟩
  have Dslot : Df l.prog w K mg base 4 "is_slot" _ (spIsSlot C) := ⟨f11, _, m11, k11, ok_isslot T F11 Dword, b11⟩
  have Drp : Df l.prog w K mg base 4 "is_row_of_pairs" _ (spIsRow C) := ⟨f14, _, m14, k14, ok_isrow O T F14 Dmark, b14⟩
  have Dlet : Df l.prog w K mg base 5 "is_letters" _ (spIsLet C) := ⟨f12, _, m12, k12, ok_islet O F12 Drp Dslot, b12⟩
  have Dech : Df l.prog w K mg base 5 "is_echoes" _ (spIsEch C) := ⟨f13, _, m13, k13, ok_isech O F13 Drp Dwithin, b13⟩
  have Dsto : Df l.prog w K mg base 6 "is_store" _ (spIsStore C) := ⟨f9, _, m9, k9, ok_isstore O F9 Dmark Dwithin Dslot Dlet Dech, b9⟩
  have Mgone : Mf l.prog w K mg base C 1 "gone_behind" _ (spGoneB K C) := ⟨f24, _, ⟨a24, i24, k24⟩, ok_goneb O T F24, b24⟩
  have Mside : Mf l.prog w K mg base C 2 "side_lost" _ (spSide K C) := ⟨f23, _, ⟨a23, i23, k23⟩, ok_side T F23 Mgone, b23⟩
  have Gbeat := ok_beat O T F30 Dword Mside Dsend Dmarks Dtake Dput Mgone Drow
  have mB : Meth K C "beat" f30 := ⟨a30, i30, k30⟩
  obtain ⟨mv, kLW⟩ := kb_beatLW F30
  obtain ⟨ds, v0, k0⟩ := kb_beat0 F30
  have W : WayD l.prog w K mg base C := ⟨T, ⟨f25, _, [], ⟨a25, i25, k25⟩, ok_store T F25, b25, .nil⟩, ⟨lz, hlz, f30, _, ds, mB, Gbeat, k0, v0⟩, ⟨f30, _, _, mB, Gbeat, kLW⟩, ⟨f30, _, _, mB, Gbeat, kb_beatA F30⟩⟩
  have WS : Mf l.prog w K mg base C 7 "spoil" _ (spSpoil C) := ⟨f26, _, ⟨a26, i26, k26⟩, ok_spoil T F26 Dsto, b26⟩
  have WM : MkK l.prog w K mg base 3 "Way" C 1 psInit ["miss", "bound"] (fun vs zs => vs ++ zs) (spInit C) := ⟨f29, _, _, mC, ⟨mk, a29, i29, kc⟩, ok_init M T F29 Dwithin, kb_init F29⟩
  have Lbag : Df l.prog w K mg base 1 "_law_bag" _ (spBag K) := ⟨f15, _, m15, k15, ok_bag O F15, b15⟩
  have Ltake : Df l.prog w K mg base 1 "_law_take" _ spTake := ⟨f16, _, m16, k16, ok_take F16, b16⟩
  have Lsto : Df l.prog w K mg base 2 "_law_store" _ spLStore := ⟨f17, _, m17, k17, ok_lstore O F17 Ltake, b17⟩
  have Lgone : Df l.prog w K mg base 2 "_law_gone" _ spGone := ⟨f18, _, m18, k18, ok_gone O F18 Ltake, b18⟩
  have Drp2 : Df l.prog w K mg base 1 "row_is_plain" _ spRowP := ⟨f19, _, m19, k19, ok_rowp O F19, b19⟩
  have WP : Mf0 l.prog w K mg base C 2 "is_plain" ["self"] [] (spIsPlain C) := ⟨f27, _, [], ⟨a27, i27, k27⟩, ok_isplain O T F27 Dmarks Drp2, b27, .nil⟩
  have WU : Mf0 l.prog w K mg base C 3 "under_way" ["self"] [] (spUnder C) := ⟨f28, _, [], ⟨a28, i28, k28⟩, ok_under T F28 WP, b28, .nil⟩
  have Llost : Df l.prog w K mg base 3 "_law_lost_by" _ (spLostW C) := ⟨f20, _, m20, k20, ok_lostW W F20 Lgone, b20⟩
  have WB : DfN l.prog w K mg base 1 "round_beats" 1 ["hold", "miss"] ["miss"] (fun vs zs => vs ++ zs) spRB := ⟨f31, _, _, m31, k31, ok_rb F31, kb_rb F31⟩
  have Ltime : Df l.prog w K mg base 5 "_law_in_time" _ (spTime C) := ⟨f21, _, m21, k21, ok_time O W WU WB F21 Ltake Llost, b21⟩
  exact ok_law O W WP WS WM F22 Lbag Ltake Lsto Llost Ltime
end Any
open PySem PySem.W PyProof.Rows
set_option maxRecDepth 100000 in
set_option maxHeartbeats 0 in
theorem PySem.Challenge.cw_anystore_k62_whole_words_in_time_holds : PySem.Challenge.rw_anystore_k62_whole_words_in_time.Holds := by
  w_on; o_law; k_head; (case hw => w_witness2)
  k_fill
  refine Any.walk_g (l := PySem.Challenge.rw_anystore_k62_whole_words_in_time) (n := 63) (k := 9) (x := "_law_script") (sp := Any.spLaw) rfl (by decide) rfl ⟨rfl, by decide, by decide⟩ (fun w h Y => PySem.W.kIn_of Y) ?F (fun K H a ns hl _ hS => ⟨a, ns, rfl, hS, hl, fun _ => rfl⟩)
  case F =>
    intro w mg fa h KX G hmg
    refine' Any.all_mk KX G hmg ?aC ?a1 ?l1 ?c1 ?k1 ?a2 ?l2 ?c2 ?k2 ?a3 ?l3 ?c3 ?k3 ?a4 ?l4 ?c4 ?k4 ?a5 ?l5 ?c5 ?k5 ?a6 ?l6 ?c6 ?k6 ?a7 ?l7 ?c7 ?k7 ?a8 ?l8 ?c8 ?k8 ?a9 ?l9 ?c9 ?k9 ?a10 ?l10 ?c10 ?k10 ?a11 ?l11 ?c11 ?k11 ?a12 ?l12 ?c12 ?k12 ?a13 ?l13 ?c13 ?k13 ?a14 ?l14 ?c14 ?k14 ?a15 ?l15 ?c15 ?k15 ?a16 ?l16 ?c16 ?k16 ?a17 ?l17 ?c17 ?k17 ?a18 ?l18 ?c18 ?k18 ?a19 ?l19 ?c19 ?k19 ?a20 ?l20 ?c20 ?k20 ?a21 ?l21 ?c21 ?k21 ?a22 ?l22 ?c22 ?k22 ?a23 ?i23 ?l23 ?c23 ?k23 ?a24 ?i24 ?l24 ?c24 ?k24 ?a25 ?i25 ?l25 ?c25 ?k25 ?a26 ?i26 ?l26 ?c26 ?k26 ?a27 ?i27 ?l27 ?c27 ?k27 ?a28 ?i28 ?l28 ?c28 ?k28 ?a29 ?i29 ?l29 ?c29 ?k29 ?w29_0 ?w29_1 ?a30 ?i30 ?l30 ?c30 ?k30 ?w30_0 ?w30_1 ?w30_2 ?a31 ?l31 ?c31 ?k31 ?w31_0 ?lt ?lc ?ld ?pg ?hd ?po ?mk ?kc ?sa ?n_hold ?n_miss ?n_bound ?n_kept ?n_gone ?q1 ?q2 ?q3 ?z1 ?z2 ?z3 ?z4 ?z5 ?z6 ?z7 ?z8 ?z9 ?z10 ?z11 ?z12 ?z13
    (case aC => k_is)
    (case a1 => k_is)
    (case l1 => k_is)
    (case c1 => k_is)
    (case k1 => k_is)
    (case a2 => k_is)
    (case l2 => k_is)
    (case c2 => k_is)
    (case k2 => k_is)
    (case a3 => k_is)
    (case l3 => k_is)
    (case c3 => k_is)
    (case k3 => k_is)
    (case a4 => k_is)
    (case l4 => k_is)
    (case c4 => k_is)
    (case k4 => k_is)
    (case a5 => k_is)
    (case l5 => k_is)
    (case c5 => k_is)
    (case k5 => k_is)
    (case a6 => k_is)
    (case l6 => k_is)
    (case c6 => k_is)
    (case k6 => k_is)
    (case a7 => k_is)
    (case l7 => k_is)
    (case c7 => k_is)
    (case k7 => k_is)
    (case a8 => k_is)
    (case l8 => k_is)
    (case c8 => k_is)
    (case k8 => k_is)
    (case a9 => k_is)
    (case l9 => k_is)
    (case c9 => k_is)
    (case k9 => k_is)
    (case a10 => k_is)
    (case l10 => k_is)
    (case c10 => k_is)
    (case k10 => k_is)
    (case a11 => k_is)
    (case l11 => k_is)
    (case c11 => k_is)
    (case k11 => k_is)
    (case a12 => k_is)
    (case l12 => k_is)
    (case c12 => k_is)
    (case k12 => k_is)
    (case a13 => k_is)
    (case l13 => k_is)
    (case c13 => k_is)
    (case k13 => k_is)
    (case a14 => k_is)
    (case l14 => k_is)
    (case c14 => k_is)
    (case k14 => k_is)
    (case a15 => k_is)
    (case l15 => k_is)
    (case c15 => k_is)
    (case k15 => k_is)
    (case a16 => k_is)
    (case l16 => k_is)
    (case c16 => k_is)
    (case k16 => k_is)
    (case a17 => k_is)
    (case l17 => k_is)
    (case c17 => k_is)
    (case k17 => k_is)
    (case a18 => k_is)
    (case l18 => k_is)
    (case c18 => k_is)
    (case k18 => k_is)
    (case a19 => k_is)
    (case l19 => k_is)
    (case c19 => k_is)
    (case k19 => k_is)
    (case a20 => k_is)
    (case l20 => k_is)
    (case c20 => k_is)
    (case k20 => k_is)
    (case a21 => k_is)
    (case l21 => k_is)
    (case c21 => k_is)
    (case k21 => k_is)
    (case a22 => k_is)
    (case l22 => k_is)
    (case c22 => k_is)
    (case k22 => k_is)
    (case a23 => k_is)
    (case i23 => k_is)
    (case l23 => k_is)
    (case c23 => k_is)
    (case k23 => k_is)
    (case a24 => k_is)
    (case i24 => k_is)
    (case l24 => k_is)
    (case c24 => k_is)
    (case k24 => k_is)
    (case a25 => k_is)
    (case i25 => k_is)
    (case l25 => k_is)
    (case c25 => k_is)
    (case k25 => k_is)
    (case a26 => k_is)
    (case i26 => k_is)
    (case l26 => k_is)
    (case c26 => k_is)
    (case k26 => k_is)
    (case a27 => k_is)
    (case i27 => k_is)
    (case l27 => k_is)
    (case c27 => k_is)
    (case k27 => k_is)
    (case a28 => k_is)
    (case i28 => k_is)
    (case l28 => k_is)
    (case c28 => k_is)
    (case k28 => k_is)
    (case a29 => k_is)
    (case i29 => k_is)
    (case l29 => k_is)
    (case c29 => k_is)
    (case k29 => k_is)
    (case w29_0 => k_is)
    (case w29_1 => k_is)
    (case a30 => k_is)
    (case i30 => k_is)
    (case l30 => k_is)
    (case c30 => k_is)
    (case k30 => k_is)
    (case w30_0 => k_is)
    (case w30_1 => k_is)
    (case w30_2 => k_is)
    (case a31 => k_is)
    (case l31 => k_is)
    (case c31 => k_is)
    (case k31 => k_is)
    (case w31_0 => k_is)
    (case lt => k_is)
    (case lc => rfl)
    (case ld => rfl)
    (case pg => k_is)
    (case hd => k_is)
    (case po => k_is)
    (case mk => k_is)
    (case kc => k_is)
    (case sa => k_is)
    (case n_hold => k_is)
    (case n_miss => k_is)
    (case n_bound => k_is)
    (case n_kept => k_is)
    (case n_gone => k_is)
    (case q1 => k_is)
    (case q2 => k_is)
    (case q3 => k_is)
    (case z1 => k_is)
    (case z2 => k_is)
    (case z3 => k_is)
    (case z4 => k_is)
    (case z5 => k_is)
    (case z6 => k_is)
    (case z7 => k_is)
    (case z8 => k_is)
    (case z9 => k_is)
    (case z10 => k_is)
    (case z11 => k_is)
    (case z12 => k_is)
    (case z13 => k_is)
#print axioms PySem.Challenge.cw_anystore_k62_whole_words_in_time_holds
