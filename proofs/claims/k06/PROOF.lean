import PyProof.Rows.All
import Wide.All
import OpenK.AllK
import Wide.FinOn
import PyProof.ReprRoads
import PyProof.ReprLen
import KE.KRevSl
import HandS.Base
import HandS.Call
import HandS.List
import HandS.Words
import HandS.Ends
import HandS.WordsList
import HandS.ForMost
import HandS.Wide
import HandS.IsInst
import HandS.TupAny
import HandS.Defaults
import HandS.Codes
import HandS.SetKeys
import HandS.More
import HandS.Style
import KE.KExcSuper
import HandS.Exc
import HandS.ExcSuper
import HandS.ExcInit
import HandS.Nested
import HandS.TryOnly
import HandS.WordsExc
import HandS.ExcIs
import HandS.ExcField
import HandS.ExcOwn
import KE.KExcIs
import HandS.SortRule
import HandS.Conv
import HandS.Iter
import HandS.Walk
import PySem.Challenge.RW_keptclauses_k06_whole_what_rows_end_with
set_option Elab.async false
set_option linter.all false
set_option maxRecDepth 100000
set_option maxHeartbeats 4000000
namespace KL
open PySem PySem.Spec PyProof.Rows L2
section
variable {prog : Program} {w : World} {A : Around} {E : Value → Shared → Prop} {s : Shared}
/-! a tuple read backwards: t[::-1] -/
theorem adj_back (n : Nat) : Builtin.Slice.sliceAdjust none none (-1) (n : Int) = ((n : Int) - 1, -1) := by
  unfold Builtin.Slice.sliceAdjust
  simp
theorem plc_back (n : Nat) : Builtin.Slice.slicePlaces ((n : Int) - 1) (-1) (-1) = n := by
  unfold Builtin.Slice.slicePlaces
  have h1 : ¬ ((-1 : Int) > 0) := by omega
  simp only [h1, if_false]
  split
  · simp
  · omega
theorem fm_map {α β : Type} {f : α → Option β} {g : α → β} : ∀ l : List α, (∀ k ∈ l, f k = some (g k)) → l.filterMap f = l.map g
  | [], _ => rfl
  | x :: l, h => by
    rw [List.filterMap_cons, h x List.mem_cons_self, fm_map l fun k hk => h k (List.mem_cons_of_mem _ hk)]
    rfl
theorem pick_back (xs : List Value) : ((List.range xs.length).filterMap fun (k : Nat) => xs.toArray[((xs.length : Int) - 1 + (k : Int) * -1).toNat]?) = xs.reverse := by
  have e := fm_map (f := fun (k : Nat) => xs.toArray[((xs.length : Int) - 1 + (k : Int) * -1).toNat]?) (g := fun k => (xs[xs.length - 1 - k]?).getD .none) (List.range xs.length) fun k hk => by
    have hk' := List.mem_range.mp hk
    have ei : ((xs.length : Int) - 1 + (k : Int) * -1).toNat = xs.length - 1 - k := by omega
    show xs.toArray[((xs.length : Int) - 1 + (k : Int) * -1).toNat]? = _
    rw [ei, List.getElem?_toArray]
    have hb : xs.length - 1 - k < xs.length := by omega
    rw [List.getElem?_eq_getElem hb]
    rfl
  rw [e]
  apply List.ext_getElem?
  intro i
  rw [List.getElem?_map]
  by_cases hi : i < xs.length
  · rw [List.getElem?_range hi, List.getElem?_reverse hi]
    show some ((xs[xs.length - 1 - i]?).getD .none) = _
    rw [List.getElem?_eq_getElem (show xs.length - 1 - i < xs.length by omega)]
    rfl
  · rw [List.getElem?_eq_none (by simpa using hi), List.getElem?_eq_none (by simpa using hi)]
    rfl
theorem app_back {sl : Addr} {vk : Value} {n : Nat} {Q : Int × Int × Nat → Shared → Prop} (hs : s.heap.IsSliceOf sl .none .none vk) (pk : IsPart vk (some (-1)))
    (h : Q ((n : Int) - 1, -1, n) s) : wpAny (model prog w) A (Builtin.Slice.sliceApplied (.ref sl) (pure (n : Int))) Q E s := by
  obtain ⟨o, ho, hc, hd⟩ := id hs
  unfold Builtin.Slice.sliceApplied Builtin.Slice.sliceFields
  refine wpAny_bind (wpAny_bind (wpAny_field ho hd (x := .none) rfl (wpAny_bind (wpAny_field ho hd (x := .none) rfl
    (wpAny_bind (wpAny_field ho hd (x := vk) rfl (wpAny_pure ?_)))))))
  cases pk with
  | int i t =>
    refine wpAny_bind (slicePart_int ?_)
    show wpAny _ _ (if ((-1 : Int) == 0) = true then _ else _) _ _ s
    rw [if_neg (by decide)]
    refine wpAny_bind (slicePart_none (wpAny_bind (slicePart_none (wpAny_bind (wpAny_pure ?_)))))
    show wpAny _ _ (match Builtin.Slice.sliceAdjust none none (-1) (n : Int) with | (lo, hi) => pure (lo, (-1 : Int), Builtin.Slice.slicePlaces lo hi (-1))) _ _ s
    rw [adj_back n]
    show wpAny _ _ (pure ((n : Int) - 1, (-1 : Int), Builtin.Slice.slicePlaces ((n : Int) - 1) (-1) (-1))) _ _ s
    rw [plc_back]
    exact wpAny_pure h
theorem tup_back {t sl : Addr} {its : List Value} {vk : Value} {Q : Value → Shared → Prop} (ht : IsTup s.heap t its.toArray) (hs : s.heap.IsSliceOf sl .none .none vk) (pk : IsPart vk (some (-1)))
    (h : Q (.ref s.heap.objs.size) { s with heap := s.heap.push { cls := .type "tuple", data := .seq its.reverse.toArray } })
    (hz : its.length ≤ sizeLine) : wpAny (model prog w) A (getItem (.ref t) (.ref sl)) Q E s := by
  have hok : sizeOk (.seq its.reverse.toArray) := by
    show its.reverse.toArray.size ≤ sizeLine
    rw [List.size_toArray, List.length_reverse]
    exact hz
  obtain ⟨o, ho, hc, hd⟩ := id hs
  have hT : s.TypeIs (.ref sl) "slice" := ⟨o, ho, hc⟩
  unfold getItem
  try with_reducible refine wpAny_holding ?_
  first | refine wpAny_bind (wpAny_pure ?_) | skip
  refine wpAny_bind (wpAny_sequenceKey ht.typeIs (by decide) ?_)
  refine wpAny_bind (wpAny_callSpecial?_slot (name := Str.ofString "__getitem__") ht.typeIs slot_tuple_getitem (wpAny_call_entry slot_tuple_getitem ht.typeIs entry_tuple_getitem ?_ (args_tuple_getitem _ _)))
  show wpAny _ _ (Builtin.Tuple.tupleItemsOf (.ref t) >>= _) _ _ s
  refine wpAny_bind (tupleItemsOf_ ht ?_)
  refine wpAny_bind (wpAny_typeOf hT ?_)
  rw [if_pos (by decide)]
  rw [List.size_toArray]
  refine wpAny_bind (app_back hs pk ?_)
  have hno : ¬ ((((its.length : Int) - 1) == 0 && (-1 : Int) == 1 && its.length == its.length) = true) := by simp
  show wpAny _ _ (if (((its.length : Int) - 1) == 0 && (-1 : Int) == 1 && its.length == its.length) = true then _ else _) _ _ s
  rw [if_neg hno, pick_back its]
  first
    | exact wpAny_bind (m := Builtin.Tuple.tupleExact _) (wpAny_newObj_type (wpAny_pure ⟨_, rfl, wpAny_pure h⟩) hok)
    | exact wpAny_bind (m := Builtin.Tuple.tupleExact _) (wpAny_newObj_type (wpAny_bind (wpAny_pure (wpAny_pure ⟨_, rfl, wpAny_pure h⟩))) hok)
    | exact wpAny_bind (wpAny_bind (m := Builtin.Tuple.tupleExact _) (wpAny_newObj_type (wpAny_pure (wpAny_pure ⟨_, rfl, wpAny_pure h⟩)) hok))
    | exact wpAny_bind (wpAny_bind (m := Builtin.Tuple.tupleExact _) (wpAny_newObj_type (wpAny_pure ⟨_, rfl, wpAny_pure h⟩) hok))
end
section
variable {X : Cx}
def tRevT (K : PySem.W.Frag) (te : TE) : TE := fun σ H Q => te σ H fun x H1 => ∃ a xs, x = .ref a ∧ SqT K H1 a xs ∧ ∀ p, H1 p = none → Q (.ref p) (upd H1 p (.tup xs.reverse))
theorem pe_revT {e : Expr} {te : TE} {k : Nat} {p1 p2 p3 pos : Pos} (he : PE X e te) :
    PE X (.Subscript e (.Slice none none (some (.UnaryOp .USub (.Constant (.int 1) k p1) p2)) p3) pos) (tRevT X.K te) := by
  refine ⟨fun pins s σ H Q I h => ?_⟩
  refine Subscript_ (thn (he.run pins s σ H _ I h) fun v s1 ⟨x, H1, I1, r1, a, xs, ex, hx, q⟩ => ?_)
  subst ex
  cases r1
  have pm : PO X (some (.UnaryOp .USub (.Constant (.int 1) k p1) p2)) (tPart (tUn (rU fun i => .int (-i)) (tC (.int 1)))) := po_some (pe_un un_neg pe_int)
  refine wpAny_Slice (thn (po_none.run pins s1 σ H1 (fun o G => o = none ∧ G = H1) I1 ⟨rfl, rfl⟩) fun vl s2 ⟨l, G2, I2, pl, el, e2⟩ => ?_)
  subst el e2
  refine thn (po_none.run pins s2 σ G2 (fun o G => o = none ∧ G = G2) I2 ⟨rfl, rfl⟩) fun vu s3 ⟨u, G3, I3, pu, eu, e3⟩ => ?_
  subst eu e3
  refine thn (pm.run pins s3 σ G3 (fun o G => o = some (-1) ∧ G = G3) I3 ⟨1, rfl, -1, rfl, rfl, rfl⟩) fun vs s4 ⟨o, G4, I4, ps, eo, e4⟩ => ?_
  subst eo e4
  cases pl
  cases pu
  have I5 : Inv X pins σ G4 { s4 with heap := s4.heap.push { cls := .type "slice", data := .fields #[.none, .none, vs] } } := I4.kept (t' := s4.toks) fun b ob q => Heap.get?_push_of_some _ q
  obtain ⟨its, r, ht, hz⟩ := I5.tuple hx
  have hlen := r.length
  show wpAny (model X.prog X.w) X.A (subscriptTail e (.Slice none none (some (.UnaryOp .USub (.Constant (.int 1) k p1) p2)) p3) (.ref a) (.ref s4.heap.objs.size)) (EP X pins σ Q) X.xe
    { s4 with heap := s4.heap.push { cls := .type "slice", data := .fields #[.none, .none, vs] } }
  refine tail_any (ops := [.ref a, .ref s4.heap.objs.size]) ht.typeIs slot_tuple_getitem.lookup ?_ (by with_unfolding_all rfl)
  refine tup_back ht (Heap.IsSliceOf.new _ .none .none vs) ps ?_ (by omega)
  refine ⟨.ref _, _, I5.laid (t' := s4.toks) (o := .tup xs.reverse) (fun b ob q => Heap.get?_push_of_some _ q) (Nat.le_refl _) ?_, rfl, q _ (I5.hok.fresh (Nat.le_refl _))⟩
  exact ⟨by rw [List.length_reverse]; exact hz, _, r.reverse, _, Heap.get?_push_size _ rfl, rfl, 0, rfl⟩
/-! repr of data -/
def rRep (K : PySem.W.Frag) : List V → Hp → VK → Prop := fun xs H Q => ∃ x d, xs = [x] ∧ Dp K H x d ∧ d.showable = true ∧ d.depth ≤ 60 ∧ d.shown.length ≤ sizeLine ∧ Q (.str d.shown) H
mutual
theorem noDict {K : PySem.W.Frag} {H : Hp} : ∀ (d : PyData) (x : V), Dp K H x d → d.hasDict = false
  | .none, _, _ | .bool _, _, _ | .int _, _, _ | .str _, _, _ => by unfold PyData.hasDict; rfl
  | .list ds, _, h => by
    cases h with
    | lst _ a => unfold PyData.hasDict; exact noDicts ds _ a
  | .tuple ds, _, h => by
    cases h with
    | tup _ a => unfold PyData.hasDict; exact noDicts ds _ a
  | .dict _, _, h => by cases h
theorem noDicts {K : PySem.W.Frag} {H : Hp} : ∀ (ds : List PyData) (xs : List V), DpAll K H xs ds → PyData.hasDictAll ds = false
  | [], _, _ => by unfold PyData.hasDictAll; rfl
  | d :: ds, _, h => by
    cases h with
    | cons h1 h2 => unfold PyData.hasDictAll; rw [noDict d _ h1, noDicts ds _ h2]; rfl
end
theorem call_rep (hg : X.A.guards = some []) (hu : X.A.units + 64 < cLine) : CallR X (.builtin "repr") (rRep X.K) := by
  intro pins s σ H xs us Q I r h
  obtain ⟨x, d, rfl, hd, hs, hdp, hz, q⟩ := h
  obtain ⟨u, rfl, ru⟩ := vals1 r
  obtain ⟨as, hr⟩ := Dp.reads I d x u hd ru
  have nd := noDict d x hd
  cases hd with
  | non =>
    cases (show u = Value.none from ru)
    exact PySem.P.repr_of_none ⟨.str _, H, I.tok _, ⟨_, rfl⟩, q⟩
  | bl b =>
    cases (show u = Value.bool b from ru)
    exact PySem.P.repr_of_bool ⟨.str _, H, I.tok _, ⟨_, rfl⟩, q⟩
  | int i =>
    obtain ⟨t, rfl⟩ := ru
    exact PySem.P.repr_of_int (of_decide_eq_true hs) ⟨.str _, H, I.tok _, ⟨_, rfl⟩, q⟩
  | str y =>
    obtain ⟨t, rfl⟩ := ru
    exact PySem.P.repr_of_str ⟨.str _, H, I.tok _, ⟨_, rfl⟩, q⟩ hz
  | lst _ _ =>
    cases (show u = Value.ref _ from ru)
    exact repr_of_reads' hr hs (fun z => absurd z (by rw [nd]; exact Bool.false_ne_true)) hg (by omega) (fun _ _ e => e)
      (fun h' t tk k => ⟨.str _, H, I.kept (t' := tk) k, ⟨t, rfl⟩, q⟩) hz
  | tup _ _ =>
    cases (show u = Value.ref _ from ru)
    exact repr_of_reads' hr hs (fun z => absurd z (by rw [nd]; exact Bool.false_ne_true)) hg (by omega) (fun _ _ e => e)
      (fun h' t tk k => ⟨.str _, H, I.kept (t' := tk) k, ⟨t, rfl⟩, q⟩) hz
end
end KL
namespace KL
open PySem PySem.Spec PyProof.Rows L2
/-- a def's promise where nothing is being shown by repr around it -/
structure GFn (P : Program) (w : World) (K : PySem.W.Frag) (mg : Str → Option Value) (base : Heap) (CX : CXT) (k : Nat) (f : Addr) (fd : FuncData) (ps : List Str) (sp : Sp) : Prop where
  len : ∀ vs H Q E, sp vs H Q E → vs.length = ps.length
  go : ∀ (A : Around), A.guards = some [] → Room k A → ∀ (outer : List Env) (s : Shared) (H : Hp) (args : Args) (us : List Value) (vs : List V) (Q : VK) (E : XK),
    Env0 P w K mg base A outer s H → BindsTo s fd args (ps.zip us) → Vals vs us → sp vs H Q E → codeAny (model P w) A (.call (.ref f) args) (CR CX outer P w H s Q E) s
section
variable {P : Program} {w : World} {K : PySem.W.Frag} {mg : Str → Option Value} {base : Heap} {CX : CXT} {k : Nat} {f : Addr} {fd : FuncData} {ps : List Str} {sp : Sp}
theorem GFn.of (F : FnOk P w K mg base CX k f fd ps sp) : GFn P w K mg base CX k f fd ps sp :=
  ⟨F.len, fun A _ hr outer s H args us vs Q E e b r h => F.run A outer s H args us vs Q E hr e b r h⟩
/-- a def of the text by its body -/
theorem gfn {x qual : Str} {st : Stmt} {N : List Str} (F : Fun K x qual st f fd) (S : FnScope N ps (defScope st)) (len : ∀ vs H Q E, sp vs H Q E → vs.length = ps.length)
    (body : ∀ (cdv : Value) (A : Around), A.guards = some [] → ∀ (outer : List Env) (s : Shared) (H : Hp) (vs : List V) (Q : VK) (E : XK), Room k (A.deeper (envOfC qual (defScope st) s.heap.objs.size f cdv)) → sp vs H Q E →
      ∃ t, PSs (cxOf CX P w K mg base N qual (defScope st) f cdv A outer s H E) (defBody st) t ∧ t { nx := fun _ G => Q .non G, rt := Q } (start N vs) H) :
    GFn P w K mg base CX (k + 1) f fd ps sp := by
  obtain ⟨oc, od, kV, doc, pm, an, cdv, ct, osl, rfl, lk, hcd⟩ := F.ex
  refine ⟨len, fun A hg hr outer s H args us vs Q E e0 hb r hsp => ?_⟩
  have hl := len _ _ _ _ hsp
  have up : ∀ b o, base.get? b = some o → s.heap.get? b = some o := fun b o e => (e0.bs b o e).1
  have KX : K.In s.heap := e0.mod.kin.keeps up
  have lim : s.heap.NoLimit := e0.mod.nolimit.keeps up
  have kinds : ∀ y ∈ ps.zip us, (defScope st).names.lookup y.1 = some .local ∨
      ((defScope st).names.lookup y.1 = some .cell ∧ ((cellsFrom (s.heap.objs.size + 1) (defScope st).names []).lookup y.1).isSome = true) := by
    rintro ⟨n, v⟩ hy
    cases S.par n (List.of_mem_zip hy).1 with
    | inl q => exact .inl q
    | inr q => exact .inr ⟨q, PySem.W.cellsFrom_some _ _ _ (.inl q)⟩
  refine codeAny_call_function hr.depth (KX _ _ lk) rfl S.co S.gen rfl (PySem.W.codeRec_of KX hcd) (hb _ _ _ _ ?_)
  refine wpAny_newFunctionEnv_cells S.kind kinds fun env he s1 x => ?_
  subst he
  refine ⟨lim.keeps x.toInCall.keep, codeAny_func ?_⟩
  obtain ⟨t, ht, hq⟩ := body cdv A hg outer s H vs Q E (hr.deeper _) hsp
  have I := inv_start (CX := CX) (E := E) S hr.hd e0 hl r x
  refine wpAny_mono (ht.run [] s1 (start N vs) H _ I hq) (fun fl s' hs => ?_) fun e s' hs => hs
  have ends : ∀ {σ' : L2.St} {H' : Hp} {v : V} {u : Value}, Inv (cxOf CX P w K mg base N qual (defScope st) f cdv A outer s H E) [] σ' H' s' → RelV v u → Q v H' → CE outer P w H s Q u s' :=
    fun J rv q => ⟨_, _, J.os, J.bare, J.base, J.hok, rv, q⟩
  match fl, hs with
  | .ret u, ⟨v, σ', H', J, rv, q⟩ => exact ends J rv q
  | .next, ⟨σ', H', J, q⟩ => exact ends (v := V.non) (u := Value.none) J rfl q
  | .brk, ⟨_, _, _, q⟩ => exact False.elim q
  | .cont, ⟨_, _, _, q⟩ => exact False.elim q
/-- no exception leaves it -/
theorem gfn0 {x qual : Str} {st : Stmt} {N : List Str} (F : Fun K x qual st f fd) (S : FnScope N ps (defScope st)) (len : ∀ vs H Q E, sp vs H Q E → vs.length = ps.length)
    (body : ∀ (cdv : Value) (A : Around), A.guards = some [] → ∀ (outer : List Env) (s : Shared) (H : Hp) (vs : List V) (Q : VK) (E : XK), Room k (A.deeper (envOfC qual (defScope st) s.heap.objs.size f cdv)) → sp vs H Q E →
      ∃ t, PSs (cxOf CX0 P w K mg base N qual (defScope st) f cdv A outer s H E).nox (defBody st) t ∧ t { nx := fun _ G => Q .non G, rt := Q } (start N vs) H) :
    GFn P w K mg base CX0 (k + 1) f fd ps sp :=
  gfn F S len fun cdv A hg outer s H vs Q E hr h => let ⟨t, h1, h2⟩ := body cdv A hg outer s H vs Q E hr h; ⟨t, h1.nox, h2⟩
end
section
variable {X : Cx} {CX : CXT} {k : Nat} {f : Addr} {fd : FuncData} {ps : List Str} {sp : Sp} {E : XK} {ds : List Value} {dvs : List V}
theorem run_g {pins : List (Addr × Obj)} {σ : L2.St} {H : Hp} {s : Shared} {Q : VK} {us : List Value} {vs : List V} (F : GFn X.prog X.w X.K X.mg X.base CX k f fd ps sp) (hg : X.A.guards = some []) (hr : Room k X.A)
    (hb : Binds X.K fd ps ds) (hd : Vals dvs ds) (hx : Passes CX X E) (I : Inv X pins σ H s) (r : Vals vs us) (h : sp (vs ++ dvs) H Q E) : wpAny (model X.prog X.w) X.A (call (.ref f) us) (EP X pins σ Q) X.xe s := by
  have r2 : Vals (vs ++ dvs) (us ++ ds) := r.append hd
  have hl : (us ++ ds).length = ps.length := r2.length ▸ F.len _ _ _ _ h
  refine wpAny_call (codeAny_mono (F.go X.A hg hr X.stack s H ⟨us, []⟩ (us ++ ds) (vs ++ dvs) Q E I.env0 (hb s us I.kIn hl) r2 h) ?_)
  intro r s' hq
  match r, hq with
  | .error e, hq => exact hx pins σ H s e s' I hq
  | .ok (.ret u), hq => exact I.after hq
  | .ok .next, hq | .ok .brk, hq | .ok .cont, hq => exact False.elim hq
theorem pe_callG {x : Str} {p pos : Pos} {e : Expr} {es : List Expr} {t : TA} (F : GFn X.prog X.w X.K X.mg X.base CX k f fd ps sp) (gu : X.A.guards = some []) (hr : Room k X.A) (hg : Gl X x) (hm : X.mg x = some (.ref f))
    (hk : PySem.W.keepIn X.K (.ref f) = true) (hb : Binds X.K fd ps ds) (hd : Vals dvs ds) (hx : Passes CX X E) (ha : PA X (e :: es) t) (hdb : (x == ("__debug__" : Str)) = false := by decide)
    (he : starEach (e :: es) X.env = (false, eval e X.env) :: starEach es X.env := by rfl) (hpl : (backTo pos (starEach es X.env)).any (·.1) = false := by rfl) :
    PE X (.Call (.Name x p) (e :: es) [] pos) (tCall sp dvs E t) :=
  ⟨fun pins s σ H Q I h => wpAny_Call_Name_kw (ld_glob I hg hm (PySem.W.callWith_K (h₀ := X.base) I.ok.mod.kin hk
    (thn (ha.run pos pins s σ H _ I h) fun us s1 ⟨vs, H1, I1, r, q⟩ => ⟨I1.kIn, run_g F gu hr hb hd hx I1 r q⟩) he hpl) hdb)⟩
end
/-- from the law's promise to the call of the law -/
theorem law_g {P : Program} {w : World} {K : PySem.W.Frag} {mg mb : Str → Option Value} {CX : CXT} {k : Nat} {fa a : Addr} {fd : FuncData} {x : Str} {sp : Sp} {s₁ : Shared} {vs : List Value} {ns : List Int}
    (KX : K.In s₁.heap) (hns : s₁.heap.Ns mainGlobals mg) (hb : s₁.heap.Ns builtinsNs mb) (hbb : ∀ x : Str, x ≠ "__name__" → mb x = bootBuiltins x) (hlim : s₁.heap.NoLimit) (hg : s₁.gens = #[])
    (ha : s₁.heap.get? a = some { cls := .type "list", data := .seq vs.toArray }) (hi : IntsAre vs ns) (hl : ns.length ≤ sizeLine) (hr : Room k callerA)
    (F : ∀ base : Heap, K.In base → base.Ns mainGlobals mg → GFn P w K mg base CX k fa fd [x] sp) (hbind : ∀ (s : Shared) (u : Value), BindsTo s fd ⟨[u], []⟩ [(x, u)])
    (hsp : ∀ H : Hp, Only H → SqL K H a (ns.map V.int) → sp [.ref a] H (fun v _ => v = .bl true) fun _ _ _ => False)
    (hCX : ∀ H e s', CX [] H s₁ (fun _ _ _ => False) e s' → False) :
    codeAny (model P w) callerA (.call (.ref fa) ⟨[.ref a], []⟩) (fun r s' => r = .ok (.ret (.bool true)) ∧ OldK s₁.heap s'.heap ∧ s'.os = s₁.os ∧ AllBare s'.gens) s₁ := by
  have rv := vals_ints hi
  have lenV := hi.length
  suffices core : ∀ H : Hp, Only H → SqL K H a (ns.map V.int) → HOk P w H s₁.heap → (∀ b, H b ≠ none → b = a) → (H a ≠ none → K.lookup a = none) →
      codeAny (model P w) callerA (.call (.ref fa) ⟨[.ref a], []⟩) (fun r s' => r = .ok (.ret (.bool true)) ∧ OldK s₁.heap s'.heap ∧ s'.os = s₁.os ∧ AllBare s'.gens) s₁ by
    cases hk : K.lookup a with
    | some o =>
      have e := KX a o hk
      rw [ha] at e
      cases e
      exact core (fun _ => none) (fun _ => .inl rfl) (.inr ⟨_, vs.toArray, _, hk, rfl, rfl, rfl, by rw [List.size_toArray, lenV]; exact hl, by simpa using rv⟩) (fun b u z => nomatch (show (none : Option HO) = some u from z)) (fun b z => absurd rfl z) fun z => absurd rfl z
    | none =>
      let o : Obj := { cls := .type "list", data := .seq vs.toArray }
      refine core (fun b => if b = a then some (.frz o (.lst (ns.map V.int))) else none) (fun b => ?_) (.inl (.inr ⟨o, if_pos rfl⟩)) (fun b u z => ?_) (fun b z => ?_) fun _ => hk
      · by_cases q : b = a
        · exact .inr ⟨_, _, if_pos q⟩
        · exact .inl (if_neg q)
      · by_cases q : b = a
        · have z2 := (if_pos q).symm.trans z
          cases z2
          subst q
          exact ⟨ha, by rw [List.length_map]; exact hl, vs, _, rv, ha⟩
        · have z2 := (if_neg q).symm.trans z
          cases z2
      · by_cases q : b = a
        · exact q
        · exact absurd (if_neg q) z
  intro H hO hS hok hA hK
  have at_a : ∀ {b : Addr} {u : HO}, H b = some u → b = a := fun {b u} q => hA b (by rw [q]; exact fun z => nomatch z)
  have noA : ∀ {b : Addr} {o : Obj} {es : Array DictEntry} {ep : Nat}, s₁.heap.get? b = some o → o.data = .dict es ep → H b = none := fun {b o es ep} e d => by
    match q : H b with
    | none => rfl
    | some u =>
      obtain rfl := at_a q
      rw [ha] at e; cases e
      exact nomatch (show Data.seq vs.toArray _ = Data.dict es ep from d)
  have nsK : ∀ {b : Addr} {m : Str → Option Value}, s₁.heap.Ns b m → (hidT s₁.heap H).Ns b m := fun ⟨o, es, ep, e, d, r⟩ => ⟨o, es, ep, hidT_get e (noA e d), d, r⟩
  have hKb : K.In (hidT s₁.heap H) := fun b o e => hidT_get (KX b o e) (by
    match q : H b with
    | none => rfl
    | some u =>
      obtain rfl := at_a q
      rw [hK (by rw [q]; exact fun z => nomatch z)] at e; cases e)
  have hM : Mod K mg (hidT s₁.heap H) := ⟨hKb, nsK hns, ⟨mb, nsK hb, hbb⟩, let ⟨mc, h1, h2⟩ := hlim; ⟨mc, nsK h1, h2⟩⟩
  have none_in : ∀ b : Addr, b ∉ frs [] := fun b z => nomatch (show b ∈ ([] : List Addr) from z)
  have e0 : Env0 P w K mg (hidT s₁.heap H) callerA [] s₁ H := ⟨rfl, hM, fun b o e => of_hidT e, Nat.le_of_eq (hidT_size _ _), trivial, fun b z => absurd z (none_in b), hok, .of_eq hg⟩
  have run := (F _ hKb (nsK hns)).go callerA rfl hr [] s₁ H ⟨[.ref a], []⟩ [.ref a] [.ref a] _ _ e0 (hbind s₁ (.ref a)) (.cons rfl .nil) (hsp H hO hS)
  refine codeAny_mono run fun r s' h => ?_
  match r, h with
  | .error e, h => exact (hCX H e s' h).elim
  | .ok .next, h | .ok .brk, h | .ok .cont, h => exact False.elim h
  | .ok (.ret u), ⟨v, H', os, bare, un, hok', r', q⟩ =>
    have q1 : v = .bl true := q
    subst q1
    obtain rfl : u = Value.bool true := r'
    refine ⟨rfl, OldK.of_keep fun b o e => ?_, os, bare⟩
    match q : H b with
    | none => exact un.keep b o e q (none_in b) (fun z => nomatch z)
    | some u =>
      rcases hO b with z | ⟨ob, xs, z⟩
      · rw [q] at z; cases z
      · have z2 := un.frzs b ob _ z
        obtain ⟨e1, _⟩ := hok b _ z
        obtain ⟨e2, _⟩ := hok' b _ z2
        rw [e] at e1; cases e1
        exact e2
theorem walk_g {l : PySem.W.OpenLaw} {n k : Nat} {q : Program} {loose : List Str} {XP : (Str → Option Value) → Heap → Prop} {YP : World → Heap → Prop} {d : DefRec} {K : Params → PySem.W.Frag} {sp : PySem.W.Frag → Sp} {x : Str}
    (hn : l.most = some n) (hn2 : n ≤ sizeLine) (hdf : d.params.defaults = []) (hr : Room k callerA) (hY : ∀ (w : World) (h : Heap), YP w h → (K w.params).In h)
    (F : ∀ (w : World) (mg : Str → Option Value) (fa : Addr) (h : Heap), (K w.params).In h → h.Ns mainGlobals mg → mg d.name = some (.ref fa) →
      ∃ fd : FuncData, (∀ (s : Shared) (u : Value), BindsTo s fd ⟨[u], []⟩ [(x, u)]) ∧ ∀ base : Heap, (K w.params).In base → base.Ns mainGlobals mg → GFn l.prog w (K w.params) mg base CX0 k fa fd [x] (sp (K w.params)))
    (hsp : ∀ (K : PySem.W.Frag) (H : Hp) (a : Addr) (ns : List Int), ns.length ≤ n → Only H → SqL K H a (ns.map V.int) → sp K [.ref a] H (fun v _ => v = .bl true) fun _ _ _ => False) :
    PySem.W.WalkO q loose XP YP l.row.toRowW d [] (fun f vs => PySem.call f vs) := by
  refine Att.attach_call hn hdf fun w s₀ s₁ mg mb fa o pm cd doc a vs ns G Y ho hd hcd hmg hobj hints hlen hg => ?_
  have KX := hY w _ Y
  obtain ⟨fd, hb, hF⟩ := F w mg fa _ KX G.T.g hmg
  exact law_g KX G.T.g G.T.b G.T.builtins G.T.nolimit hg hobj hints (Nat.le_trans hlen hn2) hr hF hb (fun H hO hS => hsp _ H a ns hlen hO hS) fun _ _ _ z => z
end KL
namespace KL
open PySem PySem.Spec PyProof.Rows L2
/-- a def of the text, by its name, that keeps a promise and lets no error out -/
def Df (P : Program) (w : World) (K : PySem.W.Frag) (mg : Str → Option Value) (base : Heap) (k : Nat) (x : Str) (ps : List Str) (sp : Sp) : Prop :=
  ∃ (f : Addr) (fd : FuncData), FnOk P w K mg base CX0 k f fd ps sp ∧ PySem.W.keepIn K (.ref f) = true ∧ Binds K fd ps [] ∧ mg x = some (.ref f)
theorem pe_df {X : Cx} {k : Nat} {ps : List Str} {sp : Sp} {x : Str} {p pos : Pos} {e : Expr} {es : List Expr} {t : TA} (D : Df X.prog X.w X.K X.mg X.base k x ps sp) (hr : Room k X.A) (hg : Gl X x) (ha : PA X (e :: es) t)
    (hdb : (x == ("__debug__" : Str)) = false := by decide) (he : starEach (e :: es) X.env = (false, eval e X.env) :: starEach es X.env := by rfl) (hpl : (backTo pos (starEach es X.env)).any (·.1) = false := by rfl) :
    PE X (.Call (.Name x p) (e :: es) [] pos) (tCall sp [] E0 t) := by
  obtain ⟨f, fd, F, kp, b, m⟩ := D
  exact pe_call F hr hg m kp b .nil L2.pass0 ha hdb he hpl
theorem Df.mono {P : Program} {w : World} {K : PySem.W.Frag} {mg : Str → Option Value} {base : Heap} {j k : Nat} {x : Str} {ps : List Str} {sp : Sp} (D : Df P w K mg base j x ps sp) (h : j ≤ k) : Df P w K mg base k x ps sp :=
  let ⟨f, fd, F, r⟩ := D; ⟨f, fd, F.mono h, r⟩
/-! what a draw of the pool leaves -/
def Pl (H : Hp) (p : Addr) : Prop := ∃ a b : Int, H p = some (.lst [.int a, .int b]) ∧ 0 ≤ a ∧ 0 ≤ b ∧ b < 2147483647
/-- all but what stands at p is as it was -/
def Kp (p : Addr) (H H' : Hp) : Prop := ∀ b o, b ≠ p → H b = some o → H' b = some o
theorem Kp.refl (p : Addr) (H : Hp) : Kp p H H := fun _ _ _ h => h
theorem Kp.trans {p : Addr} {H H1 H2 : Hp} (a : Kp p H H1) (b : Kp p H1 H2) : Kp p H H2 := fun c o n h => b c o n (a c o n h)
theorem Kp.of {p : Addr} {H H' : Hp} (s : Same H H') : Kp p H H' := fun b o _ h => s b o h
theorem Kp.upd (p : Addr) (H : Hp) (o : HO) : Kp p H (upd H p o) := fun b u n h => by rw [upd_ne n]; exact h
theorem Pl.same {H H' : Hp} {p : Addr} (h : Pl H p) (s : Same H H') : Pl H' p := let ⟨a, b, e, r⟩ := h; ⟨a, b, s _ _ e, r⟩
theorem same_new {H : Hp} {p : Addr} {o : HO} (h : H p = none) : Same H (upd H p o) := fun b u q => by rw [upd_ne (ne_of_none q h)]; exact q
theorem Kp.free {p : Addr} {H H' : Hp} (k : Kp p H H') {l : Addr} (n : l ≠ p) (h : H' l = none) : H l = none := by
  cases q : H l with
  | none => rfl
  | some o => rw [k l o n q] at h; cases h
theorem Pl.at {H : Hp} {p : Addr} (h : Pl H p) : H p ≠ none := by
  obtain ⟨a, b, e, _⟩ := h
  rw [e]; exact fun z => nomatch z
theorem Kp.freeP {p : Addr} {H H' : Hp} (k : Kp p H H') (h0 : Pl H' p) {l : Addr} (h : H' l = none) : H l = none :=
  k.free (fun e => h0.at (e ▸ h)) h
/-- a tuple is never the pool -/
theorem Kp.tup {K : PySem.W.Frag} {p a : Addr} {H H' : Hp} {xs : List V} (k : Kp p H H') (hp : Pl H p) (h : SqT K H a xs) : SqT K H' a xs := by
  obtain ⟨x, y, e, _⟩ := hp
  rcases h with (h | ⟨o, h⟩) | h
  · exact .inl (.inl (k _ _ (ne_of h e (by intro z; cases z)) h))
  · exact .inl (.inr ⟨o, k _ _ (ne_of h e (by intro z; cases z)) h⟩)
  · exact .inr h
theorem same_tup {K : PySem.W.Frag} {a : Addr} {H H' : Hp} {xs : List V} (s : Same H H') (h : SqT K H a xs) : SqT K H' a xs := by
  rcases h with (h | ⟨o, h⟩) | h
  · exact .inl (.inl (s _ _ h))
  · exact .inl (.inr ⟨o, s _ _ h⟩)
  · exact .inr h
theorem small {n : Nat} (h : n ≤ 1000) : n ≤ sizeLine := Nat.le_of_lt (small1000 h)
end KL
namespace KL
open PySem PySem.Spec PyProof.Rows L2
/-! ### data that can be shown -/
structure Fine (n m : Nat) (d : PyData) : Prop where
  sh : d.showable = true
  ls : d.leavesShort 128 = true
  cl : d.canLay0 = true
  wt : d.weight ≤ n
  dp : d.depth ≤ m
theorem Fine.le {n m n' m' : Nat} {d : PyData} (h : Fine n m d) (hn : n ≤ n') (hm : m ≤ m') : Fine n' m' d := ⟨h.sh, h.ls, h.cl, Nat.le_trans h.wt hn, Nat.le_trans h.dp hm⟩
theorem Fine.none {n m : Nat} : Fine n m .none := ⟨rfl, rfl, rfl, by simp only [PyData.weight]; omega, by simp only [PyData.depth]; omega⟩
theorem Fine.bool {n m : Nat} (b : Bool) : Fine n m (.bool b) := ⟨rfl, rfl, rfl, by simp only [PyData.weight]; omega, by simp only [PyData.depth]; omega⟩
theorem log_lt {i : Int} (h : i.natAbs < 2 ^ 110) : i.natAbs.log2 < 110 := by
  by_cases h0 : i.natAbs = 0
  · rw [h0]; decide
  · exact (Nat.log2_lt h0).mpr h
theorem Fine.int {m : Nat} (i : Int) (h : i.natAbs < 2 ^ 110) : Fine 110 m (.int i) := by
  have hl := log_lt h
  refine ⟨?_, ?_, ?_, ?_, by simp only [PyData.depth]; omega⟩
  · simp only [PyData.showable, decide_eq_true_eq]; omega
  · simp only [PyData.leavesShort, PyData.shown]
    refine decide_eq_true ?_
    have := int_text_length_le (k := 110) (by decide) hl
    show (Str.ofString (toString i)).length ≤ 128
    rw [PySem.ofString_length]
    omega
  · simp only [PyData.canLay0]
  · simp only [PyData.weight]; split <;> omega
structure FineAll (n m : Nat) (ds : List PyData) : Prop where
  all : ∀ d ∈ ds, Fine n m d
theorem FineAll.sh {n m : Nat} : ∀ {ds : List PyData}, FineAll n m ds → PyData.showableAll ds = true
  | [], _ => by simp only [PyData.showableAll]
  | d :: ds, h => by
    simp only [PyData.showableAll, (h.all d List.mem_cons_self).sh, Bool.true_and]
    exact FineAll.sh ⟨fun x hx => h.all x (List.mem_cons_of_mem _ hx)⟩
theorem FineAll.ls {n m : Nat} : ∀ {ds : List PyData}, FineAll n m ds → PyData.leavesShortAll 128 ds = true
  | [], _ => by simp only [PyData.leavesShortAll]
  | d :: ds, h => by
    simp only [PyData.leavesShortAll, (h.all d List.mem_cons_self).ls, Bool.true_and]
    exact FineAll.ls ⟨fun x hx => h.all x (List.mem_cons_of_mem _ hx)⟩
theorem FineAll.cl {n m : Nat} : ∀ {ds : List PyData}, FineAll n m ds → PyData.canLayAll0 ds = true
  | [], _ => by simp only [PyData.canLayAll0]
  | d :: ds, h => by
    simp only [PyData.canLayAll0, (h.all d List.mem_cons_self).cl, Bool.true_and]
    exact FineAll.cl ⟨fun x hx => h.all x (List.mem_cons_of_mem _ hx)⟩
theorem FineAll.wt {n m : Nat} : ∀ {ds : List PyData}, FineAll n m ds → PyData.weightAll ds ≤ ds.length * (n + 1)
  | [], _ => by simp only [PyData.weightAll]; omega
  | d :: ds, h => by
    simp only [PyData.weightAll, List.length_cons]
    have h1 := (h.all d List.mem_cons_self).wt
    have h2 := FineAll.wt (ds := ds) ⟨fun x hx => h.all x (List.mem_cons_of_mem _ hx)⟩
    rw [Nat.add_mul]; omega
theorem FineAll.dp {n m : Nat} : ∀ {ds : List PyData}, FineAll n m ds → PyData.depthAll ds ≤ m
  | [], _ => by simp only [PyData.depthAll]; omega
  | d :: ds, h => by
    simp only [PyData.depthAll]
    have h1 := (h.all d List.mem_cons_self).dp
    have h2 := FineAll.dp (ds := ds) ⟨fun x hx => h.all x (List.mem_cons_of_mem _ hx)⟩
    omega
theorem Fine.tuple {n m l : Nat} {ds : List PyData} (h : ∀ d ∈ ds, Fine n m d) (hl : ds.length ≤ l) : Fine (l * (n + 1)) (m + 1) (.tuple ds) := by
  have a : FineAll n m ds := ⟨h⟩
  refine ⟨by simp only [PyData.showable]; exact a.sh, by simp only [PyData.leavesShort]; exact a.ls, by simp only [PyData.canLay0]; exact a.cl, ?_, ?_⟩
  · simp only [PyData.weight]; exact Nat.le_trans a.wt (Nat.mul_le_mul_right _ hl)
  · simp only [PyData.depth]; exact Nat.succ_le_succ a.dp
theorem Fine.list {n m l : Nat} {ds : List PyData} (h : ∀ d ∈ ds, Fine n m d) (hl : ds.length ≤ l) : Fine (l * (n + 1)) (m + 1) (.list ds) := by
  have a : FineAll n m ds := ⟨h⟩
  refine ⟨by simp only [PyData.showable]; exact a.sh, by simp only [PyData.leavesShort]; exact a.ls, by simp only [PyData.canLay0]; exact a.cl, ?_, ?_⟩
  · simp only [PyData.weight]; exact Nat.le_trans a.wt (Nat.mul_le_mul_right _ hl)
  · simp only [PyData.depth]; exact Nat.succ_le_succ a.dp
theorem Fine.len {n m : Nat} {d : PyData} (h : Fine n m d) (hn : n ≤ 100000) : d.shown.length ≤ sizeLine := by
  have e := PyData.shown_le 128 (by decide) d h.ls
  have e2 : (128 + 2) * d.weight ≤ (128 + 2) * 100000 := Nat.mul_le_mul_left _ (Nat.le_trans h.wt hn)
  rw [sizeLine_eq]; omega
theorem Fine.shaped {n m : Nat} {d : PyData} (h : Fine n m d) (hm : m ≤ 60) : SeqAt.shaped d = true := by
  unfold SeqAt.shaped
  rw [h.cl, Bool.true_and]
  exact decide_eq_true (Nat.le_trans h.dp (by omega))
/-- what repr asks, of fine data -/
theorem rep_of {K : PySem.W.Frag} {H : Hp} {x : V} {d : PyData} {Q : VK} {n m : Nat} (h : Dp K H x d) (f : Fine n m d) (hn : n ≤ 100000) (hm : m ≤ 60) (q : Q (.str d.shown) H) : rRep K [x] H Q :=
  ⟨x, d, rfl, h, f.sh, Nat.le_trans f.dp hm, f.len hn, q⟩
theorem rep_bool {K : PySem.W.Frag} {H : Hp} {b : Bool} {Q : VK} (q : Q (.str (PyData.bool b).shown) H) : rRep K [.bl b] H Q := rep_of (n := 0) (m := 0) (.bl b) (Fine.bool b) (by omega) (by omega) q
/-! ### kinds -/
def tyD : PyData → String
  | .none => "NoneType"
  | .bool _ => "bool"
  | .int _ => "int"
  | .str _ => "str"
  | .list _ => "list"
  | .tuple _ => "tuple"
  | .dict _ => "dict"
theorem dpTy {K : PySem.W.Frag} {H : Hp} {x : V} {d : PyData} (h : Dp K H x d) : TyX K H x (.type (tyD d)) := by
  cases h with
  | non => exact .base .non
  | bl b => exact .base (.bl b)
  | int i => exact .base (.int i)
  | str y => exact .base (.str y)
  | lst s _ =>
    rcases s with (e | ⟨o, e⟩) | ⟨o, its, n, e, c, _⟩
    · exact .base (.lst e)
    · exact .base (.frz e)
    · exact .kList e c
  | tup s _ =>
    rcases s with (e | ⟨o, e⟩) | ⟨o, its, n, e, c, _⟩
    · exact .base (.tup e)
    · exact .fTuple e
    · exact .kTuple e c
/-- isinstance(x, T) over data -/
def isiD (d : PyData) (T : String) : Bool := match kitB (tyD d) T with
  | some b => b
  | none => false
theorem kit_int (d : PyData) : kitB (tyD d) "int" = some (match d with | .int _ | .bool _ => true | _ => false) := by cases d <;> (simp only [tyD]; decide +kernel)
theorem kit_bool (d : PyData) : kitB (tyD d) "bool" = some (match d with | .bool _ => true | _ => false) := by cases d <;> (simp only [tyD]; decide +kernel)
theorem kit_tuple (d : PyData) : kitB (tyD d) "tuple" = some (match d with | .tuple _ => true | _ => false) := by cases d <;> (simp only [tyD]; decide +kernel)
theorem kit_list (d : PyData) : kitB (tyD d) "list" = some (match d with | .list _ => true | _ => false) := by cases d <;> (simp only [tyD]; decide +kernel)
theorem kit_str (d : PyData) : kitB (tyD d) "str" = some (match d with | .str _ => true | _ => false) := by cases d <;> (simp only [tyD]; decide +kernel)
theorem isi_of {K : PySem.W.Frag} {H : Hp} {x : V} {d : PyData} {T : String} {b : Bool} {Q : VK} (h : Dp K H x d) (k : kitB (tyD d) T = some b) (q : Q (.bl b) H) : rIsi K [x, .ty T] H Q :=
  ⟨x, .ty T, .type (tyD d), .type T, b, rfl, .ty T, dpTy h, kit_ty k, q⟩
theorem atI_at {α : Type} {xs : List α} {i : Int} (h0 : 0 ≤ i) (h : i < (xs.length : Int)) : ∃ v, atI xs i = some v ∧ xs[i.toNat]? = some v := by
  have hi : i.toNat < xs.length := by omega
  refine ⟨xs[i.toNat], ?_, List.getElem?_eq_getElem hi⟩
  have q := atI_nat (List.getElem?_eq_getElem hi)
  rw [show ((i.toNat : Nat) : Int) = i by omega] at q
  exact q
theorem atI_ints {ns : List Int} {i : Int} (h0 : 0 ≤ i) (h : i < (ns.length : Int)) : ∃ v, atI (ns.map V.int) i = some (.int v) ∧ ns[i.toNat]? = some v := by
  obtain ⟨v, h1, h2⟩ := atI_at (xs := ns.map V.int) h0 (by rw [List.length_map]; exact h)
  rw [List.getElem?_map] at h2
  cases e : ns[i.toNat]? with
  | none => rw [e] at h2; cases h2
  | some u => rw [e] at h2; cases h2; exact ⟨u, h1, rfl⟩
/-! ### ints as data -/
theorem dpInts {K : PySem.W.Frag} {H : Hp} : ∀ ns : List Int, DpAll K H (ns.map V.int) (ns.map PyData.int)
  | [] => .nil
  | n :: ns => .cons (.int n) (dpInts ns)
theorem fineInts {B : Nat} {ns : List Int} (h : ∀ n ∈ ns, n.natAbs < 2 ^ 110) : ∀ d ∈ ns.map PyData.int, Fine 110 0 d := fun d hd => by
  obtain ⟨n, hn, rfl⟩ := List.mem_map.mp hd
  exact Fine.int n (h n hn)
theorem shInts (ns : List Int) : SeqAt.shaped (.list (ns.map PyData.int)) = true := by
  have h1 : ∀ ns : List Int, PyData.canLayAll0 (ns.map PyData.int) = true := fun ns => by
    induction ns with
    | nil => simp only [List.map_nil, PyData.canLayAll0]
    | cons n ns ih => simp only [List.map_cons, PyData.canLayAll0, PyData.canLay0, ih, Bool.true_and]
  have h2 : ∀ ns : List Int, PyData.depthAll (ns.map PyData.int) = 0 := fun ns => by
    induction ns with
    | nil => simp only [List.map_nil, PyData.depthAll]
    | cons n ns ih => simp only [List.map_cons, PyData.depthAll, PyData.depth, ih, Nat.max_self]
  unfold SeqAt.shaped
  simp only [PyData.canLay0, h1, PyData.depth, h2, Bool.true_and]
  decide
theorem shNil : SeqAt.shaped (.list []) = true := shInts []
theorem eqvNil (ns : List Int) : PyData.eqv (.list (ns.map PyData.int)) (.list []) = decide (ns = []) := by
  cases ns with
  | nil => simp [PyData.eqv, PyData.eqvAll]
  | cons n ns => simp [PyData.eqv, PyData.eqvAll]
mutual
theorem dpMv {K : PySem.W.Frag} {H H' : Hp} (tl : ∀ a xs, SqL K H a xs → SqL K H' a xs) (tt : ∀ a xs, SqT K H a xs → SqT K H' a xs) : ∀ (d : PyData) {x : V}, Dp K H x d → Dp K H' x d
  | .none, _, h => by cases h; exact .non
  | .bool b, _, h => by cases h; exact .bl b
  | .int i, _, h => by cases h; exact .int i
  | .str y, _, h => by cases h; exact .str y
  | .list ds, _, h => by
    cases h with
    | lst s a => exact .lst (tl _ _ s) (dpMvs tl tt ds a)
  | .tuple ds, _, h => by
    cases h with
    | tup s a => exact .tup (tt _ _ s) (dpMvs tl tt ds a)
  | .dict _, _, h => by cases h
theorem dpMvs {K : PySem.W.Frag} {H H' : Hp} (tl : ∀ a xs, SqL K H a xs → SqL K H' a xs) (tt : ∀ a xs, SqT K H a xs → SqT K H' a xs) : ∀ (ds : List PyData) {xs : List V}, DpAll K H xs ds → DpAll K H' xs ds
  | [], _, h => by cases h; exact .nil
  | d :: ds, _, h => by
    cases h with
    | cons h1 h2 => exact .cons (dpMv tl tt d h1) (dpMvs tl tt ds h2)
end
theorem dpSame {K : PySem.W.Frag} {H H' : Hp} {x : V} {d : PyData} (h : Dp K H x d) (s : Same H H') : Dp K H' x d := dpMv (fun _ _ q => s.seq q) (fun _ _ q => same_tup s q) d h
end KL
namespace KL
open PySem PySem.Spec PyProof.Rows L2
/-! ### what is told apart from the pool -/
def hid (p : Addr) (H : Hp) : Hp := fun b => if b = p then none else H b
theorem hid_same (p : Addr) (H : Hp) : Same (hid p H) H := fun b o h => by
  unfold hid at h
  split at h
  · cases h
  · exact h
theorem Kp.hid {p : Addr} {H H' : Hp} (k : Kp p H H') : Same (hid p H) (hid p H') := fun b o h => by
  unfold KL.hid at h ⊢
  split at h
  · cases h
  · rename_i n; rw [if_neg n]; exact k b o n h
theorem hid_of {p b : Addr} {H : Hp} {o : HO} (n : b ≠ p) (h : H b = some o) : hid p H b = some o := by unfold hid; rw [if_neg n]; exact h
theorem hidT {K : PySem.W.Frag} {p a : Addr} {H : Hp} {xs : List V} (hp : Pl H p) (h : SqT K H a xs) : SqT K (hid p H) a xs := by
  obtain ⟨x, y, e, _⟩ := hp
  rcases h with (h | ⟨o, h⟩) | h
  · exact .inl (.inl (hid_of (ne_of h e (by intro z; cases z)) h))
  · exact .inl (.inr ⟨o, hid_of (ne_of h e (by intro z; cases z)) h⟩)
  · exact .inr h
theorem unhidT {K : PySem.W.Frag} {p a : Addr} {H : Hp} {xs : List V} (h : SqT K (hid p H) a xs) : SqT K H a xs := same_tup (hid_same p H) h
section
variable {X : Cx}
/-- t + u, whichever object it is -/
def rCatK (K : PySem.W.Frag) : R2 := fun x y H Q => ∃ a b xs ys, x = .ref a ∧ y = .ref b ∧ SqT K H a xs ∧ SqT K H b ys ∧ xs.length + ys.length ≤ sizeLine ∧ ∀ r H', Same H H' → SqT K H' r (xs ++ ys) → Q (.ref r) H'
theorem op_catK : OpR X (binaryOp .Add) (rCatK X.K) := by
  intro pins s σ H x y v u Q I rx ry h
  obtain ⟨a, b, xs, ys, rfl, rfl, ha, hb, hz, q⟩ := h
  refine op_catA pins s σ H _ _ v u Q I rx ry ⟨a, b, xs, ys, rfl, rfl, ha, hb, hz, fun e => ?_, fun _ e => ?_, fun _ _ p hp => q p _ (same_new hp) (SqT.of upd_same)⟩
  · subst e; exact q b H (Same.refl H) hb
  · subst e; exact q a H (Same.refl H) (by rw [List.append_nil]; exact ha)
theorem cut_whole {xs : List V} {lo hi : Option Int} (h : HT.sIx xs.length 0 lo = 0 ∧ HT.sIx xs.length xs.length hi = xs.length) : cutV xs lo hi = xs := by
  unfold cutV
  rw [h.1, h.2]
  simp
theorem cut_sub {xs : List V} {lo hi : Option Int} : (∀ v ∈ cutV xs lo hi, v ∈ xs) ∧ (cutV xs lo hi).length ≤ xs.length := by
  unfold cutV
  refine ⟨fun v hv => List.mem_of_mem_drop (List.mem_of_mem_take hv), ?_⟩
  rw [List.length_take, List.length_drop]
  omega
/-- t[lo:hi], whichever object it is -/
def rSlK (K : PySem.W.Frag) : V → Option Int → Option Int → Hp → VK → Prop := fun x lo hi H Q => ∃ a xs, x = .ref a ∧ SqT K H a xs ∧ ∀ r H', Same H H' → SqT K H' r (cutV xs lo hi) → Q (.ref r) H'
theorem sl_tupK : SlR X (rSlK X.K) := by
  intro pins s σ H x v vl vu lo hi sl Q I rx hs pl pu h
  obtain ⟨a, xs, rfl, hx, q⟩ := h
  exact sl_tupA pins s σ H _ v vl vu lo hi sl Q I rx hs pl pu ⟨a, xs, rfl, hx, fun w => q a H (Same.refl H) (by rw [cut_whole w]; exact hx), fun _ p hp => q p _ (same_new hp) (SqT.of upd_same)⟩
end
theorem Fine.str1 : Fine 10 0 (.str (Str.ofString "1")) := ⟨rfl, by decide +kernel, by decide +kernel, by decide +kernel, by decide +kernel⟩
/-- an item that can be shown -/
def It (K : PySem.W.Frag) (H : Hp) (v : V) : Prop := ∃ d, Dp K H v d ∧ Fine 200 1 d
theorem It.same {K : PySem.W.Frag} {H H' : Hp} {v : V} (h : It K H v) (s : Same H H') : It K H' v := let ⟨d, h1, h2⟩ := h; ⟨d, dpSame h1 s, h2⟩
theorem It.int {K : PySem.W.Frag} {H : Hp} (i : Int) (h : i.natAbs < 2 ^ 110) : It K H (.int i) := ⟨_, .int i, (Fine.int (m := 0) i h).le (by omega) (by omega)⟩
theorem its_all {K : PySem.W.Frag} {H : Hp} : ∀ {xs : List V}, (∀ v ∈ xs, It K H v) → ∃ ds, DpAll K H xs ds ∧ ds.length = xs.length ∧ ∀ d ∈ ds, Fine 200 1 d
  | [], _ => ⟨[], .nil, rfl, fun _ h => nomatch h⟩
  | x :: xs, h => by
    obtain ⟨d, h1, h2⟩ := h x List.mem_cons_self
    obtain ⟨ds, h3, h4, h5⟩ := its_all (xs := xs) fun v hv => h v (List.mem_cons_of_mem _ hv)
    exact ⟨d :: ds, .cons h1 h3, by rw [List.length_cons, List.length_cons, h4], fun z hz => by
      rcases List.mem_cons.mp hz with e | e
      · rw [e]; exact h2
      · exact h5 z e⟩
/-- data that can be shown -/
def Dat (K : PySem.W.Frag) (H : Hp) (x : V) : Prop := ∃ d, Dp K H x d ∧ Fine 100000 3 d
theorem Dat.same {K : PySem.W.Frag} {H H' : Hp} {v : V} (h : Dat K H v) (s : Same H H') : Dat K H' v := let ⟨d, h1, h2⟩ := h; ⟨d, dpSame h1 s, h2⟩
theorem dat_tup {K : PySem.W.Frag} {H : Hp} {a : Addr} {xs : List V} (h : SqT K H a xs) (hi : ∀ v ∈ xs, It K H v) (hl : xs.length ≤ 400) : Dat K H (.ref a) := by
  obtain ⟨ds, h1, h2, h3⟩ := its_all hi
  exact ⟨_, .tup h h1, (Fine.tuple h3 (l := 400) (by omega)).le (by omega) (by omega)⟩
theorem dat_lst {K : PySem.W.Frag} {H : Hp} {a : Addr} {xs : List V} (h : SqL K H a xs) (hi : ∀ v ∈ xs, It K H v) (hl : xs.length ≤ 400) : Dat K H (.ref a) := by
  obtain ⟨ds, h1, h2, h3⟩ := its_all hi
  exact ⟨_, .lst h h1, (Fine.list h3 (l := 400) (by omega)).le (by omega) (by omega)⟩
end KL
namespace KL
open PySem PySem.Spec PyProof.Rows L2
/-- a def of the text, whatever its defaults -/
def Fb (K : PySem.W.Frag) (x qual : Str) (st : Stmt) (f : Addr) (fd : FuncData) : Prop :=
  ∃ (oc : Value) (od : Option Addr) (dV kV doc pm : Value) (an : Option Addr) (cdv ct : Value) (osl : Array (Option Value)),
    fd = PySem.W.fnOf x qual (defArgs st) (defBody st) (defScope st) dV kV doc pm an cdv ct ∧ K.lookup f = some ⟨oc, od, .func fd, osl⟩ ∧ PySem.W.codeIn K cdv qual = true
section
variable {P : Program} {w : World} {K : PySem.W.Frag} {mg : Str → Option Value} {base : Heap} {x qual : Str} {st : Stmt} {f : Addr} {fd : FuncData}
theorem Fb.ok {N ps : List Str} {k : Nat} {sp : Sp} (F : Fb K x qual st f fd) (S : FnScope N ps (defScope st)) (len : ∀ vs H Q E, sp vs H Q E → vs.length = ps.length)
    (body : ∀ (cdv : Value) (A : Around) (outer : List Env) (s : Shared) (H : Hp) (vs : List V) (Q : VK) (E : XK), Room k (A.deeper (envOfC qual (defScope st) s.heap.objs.size f cdv)) → sp vs H Q E →
      ∃ t, PSs (cxOf CX0 P w K mg base N qual (defScope st) f cdv A outer s H E).nox (defBody st) t ∧ t { nx := fun _ G => Q .non G, rt := Q } (start N vs) H) : FnOk P w K mg base CX0 (k + 1) f fd ps sp := by
  obtain ⟨oc, od, dV, kV, doc, pm, an, cdv, ct, osl, rfl, lk, hcd⟩ := F
  exact fn_of lk hcd S len fun A outer s H vs Q E hr h => let ⟨t, h1, h2⟩ := body cdv A outer s H vs Q E hr h; ⟨t, h1.nox, h2⟩
theorem Fb.of (F : Fun K x qual st f fd) : Fb K x qual st f fd := let ⟨oc, od, kV, doc, pm, an, cdv, ct, osl, h⟩ := F.ex; ⟨oc, od, .none, kV, doc, pm, an, cdv, ct, osl, h⟩
end
/-- a def called with its last defaults left out -/
def Dfd (P : Program) (w : World) (K : PySem.W.Frag) (mg : Str → Option Value) (base : Heap) (k : Nat) (x : Str) (ps : List Str) (sp : Sp) (dvs : List V) : Prop :=
  ∃ (f : Addr) (fd : FuncData) (ds : List Value), FnOk P w K mg base CX0 k f fd ps sp ∧ PySem.W.keepIn K (.ref f) = true ∧ Binds K fd ps ds ∧ Vals dvs ds ∧ mg x = some (.ref f)
theorem pe_dfd {X : Cx} {k : Nat} {ps : List Str} {sp : Sp} {dvs : List V} {x : Str} {p pos : Pos} {e : Expr} {es : List Expr} {t : TA} (D : Dfd X.prog X.w X.K X.mg X.base k x ps sp dvs) (hr : Room k X.A) (hg : Gl X x) (ha : PA X (e :: es) t)
    (hdb : (x == ("__debug__" : Str)) = false := by decide) (he : starEach (e :: es) X.env = (false, eval e X.env) :: starEach es X.env := by rfl) (hpl : (backTo pos (starEach es X.env)).any (·.1) = false := by rfl) :
    PE X (.Call (.Name x p) (e :: es) [] pos) (tCall sp dvs E0 t) := by
  obtain ⟨f, fd, ds, F, kp, b, r, m⟩ := D
  exact pe_call F hr hg m kp b r L2.pass0 ha hdb he hpl
theorem Dfd.mono {P : Program} {w : World} {K : PySem.W.Frag} {mg : Str → Option Value} {base : Heap} {j k : Nat} {x : Str} {ps : List Str} {sp : Sp} {dvs : List V} (D : Dfd P w K mg base j x ps sp dvs) (h : j ≤ k) : Dfd P w K mg base k x ps sp dvs :=
  let ⟨f, fd, ds, F, r⟩ := D; ⟨f, fd, ds, F.mono h, r⟩
theorem same_kp {p : Addr} {H H1 H2 : Hp} (s : Same H H1) (n : H p = none) (k : Kp p H1 H2) : Same H H2 := fun b o h => k b o (ne_of_none h n) (s b o h)
theorem ne_self {A B : Prop} {x : V} (h : B) : if (!decide (x = x)) = true then A else B := by rw [decide_eq_true rfl]; exact iteF h
end KL
namespace KL
open PySem PySem.Spec PyProof.Rows L2
section
variable {X : Cx}
theorem eqV_int (i j : Int) : eqV (.int i) (.int j) = decide (i = j) := by
  show (i == j) = decide (i = j)
  exact Bool.eq_iff_iff.mpr (by rw [beq_iff_eq, decide_eq_true_eq])
theorem inV_ints (n : Int) : ∀ ns : List Int, inV (.int n) (ns.map V.int) = decide (n ∈ ns)
  | [] => by simp [inV]
  | m :: ns => by
    have ih := inV_ints n ns
    unfold inV at ih ⊢
    rw [List.map_cons, List.any_cons, ih, eqV_int]
    by_cases h : m = n
    · subst h; simp
    · have h' : ¬ n = m := fun e => h e.symm
      simp [h, h']
theorem flat_ints : ∀ ns : List Int, (ns.map V.int).all flatV = true
  | [] => rfl
  | _ :: ns => by rw [List.map_cons, List.all_cons, flat_ints ns]; rfl
/-- n in ns, ints -/
def rInI (K : PySem.W.Frag) (neg : Bool) : R2 := fun x y H Q => ∃ (p : Addr) (n : Int) (ns : List Int), x = .int n ∧ y = .ref p ∧ (SqL K H p (ns.map V.int) ∨ SqT K H p (ns.map V.int)) ∧ Q (.bl (if neg then !decide (n ∈ ns) else decide (n ∈ ns))) H
theorem op_inI : OpR X (compareOp .In) (rInI X.K false) := by
  intro pins s σ H x y v u Q I rx ry h
  obtain ⟨p, n, ns, rfl, rfl, hq, q⟩ := h
  exact op_in_seq pins s σ H _ _ v u Q I rx ry ⟨p, ns.map V.int, rfl, hq, rfl, flat_ints ns, by rw [inV_ints]; exact q⟩
theorem op_notInI : OpR X (compareOp .NotIn) (rInI X.K true) := by
  intro pins s σ H x y v u Q I rx ry h
  obtain ⟨p, n, ns, rfl, rfl, hq, q⟩ := h
  exact op_notIn_seq pins s σ H _ _ v u Q I rx ry ⟨p, ns.map V.int, rfl, hq, rfl, flat_ints ns, by rw [inV_ints]; exact q⟩
theorem pi_or {tg l : Expr} {w1 w2 : TI} (h1 : PI X tg l w1) (h2 : PI X tg l w2) : PI X tg l (fun σ H R => w1 σ H R ∨ w2 σ H R) :=
  ⟨fun pins s σ H R I h => h.elim (fun h => h1.run pins s σ H R I h) (fun h => h2.run pins s σ H R I h)⟩
theorem pi_seq {tg l : Expr} {tl : TE} (hl : PE X l tl) : PI X tg l (fun σ H R => iList X.K tl σ H R ∨ iTup X.K tl σ H R) := pi_or (pi_list hl) (pi_tup hl)
end
/-! ### ints by their things -/
abbrev ab (n : Int) : Int := if n < 0 then -n else n
theorem ab_nat (n : Int) : ab n = (n.natAbs : Int) := by unfold ab; split <;> omega
theorem natAbs_eq {a b : Int} (h : a.natAbs = b.natAbs) : a = b ∨ a = -b := by omega
/-- rising lists of the same ints are the same -/
theorem rising_eq : ∀ {xs ys : List Int}, xs.Pairwise (fun a b => a.natAbs < b.natAbs) → ys.Pairwise (fun a b => a.natAbs < b.natAbs) → (∀ m, m ∈ xs ↔ m ∈ ys) → xs = ys
  | [], [], _, _, _ => rfl
  | [], y :: ys, _, _, h => absurd ((h y).mpr List.mem_cons_self) (by simp)
  | x :: xs, [], _, _, h => absurd ((h x).mp List.mem_cons_self) (by simp)
  | x :: xs, y :: ys, hx, hy, h => by
    rw [List.pairwise_cons] at hx hy
    have e : x = y := by
      have h1 := (h x).mp List.mem_cons_self
      have h2 := (h y).mpr List.mem_cons_self
      rcases List.mem_cons.mp h1 with e | e
      · exact e
      rcases List.mem_cons.mp h2 with e' | e'
      · exact e'.symm
      have a := hy.1 x e
      have b := hx.1 y e'
      omega
    subst e
    rw [rising_eq hx.2 hy.2 fun m => ?_]
    have hm := h m
    rw [List.mem_cons, List.mem_cons] at hm
    constructor
    · intro z
      rcases hm.mp (.inr z) with e | e
      · subst e; exact absurd (hx.1 m z) (by omega)
      · exact e
    · intro z
      rcases hm.mpr (.inr z) with e | e
      · subst e; exact absurd (hy.1 m z) (by omega)
      · exact e
/-- the clause of signs: rising, each once -/
structure ClOf (ns cs : List Int) : Prop where
  up : cs.Pairwise fun a b => a.natAbs < b.natAbs
  mem : ∀ m, m ∈ cs ↔ m ∈ ns
theorem ClOf.eq {ns cs ds : List Int} (h : ClOf ns cs) (h' : ClOf ns ds) : cs = ds := rising_eq h.up h'.up fun m => (h.mem m).trans (h'.mem m).symm
/-- signs that say both of a thing -/
def Both (ns : List Int) : Prop := ∃ n ∈ ns, -n ∈ ns
/-! the dict of signs by their things -/
def kvOf (ms : List Int) : List (Key × V) := ms.map fun m => (Sum.inl (ab m), V.int m)
theorem kvOf_get {ms : List Int} {k : Int} {v : V} (h : valV (kvOf ms) (.inl k) = some v) : ∃ m ∈ ms, ab m = k ∧ v = .int m := by
  induction ms with
  | nil => rw [show kvOf [] = [] from rfl, valV_nil] at h; cases h
  | cons m ms ih =>
    by_cases e : ab m = k
    · rw [show kvOf (m :: ms) = (Sum.inl (ab m), V.int m) :: kvOf ms from rfl, valV_pos (congrArg Sum.inl e)] at h
      cases h
      exact ⟨m, List.mem_cons_self, e, rfl⟩
    · rw [show kvOf (m :: ms) = (Sum.inl (ab m), V.int m) :: kvOf ms from rfl, valV_neg (fun z => e (Sum.inl.inj z))] at h
      obtain ⟨x, hx, r⟩ := ih h
      exact ⟨x, List.mem_cons_of_mem _ hx, r⟩
theorem kvOf_none {ms : List Int} {k : Int} (h : valV (kvOf ms) (.inl k) = none) : ∀ m ∈ ms, ab m ≠ k := by
  induction ms with
  | nil => intro m hm; cases hm
  | cons x ms ih =>
    by_cases e : ab x = k
    · rw [show kvOf (x :: ms) = (Sum.inl (ab x), V.int x) :: kvOf ms from rfl, valV_pos (congrArg Sum.inl e)] at h
      cases h
    · rw [show kvOf (x :: ms) = (Sum.inl (ab x), V.int x) :: kvOf ms from rfl, valV_neg (fun z => e (Sum.inl.inj z))] at h
      intro m hm
      rcases List.mem_cons.mp hm with z | z
      · rw [z]; exact e
      · exact ih h m z
theorem kvOf_put {ms : List Int} {n : Int} (h : ∀ m ∈ ms, ab m ≠ ab n) : putK (kvOf ms) (.inl (ab n)) (.int n) = kvOf (ms ++ [n]) := by
  unfold putK
  rw [if_neg ?_]
  · unfold kvOf; rw [List.map_append]; rfl
  · intro z
    obtain ⟨p, hp, e⟩ := List.any_eq_true.mp z
    obtain ⟨m, hm, rfl⟩ := List.mem_map.mp hp
    exact h m hm (Sum.inl.inj (of_decide_eq_true e))
theorem find_ab {ms : List Int} (hd : ms.Pairwise fun a b => ab a ≠ ab b) {m : Int} (hm : m ∈ ms) : (ms.find? fun x => decide (ab x = ab m)) = some m := by
  induction ms with
  | nil => cases hm
  | cons x ms ih =>
    rw [List.pairwise_cons] at hd
    rw [List.find?_cons]
    rcases List.mem_cons.mp hm with e | e
    · subst e; simp
    · rw [decide_eq_false (hd.1 m e)]
      exact ih hd.2 e
theorem ab_inj {ms : List Int} (hd : ms.Pairwise fun a b => ab a ≠ ab b) {x m : Int} (hx : x ∈ ms) (hm : m ∈ ms) (e : ab x = ab m) : x = m := by
  have h1 := find_ab hd hm
  have h2 := find_ab hd hx
  rw [e, h1] at h2
  exact (Option.some.inj h2).symm
theorem kvOf_some {ms : List Int} (hd : ms.Pairwise fun a b => ab a ≠ ab b) : ∀ m ∈ ms, valV (kvOf ms) (.inl (ab m)) = some (.int m) := by
  intro m hm
  cases e : valV (kvOf ms) (.inl (ab m)) with
  | none => exact absurd rfl (kvOf_none e m hm)
  | some v =>
    obtain ⟨x, hx, e1, rfl⟩ := kvOf_get e
    rw [ab_inj hd hx hm e1]
theorem kvOf_keys (ms : List Int) : (kvOf ms).map (·.1) = (ms.map ab).map Sum.inl := by
  unfold kvOf
  rw [List.map_map, List.map_map]
  rfl
/-- the signs by the sorted things -/
def byKeys (ms : List Int) (ys : List Int) : List Int := ys.map fun y => (ms.find? fun m => decide (ab m = y)).getD 0
theorem byKeys_ok {ms ys : List Int} (hd : ms.Pairwise fun a b => ab a ≠ ab b) (hp : ys.Perm (ms.map ab)) (hs : ys.Pairwise (· ≤ ·)) : ClOf ms (byKeys ms ys) := by
  have nd : ys.Nodup := hp.nodup_iff.mpr ((List.pairwise_map.mpr hd))
  have each : ∀ y ∈ ys, ∃ m ∈ ms, ab m = y ∧ (ms.find? fun x => decide (ab x = y)).getD 0 = m := fun y hy => by
    obtain ⟨m, hm, e⟩ := List.mem_map.mp (hp.mem_iff.mp hy)
    subst e
    exact ⟨m, hm, rfl, by rw [find_ab hd hm]; rfl⟩
  refine ⟨?_, fun m => ⟨fun h => ?_, fun h => ?_⟩⟩
  · unfold byKeys
    rw [List.pairwise_map]
    have st : ys.Pairwise (fun a b => a ≤ b ∧ a ≠ b) := hs.and nd
    refine List.Pairwise.imp_of_mem (fun {a b} ha hb h => ?_) st
    obtain ⟨m1, _, e1, f1⟩ := each a ha
    obtain ⟨m2, _, e2, f2⟩ := each b hb
    rw [f1, f2]
    rw [ab_nat] at e1 e2
    omega
  · obtain ⟨y, hy, rfl⟩ := List.mem_map.mp h
    obtain ⟨m, hm, _, f⟩ := each y hy
    rw [f]; exact hm
  · refine List.mem_map.mpr ⟨ab m, hp.mem_iff.mpr (List.mem_map.mpr ⟨m, h, rfl⟩), ?_⟩
    rw [find_ab hd h]; rfl
end KL
namespace KL
open PySem PySem.Spec PyProof.Rows L2
def sayB (bs : List Bool) (n : Int) : Bool := (bs.getD (n.natAbs - 1) false) == decide (0 < n)
theorem say_at {bs : List Bool} {n : Int} (h1 : 1 ≤ n.natAbs) (h2 : n.natAbs ≤ bs.length) : ∃ b, atI (bs.map V.bl) (ab n - 1) = some (.bl b) ∧ sayB bs n = (b == decide (0 < n)) := by
  obtain ⟨v, h3, h4⟩ := atI_at (xs := bs.map V.bl) (i := ab n - 1) (by rw [ab_nat]; omega) (by rw [ab_nat, List.length_map]; omega)
  have e : (ab n - 1).toNat = n.natAbs - 1 := by rw [ab_nat]; omega
  rw [e, List.getElem?_map] at h4
  cases q : bs[n.natAbs - 1]? with
  | none => rw [q] at h4; cases h4
  | some b =>
    rw [q] at h4; cases h4
    refine ⟨b, h3, ?_⟩
    unfold sayB
    rw [List.getD_eq_getElem?_getD, q]; rfl
theorem say_eq (b c : Bool) : decide (V.bl b = V.bl c) = (b == c) := by cases b <;> cases c <;> rfl
theorem at_int {ns : List Int} {i : Nat} {x : V} (h : (ns.map V.int)[i]? = some x) : ∃ n, x = .int n ∧ n ∈ ns ∧ ns.take (i + 1) = ns.take i ++ [n] := by
  rw [List.getElem?_map] at h
  cases q : ns[i]? with
  | none => rw [q] at h; cases h
  | some n =>
    rw [q] at h; cases h
    refine ⟨n, rfl, List.mem_of_getElem? q, ?_⟩
    rw [List.take_add_one, q]; rfl
/-- the loop of clause_of -/
def CofW (ns : List Int) (H : Hp) (a d : Addr) (i : Nat) (σ : L2.St) (H1 : Hp) : Prop :=
  ∃ (y2 y3 : Option V) (ms : List Int), σ = [some (.ref a), some (.ref d), y2, y3] ∧ Same H H1 ∧ H1 d = some (.dK (kvOf ms)) ∧ ms.Pairwise (fun a b => ab a ≠ ab b) ∧ ∀ m, m ∈ ms ↔ m ∈ ns.take i
theorem CofW.same {ns : List Int} {H : Hp} {a d : Addr} {i : Nat} {σ : L2.St} {H1 : Hp} (h : CofW ns H a d i σ H1) : Same H H1 := let ⟨_, _, _, _, s, _⟩ := h; s
theorem nd_len : ∀ {ms ns : List Int}, ms.Nodup → (∀ m ∈ ms, m ∈ ns) → ms.length ≤ ns.length
  | [], _, _, _ => Nat.zero_le _
  | m :: ms, ns, hd, h => by
    rw [List.nodup_cons] at hd
    have h1 := h m List.mem_cons_self
    have ih := nd_len (ms := ms) (ns := ns.erase m) hd.2 fun x hx => (List.mem_erase_of_ne (fun e : x = m => hd.1 (by rw [← e]; exact hx))).mpr (h x (List.mem_cons_of_mem _ hx))
    rw [List.length_erase_of_mem h1] at ih
    have := List.length_pos_of_mem h1
    rw [List.length_cons]; omega
theorem dj_len {ms ns : List Int} (dj : ms.Pairwise fun a b => ab a ≠ ab b) (h : ∀ m ∈ ms, m ∈ ns) : ms.length ≤ ns.length := by
  have nd : ms.Nodup := dj.imp fun h e => h (by rw [e])
  exact nd_len nd h
end KL
namespace KL
open PySem PySem.Spec PyProof.Rows L2
/-! rules with the written part named, for use within a comprehension -/
section
variable {X : Cx} {K : PySem.W.Frag}
theorem op_inI' (e : X.K = K) : OpR X (compareOp .In) (rInI K false) := e ▸ op_inI
theorem op_notInI' (e : X.K = K) : OpR X (compareOp .NotIn) (rInI K true) := e ▸ op_notInI
theorem ix_tup' (e : X.K = K) : IxR X (rIxT K) := e ▸ ix_tup
theorem ix_list' (e : X.K = K) : IxR X (rIxL K) := e ▸ ix_list
theorem op_eqD' (e : X.K = K) (hu : X.A.units + 64 < cLine) : OpR X (compareOp .Eq) (rEqD K) := e ▸ op_eqD hu
theorem op_neD' (e : X.K = K) (hu : X.A.units + 64 < cLine) : OpR X (compareOp .NotEq) (rNeD K) := e ▸ op_neD hu
theorem op_catK' (e : X.K = K) : OpR X (binaryOp .Add) (rCatK K) := e ▸ op_catK
theorem sl_tupK' (e : X.K = K) : SlR X (rSlK K) := e ▸ sl_tupK
theorem sl_list' (e : X.K = K) : SlR X (fun x lo hi H Q => ∃ a xs, x = .ref a ∧ SqL K H a xs ∧ ∀ p, H p = none → Q (.ref p) (upd H p (.lst (cutV xs lo hi)))) := e ▸ sl_list
theorem call_len_seq' (e : X.K = K) : CallR X (.builtin "len") (fun xs H Q => ∃ p ys, xs = [.ref p] ∧ (SqL K H p ys ∨ SqT K H p ys) ∧ Q (.int ys.length) H) := e ▸ call_len_seq
theorem call_tuple_of' (e : X.K = K) : CallR X (.type "tuple") (fun xs H Q => ∃ p ys, xs = [.ref p] ∧ ((SqL K H p ys ∧ ∀ l, H l = none → Q (.ref l) (upd H l (.tup ys))) ∨ (SqT K H p ys ∧ Q (.ref p) H))) := e ▸ call_tuple_of
theorem call_list_of' (e : X.K = K) : CallR X (.type "list") (fun xs H Q => ∃ p ys, xs = [.ref p] ∧ (SqL K H p ys ∨ SqT K H p ys) ∧ ∀ l, H l = none → Q (.ref l) (upd H l (.lst ys))) := e ▸ call_list_of
theorem call_isi' (e : X.K = K) : CallR X (.builtin "isinstance") (rIsi K) := e ▸ call_isi
theorem call_rep' (e : X.K = K) (hg : X.A.guards = some []) (hu : X.A.units + 64 < cLine) : CallR X (.builtin "repr") (rRep K) := e ▸ call_rep hg hu
theorem cr_any' (e : X.K = K) (hc : X.calm = true) : CallR X (.builtin "any") (rAny K) := e ▸ cr_any hc
theorem cr_all' (e : X.K = K) (hc : X.calm = true) : CallR X (.builtin "all") (rAll K) := e ▸ cr_all hc
theorem pi_tup' {tg l : Expr} {tl : TE} (e : X.K = K) (hl : PE X l tl) : PI X tg l (iTup K tl) := e ▸ pi_tup hl
theorem pi_list' {tg l : Expr} {tl : TE} (e : X.K = K) (hl : PE X l tl) : PI X tg l (iList K tl) := e ▸ pi_list hl
theorem pi_seq' {tg l : Expr} {tl : TE} (e : X.K = K) (hl : PE X l tl) : PI X tg l (fun σ H R => iList K tl σ H R ∨ iTup K tl σ H R) := e ▸ pi_seq hl
theorem pe_revT' {x : Expr} {te : TE} {k : Nat} {p1 p2 p3 pos : Pos} (e : X.K = K) (he : PE X x te) : PE X (.Subscript x (.Slice none none (some (.UnaryOp .USub (.Constant (.int 1) k p1) p2)) p3) pos) (tRevT K te) := e ▸ pe_revT he
end
end KL
namespace KL
open PySem PySem.Spec PyProof.Rows L2
/-- a row of the table of fillings -/
def rowB (n m : Nat) : List Bool := (List.range n).map fun (k : Nat) => decide (V.int (Builtin.bitAnd ((m : Int) / 2 ^ ((n : Int) - 1 - (k : Int)).toNat) 1) = V.int 1)
theorem rowB_len (n m : Nat) : (rowB n m).length = n := by unfold rowB; simp
theorem rowB_take {n m k : Nat} (h : k < n) : (rowB n m).take (k + 1) = (rowB n m).take k ++ [decide (V.int (Builtin.bitAnd ((m : Int) / 2 ^ ((n : Int) - 1 - (k : Int)).toNat) 1) = V.int 1)] := by
  have e : (rowB n m)[k]? = some (decide (V.int (Builtin.bitAnd ((m : Int) / 2 ^ ((n : Int) - 1 - (k : Int)).toNat) 1) = V.int 1)) := by
    unfold rowB
    rw [List.getElem?_map, List.getElem?_range h]; rfl
  rw [List.take_add_one, e]; rfl
/-- tuples of ints, one by one -/
inductive TupsI (K : PySem.W.Frag) (H : Hp) : List Addr → List (List Int) → Prop
  | nil : TupsI K H [] []
  | cons {c : Addr} {cs : List Addr} {ns : List Int} {nss : List (List Int)} : SqT K H c (ns.map V.int) → TupsI K H cs nss → TupsI K H (c :: cs) (ns :: nss)
theorem TupsI.len {K : PySem.W.Frag} {H : Hp} : ∀ {cs : List Addr} {nss : List (List Int)}, TupsI K H cs nss → cs.length = nss.length
  | _, _, .nil => rfl
  | _, _, .cons _ t => by rw [List.length_cons, List.length_cons, t.len]
theorem TupsI.mv {K : PySem.W.Frag} {H H' : Hp} (m : ∀ a xs, SqT K H a xs → SqT K H' a xs) : ∀ {cs : List Addr} {nss : List (List Int)}, TupsI K H cs nss → TupsI K H' cs nss
  | _, _, .nil => .nil
  | _, _, .cons h t => .cons (m _ _ h) (t.mv m)
theorem TupsI.same {K : PySem.W.Frag} {H H' : Hp} {cs : List Addr} {nss : List (List Int)} (h : TupsI K H cs nss) (s : Same H H') : TupsI K H' cs nss := h.mv fun _ _ q => same_tup s q
theorem TupsI.lst {K : PySem.W.Frag} {H : Hp} {D : Addr} {xs ys : List V} {cs : List Addr} {nss : List (List Int)} (h : TupsI K H cs nss) (e : H D = some (.lst xs)) : TupsI K (upd H D (.lst ys)) cs nss := h.mv fun a zs q => by
  rcases q with (q | ⟨o, q⟩) | q
  · exact .inl (.inl (by rw [upd_ne (ne_of q e (by intro z; cases z))]; exact q))
  · exact .inl (.inr ⟨o, by rw [upd_ne (ne_of q e (by intro z; cases z))]; exact q⟩)
  · exact .inr q
theorem TupsI.snoc {K : PySem.W.Frag} {H : Hp} {c : Addr} {ns : List Int} (hc : SqT K H c (ns.map V.int)) : ∀ {cs : List Addr} {nss : List (List Int)}, TupsI K H cs nss → TupsI K H (cs ++ [c]) (nss ++ [ns])
  | _, _, .nil => .cons hc .nil
  | _, _, .cons h t => .cons h (TupsI.snoc hc t)
theorem TupsI.at {K : PySem.W.Frag} {H : Hp} : ∀ {cs : List Addr} {nss : List (List Int)} {i : Nat} {x : V}, TupsI K H cs nss → (cs.map V.ref)[i]? = some x →
    ∃ c ns, x = .ref c ∧ ns ∈ nss ∧ SqT K H c (ns.map V.int) ∧ nss.take (i + 1) = nss.take i ++ [ns]
  | _, _, _, _, .nil, e => by simp at e
  | _, _, 0, _, .cons h _, e => by
    rw [List.map_cons] at e
    cases e
    exact ⟨_, _, rfl, List.mem_cons_self, h, by simp⟩
  | _, _, i + 1, x, .cons _ t, e => by
    obtain ⟨c, ns, h1, h2, h3, h4⟩ := t.at (i := i) (x := x) (by simpa using e)
    exact ⟨c, ns, h1, List.mem_cons_of_mem _ h2, h3, by rw [List.take_succ_cons, h4]; rfl⟩
theorem TupsI.dp {K : PySem.W.Frag} {H : Hp} : ∀ {cs : List Addr} {nss : List (List Int)}, TupsI K H cs nss → DpAll K H (cs.map V.ref) (nss.map fun ns => .tuple (ns.map PyData.int))
  | _, _, .nil => .nil
  | _, _, .cons h t => .cons (.tup h (dpInts _)) t.dp
theorem cl_ints : ∀ ns : List Int, PyData.canLayAll0 (ns.map PyData.int) = true
  | [] => by simp only [List.map_nil, PyData.canLayAll0]
  | _ :: ns => by simp only [List.map_cons, PyData.canLayAll0, PyData.canLay0, cl_ints ns, Bool.true_and]
theorem dp_ints : ∀ ns : List Int, PyData.depthAll (ns.map PyData.int) = 0
  | [] => by simp only [List.map_nil, PyData.depthAll]
  | _ :: ns => by simp only [List.map_cons, PyData.depthAll, PyData.depth, dp_ints ns, Nat.max_self]
theorem shTups (nss : List (List Int)) : SeqAt.shaped (.list (nss.map fun ns => .tuple (ns.map PyData.int))) = true := by
  have h1 : ∀ nss : List (List Int), PyData.canLayAll0 (nss.map fun ns => .tuple (ns.map PyData.int)) = true := fun nss => by
    induction nss with
    | nil => simp only [List.map_nil, PyData.canLayAll0]
    | cons n ns ih => simp only [List.map_cons, PyData.canLayAll0, PyData.canLay0, ih, cl_ints, Bool.true_and]
  have h2 : ∀ nss : List (List Int), PyData.depthAll (nss.map fun ns => .tuple (ns.map PyData.int)) ≤ 1 := fun nss => by
    induction nss with
    | nil => simp only [List.map_nil, PyData.depthAll]; omega
    | cons n ns ih => simp only [List.map_cons, PyData.depthAll, PyData.depth, dp_ints]; omega
  unfold SeqAt.shaped
  simp only [PyData.canLay0, h1, PyData.depth, Bool.true_and]
  exact decide_eq_true (by have := h2 nss; omega)
theorem eqvNilD (ds : List PyData) : PyData.eqv (.list ds) (.list []) = ds.isEmpty := by
  cases ds with
  | nil => simp [PyData.eqv, PyData.eqvAll]
  | cons d ds => simp [PyData.eqv, PyData.eqvAll]
end KL
namespace KL
open PySem PySem.Spec PyProof.Rows L2
/-- what the clause of signs is: None, or a new tuple -/
def CRes (H : Hp) (ns : List Int) (v : V) (H' : Hp) : Prop := (v = .non ∧ Both ns) ∨ ∃ (r : Addr) (cs : List Int), v = .ref r ∧ H r = none ∧ H' r = some (.tup (cs.map V.int)) ∧ ¬ Both ns ∧ ClOf ns cs
def IsRes (ns : List Int) (d : PyData) : Prop := (d = .none ∧ Both ns) ∨ ∃ cs : List Int, d = .tuple (cs.map PyData.int) ∧ ¬ Both ns ∧ ClOf ns cs
theorem IsRes.eq {ns : List Int} {d e : PyData} (h : IsRes ns d) (h' : IsRes ns e) : d = e := by
  rcases h with ⟨rfl, b⟩ | ⟨cs, rfl, nb, c⟩ <;> rcases h' with ⟨rfl, b'⟩ | ⟨ds, rfl, nb', c'⟩
  · rfl
  · exact absurd b nb'
  · exact absurd b' nb
  · rw [c.eq c']
theorem ClOf.len {ns cs : List Int} (h : ClOf ns cs) : cs.length ≤ ns.length :=
  nd_len (h.up.imp fun h e => by rw [e] at h; exact Nat.lt_irrefl _ h) fun m hm => (h.mem m).mp hm
theorem IsRes.fine {ns : List Int} {d : PyData} (h : IsRes ns d) (hb : ∀ n ∈ ns, n.natAbs < 2 ^ 110) (hl : ns.length ≤ 400) : Fine 100000 3 d := by
  rcases h with ⟨rfl, _⟩ | ⟨cs, rfl, _, c⟩
  · exact Fine.none
  · exact (Fine.tuple (n := 110) (m := 0) (l := 400) (fineInts (B := 0) fun n hn => hb n ((c.mem n).mp hn)) (by rw [List.length_map]; exact Nat.le_trans c.len hl)).le (by omega) (by omega)
theorem CRes.dat {K : PySem.W.Frag} {H H' : Hp} {ns : List Int} {v : V} (h : CRes H ns v H') : ∃ d, Dp K H' v d ∧ IsRes ns d := by
  rcases h with ⟨rfl, b⟩ | ⟨r, cs, rfl, _, e, nb, c⟩
  · exact ⟨_, .non, .inl ⟨rfl, b⟩⟩
  · exact ⟨_, .tup (SqT.of e) (dpInts cs), .inr ⟨cs, rfl, nb, c⟩⟩
def cutI (ns : List Int) (lo hi : Option Int) : List Int := (ns.drop (HT.sIx ns.length 0 lo)).take (HT.sIx ns.length ns.length hi - HT.sIx ns.length 0 lo)
theorem cut_ints (ns : List Int) (lo hi : Option Int) : cutV (ns.map V.int) lo hi = (cutI ns lo hi).map V.int := by
  unfold cutV cutI
  rw [List.length_map, List.map_take, List.map_drop]
theorem cutI_sub {ns : List Int} {lo hi : Option Int} : (∀ v ∈ cutI ns lo hi, v ∈ ns) ∧ (cutI ns lo hi).length ≤ ns.length := by
  unfold cutI
  refine ⟨fun v hv => List.mem_of_mem_drop (List.mem_of_mem_take hv), ?_⟩
  rw [List.length_take, List.length_drop]; omega
theorem cutI_cl {n : Nat} {ns : List Int} {lo hi : Option Int} (h : ns.Pairwise fun a b => a.natAbs < b.natAbs) : (cutI ns lo hi).Pairwise fun a b => a.natAbs < b.natAbs :=
  (h.sublist (List.drop_sublist _ _)).sublist (List.take_sublist _ _)
theorem all_key (os cs : List Int) : decide ((os.filter fun n => !decide (n ∈ cs)) = []) = os.all fun n => decide (n ∈ cs) := by
  rw [Bool.eq_iff_iff]; simp
end KL
namespace KL
open PySem PySem.Spec PyProof.Rows L2
/-- an own class over ValueError whose __init__ begins with super().__init__(a text) -/
structure SupC (K : PySem.W.Frag) (P : Program) (mg : Str → Option Value) (C fI cc cda : Addr) (qual : Str) (st : Stmt) (fd : FuncData) : Prop where
  oex : OexC K C
  fn : ∃ (oc : Value) (od : Option Addr) (dV kV doc pm : Value) (an : Option Addr) (ct : Value) (osl : Array (Option Value)),
    fd = PySem.W.fnX "__init__" qual (defArgs st) (defBody st) (defScope st) [("__class__", cc)] dV kV doc pm an (.ref cda) ct ∧ K.lookup fI = some ⟨oc, od, .func fd, osl⟩
  code : PySem.W.codeIn K (.ref cda) qual = true
  file : ∃ (ccl : Value) (cdd : Option Addr) (vs : Array Value) (ccs : Array (Option Value)) (file : Str) (tf : Tok), K.lookup cda = some ⟨ccl, cdd, .fields vs, ccs⟩ ∧ vs[2]? = some (.str file tf) ∧ ((P.main.file : Str) == file) = true
  cell : ∃ (cl : Value) (cld : Option Addr) (csl : Array (Option Value)), K.lookup cc = some ⟨cl, cld, .cell (some (.ref C)), csl⟩
  sup : mg "super" = none
  top : (P.main.scope.names.lookup ("super" : Str)).isSome = false
  opq : PySem.W.nsIn K cStatics "thirdparty.any" = some none
  along : PySem.W.ks_superIn K C C "__init__" = some (some (.builtin "ValueError.__init__"))
  mro : PySem.W.mroIn K C (.ref C) = some true
  subV : PySem.W.subIn K (.ref C) (.type "ValueError") = some true
  ini : PySem.W.findIn K (.ref C) "__init__" = some (some (.ref fI))
  tyI : PySem.W.typeIn K (.ref fI) = some (.type "function")
  par : ((defArgs st).posonlyargs ++ (defArgs st).args).head?.map (·.arg) = some "self"
section
variable {X : Cx} {pins : List (Addr × Obj)} {σ : L2.St} {H : Hp} {s : Shared} {a C fI cc cda : Addr} {qual : Str} {st : Stmt} {fd : FuncData}
theorem call_mw {prog : Program} {w : World} {A : Around} {E : Value → Shared → Prop} {h : Heap} {g : Array GenState} {d : Drawn} {t : Nat} {os : OsState} {nm q : Str} {C N : Addr} {bs bm : List Value} {hdct : Bool} {sn : List Str} {sub : List Value} {ab : Bool} {col : Option Bool}
    {dd : Option Addr} {k0 k1 k2 k3 k5 : Option Value} {u e t0 : Addr} {rest : List Value} {Q : Value → Shared → Prop} (hC : h.get? C = some (excClassObj nm q C N bs bm hdct sn sub ab col dd k0 k1 k2 k3 k5 "ValueError.__new__"))
    (he : h.get? e = some (HandSPX.excO C t0)) (hu : h.get? u = some (PySem.W.kxs_mw "ValueError.__init__" e)) (hrest : rest.length ≤ sizeLine)
    (hq : ∀ h' t1, (∀ b o, b ≠ e → h.get? b = some o → h'.get? b = some o) → h'.get? e = some (HandSPX.excO C t1) → Q .none ⟨h', g, d, t, os⟩) : wpAny (model prog w) A (call (.ref u) rest) Q E ⟨h, g, d, t, os⟩ := by
  refine wpAny_call (codeAny_of_tree ?_)
  show wpAny _ A.in1 (callAny (.ref u) ⟨rest, []⟩) _ _ _
  simp only [callAny]
  refine wpAny_bind (wpAny_load hu ?_)
  simp only [PySem.W.kxs_mw, show (Value.type "method-wrapper" == Value.type "method" || Value.type "method-wrapper" == Value.type "builtin_function_or_method" || Value.type "method-wrapper" == Value.type "method-wrapper") = true by decide, if_true]
  refine PySem.W.KFB.if_so (by decide) ?_
  refine wpAny_bind (ESX.check_bound F.excBase_ValueError hC he rfl ?_)
  refine wpAny_bind (wpAny_pure (wpAny_pure ?_))
  refine ⟨Code.quiet_builtin _ (by decide +kernel), codeAny_builtin F.excBase_ValueError.initEntry ?_⟩
  rw [Around.under_plainId F.excBase_ValueError.init.plain _]
  wp_walk
  refine hq _ h.objs.size (fun b o hb ho => ?_) ?_
  · rw [Heap.get?_update_other _ _ (Ne.symm hb)]
    exact Heap.get?_push_of_some _ ho
  · rw [Heap.get?_update_self _ (Heap.get?_push_of_some _ he) rfl]
    rfl
theorem sup_call {pl : Sem Bool} {body : List Stmt} {txt : Str} {j : Nat} {p0 p1 p2 p3 p4 : Pos} {Q : Shared → Prop} {E : Value → Shared → Prop} (T : SupC X.K X.prog X.mg C fI cc cda qual st fd) (I : Inv X pins σ H s) (ea : H a = some (exo a C none))
    (hN : X.N[0]? = some ("self" : Str)) (hσ : σ[0]? = some (some (.ref a))) (hka : X.env.kindOf "self" = some .local) (hks : X.env.kindOf "super" = some .globalImplicit) (hkc : X.env.kindOf "__class__" = some .free)
    (hcl : X.env.cells.lookup ("__class__" : Str) = some cc) (hfu : X.env.func = some fI) (hco : X.env.code = .ref cda)
    (he : eval (.Call (.Attribute (.Call (.Name "super" p0) [] [] p1) "__init__" p2) [.Constant (.str txt) j p3] [] p4) X.env = (do
      let ov ← attributeBase (.Call (.Name "super" p0) [] [] p1) "__init__" X.env (eval (.Call (.Name "super" p0) [] [] p1) X.env)
      standAt p2.atName
      let (f, first) ← holding [ov] (getMethod ov "__init__" pl)
      callWith p4 f first (backTo p4 (starEach [.Constant (.str txt) j p3] X.env)) []))
    (h : ∀ s', Inv X pins σ H s' → Q s') : _root_.PySem.wpAt (model X.prog X.w) X.A (.func body X.env) (eval (.Call (.Attribute (.Call (.Name "super" p0) [] [] p1) "__init__" p2) [.Constant (.str txt) j p3] [] p4) X.env) (fun _ s' => Q s') E s := by
  have KX := I.kIn
  have hk : X.env.scope.kind = .function := I.ok.kind
  obtain ⟨oc, od, dV, kV, doc, pm, an, ct, osl, rfl, lf⟩ := T.fn
  obtain ⟨ccl, cdd, vs, ccs, file, tf, lc, hvs, hfile⟩ := T.file
  obtain ⟨cl, cld, csl, lcc⟩ := T.cell
  obtain ⟨nm, q, N, bs, bm, sn, sub, ab, col, dd, k0, k1, k2, k3, k5, hC, hbm⟩ := T.oex.cls
  obtain ⟨t1, hx⟩ := exo_at I.hok ea
  obtain ⟨ar, har, earg⟩ : ∃ ar : Arg, ((defArgs st).posonlyargs ++ (defArgs st).args).head? = some ar ∧ ar.arg = ("self" : Str) := by
    have := T.par
    cases q : ((defArgs st).posonlyargs ++ (defArgs st).args).head? with
    | none => rw [q] at this; cases this
    | some ar => rw [q] at this; exact ⟨ar, rfl, Option.some.inj this⟩
  have hcdC : ∃ cd, PySem.W.clsIn X.K C = some cd := by
    unfold PySem.W.clsIn
    rw [hC]
    exact ⟨_, rfl⟩
  obtain ⟨cd, hcd⟩ := hcdC
  obtain ⟨mb, hbn, hbb⟩ := I.mod.blt
  obtain ⟨m, hn, hl⟩ := id I.loc
  obtain ⟨u0, ru, look⟩ := hl 0 _ _ hN hσ (.inl hka)
  obtain rfl : u0 = Value.ref a := ru
  have hv : m ("self" : Str) = some (.ref a) := by
    rcases look with l | ⟨z, _⟩
    · exact l.2
    · rw [hka] at z; rcases z with z | z <;> cases z
  refine PySem.ks_wpAt_MethodCall (pl := pl) ?_ he
  refine PySem.ks_wpAt_super_base hks hkc (by decide) hfu (KX _ _ lf) rfl har hco (KX _ _ lc) rfl hvs hfile T.top ?_
  refine PySem.W.ks_loadName_global hk hks ?_
  obtain ⟨hh, g, d, t, os⟩ := s
  have aneC : a ≠ C := fun z => by
    have := (I.bs C _ (I.ok.mod.kin C _ hC)).2
    rw [← z, ea] at this; cases this
  refine Calls.loadGlobal_builtin (by rw [I.ok.glob]; exact I.mod.glob.keeps I.bk) T.sup (by rw [I.ok.blt]; exact hbn.keeps I.bk) ((hbb _ (by decide)).trans (show bootBuiltins "super" = some (.type "super") by decide +kernel)) ⟨rfl, ?_⟩
  refine wpAny_loadName_free hk hkc hcl ⟨_, KX _ _ lcc, rfl⟩ ?_
  rw [earg]
  refine wpAny_loadName_local hk hka hn hv ?_
  refine PySem.ks_wpAny_isType_cls (KX _ _ hC) rfl ⟨rfl, ?_⟩
  refine PySem.ks_wpAny_call_super (KX _ _ hC) rfl hx rfl (fun c e => by cases e) (PySem.W.looks_mroIn KX T.mro) (fun h' e k => ?_)
  have I1 : Inv X pins σ H ⟨h', g, d, t, os⟩ := I.kept (t' := t) k
  have hx1 := k _ _ hx
  have IA : PySem.W.InstAt h' a { cls := .ref C, dict := none, data := .fields #[.ref t1, .none, .none, .none, .bool false, .none] } C none := ⟨hx1, rfl, rfl, trivial⟩
  have al : PySem.W.alongIn X.K "__init__" ((cd.mro.dropWhile (· != .ref C)).drop 1) = some (some (.builtin "ValueError.__init__")) := by
    have := T.along
    unfold PySem.W.ks_superIn at this
    rw [hcd] at this
    exact this
  refine PySem.W.kxs_getMethod PySem.W.kxs_ValueError e (PySem.W.looks_opaque I1.kIn T.opq) (l₀ := cd.mro) (fun A Q E s k q => wpAny_bind ((PySem.W.looks_clsIn I1.kIn hcd) A _ E s k (wpAny_pure q))) rfl I1.kIn al (IA.type.andThen (PySem.W.looks_subIn I1.kIn T.subV)) aneC (by decide) ?_
  have up : ∀ b o, h'.get? b = some o → (h'.push (PySem.W.kxs_mw "ValueError.__init__" a)).get? b = some o := fun b o e => Heap.get?_push_of_some _ e
  have hu : (h'.push (PySem.W.kxs_mw "ValueError.__init__" a)).get? h'.objs.size = some (PySem.W.kxs_mw "ValueError.__init__" a) := Heap.get?_push_at rfl rfl
  refine PySem.W.kxs_callWith (i := "ValueError.__init__") (x := a) rfl (Calls.evalArgs_plain ?_)
  refine Calls.spliced_cons (Calls.Constant_str (k := j) (pos := p3) (Calls.spliced_nil ⟨hu, ?_⟩))
  have I2 : Inv X pins σ H ⟨h'.push (PySem.W.kxs_mw "ValueError.__init__" a), g, d, t + 1 + 1, os⟩ := I1.kept (t' := t + 1 + 1) up
  refine call_mw (I2.kIn _ _ hC) (up _ _ hx1) hu (by show 1 ≤ sizeLine; decide) fun h'' t2 kk hx2 => ?_
  have J := I2.write (t' := t + 1 + 1) (x := a) (e := a) (o := exo a C none) (by rw [ea]; exact True.intro) (.inl rfl) kk ⟨_, hx2⟩ (exo_ok hx2)
  have eu : upd H a (exo a C none) = H := by
    funext b
    by_cases hb : b = a
    · rw [hb, upd_same, ea]
    · rw [upd_ne hb]
  rw [eu] at J
  exact h _ J
/-- the def __init__, by what stands behind its first statement -/
theorem init_of {P : Program} {w : World} {K : PySem.W.Frag} {mg : Str → Option Value} {base : Heap} {k : Nat} {ps N : List Str} {sp : Sp} {rest : List Stmt} {txt : Str} {j : Nat} {p0 p1 p2 p3 p4 p5 : Pos} (T : SupC K P mg C fI cc cda qual st fd)
    (S : NdefX.NScope N ps ["__class__"] (defScope st)) (hps : ps.head? = some ("self" : Str)) (hb : defBody st = .Expr (.Call (.Attribute (.Call (.Name "super" p0) [] [] p1) "__init__" p2) [.Constant (.str txt) j p3] [] p4) p5 :: rest)
    (hsup : (defScope st).names.lookup ("super" : Str) = some .globalImplicit) {pl : Env → Sem Bool}
    (he : ∀ env : Env, eval (.Call (.Attribute (.Call (.Name "super" p0) [] [] p1) "__init__" p2) [.Constant (.str txt) j p3] [] p4) env = (do
      let ov ← attributeBase (.Call (.Name "super" p0) [] [] p1) "__init__" env (eval (.Call (.Name "super" p0) [] [] p1) env)
      standAt p2.atName
      let (f, first) ← holding [ov] (getMethod ov "__init__" (pl env))
      callWith p4 f first (backTo p4 (starEach [.Constant (.str txt) j p3] env)) []))
    (len : ∀ vs H Q E, sp vs H Q E → vs.length = ps.length) (self : ∀ vs H Q E, sp vs H Q E → ∃ a, vs.head? = some (.ref a) ∧ H a = some (exo a C none))
    (hbody : ∀ (A : Around) (outer : List Env) (s : Shared) (H : Hp) (vs : List V) (Q : VK) (E : XK), Room k (A.deeper (NdefX.envF ⟨"__init__", qual, defArgs st, defBody st, defScope st, [("__class__", cc)], cda⟩ fI s.heap.objs.size)) → sp vs H Q E →
      ∃ t, PSs (NdefX.ncx CX0 P w K mg base N ⟨"__init__", qual, defArgs st, defBody st, defScope st, [("__class__", cc)], cda⟩ fI A outer s H E) rest t ∧ t { nx := fun _ H' => Q .non H', rt := Q } (NdefX.startF N vs [some (.ref C)]) H) :
    FnOk P w K mg base CX0 (k + 1) fI fd ps sp := by
  have T0 := T
  obtain ⟨oc, od, dV, kV, doc, pm, an, ct, osl, efd, lf⟩ := T.fn
  subst efd
  obtain ⟨cl, cld, csl, lcc⟩ := T.cell
  refine ⟨len, fun A outer s H args us vs Q E hr e0 hbd r hsp => ?_⟩
  have hl := len _ _ _ _ hsp
  have bk : ∀ b o, base.get? b = some o → s.heap.get? b = some o := fun b o e => (e0.bs b o e).1
  have KX : K.In s.heap := e0.mod.kin.keeps bk
  have lim : s.heap.NoLimit := e0.mod.nolimit.keeps bk
  obtain ⟨a, ha, ea⟩ := self _ _ _ _ hsp
  have CA : NdefX.CellsAt [("__class__", cc)] ["__class__"] [some (.ref C)] s.heap H := by
    have hc : H cc = none ∧ s.heap.IsCell cc (some (.ref C)) := ⟨(e0.bs _ _ (e0.mod.kin _ _ lcc)).2, _, KX _ _ lcc, rfl⟩
    have one : ∀ (y : Str) (c : Addr), ([(("__class__" : Str), cc)] : List (Str × Addr)).lookup y = some c → y = "__class__" ∧ c = cc := fun y c e => by
      rw [List.lookup_cons] at e
      split at e
      · rename_i z; cases e; exact ⟨beq_iff_eq.mp z, rfl⟩
      · cases e
    refine ⟨rfl, fun y c e => ?_, fun x y c e1 e2 => by rw [(one _ _ e1).1, (one _ _ e2).1], fun i y hy => ?_⟩
    · obtain ⟨_, rfl⟩ := one y c e
      exact ⟨hc.1, _, hc.2⟩
    · match i, hy with
      | 0, hy =>
        cases hy
        exact ⟨cc, by rw [List.lookup_cons]; simp, fun v hv => by cases hv; exact ⟨_, rfl, hc.2⟩⟩
  refine PySem.ks_codeAny_call_defAt (body := defBody st) (binds := ps.zip us) hr.depth (KX _ _ lf) rfl lim (PySem.W.codeRec_of KX T.code) rfl hbd S.nocell (fun ⟨n, _⟩ hy => S.par n (List.of_mem_zip hy).1) (fun h₁ hns kp => ?_) S.co S.gen S.kind
  have I : Inv (NdefX.ncx CX0 P w K mg base N ⟨"__init__", qual, defArgs st, defBody st, defScope st, [("__class__", cc)], cda⟩ fI A outer s H E) [] (NdefX.startF N vs [some (.ref C)]) H { s with heap := h₁, toks := s.toks + (ps.zip us).length } :=
    NdefX.inv_startN (F := ⟨"__init__", qual, defArgs st, defBody st, defScope st, [("__class__", cc)], cda⟩) S hr.hd e0 hl r CA hns kp
  obtain ⟨t, ht, hq⟩ := hbody A outer s H vs Q E (hr.deeper _) hsp
  have hN0 : N[0]? = some ("self" : Str) := by
    have e : (N.take (ps.length + 1))[0]? = (ps ++ [("__class__" : Str)])[0]? := congrArg (·[0]?) S.pre
    rw [List.getElem?_take_of_lt (by omega)] at e
    rw [e]
    cases ps with
    | nil => cases hps
    | cons p ps => cases hps; rfl
  have hself : ("self" : Str) ∈ ps := by
    cases ps with
    | nil => cases hps
    | cons p ps => cases hps; exact List.mem_cons_self
  have hv0 : (NdefX.startF N vs [some (.ref C)])[0]? = some (some (.ref a)) := by
    cases vs with
    | nil => cases ha
    | cons v vs => cases ha; rfl
  rw [hb] at *
  refine PySem.ks_wpAt_execs_cons (PySem.ks_wpAt_Expr_any ?_ (by show ((defScope st).kind == ScopeKind.module && _) = false; rw [S.kind]; rfl) (by rfl))
  refine sup_call (X := NdefX.ncx CX0 P w K mg base N ⟨"__init__", qual, defArgs st, _, defScope st, [("__class__", cc)], cda⟩ fI A outer s H E) T0 I ea hN0 hv0 (S.par _ hself) hsup (S.frk _ (by simp)) (show ([(("__class__" : Str), cc)] : List (Str × Addr)).lookup ("__class__" : Str) = some cc by rw [List.lookup_cons]; simp) rfl rfl (he _) (fun s' J => ?_)
  refine wpAt_of_wpAny (wpAny_mono (ht.run [] s' _ H _ J hq) (fun fl s'' hs => ?_) fun e s'' hs => hs)
  match fl, hs with
  | .ret u, ⟨v, σ', H', J, rv, q⟩ => exact ⟨v, H', J.os, J.bare, J.base, J.hok, rv, q⟩
  | .next, ⟨σ', H', J, q⟩ => exact ⟨V.non, H', J.os, J.bare, J.base, J.hok, rfl, q⟩
  | .brk, ⟨_, _, _, q⟩ => exact False.elim q
  | .cont, ⟨_, _, _, q⟩ => exact False.elim q
end
end KL
namespace KL
open PySem PySem.Spec PyProof.Rows L2
/-- a caught error that is kept: at a, of the class cls, its dict d -/
def XO (a : Addr) (cls : Value) (d : Option Addr) : HO := .ext fun h => ∃ (oe : Obj) (vs : Array Value), h.get? a = some oe ∧ Zc cls d oe ∧ oe.data = .fields vs
theorem XO_ok {P : Program} {w : World} {H : Hp} {h : Heap} {a : Addr} {cls : Value} {d : Option Addr} {oe : Obj} {vs : Array Value} (e : h.get? a = some oe) (z : Zc cls d oe) (q : oe.data = .fields vs) : ObjOk P w H h a (XO a cls d) :=
  ⟨⟨oe, vs, e, z, q⟩, ⟨oe, e⟩, fun _ _ ⟨o, v, e1, z1, q1⟩ k => ⟨o, v, k _ e1, z1, q1⟩⟩
theorem XO_at {P : Program} {w : World} {H : Hp} {h : Heap} {a : Addr} {cls : Value} {d : Option Addr} (hok : HOk P w H h) (e : H a = some (XO a cls d)) : ∃ (oe : Obj) (vs : Array Value), h.get? a = some oe ∧ Zc cls d oe ∧ oe.data = .fields vs := (hok a _ e).1
/-- an object that stands there and is not tracked yet may be tracked -/
theorem track {X : Cx} {pins : List (Addr × Obj)} {σ : L2.St} {H : Hp} {s : Shared} {a : Addr} {cls : Value} {d : Option Addr} {oe : Obj} {vs : Array Value} (I : Inv X pins σ H s) (na : H a = none) (n0 : X.s_0.heap.get? a = none) (nL : a ≠ X.env.locals)
    (nC : ∀ x c, X.env.cells.lookup x = some c → c ≠ a) (nP : ∀ p ∈ X.pn ++ pins, p.1 ≠ a) (e : s.heap.get? a = some oe) (z : Zc cls d oe) (q : oe.data = .fields vs) : Inv X pins σ (upd H a (XO a cls d)) s := by
  have ne : ∀ {b : Addr} {o : HO}, H b = some o → b ≠ a := fun hb z => by rw [z, na] at hb; cases hb
  refine ⟨I.ok, I.os, I.bare, ⟨I.base.keep, I.base.slot, fun b o h1 h2 h3 => ?_, I.base.there, fun b xs h1 => ?_, fun b o u h1 => ?_, fun b ps h1 => ?_⟩, I.loc, I.cell, ?_, fun x c hx => ?_, fun p hp => ?_, fun b o hb => ?_, I.len⟩
  · rw [upd_ne (fun y => by rw [y, n0] at h1; cases h1)]; exact I.base.free b o h1 h2 h3
  · have := I.base.tups b xs h1; rw [upd_ne (ne this)]; exact this
  · have := I.base.frzs b o u h1; rw [upd_ne (ne this)]; exact this
  · obtain ⟨m, hm⟩ := I.base.tbls b ps h1; exact ⟨m, by rw [upd_ne (ne hm)]; exact hm⟩
  · rw [upd_ne (Ne.symm nL)]; exact I.free
  · rw [upd_ne (nC x c hx)]; exact I.freeC x c hx
  · obtain ⟨p1, p2, p3, p4, p5⟩ := I.pin p hp
    exact ⟨p1, by rw [upd_ne (nP p hp)]; exact p2, p3, p4, p5⟩
  · by_cases hba : b = a
    · subst hba
      rw [upd_same] at hb; cases hb
      exact XO_ok e z q
    · rw [upd_ne hba] at hb
      exact (I.hok b o hb).stay (fun _ _ _ y => y) (fun c y => by rw [upd_ne (ne y)]; exact y) fun c xs y => by rw [upd_ne (ne y)]; exact y
/-- what 'except x as n' asks where the error outlives the suite: it is tracked behind it -/
def wKeep (K : PySem.W.Frag) (c : Value) (i : Nat) (ts : Addr → Value → Option Addr → TS) (Wo : WX) (D : Ends) : WX := fun cls d σ H => ∃ b, PySem.W.exmOne K cls c = some b ∧
  (b = true → ∀ a, H a = none → ts a cls d { nx := fun σ1 H1 => D.nx (σ1.set i none) (upd H1 a (XO a cls d)), rt := fun v H1 => D.rt v (upd H1 a (XO a cls d)), bk := fun σ1 H1 => D.bk (σ1.set i none) (upd H1 a (XO a cls d)), ct := fun σ1 H1 => D.ct (σ1.set i none) (upd H1 a (XO a cls d)) } (σ.set i (some (.ref a))) H) ∧ (b = false → Wo cls d σ H)
section
variable {X : Cx} {x n : Str} {c : Value} {i : Nat} {bd su : List Stmt} {st : Stmt} {q0 q1 q2 : Pos} {tb : WX → TS} {ts : Addr → Value → Option Addr → TS} {Wo : WX}
theorem ps_try_keep (hstk : X.stack = X.env :: X.outer) (hfrm : X.env.frame = some X.env.locals) (hex : X.ex = []) (hnd : X.N.Nodup) (hix : X.N[i]? = some n) (hloc : X.env.kindOf n = some .local) (hcls : Names X x c) (tk : Takes X Wo)
    (hbd : ∀ (W : WX) (pn : List (Addr × Obj)) (xe : Value → Shared → Prop), Takes (X.tr pn xe) W → PassesOwn (model X.prog X.w) X.A X.env xe → PSs (X.tr pn xe) bd (tb W))
    (hst : ∀ (a : Addr) (oe : Obj) (cls : Value) (d : Option Addr) (pn : List (Addr × Obj)), Zc cls d oe → (∃ vs, oe.data = .fields vs) → PSs (X.suite a ((a, oe) :: pn)) (st :: su) (ts a cls d)) :
    PS X (.Try bd [.ExceptHandler (some (.Name x q0)) (some n) (st :: su) q1] [] [] q2) (fun D σ H => tb (wKeep X.K c i ts Wo D) D σ H) := by
  refine ⟨fun pins s σ H D I hgo => ?_⟩
  have okX := I.ok
  have hA : X.A.frames = some (X.env :: X.outer) := by rw [okX.frames, hstk]
  refine wpAny_Try_except ?_
  refine wpAny_mono ((hbd (wKeep X.K c i ts Wo D) (X.pn ++ pins) (fun er r1 => wpAny (model X.prog X.w) X.A (noteFrame er X.env) (fun _ r2 => wpAny (model X.prog X.w) X.A (setFlight er none)
    (fun _ r3 => wpAny (model X.prog X.w) X.A (handleBy er X.env [.ExceptHandler (some (.Name x q0)) (some n) (st :: su) q1]) (SP X pins D) X.xe r3) X.xe r2) X.xe r1) (fun u s' air => ?_) PassesOwn.looking).run [] s σ H D (I.toTry _) hgo) (fun f r1 hr1 => ?_) (fun _ _ z => z)
  · obtain ⟨a, B, sI, pin1, σ1, H1, cls, d, rfl, Jt, nb, up, sky, na, os, ag, b, hb, hy, hn⟩ := air
    have J : Inv X pins σ1 H1 sI := Jt.ofTry okX
    have sk1 : Sky B (X.env :: X.outer) a (Zc cls d) X.env.locals s'.heap := by rw [← hstk]; exact sky
    have Ba : B.get? a = none := by
      rcases sk1 with z | z | z
      · exact z.2.1
      · exact z.2.1
      · exact z.2.1
    show wpAny (model X.prog X.w) X.A (noteFrame (.ref a) X.env) _ _ _
    refine Sky.land Zc.steady hA hfrm sk1 fun g3 F3 u3 => ?_
    have J3 : Inv X pins σ1 H1 { s' with heap := g3 } := J.landed nb F3.1 (up.trans u3) os ag
    obtain ⟨o3, v3, e3, z3, d3⟩ := F3.there
    have nfr : a ∉ frs (X.env :: X.outer) := fun hm => by
      obtain ⟨_, o4, e4, k4⟩ := F3.2.2.1.mem hm
      rw [e3] at e4; cases e4
      exact k4 _ d3
    have nL : a ≠ X.env.locals := fun z => nfr (List.mem_filterMap.mpr ⟨X.env, List.mem_cons_self, by rw [hfrm, z]⟩)
    have nF : a ∉ X.fs := fun hm => by
      obtain ⟨e, he, q⟩ := List.mem_filterMap.mp hm
      exact nfr (List.mem_filterMap.mpr ⟨e, List.mem_cons_of_mem _ he, q⟩)
    have aI : sI.heap.get? a = none := by
      cases hq : sI.heap.get? a with
      | none => rfl
      | some o => have := nb a o hq (by rw [hstk]; exact nfr); rw [Ba] at this; cases this
    have a0 : X.s_0.heap.get? a = none := by
      cases hq : X.s_0.heap.get? a with
      | none => rfl
      | some o => obtain ⟨o', z⟩ := J.base.there a o hq (by rw [hex]; exact List.not_mem_nil); rw [aI] at z; cases z
    have aC : ∀ y cc, X.env.cells.lookup y = some cc → cc ≠ a := fun y cc hc z => by
      obtain ⟨v, o, z1, _⟩ := J.cell y cc hc
      rw [z, aI] at z1; cases z1
    have aP : ∀ p ∈ X.pn ++ pins, p.1 ≠ a := fun p hp z => by
      have := (J.pin p hp).1; rw [z, aI] at this; cases this
    have S3 := J3.suite e3 d3 na nL nF
    refine wpAny_handleBy_cons (codeAny_handlers_test ?_) (by intro q; cases q)
    have LT : PySem.W.Looks (model X.prog X.w) g3 (typeOf (.ref a)) cls := fun A Q E s k q => wpAny_typeOf_ref (k _ _ e3) (by rw [z3.1]; exact q)
    have LM := PySem.W.exm_one (M := model X.prog X.w) (J3.kIn) LT hb
    have ask : ∀ {Q : Value → Shared → Prop} {E : Value → Shared → Prop}, Q c { s' with heap := g3 } → wpAny (model X.prog X.w) (X.A.mark (some (.ref a))) (eval (.Name x q0) X.env) Q E { s' with heap := g3 } := fun {Q E} q => by
      obtain ⟨hg, hdb, hm | ⟨hm, hv, hnn⟩⟩ := hcls
      · exact ld_glob (X := X.suite a ((a, o3) :: (X.pn ++ pins))) S3 hg hm q hdb
      · exact ld_blt (X := X.suite a ((a, o3) :: (X.pn ++ pins))) S3 hg hm hv q hnn hdb
    refine ask (LM.here ?_)
    cases b with
    | true =>
      refine codeAny_handlers_suite_as ?_
      refine HandSPX.lands_againZ F3 fun g4 F4 u4 => ?_
      have J4 : Inv X pins σ1 H1 { s' with heap := g4 } := J.landed nb F4.1 ((up.trans u3).trans u4) os ag
      obtain ⟨o4, v4, e4, z4, d4⟩ := F4.there
      have S4 := J4.suite e4 d4 na nL nF
      refine store_ok (X := X.suite a ((a, o4) :: (X.pn ++ pins))) (v := .ref a) S4 hnd hix (.inl hloc) rfl (fun s5 S5 => ?_) (.inr hloc)
      refine wpAny_mono ((hst a o4 cls d (X.pn ++ pins) z4 ⟨_, d4⟩).run [] s5 _ H1 _ S5 (hy rfl a na)) (fun f s6 hs6 => ?_) (fun _ _ z => False.elim z)
      have go : ∀ {σ6 : L2.St} {H6 : Hp} {Q : Shared → Prop}, Inv (X.suite a ((a, o4) :: (X.pn ++ pins))) [] σ6 H6 s6 → (∀ s7, Inv X pins (σ6.set i none) (upd H6 a (XO a cls d)) s7 → Q s7) →
          wpAny (model X.prog X.w) X.A (do bindName X.env n .none; unbindBehindTheSuite X.env n q1) (fun _ s7 => Q s7) X.xe s6 := fun {σ6 H6 Q} S6 hq => by
        obtain ⟨k1, k2, _⟩ := S6.pin (a, o4) (List.mem_append_left _ List.mem_cons_self)
        exact gone_ok (track (S6.unsuite okX) k2 a0 nL aC aP k1 z4 d4) hnd hix hloc hq
      cases f with
      | next =>
        obtain ⟨σ6, H6, S6, q6⟩ := hs6
        exact go S6 fun s7 J7 => ⟨_, _, J7, q6⟩
      | brk =>
        obtain ⟨σ6, H6, S6, q6⟩ := hs6
        exact go S6 fun s7 J7 => ⟨_, _, J7, q6⟩
      | cont =>
        obtain ⟨σ6, H6, S6, q6⟩ := hs6
        exact go S6 fun s7 J7 => ⟨_, _, J7, q6⟩
      | ret u =>
        obtain ⟨w6, σ6, H6, S6, r6, q6⟩ := hs6
        exact go S6 fun s7 J7 => ⟨_, _, _, J7, r6, q6⟩
    | false =>
      show wpAny _ X.A (handleBy (.ref a) X.env []) _ _ _
      refine wpAny_handleBy_nil ?_
      obtain ⟨f1, f2, f3, oe, vs, T, oT, tt, he, hz, hd, h1, hr⟩ := id F3
      unfold PySem.passOn
      refine wpAny_bind (wpAny_field he hd h1 ?_)
      rw [if_neg (show ¬ ((Value.ref T == Value.none) = true) from by simp)]
      have fin : wpAny (model X.prog X.w) X.A (setFlight (.ref a) X.env.frame) (fun _ s4 => wpAny (model X.prog X.w) X.A (throw (.ref a) : Sem Flow) (SP X pins D) X.xe s4) X.xe { s' with heap := g3 } := by
        rw [hfrm]
        refine HandSPX.setFlight_upZ F3 fun g4 k4 u4 => wpAny_throw (tk _ _ ?_)
        exact ⟨a, B, sI, pins, σ1, H1, cls, d, rfl, J, nb, (up.trans u3).trans u4, .inr (.inr (by rw [hstk]; exact k4)), na, os, ag, hn rfl⟩
      first
        | exact wpAny_bind (wpAny_pure (wpAny_bind fin))
        | exact wpAny_bind fin
  · cases f with
    | next =>
      obtain ⟨σ1, H1, J1, q⟩ := hr1
      exact wpAny_execs_nil ⟨σ1, H1, J1.ofTry okX, q⟩
    | brk =>
      obtain ⟨σ1, H1, J1, q⟩ := hr1
      exact ⟨σ1, H1, J1.ofTry okX, q⟩
    | cont =>
      obtain ⟨σ1, H1, J1, q⟩ := hr1
      exact ⟨σ1, H1, J1.ofTry okX, q⟩
    | ret u =>
      obtain ⟨v, σ1, H1, J1, r, q⟩ := hr1
      exact ⟨v, σ1, H1, J1.ofTry okX, r, q⟩
end
/-- isinstance of a kept error: one class, a tuple of classes -/
def rIsX (K : PySem.W.Frag) : List V → Hp → VK → Prop := fun xs H Q => ∃ (a D : Addr) (d : Option Addr) (c : V) (u : Value) (b : Bool), xs = [.ref a, c] ∧ H a = some (XO a (.ref D) d) ∧ (∀ dd, d = some dd → ∃ fs, H dd = some (.xd fs)) ∧ ClsV c u ∧ ExcC K D ∧ PySem.W.kitOne K (.ref D) u = some b ∧ Q (.bl b) H
def rIsXT (K : PySem.W.Frag) : List V → Hp → VK → Prop := fun xs H Q => ∃ (a D : Addr) (d : Option Addr) (tp : Addr) (cs : List V) (us : List Value) (b : Bool), xs = [.ref a, .ref tp] ∧ H a = some (XO a (.ref D) d) ∧ (∀ dd, d = some dd → ∃ fs, H dd = some (.xd fs)) ∧ H tp = some (.tup cs) ∧ Paired ClsV cs us ∧ ExcC K D ∧ PySem.W.kitAny K (.ref D) us = some b ∧ Q (.bl b) H
section
variable {X : Cx}
theorem instX {pins : List (Addr × Obj)} {σ : L2.St} {H : Hp} {s : Shared} {a D : Addr} {d : Option Addr} (I : Inv X pins σ H s) (e : H a = some (XO a (.ref D) d)) (hd : ∀ dd, d = some dd → ∃ fs, H dd = some (.xd fs)) :
    ∃ oe od, PySem.W.InstAt s.heap a oe D od := by
  obtain ⟨oe, vs, e1, z, q⟩ := XO_at I.hok e
  have nc : PySem.W.notCls oe := by unfold PySem.W.notCls; rw [q] <;> rfl
  cases d with
  | none => exact ⟨oe, none, e1, z.1, nc, by rw [z.2]; exact True.intro⟩
  | some dd =>
    obtain ⟨fs, ed⟩ := hd dd rfl
    obtain ⟨mA, hns, hr⟩ := (show ObjOk X.prog X.w H s.heap dd (.xd fs) from I.hok dd _ ed)
    obtain ⟨od, ho, hl⟩ := lookIn_ns hns
    exact ⟨oe, some od, e1, z.1, nc, by rw [z.2]; exact ho⟩
theorem call_isX : CallR X (.builtin "isinstance") (rIsX X.K) := by
  intro pins s σ H xs us Q I r h
  obtain ⟨a, D, d, c, u, b, rfl, ea, hd, k, T, e, q⟩ := h
  obtain ⟨u1, u2, rfl, r1, r2⟩ := vals2 r
  cases (show u1 = Value.ref a from r1)
  have e2 := k.eq r2
  subst e2
  obtain ⟨oe, od, J⟩ := instX I ea hd
  exact PySem.W.kia_one (PySem.W.kitx_exc (by obtain ⟨cd, hc, _⟩ := PySem.W.any_some T.hd; rw [hc]; rfl) T.hg T.hk T.hs T.ha T.hn T.ht T.hm) I.kIn J e (fun z => nomatch z) fun tk => ⟨.bl b, H, I.tok tk, rfl, q⟩
theorem call_isXT : CallR X (.builtin "isinstance") (rIsXT X.K) := by
  intro pins s σ H xs us Q I r h
  obtain ⟨a, D, d, tp, cs, ws, b, rfl, ea, hd, hT, k, T, e, q⟩ := h
  obtain ⟨u1, u2, rfl, r1, r2⟩ := vals2 r
  cases (show u1 = Value.ref a from r1)
  cases (show u2 = Value.ref tp from r2)
  obtain ⟨oe, od, J⟩ := instX I ea hd
  obtain ⟨_, its, rv, o, h1, h2, n, h3⟩ := (show ObjOk X.prog X.w H s.heap tp (.tup cs) from I.hok tp _ hT)
  have e3 := ClsV.all k rv
  subst e3
  obtain ⟨oc, od', dt, sl⟩ := o
  simp only at h2 h3
  subst h2 h3
  exact PySem.W.kia_tup (PySem.W.kitx_exc (by obtain ⟨cd, hc, _⟩ := PySem.W.any_some T.hd; rw [hc]; rfl) T.hg T.hk T.hs T.ha T.hn T.ht T.hm) I.kIn J h1 e (fun z => nomatch z) fun tk => ⟨.bl b, H, I.tok tk, rfl, q⟩
/-- the field of a kept error -/
def tXk (K : PySem.W.Frag) (f : Str) (te : TE) : TE := fun σ H Q => te σ H fun x H1 => ∃ (a C dd : Addr) (fs : List (Str × V)) (v : V), x = .ref a ∧ H1 a = some (XO a (.ref C) (some dd)) ∧ XfC K C ∧ PySem.W.findIn K (.ref C) f = some none ∧ H1 dd = some (.xd fs) ∧ fs.lookup f = some v ∧ Q v H1
theorem pe_xk {e : Expr} {te : TE} {pos : Pos} {f : Str} (he : PE X e te) (hb : attributeBase e f X.env (eval e X.env) = eval e X.env := by rfl) : PE X (.Attribute e f pos) (tXk X.K f te) := by
  refine ⟨fun pins s σ H Q I h => ?_⟩
  refine attr_of hb (thn (he.run pins s σ H _ I h) fun u s1 hh => ?_)
  obtain ⟨x, H1, I1, rx, a, C, dd, fs, v, ex, ea, T, hno, ed, l, q⟩ := hh
  subst ex
  obtain rfl : u = Value.ref a := rx
  obtain ⟨oe, vs, e1, z, hd⟩ := XO_at I1.hok ea
  obtain ⟨mA, hns, hr⟩ := (show ObjOk X.prog X.w H1 s1.heap dd (.xd fs) from I1.hok dd _ ed)
  obtain ⟨od, ho, hl⟩ := lookIn_ns hns
  obtain ⟨u, hu, ru⟩ := RelO.some_of (v := v) (o := mA f) (by rw [← l]; exact hr f)
  have J : PySem.W.InstAt s1.heap a oe C (some od) := ⟨e1, z.1, by unfold PySem.W.notCls; rw [hd] <;> rfl, by rw [z.2]; exact ho⟩
  exact HandSPX.exc_get I1.kIn J T.ga T.gg T.exC (PySem.W.findObj_own T.hdC hno rfl (by rw [hl, hu])) (handed_of ru) ⟨v, H1, I1.tok _, ru, q⟩
end
end KL
namespace KL
open PySem PySem.Spec PyProof.Rows L2
/-- what __init__ with one field promises -/
def spI1 (C : Addr) (f : Str) : Sp := fun vs H Q _ => ∃ (a : Addr) (v : V), vs = [.ref a, v] ∧ H a = some (exo a C none) ∧ ∀ dx, H dx = none → dx ≠ a → Q .non (upd (upd H dx (exd dx [(f, v)])) a (exo a C (some dx)))
section
variable {P : Program} {w : World} {K : PySem.W.Frag} {mg : Str → Option Value} {base : Heap} {C fI cc cda : Addr} {qual : Str} {st : Stmt} {fd : FuncData} {k : Nat}
theorem ok_init1 {f txt : Str} {j : Nat} {p0 p1 p2 p3 p4 p5 q0 q1 q2 q3 : Pos} (T : SupC K P mg C fI cc cda qual st fd) (S : NdefX.NScope ["self", f, "__class__"] ["self", f] ["__class__"] (defScope st))
    (hb : defBody st = [.Expr (.Call (.Attribute (.Call (.Name "super" p0) [] [] p1) "__init__" p2) [.Constant (.str txt) j p3] [] p4) p5, .Assign [.Attribute (.Name "self" q0) f q1] (.Name f q2) q3])
    (hsup : (defScope st).names.lookup ("super" : Str) = some .globalImplicit) {pl : Env → Sem Bool}
    (he : ∀ env : Env, eval (.Call (.Attribute (.Call (.Name "super" p0) [] [] p1) "__init__" p2) [.Constant (.str txt) j p3] [] p4) env = (do
      let ov ← attributeBase (.Call (.Name "super" p0) [] [] p1) "__init__" env (eval (.Call (.Name "super" p0) [] [] p1) env)
      standAt p2.atName
      let (g, first) ← holding [ov] (getMethod ov "__init__" (pl env))
      callWith p4 g first (backTo p4 (starEach [.Constant (.str txt) j p3] env)) []))
    (hs : ∀ env line, swapsWith (.Name f q2) (some (.Attribute (.Name "self" q0) f q1)) line env = pure false) (hno : PySem.W.findIn K (.ref C) f = some none) (hd : (f == ("__debug__" : Str)) = false) (hcd : (f == ("__classdict__" : Str)) = false) :
    FnOk P w K mg base CX0 (k + 1) fI fd ["self", f] (spI1 C f) := by
  refine init_of T S rfl hb hsup he (fun vs H Q E h => ?_) (fun vs H Q E h => ?_) (fun A outer s H vs Q E hr h => ?_)
  · obtain ⟨a, v, rfl, _⟩ := h; rfl
  · obtain ⟨a, v, rfl, e, _⟩ := h; exact ⟨a, rfl, e⟩
  · obtain ⟨a, v, rfl, e, q⟩ := h
    refine ⟨_, pss_one (ps_ost (pe_var (i := 0) rfl (.inl (S.par _ (by simp))) (by decide) (by decide)) (pe_var (i := 1) rfl (.inl (S.par _ (by simp))) hd hcd) (hs _ _)), ?_⟩
    exact ⟨_, rfl, _, rfl, a, C, rfl, T.oex, hno, .inl ⟨e, fun dx n ne => q dx n ne⟩⟩
end
/-- X(e), X's __init__ keeping one field -/
def tMk1 (C : Addr) (f : Str) (ta : TA) : L2.St → Hp → XK → Prop := fun σ H Q => ta σ H fun vs H1 => ∃ v, vs = [v] ∧ ∀ d, H1 d = none → Q (.ref C) (some d) (upd H1 d (.xd [(f, v)]))
section
variable {X : Cx} {x f : Str} {e : Expr} {ta : TA} {p pos : Pos} {C fI : Addr} {k : Nat} {fd : FuncData} {ps : List Str}
theorem pmk_sup1 (T : OexC X.K C) (iC : PySem.W.findIn X.K (.ref C) "__init__" = some (some (.ref fI))) (tI : PySem.W.typeIn X.K (.ref fI) = some (.type "function"))
    (F1 : FnOk X.prog X.w X.K X.mg X.base CX0 k fI fd ps (spI1 C f)) (hr : Room (k + 1) X.A) (hb : Binds X.K fd ps []) (hg : Gl X x) (hm : X.mg x = some (.ref C)) (ha : PA X [e] ta)
    (hdb : (x == ("__debug__" : Str)) = false := by decide) (he : starEach [e] X.env = (false, eval e X.env) :: starEach [] X.env := by rfl) (hpl : (backTo pos (starEach [] X.env)).any (·.1) = false := by rfl) :
    PMk X (.Call (.Name x p) [e] [] pos) (tMk1 C f ta) := by
  intro pins s σ H Q I h
  have ha' : PA X [e] (fun σ H Q => ∃ Q0, ta σ H Q0 ∧ ∀ vs H', Q0 vs H' → Q vs H') :=
    ⟨fun pos pins s σ H Q I ⟨Q0, h, m⟩ => wpAny_mono (ha.run pos pins s σ H Q0 I h) (fun us s1 ⟨vs, H1, I1, r, q⟩ => ⟨vs, H1, I1, r, m _ _ q⟩) (fun _ _ z => z)⟩
  refine pmk_oex T iC tI F1 hr hb (dvs := []) .nil (fun _ _ _ _ _ _ _ z => z.elim) hg hm ha' hdb he hpl pins s σ H Q I ?_
  refine ⟨_, h, fun vs H1 hh => ?_⟩
  obtain ⟨v, rfl, q⟩ := hh
  refine ⟨by show 1 ≤ 1000; omega, fun a na => ⟨a, v, rfl, upd_same, fun dx n ne => ⟨rfl, dx, [(f, v)], upd_same, ?_, ?_, ?_⟩⟩⟩
  · rw [upd_ne ne, upd_same]
  · rw [upd_ne ne] at n; exact n
  · rw [upd_ne ne] at n
    have : upd (del (upd (upd (upd H1 a (exo a C none)) dx (exd dx [(f, v)])) a (exo a C (some dx))) a) dx (.xd [(f, v)]) = upd H1 dx (.xd [(f, v)]) := by
      funext b
      by_cases h1 : b = dx
      · subst h1; rw [upd_same, upd_same]
      · rw [upd_ne h1, upd_ne h1]
        by_cases h2 : b = a
        · subst h2; rw [del_same, na]
        · rw [del_ne h2, upd_ne h2, upd_ne h1, upd_ne h2]
    rw [this]; exact q dx n
end
/-- an own error class with one field, as a def may raise it -/
structure Er1 (P : Program) (w : World) (K : PySem.W.Frag) (mg : Str → Option Value) (base : Heap) (k : Nat) (x f : Str) (C : Addr) : Prop where
  T : OexC K C
  fn : ∃ (fI : Addr) (fd : FuncData) (ps : List Str), PySem.W.findIn K (.ref C) "__init__" = some (some (.ref fI)) ∧ PySem.W.typeIn K (.ref fI) = some (.type "function") ∧ FnOk P w K mg base CX0 k fI fd ps (spI1 C f) ∧ Binds K fd ps []
  gl : mg x = some (.ref C)
theorem Er1.mono {P : Program} {w : World} {K : PySem.W.Frag} {mg : Str → Option Value} {base : Heap} {j k : Nat} {x f : Str} {C : Addr} (e : Er1 P w K mg base j x f C) (h : j ≤ k) : Er1 P w K mg base k x f C :=
  let ⟨fI, fd, ps, a, b, c, d⟩ := e.fn; ⟨e.T, ⟨fI, fd, ps, a, b, c.mono h, d⟩, e.gl⟩
theorem ps_raise1 {X : Cx} {W : WX} {x f : Str} {e : Expr} {ta : TA} {p pos pos2 : Pos} {C : Addr} {k : Nat} (E : Er1 X.prog X.w X.K X.mg X.base k x f C) (hc : X.calm = true) (hr : Room (k + 1) X.A) (tk : Takes X W) (hg : Gl X x) (ha : PA X [e] ta)
    (hdb : (x == ("__debug__" : Str)) = false := by decide) (he : starEach [e] X.env = (false, eval e X.env) :: starEach [] X.env := by rfl) (hpl : (backTo pos (starEach [] X.env)).any (·.1) = false := by rfl) :
    PS X (.Raise (some (.Call (.Name x p) [e] [] pos)) none pos2) (fun _ σ H => tMk1 C f ta σ H fun cls d H' => W cls d σ H') :=
  let ⟨_, _, _, iC, tI, F1, hb⟩ := E.fn
  ps_raise hc tk (pmk_sup1 E.T iC tI F1 hr hb hg E.gl ha hdb he hpl)
/-- a def that may raise -/
def Dx (P : Program) (w : World) (K : PySem.W.Frag) (mg : Str → Option Value) (base : Heap) (k : Nat) (x : Str) (ps : List Str) (sp : Sp) : Prop :=
  ∃ (f : Addr) (fd : FuncData), FnOk P w K mg base (L2.CX P w) k f fd ps sp ∧ PySem.W.keepIn K (.ref f) = true ∧ Binds K fd ps [] ∧ mg x = some (.ref f)
theorem Dx.mono {P : Program} {w : World} {K : PySem.W.Frag} {mg : Str → Option Value} {base : Heap} {j k : Nat} {x : Str} {ps : List Str} {sp : Sp} (D : Dx P w K mg base j x ps sp) (h : j ≤ k) : Dx P w K mg base k x ps sp :=
  let ⟨f, fd, F, kk, b, g⟩ := D; ⟨f, fd, F.mono h, kk, b, g⟩
theorem pe_dx {X : Cx} {k : Nat} {ps : List Str} {sp : Sp} {E : L2.St → XK} {x : Str} {p pos : Pos} {e : Expr} {es : List Expr} {t : TA} (D : Dx X.prog X.w X.K X.mg X.base k x ps sp) (hr : Room k X.A) (hg : Gl X x) (hx : ∀ σ, PassesAt (L2.CX X.prog X.w) X σ (E σ)) (ha : PA X (e :: es) t)
    (hdb : (x == ("__debug__" : Str)) = false := by decide) (he : starEach (e :: es) X.env = (false, eval e X.env) :: starEach es X.env := by rfl) (hpl : (backTo pos (starEach es X.env)).any (·.1) = false := by rfl) :
    PE X (.Call (.Name x p) (e :: es) [] pos) (tCallS sp E t) :=
  let ⟨_, _, F, kk, b, g⟩ := D
  pe_callS F hr hg g kk b hx ha hdb he hpl
/-- called where it does not raise -/
theorem pass0 {X : Cx} (σ : L2.St) : PassesAt (L2.CX X.prog X.w) X σ ((fun _ _ _ _ => False : L2.St → XK) σ) := fun _ _ _ _ _ _ ⟨_, _, _, _, _, _, _, _, _, _, _, _, z⟩ => z.elim

theorem pe_dx0 {X : Cx} {k : Nat} {ps : List Str} {sp : Sp} {x : Str} {p pos : Pos} {e : Expr} {es : List Expr} {t : TA} (D : Dx X.prog X.w X.K X.mg X.base k x ps sp) (hr : Room k X.A) (hg : Gl X x) (ha : PA X (e :: es) t)
    (hdb : (x == ("__debug__" : Str)) = false := by decide) (he : starEach (e :: es) X.env = (false, eval e X.env) :: starEach es X.env := by rfl) (hpl : (backTo pos (starEach es X.env)).any (·.1) = false := by rfl) :
    PE X (.Call (.Name x p) (e :: es) [] pos) (tCallS sp (fun _ _ _ _ => False) t) := pe_dx D hr hg pass0 ha hdb he hpl
/-! ### a list, each k-th from a place on -/
theorem vals_pick {xs : List V} {its : List Value} (r : Vals xs its) : ∀ l : List Nat, Vals (l.filterMap (xs[·]?)) (l.filterMap (its.toArray[·]?))
  | [] => .nil
  | i :: l => by
    rw [List.filterMap_cons, List.filterMap_cons]
    cases hx : xs[i]? with
    | none =>
      have : its.toArray[i]? = none := by
        rw [List.getElem?_toArray, List.getElem?_eq_none_iff, ← r.length]; exact List.getElem?_eq_none_iff.mp hx
      rw [this]; exact vals_pick r l
    | some v =>
      obtain ⟨u, hu, ru⟩ := r.get hx
      rw [show its.toArray[i]? = some u by rw [List.getElem?_toArray]; exact hu]
      exact .cons ru (vals_pick r l)
def tStepL (K : PySem.W.Frag) (te tl : TE) : TE := fun σ H Q => te σ H fun x H1 => tl σ H1 fun y H2 => ∃ a xs n, x = .ref a ∧ y = .int n ∧ SqL K H2 a xs ∧ ∀ ys p, (∀ v ∈ ys, v ∈ xs) → ys.length ≤ xs.length → H2 p = none → Q (.ref p) (upd H2 p (.lst ys))
theorem pe_stepL {X : Cx} {e lo : Expr} {te tl : TE} {c : Int} {k : Nat} {p1 p3 pos : Pos} (hc0 : c ≠ 0) (he : PE X e te) (hlo : PE X lo tl) : PE X (.Subscript e (.Slice (some lo) none (some (.Constant (.int c) k p1)) p3) pos) (tStepL X.K te tl) := by
  refine ⟨fun pins s σ H Q I h => ?_⟩
  refine Subscript_ (thn (he.run pins s σ H _ I h) fun v s1 ⟨x, H1, I1, r1, h1⟩ => ?_)
  have pm : PO X (some (.Constant (.int c) k p1)) (tPart (tC (.int c))) := po_some pe_int
  have pl : PO X (some lo) (tPart fun σ H Q => ∃ Q0, tl σ H Q0 ∧ ∀ v H', Q0 v H' → Q v H') := po_some ⟨fun pins s σ H Q I ⟨Q0, h, m⟩ => wpAny_mono (hlo.run pins s σ H Q0 I h) (fun u s1 ⟨v, H1, I1, r, q⟩ => ⟨v, H1, I1, r, m _ _ q⟩) (fun _ _ z => z)⟩
  refine wpAny_Slice (thn (pl.run pins s1 σ H1 (fun o G => ∃ n, o = some n ∧ ∃ a xs, x = .ref a ∧ SqL X.K G a xs ∧ ∀ ys p, (∀ v ∈ ys, v ∈ xs) → ys.length ≤ xs.length → G p = none → Q (.ref p) (upd G p (.lst ys))) I1 ⟨_, h1, ?_⟩) fun vl s2 ⟨l, G2, I2, pl, n, el, a, xs, ex, hx, q⟩ => ?_)
  · rintro v H' ⟨a, xs, n, rfl, rfl, hx, q⟩
    exact ⟨n, rfl, n, rfl, a, xs, rfl, hx, q⟩
  subst el ex
  cases r1
  refine thn (po_none.run pins s2 σ G2 (fun o G => o = none ∧ G = G2) I2 ⟨rfl, rfl⟩) fun vu s3 ⟨u, G3, I3, pu, eu, e3⟩ => ?_
  subst eu e3
  refine thn (pm.run pins s3 σ G3 (fun o G => o = some c ∧ G = G3) I3 ⟨c, rfl, rfl, rfl⟩) fun vs s4 ⟨o, G4, I4, ps, eo, e4⟩ => ?_
  subst eo e4
  have I5 : Inv X pins σ G4 { s4 with heap := s4.heap.push { cls := .type "slice", data := .fields #[vl, vu, vs] } } := I4.kept (t' := s4.toks) fun b ob q => Heap.get?_push_of_some _ q
  obtain ⟨its, r, ht, hz⟩ := I5.list hx
  have hlen := r.length
  show wpAny (model X.prog X.w) X.A (subscriptTail e (.Slice (some lo) none (some (.Constant (.int c) k p1)) p3) (.ref a) (.ref s4.heap.objs.size)) (EP X pins σ Q) X.xe
    { s4 with heap := s4.heap.push { cls := .type "slice", data := .fields #[vl, vu, vs] } }
  refine tail_any (ops := [.ref a, .ref s4.heap.objs.size]) ht.isList.typeIs slot_list_getitem.lookup ?_ (by with_unfolding_all rfl)
  refine wpAny_getItem_list_slice ht.isList (Heap.IsSliceOf.new _ vl vu vs) pl pu ps (fun z => hc0 (Option.some.inj z)) ?_ (by rw [List.size_toArray]; omega)
  have rp := vals_pick r (sliceRange (sliceBounds (some n) none (some c) its.toArray.size).1 (sliceBounds (some n) none (some c) its.toArray.size).2.1 (sliceBounds (some n) none (some c) its.toArray.size).2.2)
  have hl := slicePick_size_le its.toArray (some n) none (some c)
  unfold slicePick at hl ⊢
  generalize sliceRange (sliceBounds (some n) none (some c) its.toArray.size).1 (sliceBounds (some n) none (some c) its.toArray.size).2.1 (sliceBounds (some n) none (some c) its.toArray.size).2.2 = rg at *
  rw [List.size_toArray, List.size_toArray, ← rp.length, ← hlen] at hl
  refine ⟨.ref _, _, I5.laid (t' := s4.toks) (o := .lst (rg.filterMap (xs[·]?))) (fun b ob q => Heap.get?_push_of_some _ q) (Nat.le_refl _) ?_, rfl, q _ _ (fun v hv => ?_) hl (I5.hok.fresh (Nat.le_refl _))⟩
  · exact ⟨Nat.le_trans hl hz, _, 0, rp, Heap.get?_push_size _ rfl⟩
  · obtain ⟨i, _, hi⟩ := List.mem_filterMap.mp hv
    exact List.mem_of_getElem? hi
end KL
namespace KL
open PySem PySem.Spec PyProof.Rows L2
theorem dec_V (a b : Int) : decide (V.int a = V.int b) = decide (a = b) := by rw [Bool.eq_iff_iff]; simp
theorem pg_tup' {X : Cx} {K : PySem.W.Frag} {es : List Expr} {k : Nat} {pos : Pos} {t : TGs} {n : Nat} (e : X.K = K) (hc : X.calm = true) (h : PGs X es t) (hn : (assignEach es X.env).length = n := by rfl) (hst : (assignEach es X.env).findIdx? (·.1) = none := by rfl) :
    PG X (.Tuple es k pos) (gTup K n t) := e ▸ pg_tup hc h hn hst
/-! ### what two clauses meet in -/
def lft (one other : List Int) (t : Int) : List Int := (one ++ other).filter fun s => !decide (ab s = t)
def Mt (one other : List Int) (t : Int) : Prop := t ∈ one ∧ -t ∈ other
abbrev Up (ns : List Int) : Prop := ns.Pairwise fun a b => a.natAbs < b.natAbs
/-- what two clauses meet in by d, or none -/
def IsMet (one other : List Int) (d : PyData) (r : Option (List Int)) : Prop :=
  (r = none ∧ ∀ t, d = .int t → 1 ≤ t → True → Mt one other t → Both (lft one other t)) ∨ ∃ t cs, d = .int t ∧ 1 ≤ t ∧ True ∧ r = some cs ∧ Mt one other t ∧ ¬ Both (lft one other t) ∧ ClOf (lft one other t) cs
theorem IsMet.eq {one other : List Int} {d : PyData} {r r' : Option (List Int)} (h : IsMet one other d r) (h' : IsMet one other d r') : r = r' := by
  rcases h with ⟨e, h⟩ | ⟨t, cs, ed, h1, h2, e, m, b, c⟩ <;> rcases h' with ⟨e', h'⟩ | ⟨t', cs', ed', h1', h2', e', m', b', c'⟩
  · rw [e, e']
  · exact absurd (h t' ed' h1' h2' m') b'
  · exact absurd (h' t ed h1 h2 m) b
  · rw [ed] at ed'; cases ed'
    rw [e, e', c.eq c']
/-- a new tuple of ints, or None -/
def OptT (H : Hp) (r : Option (List Int)) (v : V) (H' : Hp) : Prop := (r = none ∧ v = .non) ∨ ∃ p cs, r = some cs ∧ v = .ref p ∧ H p = none ∧ H' p = some (.tup (cs.map V.int))
theorem mem_lft {one other : List Int} {t m : Int} : m ∈ lft one other t ↔ (m ∈ one ∨ m ∈ other) ∧ ab m ≠ t := by
  unfold lft
  rw [List.mem_filter, List.mem_append]
  simp
theorem up_eq {ns : List Int} (h : Up ns) {a b : Int} (ha : a ∈ ns) (hb : b ∈ ns) (e : a.natAbs = b.natAbs) : a = b := by
  induction ns with
  | nil => cases ha
  | cons x ns ih =>
    have h := List.pairwise_cons.mp h
    rcases List.mem_cons.mp ha with rfl | ha' <;> rcases List.mem_cons.mp hb with rfl | hb'
    · rfl
    · exact absurd (h.1 b hb') (by omega)
    · exact absurd (h.1 a ha') (by omega)
    · exact ih h.2 ha' hb'
theorem up_nd {ns : List Int} (h : Up ns) : ns.Nodup := h.imp fun hab e => by rw [e] at hab; omega
/-- the clauses' own meeting, as the law puts it together -/
theorem met_left {one other L : List Int} {t : Int} (u1 : Up one) (u2 : Up other) (ht : 1 ≤ t) (m : Mt one other t) (hL : ∀ m, m ∈ L ↔ (m ∈ one ∧ m ≠ t) ∨ (m ∈ other ∧ m ≠ 0 - t)) : ∀ m, m ∈ L ↔ m ∈ lft one other t := by
  intro x
  rw [hL, mem_lft]
  constructor
  · rintro (⟨h, n⟩ | ⟨h, n⟩)
    · refine ⟨.inl h, fun e => n ?_⟩
      exact up_eq u1 h m.1 (by rw [ab_nat] at e; omega)
    · refine ⟨.inr h, fun e => n ?_⟩
      have := up_eq u2 h m.2 (by rw [ab_nat] at e; omega)
      omega
  · rintro ⟨h | h, n⟩
    · exact .inl ⟨h, fun e => n (by rw [e, ab_nat]; omega)⟩
    · exact .inr ⟨h, fun e => n (by rw [e, ab_nat]; omega)⟩
theorem both_congr {ns ms : List Int} (h : ∀ m, m ∈ ns ↔ m ∈ ms) : Both ns ↔ Both ms :=
  ⟨fun ⟨n, a, b⟩ => ⟨n, (h _).mp a, (h _).mp b⟩, fun ⟨n, a, b⟩ => ⟨n, (h _).mpr a, (h _).mpr b⟩⟩
theorem ClOf.congr {ns ms cs : List Int} (h : ∀ m, m ∈ ns ↔ m ∈ ms) (c : ClOf ns cs) : ClOf ms cs := ⟨c.up, fun m => (c.mem m).trans (h m)⟩
/-- pairs (abs s, s), sorted: the second ones rise -/
theorem srt_up {xs ys : List V} {ns : List Int} {k : V → Int × Int} (hk : xs.map k = ns.map fun n => (ab n, n)) (nd : ns.Pairwise fun a b => ab a ≠ ab b) (hs : SrtO.Srtd (ltP k) ys) (hb : SrtO.Stb (ltP k) ys xs) : ClOf ns (ys.map fun y => (k y).2) := by
  have hp := hb.perm
  have e : (ys.map k).Perm (ns.map fun n => (ab n, n)) := by rw [← hk]; exact hp.map k
  have e2 : (ys.map fun y => (k y).2).Perm ns := by
    have := e.map Prod.snd
    rw [List.map_map, List.map_map] at this
    have i : (Prod.snd ∘ fun n : Int => (ab n, n)) = id := rfl
    rw [i, List.map_id] at this
    exact this
  refine ⟨?_, fun m => e2.mem_iff⟩
  have kk : ∀ y ∈ ys, (k y).1 = ab (k y).2 := fun y hy => by
    have : k y ∈ ns.map fun n => (ab n, n) := e.mem_iff.mp (List.mem_map_of_mem hy)
    obtain ⟨n, _, hn⟩ := List.mem_map.mp this
    rw [← hn]
  have nd2 : (ys.map fun y => (k y).2).Pairwise fun a b => ab a ≠ ab b := (e2.pairwise_iff (fun h => Ne.symm h)).mpr nd
  rw [List.pairwise_map] at nd2 ⊢
  refine (hs.and nd2).imp_of_mem ?_
  rintro a b ha hb' ⟨h1, h2⟩
  have h1' := SrtO.lexB_no.mp (show SrtO.lexB (k b) (k a) = false by simpa using h1)
  have ka := kk a ha
  have kb := kk b hb'
  rw [ab_nat] at ka kb
  rw [ab_nat, ab_nat] at h2
  omega
end KL
namespace KL
open PySem PySem.Spec PyProof.Rows L2
/-! ### tuple([s for at, s in sorted([(abs(s), s) for s in L])]) -/
inductive Prs (H : Hp) : List Addr → List Int → Prop
  | nil : Prs H [] []
  | cons {t : Addr} {n : Int} {ts : List Addr} {ns : List Int} (h : H t = some (.tup [.int (ab n), .int n])) (r : Prs H ts ns) : Prs H (t :: ts) (n :: ns)
theorem Prs.mv {H H' : Hp} (m : ∀ a xs, H a = some (.tup xs) → H' a = some (.tup xs)) : ∀ {ts : List Addr} {ns : List Int}, Prs H ts ns → Prs H' ts ns
  | _, _, .nil => .nil
  | _, _, .cons h r => .cons (m _ _ h) (r.mv m)
theorem Prs.snoc {H : Hp} {t : Addr} {n : Int} (h : H t = some (.tup [.int (ab n), .int n])) : ∀ {ts : List Addr} {ns : List Int}, Prs H ts ns → Prs H (ts ++ [t]) (ns ++ [n])
  | _, _, .nil => .cons h .nil
  | _, _, .cons h' r => .cons h' (r.snoc h)
def pairK (H : Hp) (x : V) : Int × Int := match x with
  | .ref t => match H t with
    | some (.tup [.int a, .int b]) => (a, b)
    | _ => (0, 0)
  | _ => (0, 0)
theorem pairK_of {H : Hp} {t : Addr} {a b : Int} (h : H t = some (.tup [.int a, .int b])) : pairK H (.ref t) = (a, b) := by
  unfold pairK
  simp only [h]
theorem Prs.keys {H : Hp} : ∀ {ts : List Addr} {ns : List Int}, Prs H ts ns → (ts.map V.ref).map (pairK H) = ns.map fun n => (ab n, n)
  | _, _, .nil => rfl
  | _, _, .cons h r => by rw [List.map_cons, List.map_cons, List.map_cons, r.keys, pairK_of h]
theorem Prs.at {H : Hp} : ∀ {ts : List Addr} {ns : List Int} {x : V}, Prs H ts ns → x ∈ ts.map V.ref → ∃ t, x = V.ref t ∧ H t = some (.tup [.int (pairK H x).1, .int (pairK H x).2])
  | _, _, _, .nil, h => nomatch h
  | _, _, _, .cons h r, hx => by
    rw [List.map_cons] at hx
    rcases List.mem_cons.mp hx with e | e
    · rw [e]; exact ⟨_, rfl, by rw [pairK_of h]; exact h⟩
    · exact r.at e
theorem Prs.len {H : Hp} : ∀ {ts : List Addr} {ns : List Int}, Prs H ts ns → ts.length = ns.length
  | _, _, .nil => rfl
  | _, _, .cons _ r => by rw [List.length_cons, List.length_cons, r.len]
abbrev tSrt (K : PySem.W.Frag) (m i j : Nat) : TE := tCB (fun xs H Q => ∃ p ys, xs = [V.ref p] ∧ ((SqL K H p ys ∧ ∀ l, H l = none → Q (V.ref l) (upd H l (.tup ys))) ∨ (SqT K H p ys ∧ Q (V.ref p) H)))
  (tCons (tLc (iList K (tCB (rSortedPO K) (tCons (tLc (iList K (tVar m)) (gName i) tYes (tTup (tCons (tCB (fun xs H Q => ∃ i, xs = [V.int i] ∧ Q (V.int (if i < 0 then -i else i)) H) (tCons (tVar i) tNil)) (tCons (tVar i) tNil))) [i]) tNil)))
    (gTup K 2 (gCons (gName j) (gCons (gName i) gNil))) tYes (tVar i) [j, i]) tNil)
theorem srt_read {K : PySem.W.Frag} {m i j : Nat} {σ : L2.St} {H : Hp} {Q : VK} {D : Addr} {L : List Int} (hm : σ[m]? = some (some (.ref D))) (hi1 : ∀ v, wipe ((wipe σ [i]).set i (some v)) [i] = wipe σ [i]) (hi2 : ∀ v : V, ((wipe σ [i]).set i (some v))[i]? = some (some v))
    (hj1 : ∀ u v, wipe (((wipe σ [j, i]).set j (some u)).set i (some v)) [j, i] = wipe σ [j, i]) (hj2 : ∀ u v : V, (((wipe σ [j, i]).set j (some u)).set i (some v))[i]? = some (some v)) (e : H D = some (.lst (L.map V.int))) (hl : L.length ≤ 1000) (dj : L.Pairwise fun a b => ab a ≠ ab b)
    (q : ∀ (r : Addr) (cs : List Int) (H' : Hp), Same H H' → H r = none → H' r = some (.tup (cs.map V.int)) → ClOf L cs → Q (.ref r) H') : tSrt K m i j σ H Q := by
  refine ⟨_, hm, D, rfl, ⟨_, SqL.of e⟩, fun D1 nD1 => lc_list (xs := L.map V.int) (fun k H' => ∃ ts : List Addr, Same H H' ∧ H' D1 = some (.lst (ts.map V.ref)) ∧ Prs H' ts (L.take k)) ⟨[], same_new nD1, upd_same, .nil⟩ (fun k H' _ ⟨ts, s1, _⟩ => SqL.of (s1 _ _ e)) ?_ ?_⟩
  · rintro k x H1 ex ⟨ts, s1, e1, pr⟩
    obtain ⟨n, rfl, hn, htk⟩ := at_int ex
    have hk : k < 1000 := by
      have := (List.getElem?_eq_some_iff.mp ex).1
      rw [List.length_map] at this; omega
    refine ⟨hi1 _, ?_⟩
    refine ⟨_, hi2 _, n, rfl, _, hi2 _, (by show 2 ≤ sizeLine; decide), fun t nt => ?_⟩
    have s2 : Same H1 (upd H1 t (.tup [.int (ab n), .int n])) := same_new nt
    have et : (upd H1 t (.tup [.int (ab n), .int n])) t = some (.tup [.int (ab n), .int n]) := upd_same
    have eD := s2 _ _ e1
    have pr2 := pr.mv (H' := upd H1 t (.tup [.int (ab n), .int n])) fun a xs h => s2 _ _ h
    change ∃ acc, (upd H1 t (.tup [.int (ab n), .int n])) D1 = some (.lst acc) ∧ _
    generalize (upd H1 t (.tup [.int (ab n), .int n])) = H2 at *
    refine ⟨_, eD, ?_, ts ++ [t], ?_, ?_, ?_⟩
    · rw [List.length_map, pr.len, List.length_take]; exact small1000 (by omega)
    · exact fun b o hb => by rw [upd_ne (ne_of_none hb nD1)]; exact s2 _ _ (s1 _ _ hb)
    · rw [upd_same, List.map_append]; rfl
    · rw [htk]
      exact (pr2.snoc et).mv fun a xs h => by rw [upd_ne (ne_of h eD (by intro z; cases z))]; exact h
  rintro H1 ⟨ts, s1, e1, pr⟩
  rw [List.length_map, List.take_length] at pr
  refine ⟨D1, _, pairK H1, rfl, SqL.of e1, fun x hx => pr.at hx, fun ys p hs hb np => ?_⟩
  have s2 : Same H1 (upd H1 p (.lst ys)) := same_new np
  have ep : (upd H1 p (.lst ys)) p = some (.lst ys) := upd_same
  have hys : ∀ y ∈ ys, ∃ t, y = V.ref t ∧ (upd H1 p (.lst ys)) t = some (.tup [.int (pairK H1 y).1, .int (pairK H1 y).2]) := fun y hy => by
    obtain ⟨t, e1, e2⟩ := pr.at (hb.perm.mem_iff.mp hy)
    exact ⟨t, e1, s2 _ _ e2⟩
  have cl := srt_up pr.keys dj hs hb
  have lys : ys.length ≤ 1000 := by rw [hb.len, List.length_map, pr.len]; exact hl
  generalize (upd H1 p (.lst ys)) = H2 at *
  refine ⟨p, rfl, ⟨_, SqL.of ep⟩, fun D3 nD3 => lc_list (xs := ys) (fun k H' => Same H2 H' ∧ H' D3 = some (.lst (((ys.take k).map fun y => (pairK H1 y).2).map V.int))) ⟨same_new nD3, upd_same⟩ (fun k H' _ h => SqL.of (h.1 _ _ ep)) ?_ ?_⟩
  · rintro k x H3 ex ⟨s3, e3⟩
    obtain ⟨t, rfl, et⟩ := hys x (List.mem_of_getElem? ex)
    have hk : k < 1000 := by
      have := (List.getElem?_eq_some_iff.mp ex).1
      omega
    refine ⟨t, _, rfl, SqT.of (s3 _ _ et), rfl, _, _, rfl, _, _, rfl, rfl, hj1 _ _, _, hj2 _ _, _, e3, ?_, ?_, ?_⟩
    · rw [List.length_map, List.length_map, List.length_take]; exact small1000 (by omega)
    · exact fun b o hb => by rw [upd_ne (ne_of_none hb nD3)]; exact s3 _ _ hb
    · rw [upd_same, List.take_add_one, ex, List.map_append, List.map_append]; rfl
  rintro H3 ⟨s3, e3⟩
  rw [List.take_length] at e3
  exact ⟨D3, _, rfl, .inl ⟨SqL.of e3, fun r nr => q r _ _ (s1.trans (s2.trans (s3.trans (same_new nr)))) ((s1.trans (s2.trans s3)).free nr) upd_same cl⟩⟩
end KL
namespace KL
open PySem PySem.Spec PyProof.Rows L2
theorem eqvNilT (ds : List PyData) : PyData.eqv (.tuple ds) (.tuple []) = ds.isEmpty := by
  cases ds with
  | nil => simp [PyData.eqv, PyData.eqvAll]
  | cons d ds => simp [PyData.eqv, PyData.eqvAll]
theorem shTup (ns : List Int) : SeqAt.shaped (.tuple (ns.map PyData.int)) = true := by
  unfold SeqAt.shaped
  simp only [PyData.canLay0, cl_ints, PyData.depth, dp_ints, Bool.true_and]
  decide
theorem eqvT_refl (ns : List Int) : PyData.eqv (.tuple (ns.map PyData.int)) (.tuple (ns.map PyData.int)) = true := SeqAt.eqv_refl _ (SeqAt.canLay_of_shaped (shTup ns))
theorem up_len {ns : List Int} {N : Nat} (h : Up ns) (ha : ∀ n ∈ ns, n ≠ 0 ∧ n.natAbs ≤ N) : ns.length ≤ N := by
  have nd : (ns.map ab).Nodup := by
    refine List.pairwise_map.mpr (h.imp fun {a b} hab e => ?_)
    rw [ab_nat, ab_nat] at e; omega
  have := nd_len (ms := ns.map ab) (ns := (List.range N).map fun (i : Nat) => (i : Int) + 1) nd fun m hm => by
    obtain ⟨n, hn, rfl⟩ := List.mem_map.mp hm
    have := ha n hn
    refine List.mem_map.mpr ⟨n.natAbs - 1, List.mem_range.mpr (by omega), ?_⟩
    rw [ab_nat]; omega
  rw [List.length_map, List.length_map, List.length_range] at this
  exact this
theorem up_dj {ns : List Int} (h : Up ns) : ns.Pairwise fun a b => ab a ≠ ab b := h.imp fun {a b} hab e => by rw [ab_nat, ab_nat] at e; omega
/-- where both hold, what they meet in holds -/
theorem met_says {one other cs : List Int} {t : Int} {bs : List Bool} (u1 : Up one) (u2 : Up other) (im : IsMet one other (.int t) (some cs)) (h1 : one.any (sayB bs) = true) (h2 : other.any (sayB bs) = true) : cs.any (sayB bs) = true := by
  rcases im with ⟨z, _⟩ | ⟨t', cs', et, h, _, e, m, nb, cl⟩
  · cases z
  cases et; cases e
  obtain ⟨x, hx, sx⟩ := List.any_eq_true.mp h1
  obtain ⟨y, hy, sy⟩ := List.any_eq_true.mp h2
  refine List.any_eq_true.mpr ?_
  by_cases hxt : ab x = t
  · have ex : x = t := up_eq u1 hx m.1 (by rw [ab_nat] at hxt; omega)
    have hyt : ab y ≠ t := fun z => by
      have ey : y = -t := up_eq u2 hy m.2 (by rw [ab_nat] at z; omega)
      rw [ex] at sx
      rw [ey] at sy
      unfold sayB at sx sy
      rw [Int.natAbs_neg] at sy
      have a1 := beq_iff_eq.mp sx
      have a2 := beq_iff_eq.mp sy
      rw [a1] at a2
      rw [decide_eq_true (show 0 < t by omega), decide_eq_false (show ¬ 0 < -t by omega)] at a2
      cases a2
    exact ⟨y, (cl.mem y).mpr (mem_lft.mpr ⟨.inr hy, hyt⟩), sy⟩
  · exact ⟨x, (cl.mem x).mpr (mem_lft.mpr ⟨.inl hx, hxt⟩), sx⟩
theorem IsMet.all {one other cs : List Int} {d : PyData} (im : IsMet one other d (some cs)) : Up cs ∧ ∀ n ∈ cs, n ∈ one ∨ n ∈ other := by
  rcases im with ⟨z, _⟩ | ⟨t', cs', et, h, _, e, m, nb, cl⟩
  · cases z
  cases e
  exact ⟨cl.up, fun n hn => (mem_lft.mp ((cl.mem n).mp hn)).1⟩
theorem Fine.strNo : Fine 10 0 (.str (Str.ofString "no")) := ⟨rfl, by decide +kernel, by decide +kernel, by decide +kernel, by decide +kernel⟩
theorem Fine.strMet : Fine 10 0 (.str (Str.ofString "met")) := ⟨rfl, by decide +kernel, by decide +kernel, by decide +kernel, by decide +kernel⟩
end KL
namespace KL
open PySem PySem.Spec PyProof.Rows L2
section
variable {P : Program} {w : World} {K : PySem.W.Frag} {mg : Str → Option Value} {base : Heap} {x qual : Str} {st : Stmt} {C fI cc cda N : Addr} {nm q : Str} {bs bm sub : List Value} {sn : List Str} {ab' : Bool} {col : Option Bool} {dd od cdd cld an : Option Addr} {k0 k1 k2 k3 k5 : Option Value}
  {oc ccl cl dV kV doc pm ct : Value} {osl ccs csl : Array (Option Value)} {vs : Array Value} {file : Str} {tf : Tok}
/-- all of it, from what the written part says -/
theorem sup_mk (gx : mg x = some (.ref C)) (o : K.lookup C = some (excClassObj nm q C N bs bm true sn sub ab' col dd k0 k1 k2 k3 k5 "ValueError.__new__")) (rv : PySem.HandSPX.refsVE bm = true)
    (sa : PySem.W.findIn K (.ref C) "__setattr__" = some (some (.builtin "object.__setattr__"))) (exC : PySem.W.subIn K (.ref C) (.type "BaseException") = some true) (tyC : PySem.W.typeIn K (.ref C) = some (.type "type")) (kC : PySem.W.keepIn K (.ref C) = true)
    (ini : PySem.W.findIn K (.ref C) "__init__" = some (some (.ref fI))) (lf : K.lookup fI = some ⟨oc, od, .func (PySem.W.fnX "__init__" qual (defArgs st) (defBody st) (defScope st) [("__class__", cc)] dV kV doc pm an (.ref cda) ct), osl⟩)
    (cd : PySem.W.codeIn K (.ref cda) qual = true) (lc : K.lookup cda = some ⟨ccl, cdd, .fields vs, ccs⟩) (v2 : vs[2]? = some (.str file tf)) (pf : ((P.main.file : Str) == file) = true) (le : K.lookup cc = some ⟨cl, cld, .cell (some (.ref C)), csl⟩)
    (sup : mg "super" = none) (top : (P.main.scope.names.lookup ("super" : Str)).isSome = false) (opq : PySem.W.nsIn K cStatics "thirdparty.any" = some none) (al : PySem.W.ks_superIn K C C "__init__" = some (some (.builtin "ValueError.__init__"))) (mr : PySem.W.mroIn K C (.ref C) = some true)
    (sv : PySem.W.subIn K (.ref C) (.type "ValueError") = some true) (tI : PySem.W.typeIn K (.ref fI) = some (.type "function")) (par : ((defArgs st).posonlyargs ++ (defArgs st).args).head?.map (·.arg) = some "self") :
    SupC K P mg C fI cc cda qual st (PySem.W.fnX "__init__" qual (defArgs st) (defBody st) (defScope st) [("__class__", cc)] dV kV doc pm an (.ref cda) ct) :=
  ⟨⟨⟨_, _, _, _, _, _, _, _, _, _, _, _, _, _, _, o, rv⟩, sa, exC, tyC, kC⟩, ⟨_, _, _, _, _, _, _, _, _, rfl, lf⟩, cd, ⟨_, _, _, _, _, _, lc, v2, pf⟩, ⟨_, _, _, le⟩, sup, top, opq, al, mr, sv, ini, tI, par⟩
theorem er1_mk {f : Str} {fd : FuncData} (gx : mg x = some (.ref C)) (T : SupC K P mg C fI cc cda qual st fd) (F : FnOk P w K mg base CX0 1 fI fd ["self", f] (spI1 C f)) (hb : Binds K fd ["self", f] []) : Er1 P w K mg base 1 x f C :=
  ⟨T.oex, ⟨fI, fd, _, T.ini, T.tyI, F, hb⟩, gx⟩
end
end KL
namespace KL
open PySem PySem.Spec PyProof.Rows L2
/-! ### rows, as data -/
theorem lay_mem : ∀ {ds : List PyData}, PyData.canLayAll0 ds = true → ∀ d ∈ ds, d.canLay0 = true
  | [], _, _, hd => nomatch hd
  | x :: xs, h, d, hd => by
    rw [PyData.canLayAll0, Bool.and_eq_true] at h
    rcases List.mem_cons.mp hd with e | e
    · rw [e]; exact h.1
    · exact lay_mem h.2 d e
theorem depth_mem : ∀ {ds : List PyData}, ∀ d ∈ ds, d.depth ≤ PyData.depthAll ds
  | [], _, hd => nomatch hd
  | x :: xs, d, hd => by
    rw [PyData.depthAll]
    rcases List.mem_cons.mp hd with e | e
    · rw [e]; omega
    · have := depth_mem d e; omega
theorem sh_list {ds : List PyData} (h : SeqAt.shaped (.list ds) = true) : ∀ d ∈ ds, SeqAt.shaped d = true := fun d hd => by
  have h1 := SeqAt.canLay_of_shaped h
  have h2 := SeqAt.depth_of_shaped h
  rw [PyData.canLay0] at h1
  rw [PyData.depth] at h2
  unfold SeqAt.shaped
  rw [lay_mem h1 d hd]
  exact decide_eq_true (by have := depth_mem d hd; omega)
theorem sh_tup {ds : List PyData} (h : SeqAt.shaped (.tuple ds) = true) : ∀ d ∈ ds, SeqAt.shaped d = true := fun d hd => by
  have h1 := SeqAt.canLay_of_shaped h
  have h2 := SeqAt.depth_of_shaped h
  rw [PyData.canLay0] at h1
  rw [PyData.depth] at h2
  unfold SeqAt.shaped
  rw [lay_mem h1 d hd]
  exact decide_eq_true (by have := depth_mem d hd; omega)
theorem eqv_str (d : PyData) (x : Str) : PyData.eqv d (.str x) = true ↔ d = .str x := by
  cases d <;> simp [PyData.eqv]
noncomputable def mtF (one other : List Int) (e : PyData) : Option (List Int) := Classical.epsilon (IsMet one other e)
theorem mtF_is {one other : List Int} {e : PyData} {r : Option (List Int)} (h : IsMet one other e r) : mtF one other e = r :=
  IsMet.eq (Classical.epsilon_spec (p := IsMet one other e) ⟨r, h⟩) h
def C30 (ns : List Int) : Prop := Up ns ∧ ∀ n ∈ ns, n ≠ 0 ∧ n.natAbs ≤ 30
theorem C30.len {ns : List Int} (h : C30 ns) : ns.length ≤ 30 := up_len h.1 h.2
theorem C30.met {one other cs : List Int} {e : PyData} (h1 : C30 one) (h2 : C30 other) (im : IsMet one other e (some cs)) : C30 cs :=
  ⟨im.all.1, fun n hn => (im.all.2 n hn).elim (h1.2 n) (h2.2 n)⟩
theorem C30.app {one other : List Int} (h1 : C30 one) (h2 : C30 other) : ∀ n ∈ one ++ other, n ≠ 0 ∧ n.natAbs ≤ 60 := fun n hn => by
  rcases List.mem_append.mp hn with h | h
  · have := h1.2 n h; exact ⟨this.1, by omega⟩
  · have := h2.2 n h; exact ⟨this.1, by omega⟩
open Classical in
/-- the clause of a row -/
noncomputable def rowF (nss ahead : List (List Int)) (d : PyData) : Option (List Int) := match d with
  | .tuple [.str s, .int i] => if s = "told" ∧ 0 ≤ i then nss[i.toNat]? else none
  | .tuple [.str s, .int i, .int j, e] => if s = "met" ∧ 0 ≤ i ∧ i < ahead.length ∧ 0 ≤ j ∧ j < ahead.length then mtF (ahead.getD i.toNat []) (ahead.getD j.toNat []) e else none
  | _ => none
noncomputable def rowsF (nss : List (List Int)) : List (List Int) → List PyData → Nat ⊕ List (List Int)
  | ahead, [] => .inr ahead
  | ahead, d :: ds => match rowF nss ahead d with
    | none => .inl ahead.length
    | some c => rowsF nss (ahead ++ [c]) ds
noncomputable def allF (nss : List (List Int)) (d : PyData) : Option Nat ⊕ List (List Int) := match d with
  | .list (d0 :: ds) => match rowsF nss [] (d0 :: ds) with
    | .inl n => .inl (some n)
    | .inr cs => .inr cs
  | _ => .inl none
def numV : Option Nat → V
  | none => .non
  | some n => .int n
def numD : Option Nat → PyData
  | none => .none
  | some n => .int n
def outD : Option Nat ⊕ List (List Int) → PyData
  | .inl n => .list [.str "no", numD n]
  | .inr cs => .list (cs.map fun c => .tuple (c.map PyData.int))
theorem numDp {K : PySem.W.Frag} {H : Hp} : ∀ n : Option Nat, Dp K H (numV n) (numD n)
  | none => .non
  | some n => .int n
/-- the list that is told -/
def ORes (K : PySem.W.Frag) (H' : Hp) (o : Option Nat ⊕ List (List Int)) (l : Addr) : Prop :=
  (∃ n, o = .inl n ∧ (∀ k, n = some k → k ≤ 1000) ∧ H' l = some (.lst [.str "no", numV n])) ∨ ∃ ts css, o = .inr css ∧ H' l = some (.lst (ts.map V.ref)) ∧ TupsI K H' ts css ∧ css.length ≤ 1000 ∧ ∀ c ∈ css, C30 c
theorem ORes.dp {K : PySem.W.Frag} {H' : Hp} {o : Option Nat ⊕ List (List Int)} {l : Addr} (h : ORes K H' o l) : Dp K H' (.ref l) (outD o) := by
  rcases h with ⟨n, rfl, _, e⟩ | ⟨ts, css, rfl, e, t, _⟩
  · exact .lst (SqL.of e) (.cons (.str _) (.cons (numDp n) .nil))
  · exact .lst (SqL.of e) t.dp
theorem rowsF_end {nss css : List (List Int)} {ds : List PyData} {i : Nat} (h : rowsF nss [] ds = rowsF nss css (ds.drop i)) (hi : i = ds.length) : rowsF nss [] ds = .inr css := by
  rw [h, hi, List.drop_length]; rfl
theorem rowsF_step {nss css : List (List Int)} {ds : List PyData} {i : Nat} {d : PyData} {c : List Int} (h : rowsF nss [] ds = rowsF nss css (ds.drop i)) (hd : ds.drop i = d :: ds.drop (i + 1)) (hc : rowF nss css d = some c) : rowsF nss [] ds = rowsF nss (css ++ [c]) (ds.drop (i + 1)) := by
  rw [h, hd]
  show (match rowF nss css d with | none => Sum.inl css.length | some c => rowsF nss (css ++ [c]) (ds.drop (i + 1))) = _
  rw [hc]
theorem rowsF_stop {nss css : List (List Int)} {ds : List PyData} {i : Nat} {d : PyData} (h : rowsF nss [] ds = rowsF nss css (ds.drop i)) (hd : ds.drop i = d :: ds.drop (i + 1)) (hc : rowF nss css d = none) : rowsF nss [] ds = .inl css.length := by
  rw [h, hd]
  show (match rowF nss css d with | none => Sum.inl css.length | some c => rowsF nss (css ++ [c]) (ds.drop (i + 1))) = _
  rw [hc]
theorem rowsF_len {nss : List (List Int)} : ∀ {ds : List PyData} {ahead css : List (List Int)}, rowsF nss ahead ds = .inr css → css.length = ahead.length + ds.length
  | [], ahead, css, h => by cases h; rfl
  | d :: ds, ahead, css, h => by
    have h' : (match rowF nss ahead d with | none => Sum.inl ahead.length | some c => rowsF nss (ahead ++ [c]) ds) = .inr css := h
    cases hr : rowF nss ahead d with
    | none => rw [hr] at h'; cases h'
    | some c =>
      rw [hr] at h'
      have := rowsF_len (ds := ds) (ahead := ahead ++ [c]) h'
      rw [this, List.length_append, List.length_cons]; simp; omega
theorem allF_len {nss css : List (List Int)} {d : PyData} (h : allF nss d = .inr css) : ∃ ds, d = .list ds ∧ css.length = ds.length := by
  unfold allF at h
  split at h
  · rename_i d0 ds
    cases hr : rowsF nss [] (d0 :: ds) with
    | inl n => rw [hr] at h; cases h
    | inr cs => rw [hr] at h; cases h; exact ⟨_, rfl, by rw [rowsF_len hr]; simp⟩
  · cases h
theorem allF_of {nss : List (List Int)} {ds : List PyData} (h : ds ≠ []) : allF nss (.list ds) = match rowsF nss [] ds with | .inl n => .inl (some n) | .inr cs => .inr cs := by
  cases ds with
  | nil => exact absurd rfl h
  | cons d ds => rfl
theorem dpA_at {K : PySem.W.Frag} {H : Hp} : ∀ {xs : List V} {ds : List PyData} {i : Nat} {x : V}, DpAll K H xs ds → xs[i]? = some x → ∃ d, ds[i]? = some d ∧ Dp K H x d ∧ ds.drop i = d :: ds.drop (i + 1)
  | _, _, _, _, .nil, e => by simp at e
  | _, _, 0, _, .cons h _, e => by cases e; exact ⟨_, rfl, h, rfl⟩
  | _, _, i + 1, x, .cons _ t, e => by
    obtain ⟨d, h1, h2, h3⟩ := dpA_at (i := i) (x := x) t (by simpa using e)
    exact ⟨d, by simpa using h1, h2, by simpa using h3⟩
theorem dpA_len {K : PySem.W.Frag} {H : Hp} : ∀ {xs : List V} {ds : List PyData}, DpAll K H xs ds → xs.length = ds.length
  | _, _, .nil => rfl
  | _, _, .cons _ t => by rw [List.length_cons, List.length_cons, dpA_len t]
theorem dp_three {K : PySem.W.Frag} {H : Hp} {xs : List V} {es : List PyData} (h : DpAll K H xs es) (l : xs.length = 3) : ∃ x1 x2 x3 e1 e2 e3, xs = [x1, x2, x3] ∧ es = [e1, e2, e3] ∧ Dp K H x1 e1 ∧ Dp K H x2 e2 ∧ Dp K H x3 e3 := by
  match xs, es, h, l with
  | [x1, x2, x3], [e1, e2, e3], .cons h1 (.cons h2 (.cons h3 .nil)), _ => exact ⟨_, _, _, _, _, _, rfl, rfl, h1, h2, h3⟩
theorem dp_two {K : PySem.W.Frag} {H : Hp} {xs : List V} {es : List PyData} (h : DpAll K H xs es) (l : xs.length = 2) : ∃ x1 x2 e1 e2, xs = [x1, x2] ∧ es = [e1, e2] ∧ Dp K H x1 e1 ∧ Dp K H x2 e2 := by
  match xs, es, h, l with
  | [x1, x2], [e1, e2], .cons h1 (.cons h2 .nil), _ => exact ⟨_, _, _, _, rfl, rfl, h1, h2⟩
theorem dp_four {K : PySem.W.Frag} {H : Hp} {xs : List V} {es : List PyData} (h : DpAll K H xs es) (l : xs.length = 4) : ∃ x0 x1 x2 x3 e0 e1 e2 e3, xs = [x0, x1, x2, x3] ∧ es = [e0, e1, e2, e3] ∧ Dp K H x0 e0 ∧ Dp K H x1 e1 ∧ Dp K H x2 e2 ∧ Dp K H x3 e3 := by
  match xs, es, h, l with
  | [x0, x1, x2, x3], [e0, e1, e2, e3], .cons h0 (.cons h1 (.cons h2 (.cons h3 .nil))), _ => exact ⟨_, _, _, _, _, _, _, _, rfl, rfl, h0, h1, h2, h3⟩
theorem dp_one {K : PySem.W.Frag} {H : Hp} {xs : List V} {es : List PyData} (h : DpAll K H xs es) (l : xs.length = 1) : ∃ x1 e1, xs = [x1] ∧ es = [e1] ∧ Dp K H x1 e1 := by
  match xs, es, h, l with
  | [x1], [e1], .cons h1 .nil, _ => exact ⟨_, _, rfl, rfl, h1⟩
theorem rowF_none {nss css : List (List Int)} {d : PyData} (h1 : ∀ s i, d ≠ .tuple [.str s, .int i]) (h2 : ∀ s i j e, d ≠ .tuple [.str s, .int i, .int j, e]) : rowF nss css d = none := by
  unfold rowF
  split
  · exact absurd rfl (h1 _ _)
  · exact absurd rfl (h2 _ _ _ _)
  · rfl
theorem rowF_told {nss css : List (List Int)} {i : Int} (h : 0 ≤ i) : rowF nss css (.tuple [.str "told", .int i]) = nss[i.toNat]? := by
  unfold rowF
  exact if_pos ⟨rfl, h⟩
theorem rowF_two {nss css : List (List Int)} {s : Str} {i : Int} (h : ¬ (s = "told" ∧ 0 ≤ i)) : rowF nss css (.tuple [.str s, .int i]) = none := by
  unfold rowF
  exact if_neg h
theorem rowF_met {nss css : List (List Int)} {i j : Int} {e : PyData} (h1 : 0 ≤ i) (h2 : i < css.length) (h3 : 0 ≤ j) (h4 : j < css.length) : rowF nss css (.tuple [.str "met", .int i, .int j, e]) = mtF (css.getD i.toNat []) (css.getD j.toNat []) e := by
  unfold rowF
  exact if_pos ⟨rfl, h1, h2, h3, h4⟩
theorem rowF_four {nss css : List (List Int)} {s : Str} {i j : Int} {e : PyData} (h : ¬ (s = "met" ∧ 0 ≤ i ∧ i < css.length ∧ 0 ≤ j ∧ j < css.length)) : rowF nss css (.tuple [.str s, .int i, .int j, e]) = none := by
  unfold rowF
  exact if_neg h
theorem rowF_bad {nss css : List (List Int)} {i j : Int} {e : PyData} (h : ∀ t, e = .int t → ¬ 1 ≤ t) : rowF nss css (.tuple [.str "met", .int i, .int j, e]) = none := by
  by_cases hh : 0 ≤ i ∧ i < css.length ∧ 0 ≤ j ∧ j < css.length
  · rw [rowF_met hh.1 hh.2.1 hh.2.2.1 hh.2.2.2]
    exact mtF_is (.inl ⟨rfl, fun t e h1 => absurd h1 (h t e)⟩)
  · exact rowF_four fun y => hh y.2
theorem dpA_snoc {K : PySem.W.Frag} {H : Hp} {x : V} {d : PyData} (h : Dp K H x d) : ∀ {xs : List V} {ds : List PyData}, DpAll K H xs ds → DpAll K H (xs ++ [x]) (ds ++ [d])
  | _, _, .nil => .cons h .nil
  | _, _, .cons h1 t => .cons h1 (dpA_snoc h t)
theorem dpA_same {K : PySem.W.Frag} {H H' : Hp} {xs : List V} {ds : List PyData} (h : DpAll K H xs ds) (s : Same H H') : DpAll K H' xs ds := dpMvs (fun _ _ q => s.seq q) (fun _ _ q => same_tup s q) ds h
theorem lay_of : ∀ {ds : List PyData}, (∀ d ∈ ds, d.canLay0 = true) → PyData.canLayAll0 ds = true
  | [], _ => rfl
  | x :: xs, h => by rw [PyData.canLayAll0, h x List.mem_cons_self, lay_of fun d hd => h d (List.mem_cons_of_mem _ hd)]; rfl
theorem depth_of : ∀ {ds : List PyData} {m : Nat}, (∀ d ∈ ds, d.depth ≤ m) → PyData.depthAll ds ≤ m
  | [], _, _ => by rw [PyData.depthAll]; omega
  | x :: xs, m, h => by
    rw [PyData.depthAll]
    have h1 := h x List.mem_cons_self
    have h2 := depth_of (ds := xs) fun d hd => h d (List.mem_cons_of_mem _ hd)
    omega
theorem sh_sub {es fs : List PyData} (h : SeqAt.shaped (.tuple es) = true) (hs : ∀ d ∈ fs, d ∈ es) : SeqAt.shaped (.list fs) = true := by
  have h1 := SeqAt.canLay_of_shaped h
  have h2 := SeqAt.depth_of_shaped h
  rw [PyData.canLay0] at h1
  rw [PyData.depth] at h2
  unfold SeqAt.shaped
  rw [PyData.canLay0, lay_of fun d hd => lay_mem h1 d (hs d hd), PyData.depth]
  exact decide_eq_true (by have := depth_of (ds := fs) (m := PyData.depthAll es) fun d hd => depth_mem d (hs d hd); omega)
/-- at an index of a list of tuples -/
theorem tups_ix {K : PySem.W.Frag} {H : Hp} {cs : List Addr} {nss : List (List Int)} (h : TupsI K H cs nss) {i : Int} (h0 : 0 ≤ i) (h1 : i < nss.length) : ∃ c ns, atI (cs.map V.ref) i = some (.ref c) ∧ SqT K H c (ns.map V.int) ∧ nss[i.toNat]? = some ns ∧ ns ∈ nss := by
  obtain ⟨v, h2, h3⟩ := atI_at (xs := cs.map V.ref) (i := i) h0 (by rw [List.length_map, h.len]; exact h1)
  obtain ⟨c, ns, rfl, hm, hc, _⟩ := h.at h3
  have hlt : i.toNat < nss.length := by omega
  have key : ∀ {cs : List Addr} {nss : List (List Int)} {j : Nat} {c : Addr}, TupsI K H cs nss → (cs.map V.ref)[j]? = some (.ref c) → ∃ ns, nss[j]? = some ns ∧ SqT K H c (ns.map V.int) := by
    intro cs nss j c h
    induction h generalizing j with
    | nil => intro e; simp at e
    | cons hc r ih =>
      intro e
      cases j with
      | zero => cases e; exact ⟨_, rfl, hc⟩
      | succ j => exact ih (by simpa using e)
  obtain ⟨ms, e1, e2⟩ := key h h3
  exact ⟨c, ms, h2, e2, e1, List.mem_of_getElem? e1⟩
theorem at0 {α : Type} {x : α} {xs : List α} : atI (x :: xs) 0 = some x := by
  obtain ⟨v, h1, h2⟩ := atI_at (xs := x :: xs) (i := 0) (by omega) (by rw [List.length_cons]; omega)
  rw [h1]; cases h2; rfl
theorem sqT_lst {K : PySem.W.Frag} {H : Hp} {D c : Addr} {o u zs : List V} (e : H D = some (.lst o)) (q : SqT K H c zs) : SqT K (upd H D (.lst u)) c zs := by
  rcases q with (q | ⟨w, q⟩) | q
  · exact .inl (.inl (by rw [upd_ne (ne_of q e (by intro z; cases z))]; exact q))
  · exact .inl (.inr ⟨w, by rw [upd_ne (ne_of q e (by intro z; cases z))]; exact q⟩)
  · exact .inr q
/-- what a row says -/
def RowV (K : PySem.W.Frag) (H : Hp) (r : Option (List Int)) (v : V) : Prop := (r = none ∧ v = .non) ∨ ∃ p c, r = some c ∧ v = .ref p ∧ SqT K H p (c.map V.int) ∧ C30 c
theorem RowV.same {K : PySem.W.Frag} {H H' : Hp} {r : Option (List Int)} {v : V} (h : RowV K H r v) (s : Same H H') : RowV K H' r v := h.elim .inl fun ⟨p, c, h1, h2, h3, h4⟩ => .inr ⟨p, c, h1, h2, same_tup s h3, h4⟩
/-- the clauses of a list, at its addresses -/
structure ClsL (K : PySem.W.Frag) (H : Hp) (a : Addr) (nss : List (List Int)) : Prop where
  ex : ∃ cs : List Addr, SqL K H a (cs.map V.ref) ∧ TupsI K H cs nss
  all : ∀ ns ∈ nss, C30 ns
  len : nss.length ≤ 900
theorem ClsL.same {K : PySem.W.Frag} {H H' : Hp} {a : Addr} {nss : List (List Int)} (h : ClsL K H a nss) (s : Same H H') : ClsL K H' a nss :=
  let ⟨cs, h1, h2⟩ := h.ex; ⟨⟨cs, s.seq h1, h2.same s⟩, h.all, h.len⟩
/-- data, or a dict, which is none -/
def RowX (K : PySem.W.Frag) (H : Hp) (x : V) (d : PyData) : Prop := (Dp K H x d ∧ SeqAt.shaped d = true ∧ ∀ ds, d = .list ds → ds.length ≤ 900) ∨ ∃ a kvs, x = .ref a ∧ H a = some (.dK kvs) ∧ d = .none
theorem RowX.same {K : PySem.W.Frag} {H H' : Hp} {x : V} {d : PyData} (h : RowX K H x d) (s : Same H H') : RowX K H' x d :=
  h.elim (fun h => .inl ⟨dpSame h.1 s, h.2⟩) fun ⟨a, kvs, e, e2, e3⟩ => .inr ⟨a, kvs, e, s _ _ e2, e3⟩
def lstB : PyData → Bool
  | .list _ => true
  | _ => false
theorem RowX.ty {K : PySem.W.Frag} {H : Hp} {x : V} {d : PyData} (h : RowX K H x d) : ∃ t, TyX K H x (.type t) ∧ kitB t "list" = some (lstB d) := by
  rcases h with ⟨h, _⟩ | ⟨a, kvs, rfl, e, rfl⟩
  · refine ⟨_, dpTy h, (kit_list d).trans ?_⟩
    cases d <;> rfl
  · exact ⟨_, .base (.dK e), by decide +kernel⟩
def RwV (xs : List V) : Prop := (∃ i : Int, xs = [.str "told", .int i] ∧ i.natAbs ≤ 1000) ∨ ∃ i j s : Int, xs = [.str "met", .int i, .int j, .int s] ∧ i.natAbs ≤ 1000 ∧ j.natAbs ≤ 1000 ∧ s.natAbs ≤ 1000
def Rw (H : Hp) (t : Addr) : Prop := ∃ xs, H t = some (.tup xs) ∧ RwV xs
theorem Rw.mv {H H' : Hp} {t : Addr} (h : Rw H t) (m : ∀ a xs, H a = some (.tup xs) → H' a = some (.tup xs)) : Rw H' t := let ⟨xs, e, r⟩ := h; ⟨xs, m _ _ e, r⟩
theorem Kp.tp {p : Addr} {H H' : Hp} (k : Kp p H H') (hp : Pl H p) : ∀ a xs, H a = some (.tup xs) → H' a = some (.tup xs) := fun a xs h => k _ _ (fun z => by
  obtain ⟨u, v, e, _⟩ := hp
  rw [z, e] at h; cases h) h
theorem Kp.tups {K : PySem.W.Frag} {p : Addr} {H H' : Hp} (k : Kp p H H') (hp : Pl H p) {ts : List Addr} {nss : List (List Int)} (h : TupsI K H ts nss) : TupsI K H' ts nss := h.mv fun a xs q => k.tup hp q
theorem Kp.cls {K : PySem.W.Frag} {p : Addr} {H H' : Hp} (k : Kp p H H') {a : Addr} {nss : List (List Int)} (h : ClsL K (KL.hid p H) a nss) : ClsL K H' a nss := (h.same k.hid).same (KL.hid_same p H')
theorem new_tp {H : Hp} {D : Addr} {o u : List V} (e : H D = some (.lst o)) : ∀ a xs, H a = some (.tup xs) → (upd H D (.lst u)) a = some (.tup xs) := fun a xs h => by rw [upd_ne (ne_of h e (by intro z; cases z))]; exact h
theorem dpA_drop {K : PySem.W.Frag} {H : Hp} : ∀ (n : Nat) {xs : List V} {ds : List PyData}, DpAll K H xs ds → DpAll K H (xs.drop n) (ds.drop n)
  | 0, _, _, h => h
  | _ + 1, _, _, .nil => .nil
  | n + 1, _, _, .cons _ t => dpA_drop n t
theorem dpA_take {K : PySem.W.Frag} {H : Hp} : ∀ (n : Nat) {xs : List V} {ds : List PyData}, DpAll K H xs ds → DpAll K H (xs.take n) (ds.take n)
  | 0, _, _, h => .nil
  | _ + 1, _, _, .nil => .nil
  | n + 1, _, _, .cons h t => .cons h (dpA_take n t)
theorem dpA_cut {K : PySem.W.Frag} {H : Hp} {xs : List V} {ds : List PyData} (h : DpAll K H xs ds) (lo hi : Option Int) : ∃ es, DpAll K H (cutV xs lo hi) es ∧ ∀ e ∈ es, e ∈ ds :=
  ⟨_, dpA_take _ (dpA_drop _ h), fun e he => List.mem_of_mem_drop (List.mem_of_mem_take he)⟩
theorem sh_subL {es fs : List PyData} (h : SeqAt.shaped (.list es) = true) (hs : ∀ d ∈ fs, d ∈ es) : SeqAt.shaped (.list fs) = true := by
  have h1 := SeqAt.canLay_of_shaped h
  have h2 := SeqAt.depth_of_shaped h
  rw [PyData.canLay0] at h1
  rw [PyData.depth] at h2
  unfold SeqAt.shaped
  rw [PyData.canLay0, lay_of fun d hd => lay_mem h1 d (hs d hd), PyData.depth]
  exact decide_eq_true (by have := depth_of (ds := fs) (m := PyData.depthAll es) fun d hd => depth_mem d (hs d hd); omega)
end KL
namespace KL
open PySem PySem.Spec PyProof.Rows L2
theorem Fine.len2 {n m : Nat} {d : PyData} (h : Fine n m d) (hn : n ≤ 120000) : d.shown.length ≤ sizeLine := by
  have e := PyData.shown_le 128 (by decide) d h.ls
  have e2 : (128 + 2) * d.weight ≤ (128 + 2) * 120000 := Nat.mul_le_mul_left _ (Nat.le_trans h.wt hn)
  rw [sizeLine_eq]; omega
/-- an item of rows that can be shown -/
def It2 (K : PySem.W.Frag) (H : Hp) (v : V) : Prop := ∃ d, Dp K H v d ∧ Fine 2000 2 d
theorem It2.same {K : PySem.W.Frag} {H H' : Hp} {v : V} (h : It2 K H v) (s : Same H H') : It2 K H' v := let ⟨d, h1, h2⟩ := h; ⟨d, dpSame h1 s, h2⟩
theorem It2.of {K : PySem.W.Frag} {H : Hp} {v : V} (h : It K H v) : It2 K H v := let ⟨d, h1, h2⟩ := h; ⟨d, h1, h2.le (by omega) (by omega)⟩
theorem hid_mono {p : Addr} {H H' : Hp} (s : Same H H') : Same (hid p H) (hid p H') := (Kp.of s).hid
/-- a list of such items -/
def Lr (K : PySem.W.Frag) (p : Addr) (H : Hp) (l : Addr) (n : Nat) : Prop := ∃ ys, H l = some (.lst ys) ∧ l ≠ p ∧ (∀ v ∈ ys, It2 K (hid p H) v) ∧ ys.length ≤ n
theorem Lr.same {K : PySem.W.Frag} {p : Addr} {H H' : Hp} {l : Addr} {n : Nat} (h : Lr K p H l n) (s : Same H H') : Lr K p H' l n :=
  let ⟨ys, e, ne, hi, hl⟩ := h; ⟨ys, s _ _ e, ne, fun v hv => (hi v hv).same (hid_mono s), hl⟩
theorem Lr.kp {K : PySem.W.Frag} {p : Addr} {H H' : Hp} {l : Addr} {n : Nat} (h : Lr K p H l n) (k : Kp p H H') : Lr K p H' l n :=
  let ⟨ys, e, ne, hi, hl⟩ := h; ⟨ys, k _ _ ne e, ne, fun v hv => (hi v hv).same k.hid, hl⟩
theorem Lr.new {K : PySem.W.Frag} {p : Addr} {H : Hp} {l : Addr} {n : Nat} {ys : List V} (hp : Pl H p) (nl : H l = none) (hi : ∀ v ∈ ys, It2 K (hid p H) v) (hl : ys.length ≤ n) : Lr K p (upd H l (.lst ys)) l n :=
  ⟨ys, upd_same, fun z => hp.at (z ▸ nl), fun v hv => (hi v hv).same (hid_mono (same_new nl)), hl⟩
/-- what can be shown, and told as rows -/
def BRes (K : PySem.W.Frag) (G : Hp) (x : V) : Prop := ∃ d, Dp K G x d ∧ Fine 53000 3 d ∧ ∀ ds, d = .list ds → ds.length ≤ 30
theorem BRes.same {K : PySem.W.Frag} {H H' : Hp} {v : V} (h : BRes K H v) (s : Same H H') : BRes K H' v := let ⟨d, h1, h2⟩ := h; ⟨d, dpSame h1 s, h2⟩
theorem BRes.row {K : PySem.W.Frag} {H : Hp} {v : V} (h : BRes K H v) : ∃ d, Dp K H v d ∧ Fine 53000 3 d ∧ RowX K H v d ∧ ∀ ds, d = .list ds → ds.length ≤ 30 := let ⟨d, h1, h2, h3⟩ := h; ⟨d, h1, h2, .inl ⟨h1, h2.shaped (by omega), fun ds e => Nat.le_trans (h3 ds e) (by omega)⟩, h3⟩
theorem it2_all {K : PySem.W.Frag} {H : Hp} : ∀ {xs : List V}, (∀ v ∈ xs, It2 K H v) → ∃ ds, DpAll K H xs ds ∧ ds.length = xs.length ∧ ∀ d ∈ ds, Fine 2000 2 d
  | [], _ => ⟨[], .nil, rfl, fun _ h => nomatch h⟩
  | x :: xs, h => by
    obtain ⟨d, h1, h2⟩ := h x List.mem_cons_self
    obtain ⟨ds, h3, h4, h5⟩ := it2_all (xs := xs) fun v hv => h v (List.mem_cons_of_mem _ hv)
    refine ⟨d :: ds, .cons h1 h3, by rw [List.length_cons, List.length_cons, h4], fun z hz => ?_⟩
    rcases List.mem_cons.mp hz with e | e
    · rw [e]; exact h2
    · exact h5 z e
theorem BRes.lst {K : PySem.W.Frag} {H : Hp} {a : Addr} {xs : List V} (h : SqL K H a xs) (hi : ∀ v ∈ xs, It2 K H v) (hl : xs.length ≤ 26) : BRes K H (.ref a) := by
  obtain ⟨ds, h1, h2, h3⟩ := it2_all hi
  exact ⟨_, .lst h h1, (Fine.list h3 (by rw [h2]; exact hl)).le (by omega) (by omega), fun es e => by cases e; omega⟩
theorem BRes.tup {K : PySem.W.Frag} {H : Hp} {a : Addr} {xs : List V} (h : SqT K H a xs) (hi : ∀ v ∈ xs, It2 K H v) (hl : xs.length ≤ 26) : BRes K H (.ref a) := by
  obtain ⟨ds, h1, h2, h3⟩ := it2_all hi
  exact ⟨_, .tup h h1, (Fine.tuple h3 (by rw [h2]; exact hl)).le (by omega) (by omega), fun es e => by cases e⟩
theorem Lr.res {K : PySem.W.Frag} {p : Addr} {H : Hp} {l : Addr} {n : Nat} (h : Lr K p H l n) (hn : n ≤ 26) : BRes K (hid p H) (.ref l) :=
  let ⟨ys, e, ne, hi, hl⟩ := h; BRes.lst (SqL.of (hid_of ne e)) hi (by omega)
theorem It2.tup {K : PySem.W.Frag} {H : Hp} {a : Addr} {xs : List V} (h : SqT K H a xs) (hi : ∀ v ∈ xs, It K H v) (hl : xs.length ≤ 9) : It2 K H (.ref a) := by
  obtain ⟨ds, h1, h2, h3⟩ := its_all hi
  exact ⟨_, .tup h h1, (Fine.tuple h3 (by rw [h2]; exact hl)).le (by omega) (by omega)⟩
theorem It2.lst {K : PySem.W.Frag} {H : Hp} {a : Addr} {xs : List V} (h : SqL K H a xs) (hi : ∀ v ∈ xs, It K H v) (hl : xs.length ≤ 9) : It2 K H (.ref a) := by
  obtain ⟨ds, h1, h2, h3⟩ := its_all hi
  exact ⟨_, .lst h h1, (Fine.list h3 (by rw [h2]; exact hl)).le (by omega) (by omega)⟩
theorem It.str {K : PySem.W.Frag} {H : Hp} {x : Str} (h : Fine 10 0 (.str x)) : It K H (.str x) := ⟨_, .str x, h.le (by omega) (by omega)⟩
theorem Fine.strTold : Fine 10 0 (.str (Str.ofString "told")) := ⟨rfl, by decide +kernel, by decide +kernel, by decide +kernel, by decide +kernel⟩
theorem RwV.its {K : PySem.W.Frag} {H : Hp} {xs : List V} (h : RwV xs) : (∀ v ∈ xs, It K H v) ∧ xs.length ≤ 4 ∧ 2 ≤ xs.length := by
  have small : ∀ i : Int, i.natAbs ≤ 1000 → It K H (.int i) := fun i hi => It.int i (Nat.lt_of_le_of_lt hi (by decide))
  rcases h with ⟨i, rfl, hi⟩ | ⟨i, j, s, rfl, hi, hj, hs⟩
  · refine ⟨fun v hv => ?_, by simp, by simp⟩
    simp only [List.mem_cons, List.not_mem_nil, or_false] at hv
    rcases hv with rfl | rfl
    · exact It.str Fine.strTold
    · exact small _ hi
  · refine ⟨fun v hv => ?_, by simp, by simp⟩
    simp only [List.mem_cons, List.not_mem_nil, or_false] at hv
    rcases hv with rfl | rfl | rfl | rfl
    · exact It.str Fine.strMet
    · exact small _ hi
    · exact small _ hj
    · exact small _ hs
theorem hid_tup {p t : Addr} {H : Hp} {xs : List V} (hp : Pl H p) (e : H t = some (.tup xs)) : hid p H t = some (.tup xs) := hid_of (fun z => by
  obtain ⟨u, v, e', _⟩ := hp
  rw [z, e'] at e; cases e) e
theorem Rw.it {K : PySem.W.Frag} {p t : Addr} {H : Hp} (h : Rw H t) (hp : Pl H p) : It2 K (hid p H) (.ref t) :=
  let ⟨xs, e, r⟩ := h; It2.tup (SqT.of (hid_tup hp e)) r.its.1 (by have := r.its (K := K) (H := H); omega)
def clD (nss : List (List Int)) : PyData := .list (nss.map fun (ns : List Int) => PyData.tuple (ns.map PyData.int))
theorem clD_fine {nss : List (List Int)} {l : Nat} (h : ∀ ns ∈ nss, C30 ns) (hl : nss.length ≤ l) : Fine (l * 3331) 2 (clD nss) := by
  refine (Fine.list (n := 3330) (m := 1) (l := l) (fun d hd => ?_) (by rw [List.length_map]; exact hl)).le (Nat.le_refl _) (by omega)
  obtain ⟨ns, hn, rfl⟩ := List.mem_map.mp hd
  have c := h ns hn
  exact (Fine.tuple (n := 110) (m := 0) (l := 30) (fineInts (B := 0) fun n hn => Nat.lt_of_le_of_lt (c.2 n hn).2 (by decide)) (by rw [List.length_map]; exact c.len)).le (by omega) (by omega)
theorem ORes.fine {K : PySem.W.Frag} {H' : Hp} {nss : List (List Int)} {d : PyData} {l : Addr} (h : ORes K H' (allF nss d) l) (hd : ∀ ds, d = .list ds → ds.length ≤ 30) : Fine 100000 2 (outD (allF nss d)) := by
  rcases h with ⟨n, e, hn, _⟩ | ⟨ts, css, e, _, _, _, h30⟩
  · rw [e]
    refine (Fine.list (n := 200) (m := 0) (l := 2) (fun z hz => ?_) (by simp)).le (by omega) (by omega)
    rcases List.mem_cons.mp hz with e | e
    · rw [e]; exact Fine.strNo.le (by omega) (by omega)
    · rw [List.mem_singleton] at e; rw [e]
      cases n with
      | none => exact Fine.none
      | some k => exact (Fine.int (m := 0) (k : Int) (Nat.lt_of_le_of_lt (show _ ≤ 1000 by have := hn k rfl; omega) (by decide))).le (by omega) (by omega)
  · rw [e]
    obtain ⟨ds, e1, e2⟩ := allF_len e
    exact (clD_fine (l := 30) h30 (by rw [e2]; exact hd ds e1)).le (by omega) (by omega)
theorem ClsL.dp {K : PySem.W.Frag} {H : Hp} {a : Addr} {nss : List (List Int)} (h : ClsL K H a nss) : Dp K H (.ref a) (clD nss) := let ⟨_, h1, h2⟩ := h.ex; .lst h1 h2.dp
/-- the list is read from its front -/
theorem ORes.cut {K : PySem.W.Frag} {H' : Hp} {nss : List (List Int)} {d : PyData} {l : Addr} (h : ORes K H' (allF nss d) l) (hd : ∀ ds, d = .list ds → ds.length ≤ 30) : ∃ ys, H' l = some (.lst ys) ∧ ys.length ≤ 1000 ∧ ∀ lo hi, ∃ es, DpAll K H' (cutV ys lo hi) es ∧ SeqAt.shaped (.list es) = true := by
  have f := (h.fine hd).shaped (by omega)
  rcases h with ⟨n, e, hn, el⟩ | ⟨ts, css, e, el, tt, hl, h30⟩
  · rw [e] at f
    refine ⟨_, el, by simp, fun lo hi => ?_⟩
    have all : DpAll K H' [.str "no", numV n] [.str "no", numD n] := .cons (.str _) (.cons (numDp n) .nil)
    obtain ⟨es, h1, h2⟩ := dpA_cut all lo hi
    exact ⟨es, h1, sh_subL f h2⟩
  · rw [e] at f
    refine ⟨_, el, by rw [List.length_map, tt.len]; exact hl, fun lo hi => ?_⟩
    obtain ⟨es, h1, h2⟩ := dpA_cut tt.dp lo hi
    exact ⟨es, h1, sh_subL f h2⟩
theorem pair_fine {nss : List (List Int)} {d : PyData} (h : ∀ ns ∈ nss, C30 ns) (hl : nss.length ≤ 8) (hd : Fine 53000 3 d) : Fine 110000 4 (.list [clD nss, d]) := by
  refine (Fine.list (n := 53000) (m := 3) (l := 2) (fun z hz => ?_) (by simp)).le (by omega) (by omega)
  rcases List.mem_cons.mp hz with e | e
  · rw [e]; exact (clD_fine (l := 8) h hl).le (by omega) (by omega)
  · rw [List.mem_singleton] at e; rw [e]; exact hd
end KL
namespace KL
open PySem PySem.Spec PyProof.Rows L2
/-! ### a def that is called by a keyword -/
def Dk (P : Program) (w : World) (K : PySem.W.Frag) (mg : Str → Option Value) (base : Heap) (k : Nat) (x : Str) (ps : List Str) (sp : Sp) (n : Nat) (ks : List Str) : Prop :=
  ∃ (f : Addr) (fd : FuncData), FnOk P w K mg base CX0 k f fd ps sp ∧ PySem.W.keepIn K (.ref f) = true ∧ KBn K fd ps n ks (· ++ ·) (· ++ ·) ∧ mg x = some (.ref f)
theorem pe_dk {X : Cx} {k n : Nat} {ps ks : List Str} {sp : Sp} {x : Str} {p pos : Pos} {e : Expr} {es : List Expr} {kws : List Keyword} {t tk : TA} (D : Dk X.prog X.w X.K X.mg X.base k x ps sp n ks) (hr : Room k X.A) (hg : Gl X x) (ha : PA X (e :: es) t) (hkw : PK X kws tk)
    (hall : (backToKw pos (keywordEach kws X.env)).all (·.1.isSome) = true := by rfl) (hks : (backToKw pos (keywordEach kws X.env)).filterMap (·.1) = ks := by rfl) (hdb : (x == ("__debug__" : Str)) = false := by decide) (he : starEach (e :: es) X.env = (false, eval e X.env) :: starEach es X.env := by rfl)
    (hpl : ((backTo pos (starEach (e :: es) X.env)).any (·.1) || (backToKw pos (keywordEach kws X.env)).any (·.1.isNone)) = false := by rfl) : PE X (.Call (.Name x p) (e :: es) kws pos) (tCallN n ks.length sp (· ++ ·) E0 t tk) := by
  obtain ⟨f, fd, F, kp, b, m⟩ := D
  exact pe_callN F hr hg m kp b L2.pass0 ha hkw hall hks hdb he hpl
theorem Dk.mono {P : Program} {w : World} {K : PySem.W.Frag} {mg : Str → Option Value} {base : Heap} {j k n : Nat} {x : Str} {ps ks : List Str} {sp : Sp} (D : Dk P w K mg base j x ps sp n ks) (h : j ≤ k) : Dk P w K mg base k x ps sp n ks :=
  let ⟨f, fd, F, r⟩ := D; ⟨f, fd, F.mono h, r⟩
/-! ### whether rows lead to a clause -/
noncomputable def letsF (nss : List (List Int)) (d : PyData) (es : List Int) : Bool := match allF nss d with
  | .inl _ => false
  | .inr css => match css.getLast? with
    | some c => c.all fun n => decide (n ∈ es)
    | none => false
theorem letsF_no {nss : List (List Int)} {d : PyData} {es : List Int} {n : Option Nat} (h : allF nss d = .inl n) : letsF nss d es = false := by unfold letsF; rw [h]
theorem letsF_of {nss css : List (List Int)} {d : PyData} {es c : List Int} (h : allF nss d = .inr css) (hc : css.getLast? = some c) : letsF nss d es = c.all fun n => decide (n ∈ es) := by unfold letsF; simp only [h, hc]
theorem allF_ne {nss css : List (List Int)} {d : PyData} (h : allF nss d = .inr css) : css ≠ [] := by
  unfold allF at h
  split at h
  · rename_i d0 ds
    cases hr : rowsF nss [] (d0 :: ds) with
    | inl n => rw [hr] at h; cases h
    | inr cs =>
      rw [hr] at h; cases h
      intro z
      have := rowsF_len hr
      rw [z] at this
      simp at this
  · cases h
theorem at_last {α : Type} {xs : List α} {x : α} (h : xs.getLast? = some x) : atI xs (-1) = some x := by
  have hl : 0 < xs.length := by
    cases xs with
    | nil => cases h
    | cons y ys => simp
  rw [List.getLast?_eq_getElem?] at h
  unfold atI ixN
  rw [if_neg (by omega), if_pos (by omega)]
  show xs[((-1 : Int) + (xs.length : Int)).toNat]? = some x
  rw [show ((-1 : Int) + (xs.length : Int)).toNat = xs.length - 1 by omega]
  exact h
theorem TupsI.last {K : PySem.W.Frag} {H : Hp} {ts : List Addr} {css : List (List Int)} (h : TupsI K H ts css) (ne : css ≠ []) : ∃ c ns, atI (ts.map V.ref) (-1) = some (.ref c) ∧ css.getLast? = some ns ∧ SqT K H c (ns.map V.int) ∧ ns ∈ css := by
  have key : ∀ {ts : List Addr} {css : List (List Int)}, TupsI K H ts css → css ≠ [] → ∃ c ns, (ts.map V.ref).getLast? = some (.ref c) ∧ css.getLast? = some ns ∧ SqT K H c (ns.map V.int) := by
    intro ts css h
    induction h with
    | nil => intro ne; exact absurd rfl ne
    | @cons c cs ns nss hc r ih =>
      intro _
      cases r with
      | nil => exact ⟨c, ns, rfl, rfl, hc⟩
      | @cons c' cs' ns' nss' hc' r' =>
        obtain ⟨c2, n2, e1, e2, e3⟩ := ih (by simp)
        exact ⟨c2, n2, by rw [List.map_cons, List.map_cons, List.getLast?_cons_cons]; exact e1, by rw [List.getLast?_cons_cons]; exact e2, e3⟩
  obtain ⟨c, ns, e1, e2, e3⟩ := key h ne
  exact ⟨c, ns, at_last e1, e2, e3, List.mem_of_getLast? e2⟩
theorem allF_one {nss : List (List Int)} {d : PyData} (h : rowF nss [] d = none) : allF nss (.list [d]) = .inl (some 0) := by
  rw [allF_of (by simp)]
  have : rowsF nss [] [d] = .inl 0 := by
    show (match rowF nss [] d with | none => Sum.inl 0 | some c => rowsF nss ([] ++ [c]) []) = _
    rw [h]
  rw [this]
theorem eqv_tups {es : List PyData} {x : Str} (h : ∀ e ∈ es, ∃ ds, e = .tuple ds) : PyData.eqv (.list es) (.list [.str x]) = false := by
  cases es with
  | nil => simp [PyData.eqv, PyData.eqvAll]
  | cons e es =>
    obtain ⟨ds, rfl⟩ := h e List.mem_cons_self
    simp [PyData.eqv, PyData.eqvAll]
theorem TupsI.cut {K : PySem.W.Frag} {H : Hp} {ts : List Addr} {css : List (List Int)} (h : TupsI K H ts css) (lo hi : Option Int) : ∃ es, DpAll K H (cutV (ts.map V.ref) lo hi) es ∧ SeqAt.shaped (.list es) = true ∧ ∀ e ∈ es, ∃ ds, e = PyData.tuple ds := by
  obtain ⟨es, h1, h2⟩ := dpA_cut h.dp lo hi
  refine ⟨es, h1, sh_subL (shTups css) h2, fun e he => ?_⟩
  obtain ⟨ns, _, e2⟩ := List.mem_map.mp (h2 e he)
  exact ⟨_, e2.symm⟩
theorem tLst_one {te : TE} {σ : L2.St} {H : Hp} {Q : VK} (h : te σ H fun x H1 => 1 ≤ sizeLine ∧ ∀ p, H1 p = none → Q (.ref p) (upd H1 p (.lst [x]))) : tLst (tCons te tNil) σ H Q := h
theorem rowsF_cons {nss ahead : List (List Int)} {d : PyData} {ds : List PyData} {c : List Int} (h : rowF nss ahead d = some c) : rowsF nss ahead (d :: ds) = rowsF nss (ahead ++ [c]) ds := by
  show (match rowF nss ahead d with | none => Sum.inl ahead.length | some c => rowsF nss (ahead ++ [c]) ds) = _
  rw [h]
theorem allF_three : allF [[1], [-1]] (.list [.tuple [.str "told", .int 0], .tuple [.str "told", .int 1], .tuple [.str "met", .int 0, .int 1, .int 1]]) = .inr [[1], [-1], []] := by
  have i3 : IsMet [1] [-1] (.int 1) (some []) := .inr ⟨1, [], rfl, by decide, by decide, rfl, ⟨by decide, by decide⟩, by unfold Both; decide, ⟨by decide, fun m => by rw [show lft [1] [-1] 1 = [] by decide]⟩⟩
  have m3 : rowF [[1], [-1]] [[1], [-1]] (.tuple [.str "met", .int 0, .int 1, .int 1]) = some [] := by
    rw [rowF_met (by decide) (by decide) (by decide) (by decide)]
    exact mtF_is i3
  have t0 : rowF [[1], [-1]] [] (.tuple [.str "told", .int 0]) = some [1] := rowF_told (by decide)
  have t1 : rowF [[1], [-1]] ([] ++ [[1]]) (.tuple [.str "told", .int 1]) = some [-1] := rowF_told (by decide)
  rw [allF_of (by simp), rowsF_cons t0, rowsF_cons t1]
  have m3' : rowF [[1], [-1]] ([] ++ [[1]] ++ [[-1]]) (.tuple [.str "met", .int 0, .int 1, .int 1]) = some [] := m3
  rw [rowsF_cons m3']
  rfl
end KL
namespace KL
open PySem PySem.Spec PyProof.Rows L2
/-! ### what rows end with follows -/
theorem ex_cl : ∀ {ns : List Int}, ¬ Both ns → ∃ cs, ClOf ns cs
  | [], _ => ⟨[], List.Pairwise.nil, fun _ => Iff.rfl⟩
  | n :: ns, h => by
    obtain ⟨cs, c⟩ := ex_cl (ns := ns) fun ⟨m, h1, h2⟩ => h ⟨m, List.mem_cons_of_mem _ h1, List.mem_cons_of_mem _ h2⟩
    by_cases hn : n ∈ cs
    · refine ⟨cs, c.up, fun m => ?_⟩
      rw [c.mem, List.mem_cons]
      exact ⟨.inr, fun z => z.elim (fun e => by rw [e]; exact (c.mem n).mp hn) id⟩
    · have ne : ∀ m ∈ cs, m.natAbs ≠ n.natAbs := fun m hm e => by
        rcases natAbs_eq e with z | z
        · exact hn (z ▸ hm)
        · exact h ⟨n, List.mem_cons_self, List.mem_cons_of_mem _ (by rw [← z]; exact (c.mem m).mp hm)⟩
      refine ⟨cs.filter (fun m => decide (m.natAbs < n.natAbs)) ++ (n :: cs.filter fun m => decide (n.natAbs < m.natAbs)), ?_, fun m => ?_⟩
      · rw [List.pairwise_append, List.pairwise_cons]
        refine ⟨c.up.filter _, ⟨fun x hx => of_decide_eq_true (List.mem_filter.mp hx).2, c.up.filter _⟩, fun x hx y hy => ?_⟩
        have hx' := of_decide_eq_true (List.mem_filter.mp hx).2
        rcases List.mem_cons.mp hy with e | e
        · rw [e]; exact hx'
        · have := of_decide_eq_true (List.mem_filter.mp e).2
          omega
      · rw [List.mem_append, List.mem_cons, List.mem_filter, List.mem_filter, List.mem_cons, ← c.mem]
        constructor
        · rintro (z | z | z)
          · exact .inr z.1
          · exact .inl z
          · exact .inr z.1
        · rintro (z | z)
          · exact .inr (.inl z)
          · have := ne m z
            by_cases hl : m.natAbs < n.natAbs
            · exact .inl ⟨z, decide_eq_true hl⟩
            · exact .inr (.inr ⟨z, decide_eq_true (by omega)⟩)
theorem mtF_spec (one other : List Int) (e : PyData) : IsMet one other e (mtF one other e) := by
  have ex : ∃ r, IsMet one other e r := by
    by_cases h : ∃ t, e = .int t ∧ 1 ≤ t ∧ True ∧ Mt one other t ∧ ¬ Both (lft one other t)
    · obtain ⟨t, h1, h2, h3, h4, h5⟩ := h
      obtain ⟨cs, hc⟩ := ex_cl h5
      exact ⟨some cs, .inr ⟨t, cs, h1, h2, h3, rfl, h4, h5, hc⟩⟩
    · refine ⟨none, .inl ⟨rfl, fun t h1 h2 h3 h4 => ?_⟩⟩
      exact Classical.byContradiction fun h5 => h ⟨t, h1, h2, h3, h4, h5⟩
  obtain ⟨r, hr⟩ := ex
  rw [mtF_is hr]; exact hr
/-- what is so of the clauses, and goes over to what they meet in, is so of the rows' clauses -/
theorem rowF_all {P : List Int → Prop} {nss ahead : List (List Int)} {d : PyData} {c : List Int} (h1 : ∀ ns ∈ nss, P ns) (h2 : ∀ ns ∈ ahead, P ns) (h3 : ∀ a b e c, P a → P b → IsMet a b e (some c) → P c) (h : rowF nss ahead d = some c) : P c := by
  unfold rowF at h
  split at h
  · split at h
    · exact h1 c (List.mem_of_getElem? h)
    · cases h
  · split at h
    · rename_i hh
      rename_i s i j e
      have gi : ∀ k : Int, 0 ≤ k → k < ahead.length → P (ahead.getD k.toNat []) := fun k k0 k1 => by
        have hlt : k.toNat < ahead.length := by omega
        rw [List.getD_eq_getElem?_getD, List.getElem?_eq_getElem hlt]
        exact h2 _ (List.getElem_mem hlt)
      have sp := mtF_spec (ahead.getD i.toNat []) (ahead.getD j.toNat []) e
      rw [h] at sp
      exact h3 _ _ _ _ (gi i hh.2.1 hh.2.2.1) (gi j hh.2.2.2.1 hh.2.2.2.2) sp
    · cases h
  · cases h
theorem rowsF_all {P : List Int → Prop} {nss : List (List Int)} (h1 : ∀ ns ∈ nss, P ns) (h3 : ∀ a b e c, P a → P b → IsMet a b e (some c) → P c) : ∀ {ds : List PyData} {ahead css : List (List Int)}, (∀ ns ∈ ahead, P ns) → rowsF nss ahead ds = .inr css → ∀ c ∈ css, P c
  | [], ahead, css, h2, h => by cases h; exact h2
  | d :: ds, ahead, css, h2, h => by
    have h' : (match rowF nss ahead d with | none => Sum.inl ahead.length | some c => rowsF nss (ahead ++ [c]) ds) = .inr css := h
    cases hr : rowF nss ahead d with
    | none => rw [hr] at h'; cases h'
    | some c =>
      rw [hr] at h'
      refine rowsF_all h1 h3 (ds := ds) (fun ns hn => ?_) h'
      rcases List.mem_append.mp hn with z | z
      · exact h2 ns z
      · rw [List.mem_singleton] at z; rw [z]; exact rowF_all h1 h2 h3 hr
theorem allF_all {P : List Int → Prop} {nss css : List (List Int)} {d : PyData} (h1 : ∀ ns ∈ nss, P ns) (h3 : ∀ a b e c, P a → P b → IsMet a b e (some c) → P c) (h : allF nss d = .inr css) : ∀ c ∈ css, P c := by
  unfold allF at h
  split at h
  · rename_i d0 ds
    cases hr : rowsF nss [] (d0 :: ds) with
    | inl n => rw [hr] at h; cases h
    | inr cs => rw [hr] at h; cases h; exact rowsF_all h1 h3 (ahead := []) (fun ns hn => by simp at hn) hr
  · cases h
/-- clauses of seven things -/
def C7 (ns : List Int) : Prop := Up ns ∧ ∀ n ∈ ns, n ≠ 0 ∧ n.natAbs ≤ 7
theorem C7.c30 {ns : List Int} (h : C7 ns) : C30 ns := ⟨h.1, fun n hn => ⟨(h.2 n hn).1, Nat.le_trans (h.2 n hn).2 (by omega)⟩⟩
theorem C7.met {a b c : List Int} {e : PyData} (h1 : C7 a) (h2 : C7 b) (im : IsMet a b e (some c)) : C7 c := ⟨im.all.1, fun n hn => (im.all.2 n hn).elim (h1.2 n) (h2.2 n)⟩
theorem IsMet.says {a b c : List Int} {e : PyData} {bs : List Bool} (u1 : Up a) (u2 : Up b) (im : IsMet a b e (some c)) (h1 : a.any (sayB bs) = true) (h2 : b.any (sayB bs) = true) : c.any (sayB bs) = true := by
  cases e with
  | int t => exact met_says u1 u2 im h1 h2
  | _ =>
    rcases im with ⟨z, _⟩ | ⟨t, cs, z, _⟩
    · cases z
    · cases z
theorem last_c7 {nss css : List (List Int)} {d : PyData} {c : List Int} (h : ∀ ns ∈ nss, C7 ns) (ha : allF nss d = .inr css) (hc : c ∈ css) : C7 c := allF_all (P := C7) h (fun _ _ _ _ h1 h2 im => h1.met h2 im) ha c hc
/-- whatever is let by follows -/
theorem lets_follow {nss : List (List Int)} {d : PyData} {es : List Int} {bs : List Bool} (h : ∀ ns ∈ nss, C7 ns) (hl : letsF nss d es = true) (hh : (nss.all fun ns => ns.any (sayB bs)) = true) : es.any (sayB bs) = true := by
  cases ha : allF nss d with
  | inl n => rw [letsF_no ha] at hl; cases hl
  | inr css =>
    have ne := allF_ne ha
    have key := allF_all (P := fun ns => C7 ns ∧ ns.any (sayB bs) = true) (fun ns hn => ⟨h ns hn, List.all_eq_true.mp hh ns hn⟩) (fun a b e c h1 h2 im => ⟨h1.1.met h2.1 im, im.says h1.1.1 h2.1.1 h1.2 h2.2⟩) ha
    cases hg : css.getLast? with
    | none => exact absurd (List.getLast?_eq_none_iff.mp hg) ne
    | some c =>
      rw [letsF_of ha hg] at hl
      obtain ⟨x, hx, sx⟩ := List.any_eq_true.mp (key c (List.mem_of_getLast? hg)).2
      exact List.any_eq_true.mpr ⟨x, of_decide_eq_true (List.all_eq_true.mp hl x hx), sx⟩
theorem letsF_self {nss css : List (List Int)} {d : PyData} {c : List Int} (ha : allF nss d = .inr css) (hc : css.getLast? = some c) : letsF nss d c = true := by
  rw [letsF_of ha hc]
  exact List.all_eq_true.mpr fun x hx => decide_eq_true hx
end KL
namespace K06
open PySem PySem.Spec PyProof.Rows L2 KL
def topS (i : Nat) : Stmt := PySem.Challenge.pw_keptclauses_k06_whole_what_rows_end_with.main.body.getD i (.Pass ⟨0, 0, 0, 0⟩)
abbrev s_is_whole : Stmt := topS 4
theorem sc_is_whole : FnScope ["thing"] ["thing"] (defScope s_is_whole) := ⟨rfl, rfl, rfl, by decide +kernel, rfl, by decide +kernel, by decide +kernel⟩
abbrev s_is_number : Stmt := topS 5
theorem sc_is_number : FnScope ["thing", "least", "most"] ["thing", "least", "most"] (defScope s_is_number) := ⟨rfl, rfl, rfl, by decide +kernel, rfl, by decide +kernel, by decide +kernel⟩
abbrev s_clause_of : Stmt := topS 7
theorem sc_clause_of : FnScope ["signs", "chosen", "sign", "thing"] ["signs"] (defScope s_clause_of) := ⟨rfl, rfl, rfl, by decide +kernel, rfl, by decide +kernel, by decide +kernel⟩
abbrev s_says : Stmt := topS 8
theorem sc_says : FnScope ["filling", "sign"] ["filling", "sign"] (defScope s_says) := ⟨rfl, rfl, rfl, by decide +kernel, rfl, by decide +kernel, by decide +kernel⟩
abbrev s_holds : Stmt := topS 9
theorem sc_holds : FnScope ["clause", "filling", "sign"] ["clause", "filling"] (defScope s_holds) := ⟨rfl, rfl, rfl, by decide +kernel, rfl, by decide +kernel, by decide +kernel⟩
abbrev s_within : Stmt := topS 10
theorem sc_within : FnScope ["one", "other", "sign"] ["one", "other"] (defScope s_within) := ⟨rfl, rfl, rfl, by decide +kernel, rfl, by decide +kernel, by decide +kernel⟩
abbrev s_meeting : Stmt := topS 11
theorem sc_meeting : FnScope ["one", "other", "thing", "sign"] ["one", "other", "thing"] (defScope s_meeting) := ⟨rfl, rfl, rfl, by decide +kernel, rfl, by decide +kernel, by decide +kernel⟩
abbrev s_picked : Stmt := topS 13
theorem sc_picked : FnScope ["clauses", "number"] ["clauses", "number"] (defScope s_picked) := ⟨rfl, rfl, rfl, by decide +kernel, rfl, by decide +kernel, by decide +kernel⟩
abbrev s_met_clause : Stmt := topS 14
theorem sc_met_clause : FnScope ["ahead", "one", "other", "thing", "first", "second"] ["ahead", "one", "other", "thing"] (defScope s_met_clause) := ⟨rfl, rfl, rfl, by decide +kernel, rfl, by decide +kernel, by decide +kernel⟩
abbrev s_row_clause : Stmt := topS 15
theorem sc_row_clause : FnScope ["clauses", "ahead", "row"] ["clauses", "ahead", "row"] (defScope s_row_clause) := ⟨rfl, rfl, rfl, by decide +kernel, rfl, by decide +kernel, by decide +kernel⟩
abbrev s_row_clauses : Stmt := topS 16
theorem sc_row_clauses : FnScope ["clauses", "rows", "told", "number", "row", "clause"] ["clauses", "rows"] (defScope s_row_clauses) := ⟨rfl, rfl, rfl, by decide +kernel, rfl, by decide +kernel, by decide +kernel⟩
abbrev s_lets_rows : Stmt := topS 17
theorem sc_lets_rows : FnScope ["clauses", "rows", "end", "told"] ["clauses", "rows", "end"] (defScope s_lets_rows) := ⟨rfl, rfl, rfl, by decide +kernel, rfl, by decide +kernel, by decide +kernel⟩
abbrev s_law_pool : Stmt := topS 19
theorem sc_law_pool : FnScope ["_law_script", "_law_k", "_law_cell", "_law_seed"] ["_law_script", "_law_k"] (defScope s_law_pool) := ⟨rfl, rfl, rfl, by decide +kernel, rfl, by decide +kernel, by decide +kernel⟩
abbrev s_law_take : Stmt := topS 20
theorem sc_law_take : FnScope ["_law_pool_here", "_law_many", "_law_digit"] ["_law_pool_here", "_law_many"] (defScope s_law_take) := ⟨rfl, rfl, rfl, by decide +kernel, rfl, by decide +kernel, by decide +kernel⟩
abbrev s_law_whole : Stmt := topS 21
theorem sc_law_whole : FnScope ["_law_thing"] ["_law_thing"] (defScope s_law_whole) := ⟨rfl, rfl, rfl, by decide +kernel, rfl, by decide +kernel, by decide +kernel⟩
abbrev s_law_fillings : Stmt := topS 22
theorem sc_law_fillings : FnScope ["_law_size", "_law_k", "_law_number"] ["_law_size"] (defScope s_law_fillings) := ⟨rfl, rfl, rfl, by decide +kernel, rfl, by decide +kernel, by decide +kernel⟩
abbrev s_law_says : Stmt := topS 23
theorem sc_law_says : FnScope ["_law_sign_here", "_law_filling"] ["_law_sign_here", "_law_filling"] (defScope s_law_says) := ⟨rfl, rfl, rfl, by decide +kernel, rfl, by decide +kernel, by decide +kernel⟩
abbrev s_law_hold : Stmt := topS 24
theorem sc_law_hold : FnScope ["_law_clauses", "_law_filling", "_law_clause_here", "_law_sign_here"] ["_law_clauses", "_law_filling"] (defScope s_law_hold) := ⟨rfl, rfl, rfl, by decide +kernel, rfl, by decide +kernel, by decide +kernel⟩
abbrev s_law_clause : Stmt := topS 25
theorem sc_law_clause : FnScope ["_law_pool_here", "_law_things", "_law_most", "_law_found", "_law_thing"] ["_law_pool_here", "_law_things", "_law_most"] (defScope s_law_clause) := ⟨rfl, rfl, rfl, by decide +kernel, rfl, by decide +kernel, by decide +kernel⟩
abbrev s_law_meet : Stmt := topS 27
theorem sc_law_meet : FnScope ["_law_one", "_law_other", "_law_thing", "_law_left", "_law_sign_here", "_law_at"] ["_law_one", "_law_other", "_law_thing"] (defScope s_law_meet) := ⟨rfl, rfl, rfl, by decide +kernel, rfl, by decide +kernel, by decide +kernel⟩
abbrev s_law_drawn_rows : Stmt := topS 30
theorem sc_law_drawn_rows : FnScope ["_law_pool_here", "_law_clauses", "_law_rows", "_law_some", "_law_turn", "_law_row", "_law_clause_here", "_law_tries", "_law_one", "_law_other", "_law_pairs", "_law_sign_here"] ["_law_pool_here", "_law_clauses"] (defScope s_law_drawn_rows) := ⟨rfl, rfl, rfl, by decide +kernel, rfl, by decide +kernel, by decide +kernel⟩
abbrev s_law_bent_rows : Stmt := topS 31
theorem sc_law_bent_rows : FnScope ["_law_pool_here", "_law_rows", "_law_at", "_law_row", "_law_place", "_law_odd", "_law_bent", "_law_some"] ["_law_pool_here", "_law_rows"] (defScope s_law_bent_rows) := ⟨rfl, rfl, rfl, by decide +kernel, rfl, by decide +kernel, by decide +kernel⟩
abbrev s_law_follows : Stmt := topS 32
theorem sc_law_follows : FnScope ["_law_clauses", "_law_last_here", "_law_every", "_law_filling"] ["_law_clauses", "_law_last_here", "_law_every"] (defScope s_law_follows) := ⟨rfl, rfl, rfl, by decide +kernel, rfl, by decide +kernel, by decide +kernel⟩
abbrev s_law_last : Stmt := topS 33
theorem sc_law_last : FnScope ["_law_clauses", "_law_rows", "_law_found"] ["_law_clauses", "_law_rows"] (defScope s_law_last) := ⟨rfl, rfl, rfl, by decide +kernel, rfl, by decide +kernel, by decide +kernel⟩
abbrev s_law : Stmt := topS 34
theorem sc_law : FnScope ["_law_script", "_law_every", "_law_k", "_law_pool_here", "_law_clauses", "_law_turn", "_law_rows", "_law_lists", "_law_clause_here", "_law_thing", "_law_some", "_law_last_here", "_law_ending"] ["_law_script"] (defScope s_law) := ⟨rfl, rfl, rfl, by decide +kernel, rfl, by decide +kernel, by decide +kernel⟩
section
variable {P : Program} {w : World} {K : PySem.W.Frag} {mg : Str → Option Value} {base : Heap}
/-! ### whole numbers, signs -/
def whB : PyData → Bool
  | .int _ => true
  | _ => false
def spWh (K : PySem.W.Frag) : Sp := fun vs H Q _ => ∃ (x : V) (d : PyData), vs = [x] ∧ Dp K H x d ∧ Q (.bl (whB d)) H
theorem ok_wh {f : Addr} {fd : FuncData} {k : Nat} (F : Fun K "is_whole" "is_whole" s_is_whole f fd) (m_isinstance : mg "isinstance" = none) (m_int : mg "int" = none) (m_bool : mg "bool" = none) :
    FnOk P w K mg base CX0 (k + 1) f fd ["thing"] (spWh K) := by
  refine F.ok sc_is_whole (fun vs H Q E h => ?_) (fun cdv A outer s H vs Q E hr h => ?_)
  · obtain ⟨x, d, rfl, _⟩ := h
    rfl
  obtain ⟨x, d, rfl, hd, q⟩ := h
  refine ⟨_, (pss_one (ps_ret (pe_and (pe_callB call_isi (by rfl) m_isinstance (by decide +kernel) (pa_cons (pv 0) (pa_cons (pe_bltn (v := .ty "int") (by rfl) m_int (by decide +kernel) rfl) pa_nil))) (pe_one (pe_not (pe_callB call_isi (by rfl) m_isinstance (by decide +kernel) (pa_cons (pv 0) (pa_cons (pe_bltn (v := .ty "bool") (by rfl) m_bool (by decide +kernel) rfl) pa_nil)))))))), ?_⟩
  refine ⟨_, rfl, _, _, _, _, _, rfl, .ty _, dpTy hd, kit_ty (kit_int d), _, rfl, ?_⟩
  cases d with
  | int i => exact iteT ⟨_, rfl, _, _, _, _, _, rfl, .ty _, dpTy hd, kit_ty (kit_bool (.int i)), _, rfl, q⟩
  | bool b => exact iteT ⟨_, rfl, _, _, _, _, _, rfl, .ty _, dpTy hd, kit_ty (kit_bool (.bool b)), _, rfl, q⟩
  | none => exact iteF q
  | str _ => exact iteF q
  | list _ => exact iteF q
  | tuple _ => exact iteF q
  | dict _ => exact iteF q
def numB : PyData → Int → Int → Bool
  | .int i, lo, hi => decide (lo ≤ i) && decide (i ≤ hi)
  | _, _, _ => false
def spNum (K : PySem.W.Frag) : Sp := fun vs H Q _ => ∃ (x : V) (d : PyData) (lo hi : Int), vs = [x, .int lo, .int hi] ∧ Dp K H x d ∧ Q (.bl (numB d lo hi)) H
theorem ok_num {f : Addr} {fd : FuncData} {k : Nat} (F : Fun K "is_number" "is_number" s_is_number f fd) (D_is_whole : Df P w K mg base k "is_whole" ["thing"] (spWh K)) :
    FnOk P w K mg base CX0 (k + 1) f fd ["thing", "least", "most"] (spNum K) := by
  refine F.ok sc_is_number (fun vs H Q E h => ?_) (fun cdv A outer s H vs Q E hr h => ?_)
  · obtain ⟨x, d, lo, hi, rfl, _⟩ := h
    rfl
  obtain ⟨x, d, lo, hi, rfl, hd, q⟩ := h
  refine ⟨_, (pss_one (ps_ret (pe_and (pe_df D_is_whole hr (by rfl) (pa_cons (pv 0) pa_nil)) (pe_one (pe_chain op_le op_le (pv 1) (pv 0) (pv 2)))))), ?_⟩
  refine ⟨_, rfl, x, d, rfl, hd, _, rfl, ?_⟩
  cases d with
  | int i =>
    cases hd
    refine iteT ⟨_, rfl, _, rfl, _, _, rfl, rfl, _, rfl, ite2 (fun c => ?_) (fun c => ?_)⟩
    · refine ⟨_, rfl, _, _, rfl, rfl, ?_⟩
      have e : numB (.int i) lo hi = decide (i ≤ hi) := by
        show (decide (lo ≤ i) && decide (i ≤ hi)) = _
        rw [c]; rfl
      rw [e] at q
      exact q
    · have e : numB (.int i) lo hi = false := by
        show (decide (lo ≤ i) && decide (i ≤ hi)) = _
        rw [Bool.eq_false_iff.mpr c]; rfl
      rw [e] at q
      exact q
  | bool b => exact iteF q
  | none => exact iteF q
  | str _ => exact iteF q
  | list _ => exact iteF q
  | tuple _ => exact iteF q
  | dict _ => exact iteF q

/-! ### the clause of signs -/
def spClOf (K : PySem.W.Frag) : Sp := fun vs H Q _ => ∃ (a : Addr) (ns : List Int), vs = [.ref a] ∧ (SqL K H a (ns.map V.int) ∨ SqT K H a (ns.map V.int)) ∧ ns.length < 64 ∧ (∀ n ∈ ns, n ≠ 0) ∧ ∀ (v : V) (H' : Hp), Same H H' → CRes H ns v H' → Q v H'
theorem ok_clof {f : Addr} {fd : FuncData} {k : Nat} (F : Fun K "clause_of" "clause_of" s_clause_of f fd) (m_abs : mg "abs" = none) (m_tuple : mg "tuple" = none) (m_sorted : mg "sorted" = none) :
    FnOk P w K mg base CX0 (k + 1) f fd ["signs"] (spClOf K) := by
  refine F.ok sc_clause_of (fun vs H Q E h => ?_) (fun cdv A outer s H vs Q E hr h => ?_)
  · obtain ⟨a, ns, rfl, _⟩ := h
    rfl
  obtain ⟨a, ns, rfl, hS, hl, h0, qq⟩ := h
  have qn : ∀ H', Same H H' → Both ns → Q .non H' := fun H' s b => qq _ _ s (.inl ⟨rfl, b⟩)
  have q : ∀ (r : Addr) (cs : List Int) (H' : Hp), Same H H' → H r = none → H' r = some (.tup (cs.map V.int)) → ¬ Both ns → ClOf ns cs → Q (.ref r) H' := fun r cs H' s n e b c => qq _ _ s (.inr ⟨r, cs, rfl, n, e, b, c⟩)
  refine ⟨_, (pss_cons (ps_set (i := 1) sc_clause_of.nd rfl (.inr rfl) pe_dnewK)
       (pss_cons (ps_for PassesOwn.never rfl (pi_seq (pv 0)) (pg_name (i := 2) sc_clause_of.nd rfl (.inl rfl))
       (pss_one (ps_if (pt_cmpR op_ne (pe_dsetd (pv 1) (pe_callB call_abs (by rfl) m_abs (by decide +kernel) (pa_cons (pv 2) pa_nil)) (pv 2) ⟨rfl, rfl, rfl, rfl⟩) (pv 2) (nomark _))
       (pss_one (ps_ret pe_non))
       pss_nil)))
       (pss_one (ps_ret (pe_callTy call_tuple_of (by rfl) m_tuple (by decide +kernel) (pa_cons (pe_lc (own := [("thing", 3)]) (g := gName 3) (tt := tYes) (by rfl) sc_clause_of.nd (pi_list (pe_callB (call_sortedDI rfl) (by rfl) m_sorted (by decide +kernel) (pa_cons (pv 1) pa_nil))) (blkOk_by (by kernel_rfl)) (fun _ _ _ _ _ => (pg_name (i := 3) sc_clause_of.nd rfl (.inl rfl))) (fun _ _ _ _ _ => pts_nil) (fun _ _ _ _ _ => (pe_dget (hu_of hr) (pv 1) (pv 3) (fun _ _ => rfl)))) pa_nil)))))), ?_⟩
  refine fun d nd => ?_
  have W0 : CofW ns H a d 0 [some (.ref a), some (.ref d), none, none] (upd H d (.dK [])) := ⟨_, _, [], rfl, fun b o hb => by rw [upd_ne (ne_of_none hb nd)]; exact hb, upd_same, List.Pairwise.nil, by simp⟩
  rcases hS with hS | hS
  · refine .inl ⟨_, rfl, a, rfl, ⟨_, (same_new nd).seq hS⟩, for_list (xs := ns.map V.int) (CofW ns H a d) W0 (fun i σ' H' _ h => h.same.seq hS) ?_ ?_⟩
    · rintro i x σ' H1 ex ⟨y2, y3, ms, rfl, s1, ed, dj, hm⟩
      obtain ⟨n, rfl, hi, ht⟩ := at_int ex
      refine ⟨_, rfl, d, rfl, .inl ⟨_, .inl ed⟩, _, rfl, n, rfl, _, rfl, kvOf ms, .inl (ab n), ed, rfl, ?_, fun v hv => ?_, fun hv => ?_⟩
      · rw [show (kvOf ms).length = ms.length from List.length_map _]
        have := dj_len dj (fun m hm' => (hm m).mp hm')
        exact small1000 (by rw [List.length_take] at this; omega)
      · obtain ⟨m, hm1, hm2, rfl⟩ := kvOf_get hv
        refine ⟨_, rfl, rfl, _, rfl, ite2 (fun c => ?_) (fun c => ?_)⟩
        · have c' : m ≠ n := fun z => by subst z; simp at c
          have e : m = -n := by
            rw [ab_nat, ab_nat] at hm2
            omega
          refine qn H1 s1 ⟨n, hi, ?_⟩
          rw [← e]; exact List.mem_of_mem_take ((hm m).mp hm1)
        · have c' : m = n := by
            by_cases z : m = n
            · exact z
            · exfalso; apply c; rw [dec_int]; simp [z]
          subst c'
          exact ⟨_, _, ms, rfl, s1, ed, dj, fun x => by rw [hm, ht]; simp; intro z; subst z; exact (hm _).mp hm1⟩
      · refine ⟨_, rfl, rfl, _, rfl, ne_self ?_⟩
        have nn := kvOf_none hv
        refine ⟨_, _, ms ++ [n], rfl, ?_, ?_, ?_, ?_⟩
        · exact fun b o hb => by rw [upd_ne (ne_of_none hb nd)]; exact s1 _ _ hb
        · rw [upd_same, kvOf_put nn]
        · rw [List.pairwise_append]
          exact ⟨dj, List.pairwise_singleton _ _, fun x hx y hy => by rw [List.mem_singleton] at hy; subst hy; exact nn x hx⟩
        · intro x; rw [ht, List.mem_append, List.mem_append, hm]
    · rintro σ' H1 ⟨y2, y3, ms, rfl, s1, ed, dj, hm⟩
      have hall : ∀ x, x ∈ ms ↔ x ∈ ns := fun x => by rw [hm, List.length_map, List.take_length]
      have nb : ¬ Both ns := by
        rintro ⟨n, h1, h2⟩
        have e : ab n = ab (-n) := by rw [ab_nat, ab_nat]; omega
        have := ab_inj dj ((hall n).mpr h1) ((hall (-n)).mpr h2) e
        have := h0 n h1
        omega
      have lm : ms.length < 64 := by
        have := dj_len dj (fun m hm' => (hm m).mp hm')
        rw [List.length_take] at this; simp at this; omega
      refine ⟨_, rfl, d, kvOf ms, ms.map ab, rfl, .inl ed, kvOf_keys ms, by rw [List.length_map]; exact lm, fun ys p hp hs np => ?_⟩
      have sp : Same H1 (upd H1 p (.lst (ys.map V.int))) := same_new np
      have ep : (upd H1 p (.lst (ys.map V.int))) p = some (.lst (ys.map V.int)) := upd_same
      generalize (upd H1 p (.lst (ys.map V.int))) = H2 at *
      have ok := byKeys_ok dj hp hs
      have ly : ys.length = ms.length := by rw [hp.length_eq, List.length_map]
      refine ⟨p, rfl, ⟨_, SqL.of ep⟩, fun D nD => lc_list (xs := ys.map V.int) (fun i H' => Same H2 H' ∧ H' D = some (.lst (((byKeys ms ys).take i).map V.int))) ⟨same_new nD, upd_same⟩ (fun i H' _ h => SqL.of (h.1 _ _ ep)) ?_ ?_⟩
      · rintro i x H3 ex ⟨s3, e3⟩
        obtain ⟨y, rfl, hi, ht⟩ := at_int ex
        obtain ⟨m, hmm, em⟩ := List.mem_map.mp (hp.mem_iff.mp hi)
        subst em
        refine ⟨rfl, _, rfl, _, rfl, d, .int m, rfl, ?_, _, e3, ?_, ?_, ?_⟩
        · have g := DGet.k (k := Sum.inl (ab m)) (s3 _ _ (sp _ _ ed))
          rw [kvOf_some dj m hmm] at g
          exact g
        · have lb : (byKeys ms ys).length = ys.length := List.length_map _
          simp only [List.length_map, List.length_take]; exact small1000 (by omega)
        · exact fun b o hb => by rw [upd_ne (ne_of_none hb nD)]; exact s3 _ _ hb
        · have eb : (byKeys ms ys)[i]? = some m := by
            unfold byKeys
            rw [List.getElem?_map]
            have : ys[i]? = some (ab m) := by
              have := ex
              rw [List.getElem?_map] at this
              cases q : ys[i]? with
              | none => rw [q] at this; cases this
              | some z => rw [q] at this; cases this; rfl
            rw [this]
            show some ((ms.find? fun x => decide (ab x = ab m)).getD 0) = some m
            rw [find_ab dj hmm]; rfl
          rw [upd_same, List.take_add_one, eb, List.map_append]
          rfl
      · rintro H3 ⟨s3, e3⟩
        have e4 : ((byKeys ms ys).take (ys.map V.int).length) = byKeys ms ys := List.take_of_length_le (by unfold byKeys; simp)
        rw [e4] at e3
        refine ⟨D, _, rfl, .inl ⟨SqL.of e3, fun r nr => ?_⟩⟩
        exact q r (byKeys ms ys) _ (s1.trans (sp.trans (s3.trans (same_new nr)))) ((s1.trans (sp.trans s3)).free nr) upd_same nb ⟨ok.up, fun m => (ok.mem m).trans (hall m)⟩

  · refine .inr ⟨_, rfl, a, rfl, ⟨_, same_tup (same_new nd) hS⟩, for_tup (xs := ns.map V.int) (CofW ns H a d) W0 (fun i σ' H' _ h => same_tup h.same hS) ?_ ?_⟩
    · rintro i x σ' H1 ex ⟨y2, y3, ms, rfl, s1, ed, dj, hm⟩
      obtain ⟨n, rfl, hi, ht⟩ := at_int ex
      refine ⟨_, rfl, d, rfl, .inl ⟨_, .inl ed⟩, _, rfl, n, rfl, _, rfl, kvOf ms, .inl (ab n), ed, rfl, ?_, fun v hv => ?_, fun hv => ?_⟩
      · rw [show (kvOf ms).length = ms.length from List.length_map _]
        have := dj_len dj (fun m hm' => (hm m).mp hm')
        exact small1000 (by rw [List.length_take] at this; omega)
      · obtain ⟨m, hm1, hm2, rfl⟩ := kvOf_get hv
        refine ⟨_, rfl, rfl, _, rfl, ite2 (fun c => ?_) (fun c => ?_)⟩
        · have c' : m ≠ n := fun z => by subst z; simp at c
          have e : m = -n := by
            rw [ab_nat, ab_nat] at hm2
            omega
          refine qn H1 s1 ⟨n, hi, ?_⟩
          rw [← e]; exact List.mem_of_mem_take ((hm m).mp hm1)
        · have c' : m = n := by
            by_cases z : m = n
            · exact z
            · exfalso; apply c; rw [dec_int]; simp [z]
          subst c'
          exact ⟨_, _, ms, rfl, s1, ed, dj, fun x => by rw [hm, ht]; simp; intro z; subst z; exact (hm _).mp hm1⟩
      · refine ⟨_, rfl, rfl, _, rfl, ne_self ?_⟩
        have nn := kvOf_none hv
        refine ⟨_, _, ms ++ [n], rfl, ?_, ?_, ?_, ?_⟩
        · exact fun b o hb => by rw [upd_ne (ne_of_none hb nd)]; exact s1 _ _ hb
        · rw [upd_same, kvOf_put nn]
        · rw [List.pairwise_append]
          exact ⟨dj, List.pairwise_singleton _ _, fun x hx y hy => by rw [List.mem_singleton] at hy; subst hy; exact nn x hx⟩
        · intro x; rw [ht, List.mem_append, List.mem_append, hm]
    · rintro σ' H1 ⟨y2, y3, ms, rfl, s1, ed, dj, hm⟩
      have hall : ∀ x, x ∈ ms ↔ x ∈ ns := fun x => by rw [hm, List.length_map, List.take_length]
      have nb : ¬ Both ns := by
        rintro ⟨n, h1, h2⟩
        have e : ab n = ab (-n) := by rw [ab_nat, ab_nat]; omega
        have := ab_inj dj ((hall n).mpr h1) ((hall (-n)).mpr h2) e
        have := h0 n h1
        omega
      have lm : ms.length < 64 := by
        have := dj_len dj (fun m hm' => (hm m).mp hm')
        rw [List.length_take] at this; simp at this; omega
      refine ⟨_, rfl, d, kvOf ms, ms.map ab, rfl, .inl ed, kvOf_keys ms, by rw [List.length_map]; exact lm, fun ys p hp hs np => ?_⟩
      have sp : Same H1 (upd H1 p (.lst (ys.map V.int))) := same_new np
      have ep : (upd H1 p (.lst (ys.map V.int))) p = some (.lst (ys.map V.int)) := upd_same
      generalize (upd H1 p (.lst (ys.map V.int))) = H2 at *
      have ok := byKeys_ok dj hp hs
      have ly : ys.length = ms.length := by rw [hp.length_eq, List.length_map]
      refine ⟨p, rfl, ⟨_, SqL.of ep⟩, fun D nD => lc_list (xs := ys.map V.int) (fun i H' => Same H2 H' ∧ H' D = some (.lst (((byKeys ms ys).take i).map V.int))) ⟨same_new nD, upd_same⟩ (fun i H' _ h => SqL.of (h.1 _ _ ep)) ?_ ?_⟩
      · rintro i x H3 ex ⟨s3, e3⟩
        obtain ⟨y, rfl, hi, ht⟩ := at_int ex
        obtain ⟨m, hmm, em⟩ := List.mem_map.mp (hp.mem_iff.mp hi)
        subst em
        refine ⟨rfl, _, rfl, _, rfl, d, .int m, rfl, ?_, _, e3, ?_, ?_, ?_⟩
        · have g := DGet.k (k := Sum.inl (ab m)) (s3 _ _ (sp _ _ ed))
          rw [kvOf_some dj m hmm] at g
          exact g
        · have lb : (byKeys ms ys).length = ys.length := List.length_map _
          simp only [List.length_map, List.length_take]; exact small1000 (by omega)
        · exact fun b o hb => by rw [upd_ne (ne_of_none hb nD)]; exact s3 _ _ hb
        · have eb : (byKeys ms ys)[i]? = some m := by
            unfold byKeys
            rw [List.getElem?_map]
            have : ys[i]? = some (ab m) := by
              have := ex
              rw [List.getElem?_map] at this
              cases q : ys[i]? with
              | none => rw [q] at this; cases this
              | some z => rw [q] at this; cases this; rfl
            rw [this]
            show some ((ms.find? fun x => decide (ab x = ab m)).getD 0) = some m
            rw [find_ab dj hmm]; rfl
          rw [upd_same, List.take_add_one, eb, List.map_append]
          rfl
      · rintro H3 ⟨s3, e3⟩
        have e4 : ((byKeys ms ys).take (ys.map V.int).length) = byKeys ms ys := List.take_of_length_le (by unfold byKeys; simp)
        rw [e4] at e3
        refine ⟨D, _, rfl, .inl ⟨SqL.of e3, fun r nr => ?_⟩⟩
        exact q r (byKeys ms ys) _ (s1.trans (sp.trans (s3.trans (same_new nr)))) ((s1.trans (sp.trans s3)).free nr) upd_same nb ⟨ok.up, fun m => (ok.mem m).trans (hall m)⟩


/-! ### what a filling says -/
def spSays (K : PySem.W.Frag) : Sp := fun vs H Q _ => ∃ (t : Addr) (bs : List Bool) (n : Int), vs = [.ref t, .int n] ∧ SqT K H t (bs.map V.bl) ∧ 1 ≤ n.natAbs ∧ n.natAbs ≤ bs.length ∧ Q (.bl (sayB bs n)) H
theorem ok_says {f : Addr} {fd : FuncData} {k : Nat} (F : Fun K "says" "says" s_says f fd) (m_abs : mg "abs" = none) : FnOk P w K mg base CX0 (k + 1) f fd ["filling", "sign"] (spSays K) := by
  refine F.ok sc_says (fun vs H Q E h => ?_) (fun cdv A outer s H vs Q E hr h => ?_)
  · obtain ⟨t, bs, n, rfl, _⟩ := h
    rfl
  obtain ⟨t, bs, n, rfl, hS, h1, h2, q⟩ := h
  refine ⟨_, (pss_one (ps_ret (pe_cmpR op_eq (pe_ix ix_tup (pv 0) (pe_op op_sub (pe_callB call_abs (by rfl) m_abs (by decide +kernel) (pa_cons (pv 1) pa_nil)) pe_int) (fun _ _ => rfl)) (pe_cmpR op_gt (pv 1) pe_int (nomark _)) (nomark _)))), ?_⟩
  obtain ⟨b, hb, e⟩ := say_at h1 h2
  exact ⟨_, rfl, _, rfl, _, rfl, _, _, rfl, rfl, t, _, _, .bl b, rfl, rfl, hS, hb, _, rfl, _, _, rfl, rfl, rfl, by rw [say_eq, ← e]; exact q⟩
def spHolds (K : PySem.W.Frag) : Sp := fun vs H Q _ => ∃ (c t : Addr) (ns : List Int) (bs : List Bool), vs = [.ref c, .ref t] ∧ SqT K H c (ns.map V.int) ∧ SqT K H t (bs.map V.bl) ∧ ns.length ≤ 1000 ∧ (∀ n ∈ ns, 1 ≤ n.natAbs ∧ n.natAbs ≤ bs.length) ∧
  ∀ H', Same H H' → Q (.bl (ns.any (sayB bs))) H'
theorem ok_holds {f : Addr} {fd : FuncData} {k : Nat} (F : Fun K "holds" "holds" s_holds f fd) (D_says : Df P w K mg base k "says" ["filling", "sign"] (spSays K)) (m_any : mg "any" = none) :
    FnOk P w K mg base CX0 (k + 1) f fd ["clause", "filling"] (spHolds K) := by
  refine F.ok sc_holds (fun vs H Q E h => ?_) (fun cdv A outer s H vs Q E hr h => ?_)
  · obtain ⟨c, t, ns, bs, rfl, _⟩ := h
    rfl
  obtain ⟨c, t, ns, bs, rfl, hc, ht, hl, hn, q⟩ := h
  refine ⟨_, (pss_one (ps_ret (pe_callB (cr_any rfl) (by rfl) m_any (by decide +kernel) (pa_cons (pe_lc (own := [("sign", 2)]) (g := gName 2) (tt := tYes) (by rfl) sc_holds.nd (pi_tup (pv 0)) (blkOk_by (by kernel_rfl)) (fun _ _ _ _ _ => (pg_name (i := 2) sc_holds.nd rfl (.inl rfl))) (fun _ _ _ _ _ => pts_nil) (fun _ _ _ _ _ => (pe_df D_says hr (by rfl) (pa_cons (pv 1) (pa_cons (pv 2) pa_nil))))) pa_nil)))), ?_⟩
  refine ⟨_, rfl, c, rfl, ⟨_, hc⟩, fun D nD => lc_tup (xs := ns.map V.int) (fun i H' => Same H H' ∧ H' D = some (.lst (((ns.take i).map (sayB bs)).map V.bl))) ⟨same_new nD, upd_same⟩ (fun i H' _ h => same_tup h.1 hc) ?_ ?_⟩
  · rintro i x H1 ex ⟨s1, e1⟩
    obtain ⟨n, rfl, hi, ht2⟩ := at_int ex
    refine ⟨rfl, _, rfl, _, rfl, t, bs, n, rfl, same_tup s1 ht, (hn n hi).1, (hn n hi).2, _, e1, ?_, ?_, ?_⟩
    · simp only [List.length_map, List.length_take]; exact small1000 (by omega)
    · exact fun b o hb => by rw [upd_ne (ne_of_none hb nD)]; exact s1 _ _ hb
    · rw [upd_same, ht2]; simp
  · rintro H1 ⟨s1, e1⟩
    refine ⟨D, ns.map (sayB bs), rfl, SqL.of ?_, ?_⟩
    · rw [e1]; simp
    · rw [List.any_map]; exact q H1 s1
def spWithin (K : PySem.W.Frag) : Sp := fun vs H Q _ => ∃ (a b : Addr) (ns ms : List Int), vs = [.ref a, .ref b] ∧ SqT K H a (ns.map V.int) ∧ SqT K H b (ms.map V.int) ∧ ns.length ≤ 1000 ∧ ∀ H', Same H H' → Q (.bl (ns.all fun n => decide (n ∈ ms))) H'
theorem ok_within {f : Addr} {fd : FuncData} {k : Nat} (F : Fun K "within" "within" s_within f fd) (m_all : mg "all" = none) : FnOk P w K mg base CX0 (k + 1) f fd ["one", "other"] (spWithin K) := by
  refine F.ok sc_within (fun vs H Q E h => ?_) (fun cdv A outer s H vs Q E hr h => ?_)
  · obtain ⟨a, b, ns, ms, rfl, _⟩ := h
    rfl
  obtain ⟨a, b, ns, ms, rfl, ha, hb, hl, q⟩ := h
  refine ⟨_, (pss_one (ps_ret (pe_callB (cr_all rfl) (by rfl) m_all (by decide +kernel) (pa_cons (pe_lc (own := [("sign", 2)]) (g := gName 2) (tt := tYes) (by rfl) sc_within.nd (pi_tup (pv 0)) (blkOk_by (by kernel_rfl)) (fun _ _ _ _ _ => (pg_name (i := 2) sc_within.nd rfl (.inl rfl))) (fun _ _ _ _ _ => pts_nil) (fun _ _ _ _ _ => (pe_cmpR (op_inI' (K := K) rfl) (pv 2) (pv 1) rfl))) pa_nil)))), ?_⟩
  refine ⟨_, rfl, a, rfl, ⟨_, ha⟩, fun D nD => lc_tup (xs := ns.map V.int) (fun i H' => Same H H' ∧ H' D = some (.lst (((ns.take i).map fun n => decide (n ∈ ms)).map V.bl))) ⟨same_new nD, upd_same⟩ (fun i H' _ h => same_tup h.1 ha) ?_ ?_⟩
  · rintro i x H1 ex ⟨s1, e1⟩
    obtain ⟨n, rfl, hi, ht2⟩ := at_int ex
    refine ⟨rfl, _, rfl, _, rfl, b, n, ms, rfl, rfl, .inr (same_tup s1 hb), _, e1, ?_, ?_, ?_⟩
    · simp only [List.length_map, List.length_take]; exact small1000 (by omega)
    · exact fun b o hb => by rw [upd_ne (ne_of_none hb nD)]; exact s1 _ _ hb
    · rw [upd_same, ht2]; simp
  · rintro H1 ⟨s1, e1⟩
    refine ⟨D, ns.map fun n => decide (n ∈ ms), rfl, SqL.of ?_, ?_⟩
    · rw [e1]; simp
    · rw [List.all_map]; exact q H1 s1

/-! ### a draw -/
def spTake (K : PySem.W.Frag) : Sp := fun vs H Q _ => ∃ (p : Addr) (m : Int), vs = [.ref p, .int m] ∧ Pl H p ∧ 1 ≤ m ∧ m < 1073741824 ∧
  ∀ (d : Int) (H' : Hp), Kp p H H' → Pl H' p → 0 ≤ d → d < m → Q (.int d) H'
theorem ok_take {f : Addr} {fd : FuncData} {k : Nat} (F : Fun K "_law_take" "_law_take" s_law_take f fd) : FnOk P w K mg base CX0 (k + 1) f fd ["_law_pool_here", "_law_many"] (spTake K) := by
  refine F.ok sc_law_take (fun vs H Q E h => ?_) (fun cdv A outer s H vs Q E hr h => ?_)
  · obtain ⟨p, m, rfl, _⟩ := h
    rfl
  obtain ⟨p, m, rfl, ⟨a, b, e, ha, hb, hb2⟩, h1, h2, q⟩ := h
  refine ⟨_, (pss_cons (ps_if (pt_cmpR op_gt (pe_ix ix_list (pv 0) pe_int (fun _ _ => rfl)) pe_int (nomark _))
       (pss_cons (ps_set (i := 2) sc_law_take.nd rfl (.inl rfl) (pe_op op_mod (pe_ix ix_list (pv 0) pe_int (fun _ _ => rfl)) (pv 1)))
       (pss_cons (ps_asg (pe_op op_fdiv (pe_ix ix_list (pv 0) pe_int (fun _ _ => rfl)) (pv 1)) (pg_sub (pv 0) pe_int set_list))
       (pss_one (ps_ret (pv 2)))))
       pss_nil)
       (pss_cons (ps_asg (pe_op op_mod (pe_op op_add (pe_op op_mul (pe_ix ix_list (pv 0) pe_int (fun _ _ => rfl)) pe_int) pe_int) pe_int) (pg_sub (pv 0) pe_int set_list))
       (pss_one (ps_ret (pe_op op_mod (pe_op op_fdiv (pe_op op_mod (pe_op op_mul (pe_ix ix_list (pv 0) pe_int (fun _ _ => rfl)) (pe_ix ix_list (pv 0) pe_int (fun _ _ => rfl))) pe_int) pe_int) (pv 1)))))), ?_⟩
  refine ⟨_, rfl, p, _, 0, .int a, rfl, rfl, SqL.of e, rfl, _, _, rfl, rfl, _, rfl, ite2 (fun c => ?_) (fun c => ?_)⟩
  · have c' : 0 < a := of_decide_eq_true c
    refine ⟨_, rfl, p, _, 0, .int a, rfl, rfl, SqL.of e, rfl, _, rfl, _, _, rfl, rfl, (by show 0 < m; omega), ?_⟩
    refine ⟨_, rfl, p, _, 0, .int a, rfl, rfl, SqL.of e, rfl, _, rfl, _, _, rfl, rfl, (by show 0 < m ∧ m < 1073741824; omega), ?_⟩
    refine ⟨_, rfl, p, _, 0, 0, rfl, rfl, e, rfl, ?_⟩
    refine ⟨_, rfl, q _ _ (Kp.upd _ _ _) ⟨a / m, b, upd_same, Int.ediv_nonneg ha (by omega), hb, hb2⟩ (Int.emod_nonneg _ (by omega)) (Int.emod_lt_of_pos _ (by omega))⟩
  · refine ⟨_, rfl, p, _, 1, .int b, rfl, rfl, SqL.of e, rfl, _, _, rfl, rfl, .inr ⟨by omega, by omega⟩, _, _, rfl, rfl, _, _, rfl, rfl, (by show (0 : Int) < 2147483647; omega), ?_⟩
    refine ⟨_, rfl, p, _, 1, 1, rfl, rfl, e, rfl, ?_⟩
    have hc0 := Int.emod_nonneg (b * 48271 + 11) (show (2147483647 : Int) ≠ 0 by omega)
    have hc1 := Int.emod_lt_of_pos (b * 48271 + 11) (show (0 : Int) < 2147483647 by omega)
    generalize hC : (b * 48271 + 11) % 2147483647 = c1 at hc0 hc1
    refine ⟨_, rfl, p, _, 1, .int c1, rfl, rfl, SqL.of upd_same, (by rw [← hC]; rfl), _, rfl, p, _, 1, .int c1, rfl, rfl, SqL.of upd_same, (by rw [← hC]; rfl), ?_⟩
    refine ⟨_, _, rfl, rfl, .inr ⟨by omega, by omega⟩, _, _, rfl, rfl, (by show (0 : Int) < 2147483629; omega), _, _, rfl, rfl, (by show (0 : Int) < 64 ∧ (64 : Int) < 1073741824; omega), _, rfl, _, _, rfl, rfl, (by show 0 < m; omega), ?_⟩
    refine q _ _ (Kp.upd _ _ _) ⟨a, c1, ?_, ha, hc0, hc1⟩ (Int.emod_nonneg _ (by omega)) (Int.emod_lt_of_pos _ (by omega))
    rw [upd_same, ← hC]; rfl

/-! ### the pool of a cell -/
def spPool (K : PySem.W.Frag) : Sp := fun vs H Q _ => ∃ (a : Addr) (ns : List Int) (k : Int), vs = [.ref a, .int k] ∧ SqL K H a (ns.map V.int) ∧ ns.length ≤ 1000 ∧ 0 ≤ k ∧
  ∀ (p : Addr) (H' : Hp), H p = none → Same H H' → Pl H' p → Q (.ref p) H'
theorem ok_pool {f : Addr} {fd : FuncData} {k : Nat} (F : Fun K "_law_pool" "_law_pool" s_law_pool f fd) (m_len : mg "len" = none) (m_int : mg "int" = none) :
    FnOk P w K mg base CX0 (k + 1) f fd ["_law_script", "_law_k"] (spPool K) := by
  refine F.ok sc_law_pool (fun vs H Q E h => ?_) (fun cdv A outer s H vs Q E hr h => ?_)
  · obtain ⟨a, ns, k, rfl, _⟩ := h
    rfl
  obtain ⟨a, ns, k, rfl, hS, hl, hk, q⟩ := h
  refine ⟨_, (pss_cons (ps_set (i := 2) sc_law_pool.nd rfl (.inl rfl) pe_int)
       (C8.pss_cut (ps_if (pt_cmpR (op_neD hr.units) (pv 0) (pe_lst pa_nil) (nomark _))
       (pss_one (ps_set (i := 2) sc_law_pool.nd rfl (.inl rfl) (pe_ix ix_list (pv 0) (pe_op op_mod (pv 1) (pe_callB call_len_seq (by rfl) m_len (by decide +kernel) (pa_cons (pv 0) pa_nil))) (fun _ _ => rfl))))
       pss_nil)
       (C8.pss_cut (ps_if (pt_cmpR op_ge (pv 1) (pe_callB call_len_seq (by rfl) m_len (by decide +kernel) (pa_cons (pv 0) pa_nil)) (nomark _))
       (pss_one (ps_set (i := 2) sc_law_pool.nd rfl (.inl rfl) (pe_ix ix_list (pe_lst (pa_cons (pe_op op_mod (pv 2) pe_int) (pa_cons (pe_op op_fdivW (pv 2) (pe_op op_pow pe_int pe_int)) pa_nil))) (pe_callTy call_int1 (by rfl) m_int (by decide +kernel) (pa_cons (pe_cmpR op_ge (pv 2) (pe_op op_pow pe_int pe_int) (nomark _)) pa_nil)) (fun _ _ => rfl))))
       pss_nil)
       (pss_cons (ps_set (i := 3) sc_law_pool.nd rfl (.inl rfl) (pe_op op_mod (pe_op op_mul (pe_op op_add (pe_op op_add (pe_op op_mod (pv 2) pe_int) (pe_op op_mul pe_int (pv 1))) pe_int) pe_int) pe_int))
       (pss_one (ps_ret (pe_lst (pa_cons (pe_op op_mul (pv 2) (pe_callTy call_int1 (by rfl) m_int (by decide +kernel) (pa_cons (pe_cmpR op_ge (pv 2) (pe_op op_pow pe_int pe_int) (nomark _)) pa_nil))) (pa_cons (pv 3) pa_nil))))))))), ?_⟩
  have hlen : (ns.map V.int).length = ns.length := List.length_map _
  -- if script != []
  refine ⟨fun σ' H' => ∃ c : Int, σ' = [some (.ref a), some (.int k), some (.int c), none] ∧ Same H H', ?_, ?_⟩
  · refine ⟨_, rfl, (by show 0 ≤ sizeLine; decide), fun l hl0 => ?_⟩
    have s1 : Same H (upd H l (.lst [])) := same_new hl0
    refine ⟨.list (ns.map PyData.int), .list [], .lst (s1.seq hS) (dpInts ns), .lst (SqL.of upd_same) .nil, shInts ns, shNil, _, rfl, ?_⟩
    rw [eqvNil]
    refine ite2 (fun c => ?_) (fun c => ⟨0, rfl, s1⟩)
    have hn : ns ≠ [] := fun z => by subst z; exact absurd c (by decide)
    have hp : 0 < ns.length := List.length_pos_iff.mpr hn
    have hlt := Int.emod_lt_of_pos k (show (0 : Int) < (ns.length : Int) by omega)
    have hge := Int.emod_nonneg k (show (ns.length : Int) ≠ 0 by omega)
    obtain ⟨v, hv, _⟩ := atI_ints (ns := ns) hge hlt
    refine ⟨_, rfl, _, rfl, _, rfl, a, _, rfl, .inl (s1.seq hS), _, _, rfl, rfl, (by rw [hlen]; show (0 : Int) < (ns.length : Int); omega), a, _, _, .int v, rfl, rfl, s1.seq hS, ?_, ?_⟩
    · rw [hlen]; exact hv
    · exact ⟨_, rfl, s1⟩
  rintro _ H1 ⟨c, rfl, s1⟩
  -- if k >= len(script)
  refine ⟨fun σ' H' => ∃ c : Int, σ' = [some (.ref a), some (.int k), some (.int c), none] ∧ Same H H', ?_, ?_⟩
  · refine ⟨_, rfl, _, rfl, a, _, rfl, .inl (s1.seq hS), _, _, rfl, rfl, _, rfl, ite2 (fun z => ?_) (fun z => ⟨c, rfl, s1⟩)⟩
    refine ⟨_, rfl, _, _, rfl, rfl, (by show (0 : Int) < 1000003; omega), _, rfl, _, _, rfl, rfl, ⟨by omega, by omega, by decide⟩, _, _, rfl, rfl, wide_div (b := 64) (by decide) (by decide) (by decide) (by decide), (by show 2 ≤ sizeLine; decide), fun l hl0 => ?_⟩
    have s2 : Same H1 (upd H1 l _) := same_new (o := .lst [.int (c % 1000003), .int (c / 10 ^ 18)]) hl0
    refine ⟨_, rfl, _, _, rfl, rfl, ⟨by omega, by omega, by decide⟩, _, _, rfl, rfl, .inr ⟨_, rfl, ?_⟩⟩
    by_cases z : (10 : Int) ^ 36 ≤ c
    · refine ⟨l, _, 1, .int (c / 10 ^ 18), rfl, ?_, SqL.of upd_same, rfl, ⟨_, rfl, s1.trans s2⟩⟩
      have e : decide ((10 : Int) ^ (Int.toNat 36) ≤ c) = true := decide_eq_true z
      rw [e]; rfl
    · refine ⟨l, _, 0, .int (c % 1000003), rfl, ?_, SqL.of upd_same, rfl, ⟨_, rfl, s1.trans s2⟩⟩
      have e : decide ((10 : Int) ^ (Int.toNat 36) ≤ c) = false := decide_eq_false z
      rw [e]; rfl
  clear s1 c H1
  rintro _ H1 ⟨c, rfl, s1⟩
  -- the seed
  refine ⟨_, rfl, _, _, rfl, rfl, (by show (0 : Int) < 2147483629; omega), _, rfl, _, _, rfl, rfl, .inl ⟨by omega, by omega⟩, _, _, rfl, rfl, _, _, rfl, rfl, _, _, rfl, rfl, .inr ⟨by omega, by omega⟩, _, _, rfl, rfl, (by show (0 : Int) < 2147483647; omega), ?_⟩
  generalize hs : ((c % 2147483629 + 104729 * k + 11) * 48271) % 2147483647 = sd
  have hs0 : 0 ≤ sd := by rw [← hs]; exact Int.emod_nonneg _ (by omega)
  have hs1 : sd < 2147483647 := by rw [← hs]; exact Int.emod_lt_of_pos _ (by omega)
  refine ⟨_, rfl, _, rfl, _, _, rfl, rfl, ⟨by omega, by omega, by decide⟩, _, _, rfl, rfl, .inr ⟨_, rfl, _, _, rfl, rfl, .inr ?_, _, rfl, (by show 2 ≤ sizeLine; decide), fun p hp => ?_⟩⟩
  · split <;> exact ⟨by omega, by omega⟩
  · refine q p _ (s1.free hp) (s1.trans (same_new hp)) ⟨_, sd, (by rw [← hs]; exact upd_same), ?_, hs0, hs1⟩
    split
    · rename_i z
      have z' : (10 : Int) ^ (Int.toNat 18) ≤ c := of_decide_eq_true z
      have : (0 : Int) ≤ 10 ^ (Int.toNat 18) := by decide
      omega
    · omega

/-! ### a drawn clause -/
structure Cl (n : Nat) (cs : List Int) : Prop where
  up : cs.Pairwise fun a b => a.natAbs < b.natAbs
  all : ∀ c ∈ cs, c ≠ 0 ∧ c.natAbs ≤ n
theorem Cl.nil (n : Nat) : Cl n [] := ⟨List.Pairwise.nil, fun _ h => nomatch h⟩
theorem Cl.le {n m : Nat} {cs : List Int} (h : Cl n cs) (hm : n ≤ m) : Cl m cs := ⟨h.up, fun c hc => ⟨(h.all c hc).1, Nat.le_trans (h.all c hc).2 hm⟩⟩
theorem Cl.snoc {n : Nat} {cs : List Int} (h : Cl n cs) {c : Int} (hc : c.natAbs = n + 1) : Cl (n + 1) (cs ++ [c]) := by
  refine ⟨List.pairwise_append.mpr ⟨h.up, List.pairwise_singleton _ _, fun a ha b hb => ?_⟩, fun x hx => ?_⟩
  · rw [List.mem_singleton] at hb
    have := (h.all a ha).2
    subst hb; omega
  · rcases List.mem_append.mp hx with q | q
    · have := h.all x q
      exact ⟨this.1, by omega⟩
    · rw [List.mem_singleton] at q
      subst q
      exact ⟨fun z => by rw [z] at hc; simp at hc, by omega⟩
def spClause (K : PySem.W.Frag) : Sp := fun vs H Q _ => ∃ (p : Addr) (n most : Int), vs = [.ref p, .int n, .int most] ∧ Pl H p ∧ 0 ≤ n ∧ n ≤ 100 ∧
  ∀ (r : Addr) (cs : List Int) (H' : Hp), Kp p H H' → Pl H' p → H r = none → H' r = some (.tup (cs.map V.int)) → Cl n.toNat cs → (cs.length : Int) ≤ max most 0 → cs.length ≤ 100 → Q (.ref r) H'
theorem ok_clause {f : Addr} {fd : FuncData} {k : Nat} (F : Fun K "_law_clause" "_law_clause" s_law_clause f fd) (D_law_take : Df P w K mg base k "_law_take" ["_law_pool_here", "_law_many"] (spTake K))
    (m_len : mg "len" = none) (m_range : mg "range" = none) (m_tuple : mg "tuple" = none) : FnOk P w K mg base CX0 (k + 1) f fd ["_law_pool_here", "_law_things", "_law_most"] (spClause K) := by
  refine F.ok sc_law_clause (fun vs H Q E h => ?_) (fun cdv A outer s H vs Q E hr h => ?_)
  · obtain ⟨p, n, most, rfl, _⟩ := h
    rfl
  obtain ⟨p, n, most, rfl, hp, h0, h1, q⟩ := h
  refine ⟨_, (pss_cons (ps_set (i := 3) sc_law_clause.nd rfl (.inl rfl) (pe_lst pa_nil))
       (pss_cons (ps_for PassesOwn.never rfl (pi_range2 (by rfl) m_range (pa_cons pe_int (pa_cons (pe_op op_add (pv 1) pe_int) pa_nil))) (pg_name (i := 4) sc_law_clause.nd rfl (.inl rfl))
       (pss_one (ps_if (PW.pt (pw_and (pt_cmpR op_lt (pe_callB call_len_seq (by rfl) m_len (by decide +kernel) (pa_cons (pv 3) pa_nil)) (pv 2) (nomark _)) (pw_and1 (pt_cmpR op_eq (pe_df D_law_take hr (by rfl) (pa_cons (pv 0) (pa_cons pe_int pa_nil))) pe_int (nomark _)))))
       (pss_one (ps_expr (pe_bm PySem.F.plainAttrs_list PySem.F.slot_list_append PySem.F.type_list_append mt_append (pv 3) (pa_cons (pe_ix ix_list (pe_lst (pa_cons (pv 4) (pa_cons (pe_op op_sub pe_int (pv 4)) pa_nil))) (pe_df D_law_take hr (by rfl) (pa_cons (pv 0) (pa_cons pe_int pa_nil))) (fun _ _ => rfl)) pa_nil))))
       pss_nil)))
       (pss_one (ps_ret (pe_callTy call_tuple_of (by rfl) m_tuple (by decide +kernel) (pa_cons (pv 3) pa_nil)))))), ?_⟩
  refine ⟨(by show 0 ≤ sizeLine; decide), fun o no => ?_⟩
  have hpo : o ≠ p := fun z => hp.at (z ▸ no)
  refine ⟨_, rfl, _, _, rfl, rfl, _, _, rfl, ⟨by omega, by omega, by omega, by omega⟩, for_range (lo := 1) (n := (n + 1 - 1).toNat)
    (fun i σ' H' => ∃ (cs : List Int) (y : Option V), σ' = [some (.ref p), some (.int n), some (.int most), some (.ref o), y] ∧ Kp p H H' ∧ Pl H' p ∧ H' o = some (.lst (cs.map V.int)) ∧ Cl i cs ∧ (cs.length : Int) ≤ max most 0 ∧ cs.length ≤ i) ?_ ?_ ?_⟩
  · exact ⟨[], none, rfl, Kp.of (same_new no), hp.same (same_new no), upd_same, Cl.nil _, by simp; omega, by simp⟩
  · rintro i σ' H1 hi ⟨cs, y, rfl, kp, hp1, eo, cl, hm, hl⟩
    refine ⟨_, rfl, o, _, rfl, .inl (SqL.of eo), _, rfl, _, _, rfl, rfl, _, rfl, ite2 (fun c => ?_) (fun c => ?_)⟩
    · have c' : (((cs.map V.int).length : Nat) : Int) < most := of_decide_eq_true c
      rw [List.length_map] at c'
      refine ⟨_, rfl, p, 3, rfl, hp1, by omega, by omega, fun d H2 k2 hp2 _ _ => ?_⟩
      have eo2 := k2 _ _ hpo eo
      refine ⟨rfl, _, rfl, ite2 (fun c => ?_) (fun c => ?_)⟩
      · refine ⟨_, rfl, .inl ⟨rfl, _, SqL.of eo2⟩, ?_⟩
        refine ⟨_, rfl, _, rfl, _, _, rfl, rfl, (by show 2 ≤ sizeLine; decide), fun l nl => ?_⟩
        have s3 : Same H2 (upd H2 l (.lst [.int (1 + (i : Int)), .int (0 - (1 + (i : Int)))])) := same_new nl
        have hlp : l ≠ p := fun z => hp2.at (z ▸ nl)
        refine ⟨_, rfl, p, 2, rfl, hp2.same s3, by omega, by omega, fun d H3 k3 hp3 d0 d1 => ?_⟩
        have eo3 := k3 _ _ hpo (s3 _ _ eo2)
        have el3 := k3 _ _ hlp upd_same
        have fin : ∀ c : Int, c.natAbs = i + 1 → ∃ l xs y, V.ref o = V.ref l ∧ [V.int c] = [y] ∧ H3 l = some (.lst xs) ∧ xs.length < sizeLine ∧
            ∃ (cs : List Int) (y' : Option V), [some (V.ref p), some (.int n), some (.int most), some (.ref o), some (.int (1 + (i : Int)))] = [some (V.ref p), some (.int n), some (.int most), some (.ref o), y'] ∧
              Kp p H (upd H3 l (.lst (xs ++ [y]))) ∧ Pl (upd H3 l (.lst (xs ++ [y]))) p ∧ (upd H3 l (.lst (xs ++ [y]))) o = some (.lst (cs.map V.int)) ∧ Cl (i + 1) cs ∧ (cs.length : Int) ≤ max most 0 ∧ cs.length ≤ i + 1 := fun c hc => by
          refine ⟨o, _, _, rfl, rfl, eo3, ?_, cs ++ [c], _, rfl, ?_, ?_, ?_, cl.snoc hc, ?_, ?_⟩
          · rw [List.length_map]; exact small1000 (by omega)
          · intro b u nb hb
            rw [upd_ne (ne_of_none hb no)]
            exact k3 _ _ nb (s3 _ _ (k2 _ _ nb (kp _ _ nb hb)))
          · obtain ⟨a, b, e, r⟩ := hp3
            exact ⟨a, b, by rw [upd_ne hpo.symm]; exact e, r⟩
          · rw [upd_same, List.map_append]; rfl
          · rw [List.length_append]; simp; omega
          · rw [List.length_append]; simp; omega
        have dd : d = 0 ∨ d = 1 := by omega
        rcases dd with rfl | rfl
        · exact ⟨l, _, 0, .int (1 + (i : Int)), rfl, rfl, SqL.of el3, rfl, fin _ (by omega)⟩
        · exact ⟨l, _, 1, .int (0 - (1 + (i : Int))), rfl, rfl, SqL.of el3, rfl, fin _ (by omega)⟩
      · exact ⟨cs, _, rfl, kp.trans k2, hp2, eo2, cl.le (by omega), hm, by omega⟩
    · exact ⟨cs, _, rfl, kp, hp1, eo, cl.le (by omega), hm, by omega⟩
  · rintro σ' H1 ⟨cs, y, rfl, kp, hp1, eo, cl, hm, hl⟩
    refine ⟨_, rfl, o, _, rfl, .inl ⟨SqL.of eo, fun r nr => ?_⟩⟩
    have s2 : Same H1 (upd H1 r (.tup (cs.map V.int))) := same_new nr
    exact q r cs _ (kp.trans (Kp.of s2)) (hp1.same s2) (kp.freeP hp1 nr) upd_same (cl.le (by omega)) hm (by omega)

/-! ### all fillings -/
def spFills (K : PySem.W.Frag) : Sp := fun vs H Q _ => ∃ (n : Nat), vs = [.int n] ∧ n ≤ 9 ∧
  ∀ (r : Addr) (ts : List Addr) (H' : Hp), Same H H' → H r = none → H' r = some (.lst (ts.map V.ref)) → ts.length = 2 ^ n → (∀ j t, ts[j]? = some t → H' t = some (.tup ((rowB n j).map V.bl))) → Q (.ref r) H'
theorem ok_fills {f : Addr} {fd : FuncData} {k : Nat} (F : Fun K "_law_fillings" "_law_fillings" s_law_fillings f fd) (m_range : mg "range" = none) (m_tuple : mg "tuple" = none) :
    FnOk P w K mg base CX0 (k + 1) f fd ["_law_size"] (spFills K) := by
  refine F.ok sc_law_fillings (fun vs H Q E h => ?_) (fun cdv A outer s H vs Q E hr h => ?_)
  · obtain ⟨n, rfl, _⟩ := h
    rfl
  obtain ⟨n, rfl, hn, q⟩ := h
  refine ⟨_, (pss_one (ps_ret (pe_lc (own := [("_law_number", 2)]) (g := gName 2) (tt := tYes) (by rfl) sc_law_fillings.nd (pi_range1 (by rfl) m_range (pa_cons (pe_op op_shl pe_int (pv 0)) pa_nil)) (blkOk_by (by kernel_rfl)) (fun _ _ _ _ _ => (pg_name (i := 2) sc_law_fillings.nd rfl (.inr rfl))) (fun _ _ _ _ _ => pts_nil) (fun _ _ _ _ _ => (pe_callTy (call_tuple_of' (K := K) rfl) (by rfl) m_tuple (by decide +kernel) (pa_cons (pe_lc (own := [("_law_k", 1)]) (g := gName 1) (tt := tYes) (by rfl) sc_law_fillings.nd (pi_range1 (by rfl) m_range (pa_cons (pv 0) pa_nil)) (blkOk_by (by kernel_rfl)) (fun _ _ _ _ _ => (pg_name (i := 1) sc_law_fillings.nd rfl (.inl rfl))) (fun _ _ _ _ _ => pts_nil) (fun _ _ _ _ _ => (pe_cmpR op_eq (pe_op op_and (pe_op op_shr (pv 2) (pe_op op_sub (pe_op op_sub (pv 0) pe_int) (pv 1))) pe_int) pe_int (nomark _)))) pa_nil)))))), ?_⟩
  have e2 : (1 : Int) * 2 ^ ((n : Int)).toNat = ((2 ^ n : Nat) : Int) := by
    rw [Int.toNat_natCast]; simp
  have p9 : 2 ^ n ≤ 512 := Nat.le_trans (Nat.pow_le_pow_right (by decide) hn) (by decide)
  generalize hN : 2 ^ n = N at *
  refine ⟨_, rfl, _, _, rfl, rfl, ⟨by omega, by omega, by decide⟩, (N : Int), congrArg (fun z => [V.int z]) e2, by omega, by omega, fun D nD => lc_range (lo := 0) (n := ((N : Int)).toNat) (fun i H' => ∃ ts : List Addr, Same H H' ∧ H' D = some (.lst (ts.map V.ref)) ∧ ts.length = i ∧ ∀ j t, ts[j]? = some t → H' t = some (.tup ((rowB n j).map V.bl))) ?_ ?_ ?_⟩
  · exact ⟨[], same_new nD, upd_same, rfl, fun j t h => by simp at h⟩
  · rintro i H1 hi ⟨ts, s1, eD, hl, ht⟩
    refine ⟨rfl, _, rfl, _, rfl, by omega, by omega, fun D2 nD2 => lc_range (lo := 0) (n := ((n : Int)).toNat) (fun k H' => Same H1 H' ∧ H' D2 = some (.lst (((rowB n i).take k).map V.bl))) ?_ ?_ ?_⟩
    · exact ⟨same_new nD2, upd_same⟩
    · rintro k H2 hk ⟨s2, e2⟩
      have hk' : k < n := by rw [Int.toNat_natCast] at hk; exact hk
      refine ⟨rfl, _, rfl, _, rfl, _, _, rfl, rfl, _, rfl, _, _, rfl, rfl, _, _, rfl, rfl, (by show (0 : Int) ≤ (n : Int) - 1 - (0 + (k : Int)); omega), _, _, rfl, rfl, rfl, _, e2, ?_, ?_, ?_⟩
      · simp only [List.length_map, List.length_take]; exact small1000 (by omega)
      · exact fun b o hb => by rw [upd_ne (ne_of_none hb nD2)]; exact s2 _ _ hb
      · rw [upd_same, rowB_take hk', List.map_append]
        show some (HO.lst _) = some (HO.lst _)
        rw [Int.zero_add, Int.zero_add]
        rfl
    · rintro H2 ⟨s2, e2⟩
      have e3 : (rowB n i).take ((n : Int)).toNat = rowB n i := List.take_of_length_le (by unfold rowB; simp)
      rw [e3] at e2
      refine ⟨D2, _, rfl, .inl ⟨SqL.of e2, fun t nt => ?_⟩⟩
      have s3 : Same H2 (upd H2 t (.tup ((rowB n i).map V.bl))) := same_new nt
      have eD3 := s3 _ _ (s2 _ _ eD)
      have et : (upd H2 t (.tup ((rowB n i).map V.bl))) t = some (.tup ((rowB n i).map V.bl)) := upd_same
      generalize (upd H2 t (.tup ((rowB n i).map V.bl))) = H3 at *
      have keep : ∀ b xs, H3 b = some (.tup xs) → (upd H3 D (.lst (ts.map V.ref ++ [.ref t]))) b = some (.tup xs) := fun b xs hb => by rw [upd_ne (ne_of hb eD3 (by intro z; cases z))]; exact hb
      refine ⟨_, eD3, ?_, ts ++ [t], ?_, ?_, ?_, fun j u hu => ?_⟩
      · rw [List.length_map, hl]; rw [Int.toNat_natCast] at hi; exact small1000 (by omega)
      · exact fun b o hb => by rw [upd_ne (ne_of_none hb nD)]; exact s3 _ _ (s2 _ _ (s1 _ _ hb))
      · rw [upd_same, List.map_append]; rfl
      · rw [List.length_append, hl]; rfl
      · by_cases hj : j < ts.length
        · rw [List.getElem?_append_left hj] at hu
          exact keep _ _ (s3 _ _ (s2 _ _ (ht j u hu)))
        · rw [List.getElem?_append_right (by omega)] at hu
          have : j - ts.length = 0 := by
            cases q : j - ts.length with
            | zero => rfl
            | succ m => rw [q] at hu; simp at hu
          rw [this] at hu
          cases hu
          have : j = i := by omega
          subst this
          exact keep _ _ et
  · rintro H1 ⟨ts, s1, eD, hl, ht⟩
    rw [Int.toNat_natCast] at hl
    exact q D ts H1 s1 nD eD hl ht

/-! ### the law's own says, hold, sign -/
def spLSays (K : PySem.W.Frag) : Sp := fun vs H Q _ => ∃ (t : Addr) (bs : List Bool) (n : Int), vs = [.int n, .ref t] ∧ SqT K H t (bs.map V.bl) ∧ 1 ≤ n.natAbs ∧ n.natAbs ≤ bs.length ∧ Q (.bl (sayB bs n)) H
theorem ok_lsays {f : Addr} {fd : FuncData} {k : Nat} (F : Fun K "_law_says" "_law_says" s_law_says f fd) (m_abs : mg "abs" = none) : FnOk P w K mg base CX0 (k + 1) f fd ["_law_sign_here", "_law_filling"] (spLSays K) := by
  refine F.ok sc_law_says (fun vs H Q E h => ?_) (fun cdv A outer s H vs Q E hr h => ?_)
  · obtain ⟨t, bs, n, rfl, _⟩ := h
    rfl
  obtain ⟨t, bs, n, rfl, hS, h1, h2, q⟩ := h
  refine ⟨_, (pss_one (ps_ret (pe_cmpR op_eq (pe_ix ix_tup (pv 1) (pe_op op_sub (pe_callB call_abs (by rfl) m_abs (by decide +kernel) (pa_cons (pv 0) pa_nil)) pe_int) (fun _ _ => rfl)) (pe_cmpR op_gt (pv 0) pe_int (nomark _)) (nomark _)))), ?_⟩
  obtain ⟨b, hb, e⟩ := say_at h1 h2
  exact ⟨_, rfl, _, rfl, _, rfl, _, _, rfl, rfl, t, _, _, .bl b, rfl, rfl, hS, hb, _, rfl, _, _, rfl, rfl, rfl, by rw [say_eq, ← e]; exact q⟩
def spHold (K : PySem.W.Frag) : Sp := fun vs H Q _ => ∃ (a t : Addr) (cs : List Addr) (nss : List (List Int)) (bs : List Bool), vs = [.ref a, .ref t] ∧ SqL K H a (cs.map V.ref) ∧ SqT K H t (bs.map V.bl) ∧ TupsI K H cs nss ∧ nss.length ≤ 1000 ∧
  (∀ ns ∈ nss, ns.length ≤ 1000 ∧ ∀ n ∈ ns, 1 ≤ n.natAbs ∧ n.natAbs ≤ bs.length) ∧ ∀ H', Same H H' → Q (.bl (nss.all fun ns => ns.any (sayB bs))) H'
theorem ok_hold {f : Addr} {fd : FuncData} {k : Nat} (F : Fun K "_law_hold" "_law_hold" s_law_hold f fd) (D_law_says : Df P w K mg base k "_law_says" ["_law_sign_here", "_law_filling"] (spLSays K)) :
    FnOk P w K mg base CX0 (k + 1) f fd ["_law_clauses", "_law_filling"] (spHold K) := by
  refine F.ok sc_law_hold (fun vs H Q E h => ?_) (fun cdv A outer s H vs Q E hr h => ?_)
  · obtain ⟨a, t, cs, nss, bs, rfl, _⟩ := h
    rfl
  obtain ⟨a, t, cs, nss, bs, rfl, ha, ht, hc, hl, hn, q⟩ := h
  refine ⟨_, (pss_one (ps_ret (pe_cmpR (op_eqD hr.units) (pe_lc (own := [("_law_clause_here", 2)]) (g := gName 2) (by rfl) sc_law_hold.nd (pi_list (pv 0)) (blkOk_by (by kernel_rfl)) (fun _ _ _ _ _ => (pg_name (i := 2) sc_law_hold.nd rfl (.inl rfl))) (fun _ _ _ _ _ => (pts_one (pt_cmpR (op_eqD' (K := K) rfl hr.units) (pe_lc (own := [("_law_sign_here", 3)]) (g := gName 3) (by rfl) sc_law_hold.nd (pi_tup' (K := K) rfl (pv 2)) (blkOk_by (by kernel_rfl)) (fun _ _ _ _ _ => (pg_name (i := 3) sc_law_hold.nd rfl (.inl rfl))) (fun _ _ _ _ _ => (pts_one (pt_val (pe_df D_law_says hr (by rfl) (pa_cons (pv 3) (pa_cons (pv 1) pa_nil)))))) (fun _ _ _ _ _ => (pv 3))) (pe_lst pa_nil) (nomark _)))) (fun _ _ _ _ _ => (pv 2))) (pe_lst pa_nil) (nomark _)))), ?_⟩
  refine ⟨_, rfl, a, rfl, ⟨_, ha⟩, fun D nD => lc_list (xs := cs.map V.ref) (fun i H' => Same H H' ∧ ∃ (ds : List Addr) (mss : List (List Int)), H' D = some (.lst (ds.map V.ref)) ∧ TupsI K H' ds mss ∧ mss = (nss.take i).filter fun ns => !ns.any (sayB bs)) ?_ ?_ ?_ ?_⟩
  · exact ⟨same_new nD, [], [], upd_same, .nil, rfl⟩
  · exact fun i H' _ h => h.1.seq ha
  · rintro i x H1 ex ⟨s1, ds, mss, eD, hd, em⟩
    obtain ⟨c, ns, rfl, hin, hc1, htk⟩ := hc.at ex
    have hc2 := same_tup s1 hc1
    obtain ⟨ln, hb⟩ := hn ns hin
    refine ⟨rfl, _, rfl, c, rfl, ⟨_, hc2⟩, fun D2 nD2 => lc_tup (xs := ns.map V.int) (fun k H' => Same H1 H' ∧ H' D2 = some (.lst (((ns.take k).filter (sayB bs)).map V.int))) ⟨same_new nD2, upd_same⟩ (fun k H' _ h => same_tup h.1 hc2) ?_ ?_⟩
    · rintro k x H2 ex2 ⟨s2, e2⟩
      obtain ⟨n, rfl, hni, htk2⟩ := at_int ex2
      refine ⟨rfl, _, rfl, _, rfl, t, bs, n, rfl, same_tup s2 (same_tup s1 ht), (hb n hni).1, (hb n hni).2, _, rfl, ite2 (fun c => ?_) (fun c => ?_)⟩
      · refine ⟨_, rfl, _, e2, ?_, ?_, ?_⟩
        · rw [List.length_map]
          exact small1000 (Nat.le_trans (List.length_filter_le _ _) (by rw [List.length_take]; omega))
        · exact fun b o hb => by rw [upd_ne (ne_of_none hb nD2)]; exact s2 _ _ hb
        · rw [upd_same, htk2, List.filter_append, List.map_append]
          simp [List.filter_cons, c]
      · refine ⟨s2, ?_⟩
        rw [htk2, List.filter_append, List.map_append, e2]
        simp [List.filter_cons, c]
    · rintro H2 ⟨s2, e2⟩
      rw [List.length_map, List.take_length] at e2
      refine ⟨(by show 0 ≤ sizeLine; decide), fun l nl => ?_⟩
      have s3 : Same H2 (upd H2 l (.lst [])) := same_new nl
      refine ⟨.list ((ns.filter (sayB bs)).map PyData.int), .list [], .lst (SqL.of (s3 _ _ e2)) (dpInts _), .lst (SqL.of upd_same) .nil, shInts _, shNil, _, rfl, ?_⟩
      rw [eqvNil]
      have s13 : Same H1 (upd H2 l (.lst [])) := s2.trans s3
      generalize (upd H2 l (.lst [])) = H3 at *
      have key : (!ns.any (sayB bs)) = decide (ns.filter (sayB bs) = []) := by
        rw [Bool.eq_iff_iff]; simp
      refine ite2 (fun z => ?_) (fun z => ?_)
      · have eD3 := s13 _ _ eD
        refine ⟨_, rfl, _, eD3, ?_, ?_, ds ++ [c], mss ++ [ns], ?_, ?_, ?_⟩
        · rw [List.length_map, hd.len, em]
          exact small1000 (Nat.le_trans (List.length_filter_le _ _) (by rw [List.length_take]; omega))
        · exact fun b o hb => by rw [upd_ne (ne_of_none hb nD)]; exact s13 _ _ (s1 _ _ hb)
        · rw [upd_same, List.map_append]; rfl
        · exact ((hd.same s13).snoc (same_tup s13 hc2)).lst eD3
        · rw [htk, List.filter_append, ← em, List.filter_cons, key, z]; rfl
      · refine ⟨s1.trans s13, ds, mss, s13 _ _ eD, hd.same s13, ?_⟩
        rw [htk, List.filter_append, ← em, List.filter_cons, key, if_neg z]; simp
  · rintro H1 ⟨s1, ds, mss, eD, hd, em⟩
    rw [List.length_map, hc.len, List.take_length] at em
    refine ⟨(by show 0 ≤ sizeLine; decide), fun l nl => ?_⟩
    have s2 : Same H1 (upd H1 l (.lst [])) := same_new nl
    refine ⟨.list (mss.map fun (ns : List Int) => PyData.tuple (ns.map PyData.int)), .list [], .lst (SqL.of (s2 _ _ eD)) (hd.same s2).dp, .lst (SqL.of upd_same) .nil, shTups _, shNil, ?_⟩
    have key : PyData.eqv (.list (mss.map fun (ns : List Int) => PyData.tuple (ns.map PyData.int))) (.list []) = nss.all fun ns => ns.any (sayB bs) := by
      rw [eqvNilD, em, Bool.eq_iff_iff]; simp
    rw [key]
    exact q _ (s1.trans s2)

/-! ### meeting, met -/
def spMtg (K : PySem.W.Frag) : Sp := fun vs H Q _ => ∃ (a b : Addr) (x : V) (d : PyData) (one other : List Int), vs = [.ref a, .ref b, x] ∧ SqT K H a (one.map V.int) ∧ SqT K H b (other.map V.int) ∧ Dp K H x d ∧ one.length + other.length < 64 ∧ (∀ n ∈ one ++ other, n ≠ 0) ∧
  ∀ (v : V) (H' : Hp) (r : Option (List Int)), Same H H' → IsMet one other d r → OptT H r v H' → Q v H'
theorem ok_mtg {f : Addr} {fd : FuncData} {k : Nat} (F : Fun K "meeting" "meeting" s_meeting f fd) (D_is_whole : Df P w K mg base k "is_whole" ["thing"] (spWh K)) (D_clause_of : Df P w K mg base k "clause_of" ["signs"] (spClOf K)) (m_abs : mg "abs" = none) :
    FnOk P w K mg base CX0 (k + 1) f fd ["one", "other", "thing"] (spMtg K) := by
  refine F.ok sc_meeting (fun vs H Q E h => ?_) (fun cdv A outer s H vs Q E hr h => ?_)
  · obtain ⟨a, b, x, d, one, other, rfl, _⟩ := h
    rfl
  obtain ⟨a, b, x, d, one, other, rfl, ha, hb, hd, hl, h0, q⟩ := h
  refine ⟨_, (pss_cons (ps_if (PW.pt (pw_or (pt_not (pt_val (pe_df D_is_whole hr (by rfl) (pa_cons (pv 2) pa_nil)))) (pw_or (pt_cmpR op_lt (pv 2) pe_int (nomark _)) (pw_or (pt_cmpR op_notInI (pv 2) (pv 0) rfl) (pw_or1 (pt_cmpR op_notInI (pe_un un_neg (pv 2)) (pv 1) rfl))))))
       (pss_one (ps_ret pe_non))
       pss_nil)
       (pss_one (ps_ret (pe_df D_clause_of hr (by rfl) (pa_cons (pe_lc (own := [("sign", 3)]) (g := gName 3) (by rfl) sc_meeting.nd (pi_tup (pe_op op_catK (pv 0) (pv 1))) (blkOk_by (by kernel_rfl)) (fun _ _ _ _ _ => (pg_name (i := 3) sc_meeting.nd rfl (.inl rfl))) (fun _ _ _ _ _ => (pts_one (pt_cmpR op_ne (pe_callB call_abs (by rfl) m_abs (by decide +kernel) (pa_cons (pv 3) pa_nil)) (pv 2) (nomark _)))) (fun _ _ _ _ _ => (pv 3))) pa_nil))))), ?_⟩
  refine ⟨_, rfl, x, d, rfl, hd, _, rfl, ?_⟩
  have bad : (∀ t, d = .int t → 1 ≤ t → True → Mt one other t → Both (lft one other t)) → Q .non H := fun z => q _ _ none (Same.refl H) (.inl ⟨rfl, z⟩) (.inl ⟨rfl, rfl⟩)
  cases d with
  | int t =>
    cases hd
    refine iteF ⟨_, rfl, _, _, rfl, rfl, _, rfl, ite2 (fun c => ?_) (fun c => ?_)⟩
    · refine bad fun t' e h1 => ?_
      cases e
      have : t < 1 := of_decide_eq_true c
      omega
    have c1 : 1 ≤ t := by
      have : ¬ t < 1 := of_decide_eq_false (Bool.eq_false_iff.mpr c)
      omega
    have c' : 1 ≤ t ∧ True := ⟨c1, trivial⟩
    refine ⟨_, rfl, _, rfl, a, _, one, rfl, rfl, .inr ha, _, rfl, ite2 (fun z => ?_) (fun z => ?_)⟩
    · refine bad fun t' e _ _ m => ?_
      cases e
      have z' : ¬ t ∈ one := by simpa using z
      exact absurd m.1 z'
    have h1 : t ∈ one := by simpa using z
    refine ⟨_, rfl, _, rfl, _, rfl, b, _, other, rfl, rfl, .inr hb, _, rfl, ite2 (fun z => ?_) (fun z => ?_)⟩
    · refine bad fun t' e _ _ m => ?_
      cases e
      have z' : ¬ -t ∈ other := by simpa using z
      exact absurd m.2 z'
    have h2 : -t ∈ other := by simpa using z
    have hln : ((one ++ other).map V.int).length ≤ sizeLine := by rw [List.length_map, List.length_append]; exact small (by omega)
    refine ⟨_, rfl, _, rfl, a, b, _, _, rfl, rfl, ha, hb, by rw [List.map_append, List.length_append] at hln; exact hln, fun r H1 s1 hr1 => ?_⟩
    rw [← List.map_append] at hr1
    refine ⟨r, rfl, ⟨_, hr1⟩, fun D nD => lc_tup (xs := (one ++ other).map V.int) (fun i H' => Same H1 H' ∧ H' D = some (.lst ((((one ++ other).take i).filter fun n => !decide (ab n = t)).map V.int))) ⟨same_new nD, upd_same⟩ (fun i H' _ h => same_tup h.1 hr1) ?_ ?_⟩
    · rintro i x H2 ex ⟨s2, e2⟩
      obtain ⟨n, rfl, hi, htk⟩ := at_int ex
      have dd : decide (V.int (ab n) = V.int t) = decide (ab n = t) := dec_V _ _
      refine ⟨rfl, _, rfl, _, rfl, _, rfl, rfl, _, rfl, ite2 (fun c => ?_) (fun c => ?_)⟩
      · refine ⟨_, rfl, _, e2, ?_, ?_, ?_⟩
        · rw [List.length_map]
          exact small1000 (Nat.le_trans (List.length_filter_le _ _) (by rw [List.length_take, List.length_append]; omega))
        · exact fun b o hb => by rw [upd_ne (ne_of_none hb nD)]; exact s2 _ _ hb
        · have c' : (!decide (ab n = t)) = true := by rw [← dd]; exact c
          rw [upd_same, htk, List.filter_append, List.map_append, List.filter_cons, if_pos c']; rfl
      · have c' : ¬ (!decide (ab n = t)) = true := by rw [← dd]; exact c
        refine ⟨s2, ?_⟩
        rw [htk, List.filter_append, List.map_append, e2, List.filter_cons, if_neg c']; simp
    · rintro H2 ⟨s2, e2⟩
      rw [List.length_map, List.take_length] at e2
      have e3 : H2 D = some (.lst ((lft one other t).map V.int)) := e2
      have hll : (lft one other t).length < 64 := Nat.lt_of_le_of_lt (List.length_filter_le _ _) (by rw [List.length_append]; exact hl)
      refine ⟨D, lft one other t, rfl, .inl (SqL.of e3), hll, fun n hn => h0 n (List.mem_filter.mp hn).1, fun v H3 s3 r3 => ?_⟩
      have sA : Same H H3 := s1.trans (s2.trans s3)
      rcases r3 with ⟨rfl, bo⟩ | ⟨p, cs, rfl, np, ep, nb, cl⟩
      · exact q _ _ none sA (.inl ⟨rfl, fun t' e _ _ _ => by cases e; exact bo⟩) (.inl ⟨rfl, rfl⟩)
      · exact q _ _ (some cs) sA (.inr ⟨t, cs, rfl, c'.1, c'.2, rfl, ⟨h1, h2⟩, nb, cl⟩) (.inr ⟨p, cs, rfl, rfl, (s1.trans s2).free np, ep⟩)
  | bool b => exact bad fun t e => nomatch e
  | none => exact bad fun t e => nomatch e
  | str _ => exact bad fun t e => nomatch e
  | list _ => exact bad fun t e => nomatch e
  | tuple _ => exact bad fun t e => nomatch e
  | dict _ => exact bad fun t e => nomatch e

/-! ### the law's own meeting -/
def wholeB : PyData → Bool
  | .int _ => true
  | _ => false
def spWhole (K : PySem.W.Frag) : Sp := fun vs H Q _ => ∃ (x : V) (d : PyData), vs = [x] ∧ Dp K H x d ∧ Q (.bl (wholeB d)) H
theorem ok_whole {f : Addr} {fd : FuncData} {k : Nat} (F : Fun K "_law_whole" "_law_whole" s_law_whole f fd) (m_isinstance : mg "isinstance" = none) (m_int : mg "int" = none) (m_bool : mg "bool" = none) :
    FnOk P w K mg base CX0 (k + 1) f fd ["_law_thing"] (spWhole K) := by
  refine F.ok sc_law_whole (fun vs H Q E h => ?_) (fun cdv A outer s H vs Q E hr h => ?_)
  · obtain ⟨x, d, rfl, _⟩ := h
    rfl
  obtain ⟨x, d, rfl, hd, q⟩ := h
  refine ⟨_, (pss_one (ps_ret (pe_and (pe_callB call_isi (by rfl) m_isinstance (by decide +kernel) (pa_cons (pv 0) (pa_cons (pe_bltn (v := .ty "int") (by rfl) m_int (by decide +kernel) rfl) pa_nil))) (pe_one (pe_not (pe_callB call_isi (by rfl) m_isinstance (by decide +kernel) (pa_cons (pv 0) (pa_cons (pe_bltn (v := .ty "bool") (by rfl) m_bool (by decide +kernel) rfl) pa_nil)))))))), ?_⟩
  refine ⟨_, rfl, _, _, _, _, _, rfl, .ty _, dpTy hd, kit_ty (kit_int d), _, rfl, ?_⟩
  cases d with
  | int i => exact iteT ⟨_, rfl, _, _, _, _, _, rfl, .ty _, dpTy hd, kit_ty (kit_bool (.int i)), _, rfl, q⟩
  | bool b => exact iteT ⟨_, rfl, _, _, _, _, _, rfl, .ty _, dpTy hd, kit_ty (kit_bool (.bool b)), _, rfl, q⟩
  | none => exact iteF q
  | str _ => exact iteF q
  | list _ => exact iteF q
  | tuple _ => exact iteF q
  | dict _ => exact iteF q
def spLMeet (K : PySem.W.Frag) : Sp := fun vs H Q _ => ∃ (a b : Addr) (t : Int) (one other : List Int), vs = [.ref a, .ref b, .int t] ∧ SqT K H a (one.map V.int) ∧ SqT K H b (other.map V.int) ∧ 1 ≤ t ∧ one.length < 64 ∧ other.length < 64 ∧ Up one ∧ Up other ∧ (∀ n ∈ one ++ other, n ≠ 0 ∧ n.natAbs ≤ 60) ∧
  ∀ (v : V) (H' : Hp) (r : Option (List Int)), Same H H' → IsMet one other (.int t) r → OptT H r v H' → Q v H'
theorem ok_lmeet {f : Addr} {fd : FuncData} {k : Nat} (F : Fun K "_law_meet" "_law_meet" s_law_meet f fd) (m_abs : mg "abs" = none) (m_tuple : mg "tuple" = none) (m_sorted : mg "sorted" = none) :
    FnOk P w K mg base CX0 (k + 1) f fd ["_law_one", "_law_other", "_law_thing"] (spLMeet K) := by
  refine F.ok sc_law_meet (fun vs H Q E h => ?_) (fun cdv A outer s H vs Q E hr h => ?_)
  · obtain ⟨a, b, t, one, other, rfl, _⟩ := h
    rfl
  obtain ⟨a, b, t, one, other, rfl, ha, hb, ht, l1, l2, u1, u2, h0, q⟩ := h
  refine ⟨_, (pss_cons (ps_if (PW.pt (pw_or (pt_cmpR op_notInI (pv 2) (pv 0) rfl) (pw_or1 (pt_cmpR op_notInI (pe_op op_sub pe_int (pv 2)) (pv 1) rfl))))
       (pss_one (ps_ret pe_non))
       pss_nil)
       (pss_cons (ps_set (i := 3) sc_law_meet.nd rfl (.inr rfl) (pe_lc (own := [("_law_sign_here", 4)]) (g := gName 4) (by rfl) sc_law_meet.nd (pi_tup (pv 0)) (blkOk_by (by kernel_rfl)) (fun _ _ _ _ _ => (pg_name (i := 4) sc_law_meet.nd rfl (.inl rfl))) (fun _ _ _ _ _ => (pts_one (pt_cmpR op_ne (pv 4) (pv 2) (nomark _)))) (fun _ _ _ _ _ => (pv 4))))
       (pss_cons (ps_for PassesOwn.never rfl (pi_tup (pv 1)) (pg_name (i := 4) sc_law_meet.nd rfl (.inl rfl))
       (pss_one (ps_if (PW.pt (pw_and (pt_cmpR op_ne (pv 4) (pe_op op_sub pe_int (pv 2)) (nomark _)) (pw_and1 (pt_cmpR op_notInI (pv 4) (pv 3) rfl))))
       (pss_one (ps_expr (pe_bm PySem.F.plainAttrs_list PySem.F.slot_list_append PySem.F.type_list_append mt_append (pv 3) (pa_cons (pv 4) pa_nil))))
       pss_nil)))
       (pss_cons (ps_if (pt_cmpR (op_neD hr.units) (pe_lc (own := [("_law_sign_here", 4)]) (g := gName 4) (by rfl) sc_law_meet.nd (pi_list (pv 3)) (blkOk_by (by kernel_rfl)) (fun _ _ _ _ _ => (pg_name (i := 4) sc_law_meet.nd rfl (.inl rfl))) (fun _ _ _ _ _ => (pts_one (pt_cmpR (op_inI' (K := K) rfl) (pe_op op_sub pe_int (pv 4)) (pv 3) rfl))) (fun _ _ _ _ _ => (pv 4))) (pe_lst pa_nil) (nomark _))
       (pss_one (ps_ret pe_non))
       pss_nil)
       (pss_one (ps_ret (pe_callTy call_tuple_of (by rfl) m_tuple (by decide +kernel) (pa_cons (pe_lc (own := [("_law_at", 5), ("_law_sign_here", 4)]) (g := gTup K 2 (gCons (gName 5) (gCons (gName 4) gNil))) (tt := tYes) (by rfl) sc_law_meet.nd (pi_list (pe_callB cr_sortedPO (by rfl) m_sorted (by decide +kernel) (pa_cons (pe_lc (own := [("_law_sign_here", 4)]) (g := gName 4) (tt := tYes) (by rfl) sc_law_meet.nd (pi_list (pv 3)) (blkOk_by (by kernel_rfl)) (fun _ _ _ _ _ => (pg_name (i := 4) sc_law_meet.nd rfl (.inl rfl))) (fun _ _ _ _ _ => pts_nil) (fun _ _ _ _ _ => (pe_tup (pa_cons (pe_callB call_abs (by rfl) m_abs (by decide +kernel) (pa_cons (pv 4) pa_nil)) (pa_cons (pv 4) pa_nil))))) pa_nil))) (blkOk_by (by kernel_rfl)) (fun _ _ _ _ _ => (pg_tup' (K := K) rfl rfl (pgs_cons (pg_name (i := 5) sc_law_meet.nd rfl (.inl rfl)) (pgs_cons (pg_name (i := 4) sc_law_meet.nd rfl (.inl rfl)) pgs_nil)))) (fun _ _ _ _ _ => pts_nil) (fun _ _ _ _ _ => (pv 4))) pa_nil)))))))), ?_⟩
  have bad : ∀ H', Same H H' → (Mt one other t → Both (lft one other t)) → Q .non H' := fun H' s z => q _ _ none s (.inl ⟨rfl, fun t' e _ _ => by cases e; exact z⟩) (.inl ⟨rfl, rfl⟩)
  refine ⟨_, rfl, _, rfl, a, _, one, rfl, rfl, .inr ha, _, rfl, ite2 (fun z => ?_) (fun z => ?_)⟩
  · have z' : ¬ t ∈ one := by simpa using z
    exact bad H (Same.refl H) fun m => absurd m.1 z'
  have h1 : t ∈ one := by simpa using z
  refine ⟨_, rfl, _, _, rfl, rfl, _, rfl, b, _, other, rfl, rfl, .inr hb, _, rfl, ite2 (fun z => ?_) (fun z => ?_)⟩
  · have z' : ¬ 0 - t ∈ other := by simpa using z
    exact bad H (Same.refl H) fun m => absurd (by rw [Int.zero_sub]; exact m.2) z'
  have h2 : 0 - t ∈ other := by simpa using z
  have t60 : True := trivial
  have hmt : Mt one other t := ⟨h1, by rw [Int.zero_sub] at h2; exact h2⟩
  refine ⟨_, rfl, a, rfl, ⟨_, ha⟩, fun D nD => lc_tup (xs := one.map V.int) (fun i H' => Same H H' ∧ H' D = some (.lst (((one.take i).filter fun n => !decide (n = t)).map V.int))) ⟨same_new nD, upd_same⟩ (fun i H' _ h => same_tup h.1 ha) ?_ ?_⟩
  · rintro i x H2 ex ⟨s2, e2⟩
    obtain ⟨n, rfl, hi, htk⟩ := at_int ex
    have dd : decide (V.int n = V.int t) = decide (n = t) := dec_V _ _
    refine ⟨rfl, _, rfl, _, rfl, rfl, _, rfl, ite2 (fun c => ?_) (fun c => ?_)⟩
    · refine ⟨_, rfl, _, e2, ?_, ?_, ?_⟩
      · rw [List.length_map]
        exact small1000 (Nat.le_trans (List.length_filter_le _ _) (by rw [List.length_take]; omega))
      · exact fun b o hb => by rw [upd_ne (ne_of_none hb nD)]; exact s2 _ _ hb
      · have c' : (!decide (n = t)) = true := by rw [← dd]; exact c
        rw [upd_same, htk, List.filter_append, List.map_append, List.filter_cons, if_pos c']; rfl
    · have c' : ¬ (!decide (n = t)) = true := by rw [← dd]; exact c
      refine ⟨s2, ?_⟩
      rw [htk, List.filter_append, List.map_append, e2, List.filter_cons, if_neg c']; simp
  rintro H1 ⟨s1, e1⟩
  rw [List.length_map, List.take_length] at e1
  -- the other's signs
  refine ⟨_, rfl, b, rfl, ⟨_, same_tup s1 hb⟩, for_tup (xs := other.map V.int) (fun i σ' H' => ∃ (y4 y5 : Option V) (L : List Int), σ' = [some (.ref a), some (.ref b), some (.int t), some (.ref D), y4, y5] ∧ Same H H' ∧ H' D = some (.lst (L.map V.int)) ∧ L.Nodup ∧ (∀ m, m ∈ L ↔ (m ∈ one ∧ m ≠ t) ∨ (m ∈ other.take i ∧ m ≠ 0 - t)) ∧ L.length ≤ 64 + i) ?_ ?_ ?_ ?_⟩
  · refine ⟨_, _, one.filter fun n => !decide (n = t), rfl, s1, e1, (up_nd u1).filter _, fun m => ?_, Nat.le_trans (List.length_filter_le _ _) (by omega)⟩
    rw [List.mem_filter]; simp
  · rintro i σ' H' _ ⟨y4, y5, L, rfl, s2, _⟩
    exact same_tup s2 hb
  · rintro i x σ' H2 ex ⟨y4, y5, L, rfl, s2, e2, nd, mem, len⟩
    obtain ⟨n, rfl, hi, htk⟩ := at_int ex
    have hi64 : i < 64 := by
      have := (List.getElem?_eq_some_iff.mp ex).1
      rw [List.length_map] at this; omega
    have dd : decide (V.int n = V.int (0 - t)) = decide (n = 0 - t) := dec_V _ _
    refine ⟨_, rfl, _, rfl, _, _, rfl, rfl, rfl, _, rfl, ite2 (fun c => ?_) (fun c => ?_)⟩
    · have c1 : n ≠ 0 - t := by rw [dd] at c; simpa using c
      refine ⟨_, rfl, _, rfl, D, _, L, rfl, rfl, .inl (SqL.of e2), _, rfl, ite2 (fun z => ?_) (fun z => ?_)⟩
      · have z1 : ¬ n ∈ L := by simpa using z
        refine ⟨_, rfl, .inl ⟨rfl, _, SqL.of e2⟩, _, rfl, D, _, _, rfl, rfl, e2, ?_, _, _, L ++ [n], rfl, ?_, ?_, ?_, fun m => ?_, ?_⟩
        · rw [List.length_map]; exact small1000 (by omega)
        · exact fun b o hb => by rw [upd_ne (ne_of_none hb nD)]; exact s2 _ _ hb
        · rw [upd_same, List.map_append]; rfl
        · rw [List.nodup_append]
          exact ⟨nd, by simp, fun x hx y hy => by rw [List.mem_singleton] at hy; subst hy; exact fun e => z1 (e ▸ hx)⟩
        · rw [List.mem_append, List.mem_singleton, mem, htk, List.mem_append, List.mem_singleton]
          constructor
          · rintro ((h | h) | h)
            · exact .inl h
            · exact .inr ⟨.inl h.1, h.2⟩
            · exact .inr ⟨.inr h, by rw [h]; exact c1⟩
          · rintro (h | ⟨h | h, h'⟩)
            · exact .inl (.inl h)
            · exact .inl (.inr ⟨h, h'⟩)
            · exact .inr h
        · rw [List.length_append]; simp; omega
      · have z1 : n ∈ L := by simpa using z
        refine ⟨_, _, L, rfl, s2, e2, nd, fun m => ?_, by omega⟩
        rw [htk, List.mem_append, List.mem_singleton]
        constructor
        · intro h
          rcases (mem m).mp h with h | h
          · exact .inl h
          · exact .inr ⟨.inl h.1, h.2⟩
        · rintro (h | ⟨h | h, h'⟩)
          · exact (mem m).mpr (.inl h)
          · exact (mem m).mpr (.inr ⟨h, h'⟩)
          · rw [h]; exact z1
    · have c1 : n = 0 - t := by rw [dd] at c; simpa using c
      refine ⟨_, _, L, rfl, s2, e2, nd, fun m => ?_, by omega⟩
      rw [mem, htk, List.mem_append, List.mem_singleton]
      constructor
      · rintro (h | h)
        · exact .inl h
        · exact .inr ⟨.inl h.1, h.2⟩
      · rintro (h | ⟨h | h, h'⟩)
        · exact .inl h
        · exact .inr ⟨h, h'⟩
        · exact absurd (h.trans c1) h'
  rintro σ' H2 ⟨y4, y5, L, rfl, s2, e2, nd, mem, len⟩
  rw [List.length_map] at mem len
  rw [List.take_length] at mem
  have memL := met_left u1 u2 ht hmt mem
  -- both signs of a thing
  refine ⟨_, rfl, D, rfl, ⟨_, SqL.of e2⟩, fun D2 nD2 => lc_list (xs := L.map V.int) (fun i H' => Same H2 H' ∧ H' D2 = some (.lst (((L.take i).filter fun n => decide (0 - n ∈ L)).map V.int))) ⟨same_new nD2, upd_same⟩ (fun i H' _ h => SqL.of (h.1 _ _ e2)) ?_ ?_⟩
  · rintro i x H3 ex ⟨s3, e3⟩
    obtain ⟨n, rfl, hi, htk⟩ := at_int ex
    refine ⟨rfl, _, rfl, _, _, rfl, rfl, _, rfl, D, _, L, rfl, rfl, .inl (SqL.of (s3 _ _ e2)), _, rfl, ite2 (fun c => ?_) (fun c => ?_)⟩
    · refine ⟨_, rfl, _, e3, ?_, ?_, ?_⟩
      · rw [List.length_map]
        exact small1000 (Nat.le_trans (List.length_filter_le _ _) (by rw [List.length_take]; omega))
      · exact fun b o hb => by rw [upd_ne (ne_of_none hb nD2)]; exact s3 _ _ hb
      · have c' : decide (0 - n ∈ L) = true := c
        rw [upd_same, htk, List.filter_append, List.map_append, List.filter_cons, if_pos c']; rfl
    · have c' : ¬ decide (0 - n ∈ L) = true := c
      refine ⟨s3, ?_⟩
      rw [htk, List.filter_append, List.map_append, e3, List.filter_cons, if_neg c']; simp
  rintro H3 ⟨s3, e3⟩
  rw [List.length_map, List.take_length] at e3
  refine ⟨(by show 0 ≤ sizeLine; decide), fun l nl => ?_⟩
  have s4 : Same H3 (upd H3 l (.lst [])) := same_new nl
  refine ⟨.list ((L.filter fun n => decide (0 - n ∈ L)).map PyData.int), .list [], .lst (SqL.of (s4 _ _ e3)) (dpInts _), .lst (SqL.of upd_same) .nil, shInts _, shNil, _, rfl, ?_⟩
  rw [eqvNil]
  have e4 := s4 _ _ (s3 _ _ e2)
  have sA : Same H (upd H3 l (.lst [])) := s2.trans (s3.trans s4)
  generalize (upd H3 l (.lst [])) = HA at *
  refine ite2 (fun c => ?_) (fun c => ?_)
  · refine bad HA sA fun _ => (both_congr memL).mp ?_
    have c' : L.filter (fun n => decide (0 - n ∈ L)) ≠ [] := fun z => by rw [z] at c; exact absurd c (by decide)
    obtain ⟨n, hn⟩ := List.exists_mem_of_ne_nil _ c'
    rw [List.mem_filter] at hn
    have := of_decide_eq_true hn.2
    exact ⟨n, hn.1, by rw [Int.zero_sub] at this; exact this⟩
  have nb : ¬ Both L := by
    rintro ⟨n, h1, h2⟩
    apply c
    have : L.filter (fun n => decide (0 - n ∈ L)) ≠ [] := List.ne_nil_of_mem (List.mem_filter.mpr ⟨h1, decide_eq_true (by rw [Int.zero_sub]; exact h2)⟩)
    rw [decide_eq_false this]; rfl
  have dj : L.Pairwise fun a b => ab a ≠ ab b := by
    refine (nd.imp_of_mem ?_)
    intro x y hx hy hne e
    rw [ab_nat, ab_nat] at e
    rcases natAbs_eq (a := x) (b := y) (by omega) with z | z
    · exact hne z
    · exact nb ⟨y, hy, by rw [← z]; exact hx⟩
  exact srt_read (K := K) (m := 3) (i := 4) (j := 5) (D := D) (L := L) rfl (fun _ => rfl) (fun _ => rfl) (fun _ _ => rfl) (fun _ _ => rfl) e4 (by omega) dj fun r cs H' s r0 er cl =>
    q _ _ (some cs) (sA.trans s) (.inr ⟨t, cs, rfl, ht, t60, rfl, hmt, fun z => nb ((both_congr memL).mpr z), cl.congr memL⟩) (.inr ⟨r, cs, rfl, rfl, sA.free r0, er⟩)

end
end K06
namespace K06
open PySem PySem.Spec PyProof.Rows L2 KL
section
variable {P : Program} {w : World} {K : PySem.W.Frag} {mg : Str → Option Value} {base : Heap}
/-! ### rows -/
def spPick (K : PySem.W.Frag) : Sp := fun vs H Q _ => ∃ (a : Addr) (x : V) (d : PyData) (nss : List (List Int)), vs = [.ref a, x] ∧ ClsL K H a nss ∧ Dp K H x d ∧
  (∀ (c : Addr) (ns : List Int) (i : Int), d = .int i → 0 ≤ i → i < nss.length → nss[i.toNat]? = some ns → SqT K H c (ns.map V.int) → C30 ns → Q (.ref c) H) ∧ ((∀ i, d = .int i → ¬ (0 ≤ i ∧ i < nss.length)) → Q .non H)
theorem ok_pick {f : Addr} {fd : FuncData} {k : Nat} (F : Fun K "picked" "picked" s_picked f fd) (D_is_number : Df P w K mg base k "is_number" ["thing", "least", "most"] (spNum K)) (m_len : mg "len" = none) :
    FnOk P w K mg base CX0 (k + 1) f fd ["clauses", "number"] (spPick K) := by
  refine F.ok sc_picked (fun vs H Q E h => ?_) (fun cdv A outer s H vs Q E hr h => ?_)
  · obtain ⟨a, x, d, nss, rfl, _⟩ := h
    rfl
  obtain ⟨a, x, d, nss, rfl, hc, hd, q, qn⟩ := h
  refine ⟨_, (pss_one (ps_ret (pe_ifExp (pt_val (pe_df D_is_number hr (by rfl) (pa_cons (pv 1) (pa_cons pe_int (pa_cons (pe_op op_sub (pe_callB call_len_seq (by rfl) m_len (by decide +kernel) (pa_cons (pv 0) pa_nil)) pe_int) pa_nil))))) (pe_ix ix_list (pv 0) (pv 1) (fun _ _ => rfl)) pe_non))), ?_⟩
  obtain ⟨cs, hs, ht⟩ := hc.ex
  have hlen : (((cs.map V.ref).length : Nat) : Int) - 1 = (nss.length : Int) - 1 := by rw [List.length_map, ht.len]
  refine ⟨_, rfl, _, rfl, a, _, rfl, .inl hs, _, _, rfl, rfl, x, d, 0, _, rfl, hd, _, rfl, ?_⟩
  rw [hlen]
  cases d with
  | int i =>
    cases hd
    refine ite2 (fun c => ?_) (fun c => ?_)
    · have c' : 0 ≤ i ∧ i ≤ (nss.length : Int) - 1 := by simpa [numB] using c
      obtain ⟨c, ns, h1, h2, h3, h4⟩ := tups_ix ht c'.1 (by omega)
      exact ⟨_, rfl, _, rfl, a, _, i, .ref c, rfl, rfl, hs, h1, q c ns i rfl c'.1 (by omega) h3 h2 (hc.all ns h4)⟩
    · refine qn fun j e z => c ?_
      cases e
      have : 0 ≤ i ∧ i ≤ (nss.length : Int) - 1 := ⟨z.1, by omega⟩
      simpa [numB] using this
  | bool b => exact iteF (qn fun i e => nomatch e)
  | none => exact iteF (qn fun i e => nomatch e)
  | str _ => exact iteF (qn fun i e => nomatch e)
  | list _ => exact iteF (qn fun i e => nomatch e)
  | tuple _ => exact iteF (qn fun i e => nomatch e)
  | dict _ => exact iteF (qn fun i e => nomatch e)
def spMetC (K : PySem.W.Frag) : Sp := fun vs H Q _ => ∃ (b : Addr) (x1 x2 x3 : V) (d1 d2 d3 : PyData) (css : List (List Int)), vs = [.ref b, x1, x2, x3] ∧ ClsL K H b css ∧ Dp K H x1 d1 ∧ Dp K H x2 d2 ∧ Dp K H x3 d3 ∧
  (∀ (v : V) (H' : Hp) (i j : Int), Same H H' → d1 = .int i → d2 = .int j → 0 ≤ i → i < css.length → 0 ≤ j → j < css.length → RowV K H' (mtF (css.getD i.toNat []) (css.getD j.toNat []) d3) v → Q v H') ∧
  ((∀ i j, d1 = .int i → d2 = .int j → ¬ (0 ≤ i ∧ i < css.length ∧ 0 ≤ j ∧ j < css.length)) → Q .non H)
theorem ok_metc {f : Addr} {fd : FuncData} {k : Nat} (F : Fun K "met_clause" "met_clause" s_met_clause f fd) (D_picked : Df P w K mg base k "picked" ["clauses", "number"] (spPick K)) (D_meeting : Df P w K mg base k "meeting" ["one", "other", "thing"] (spMtg K)) :
    FnOk P w K mg base CX0 (k + 1) f fd ["ahead", "one", "other", "thing"] (spMetC K) := by
  refine F.ok sc_met_clause (fun vs H Q E h => ?_) (fun cdv A outer s H vs Q E hr h => ?_)
  · obtain ⟨b, x1, x2, x3, d1, d2, d3, css, rfl, _⟩ := h
    rfl
  obtain ⟨b, x1, x2, x3, d1, d2, d3, css, rfl, hc, hd1, hd2, hd3, q, qn⟩ := h
  refine ⟨_, (pss_cons (ps_set (i := 4) sc_met_clause.nd rfl (.inl rfl) (pe_df D_picked hr (by rfl) (pa_cons (pv 0) (pa_cons (pv 1) pa_nil))))
       (pss_cons (ps_set (i := 5) sc_met_clause.nd rfl (.inl rfl) (pe_df D_picked hr (by rfl) (pa_cons (pv 0) (pa_cons (pv 2) pa_nil))))
       (pss_cons (ps_if (PW.pt (pw_or (pt_cmpR op_isN (pv 4) pe_non (nomark _)) (pw_or1 (pt_cmpR op_isN (pv 5) pe_non (nomark _)))))
       (pss_one (ps_ret pe_non))
       pss_nil)
       (pss_one (ps_ret (pe_df D_meeting hr (by rfl) (pa_cons (pv 4) (pa_cons (pv 5) (pa_cons (pv 3) pa_nil))))))))), ?_⟩
  refine ⟨_, rfl, _, rfl, b, x1, d1, css, rfl, hc, hd1, fun c1 ns1 i e1 i0 i1 g1 t1 k1 => ?_, fun z1 => ?_⟩
  · refine ⟨_, rfl, _, rfl, b, x2, d2, css, rfl, hc, hd2, fun c2 ns2 j e2 j0 j1 g2 t2 k2 => ?_, fun z2 => ?_⟩
    · refine ⟨_, rfl, rfl, _, rfl, iteF ⟨_, rfl, rfl, _, rfl, iteF ?_⟩⟩
      have l1 := k1.len
      have l2 := k2.len
      refine ⟨_, rfl, _, rfl, _, rfl, c1, c2, x3, d3, ns1, ns2, rfl, t1, t2, hd3, by omega, fun n hn => (k1.app k2 n hn).1, fun v H' r s1 im ot => ?_⟩
      have m : mtF (css.getD i.toNat []) (css.getD j.toNat []) d3 = r := by
        rw [List.getD_eq_getElem?_getD, List.getD_eq_getElem?_getD, g1, g2]
        exact mtF_is im
      refine q v H' i j s1 e1 e2 i0 i1 j0 j1 ?_
      rw [m]
      rcases ot with ⟨rfl, rfl⟩ | ⟨p, cs, rfl, rfl, _, ep⟩
      · exact .inl ⟨rfl, rfl⟩
      · exact .inr ⟨p, cs, rfl, rfl, SqT.of ep, k1.met k2 im⟩
    · refine ⟨_, rfl, rfl, _, rfl, iteF ⟨_, rfl, rfl, _, rfl, iteT ?_⟩⟩
      exact qn fun i' j' e1' e2' z => z2 j' e2' ⟨z.2.2.1, z.2.2.2⟩
  · refine ⟨_, rfl, _, rfl, b, x2, d2, css, rfl, hc, hd2, fun c2 ns2 j e2 j0 j1 g2 t2 k2 => ?_, fun z2 => ?_⟩
    · exact ⟨_, rfl, rfl, _, rfl, iteT (qn fun i' j' e1' e2' z => z1 i' e1' ⟨z.1, z.2.1⟩)⟩
    · exact ⟨_, rfl, rfl, _, rfl, iteT (qn fun i' j' e1' e2' z => z1 i' e1' ⟨z.1, z.2.1⟩)⟩
def spRowC (K : PySem.W.Frag) : Sp := fun vs H Q _ => ∃ (a b : Addr) (x : V) (d : PyData) (nss css : List (List Int)), vs = [.ref a, .ref b, x] ∧ ClsL K H a nss ∧ ClsL K H b css ∧ Dp K H x d ∧ ∀ (v : V) (H' : Hp), Same H H' → RowV K H' (rowF nss css d) v → Q v H'
theorem ok_rowc {f : Addr} {fd : FuncData} {k : Nat} (F : Fun K "row_clause" "row_clause" s_row_clause f fd) (D_picked : Df P w K mg base k "picked" ["clauses", "number"] (spPick K)) (D_met_clause : Df P w K mg base k "met_clause" ["ahead", "one", "other", "thing"] (spMetC K))
    (m_isinstance : mg "isinstance" = none) (m_tuple : mg "tuple" = none) (m_str : mg "str" = none) (m_len : mg "len" = none) : FnOk P w K mg base CX0 (k + 1) f fd ["clauses", "ahead", "row"] (spRowC K) := by
  refine F.ok sc_row_clause (fun vs H Q E h => ?_) (fun cdv A outer s H vs Q E hr h => ?_)
  · obtain ⟨a, b, x, d, nss, css, rfl, _⟩ := h
    rfl
  obtain ⟨a, b, x, d, nss, css, rfl, ha, hb, hd, q⟩ := h
  refine ⟨_, (pss_cons (ps_if (PW.pt (pw_or (pt_not (pt_val (pe_callB call_isi (by rfl) m_isinstance (by decide +kernel) (pa_cons (pv 2) (pa_cons (pe_bltn (v := .ty "tuple") (by rfl) m_tuple (by decide +kernel) rfl) pa_nil))))) (pw_or (pt_not (pt_truth (pv 2) (by intro _; rfl))) (pw_or1 (pt_not (pt_val (pe_callB call_isi (by rfl) m_isinstance (by decide +kernel) (pa_cons (pe_ix ix_tup (pv 2) pe_int (fun _ _ => rfl)) (pa_cons (pe_bltn (v := .ty "str") (by rfl) m_str (by decide +kernel) rfl) pa_nil)))))))))
       (pss_one (ps_ret pe_non))
       pss_nil)
       (pss_cons (ps_if (PW.pt (pw_and (pt_cmpR op_eq (pe_ix ix_tup (pv 2) pe_int (fun _ _ => rfl)) pe_str (nomark _)) (pw_and1 (pt_cmpR op_eq (pe_callB call_len_seq (by rfl) m_len (by decide +kernel) (pa_cons (pv 2) pa_nil)) pe_int (nomark _)))))
       (pss_one (ps_ret (pe_df D_picked hr (by rfl) (pa_cons (pv 0) (pa_cons (pe_ix ix_tup (pv 2) pe_int (fun _ _ => rfl)) pa_nil)))))
       pss_nil)
       (pss_cons (ps_if (PW.pt (pw_and (pt_cmpR op_eq (pe_ix ix_tup (pv 2) pe_int (fun _ _ => rfl)) pe_str (nomark _)) (pw_and1 (pt_cmpR op_eq (pe_callB call_len_seq (by rfl) m_len (by decide +kernel) (pa_cons (pv 2) pa_nil)) pe_int (nomark _)))))
       (pss_one (ps_ret (pe_df D_met_clause hr (by rfl) (pa_cons (pv 1) (pa_cons (pe_ix ix_tup (pv 2) pe_int (fun _ _ => rfl)) (pa_cons (pe_ix ix_tup (pv 2) pe_int (fun _ _ => rfl)) (pa_cons (pe_ix ix_tup (pv 2) pe_int (fun _ _ => rfl)) pa_nil)))))))
       pss_nil)
       (pss_one (ps_ret pe_non))))), ?_⟩
  have bad : rowF nss css d = none → Q .non H := fun e => q _ _ (Same.refl H) (.inl ⟨e, rfl⟩)
  refine ⟨_, rfl, _, _, _, _, _, rfl, .ty _, dpTy hd, kit_ty (kit_tuple d), _, rfl, ?_⟩
  cases d with
  | tuple es =>
    refine iteF ?_
    cases hd with
    | @tup t xs _ hx hall =>
    cases hall with
    | nil => exact ⟨_, rfl, _, .inr (.inl ⟨_, hx, rfl⟩), iteT (bad (rowF_none (fun _ _ e => nomatch e) (fun _ _ _ _ e => nomatch e)))⟩
    | @cons x0 xr e0 er h0 hr' =>
      refine ⟨_, rfl, _, .inr (.inl ⟨_, hx, rfl⟩), iteF ?_⟩
      refine ⟨_, rfl, t, _, 0, x0, rfl, rfl, hx, at0, _, _, _, _, _, rfl, .ty _, dpTy h0, kit_ty (kit_str e0), _, rfl, ?_⟩
      have no0 : (∀ s, e0 ≠ .str s) → rowF nss css (.tuple (e0 :: er)) = none := fun z => rowF_none (fun s i e => by cases e; exact z s rfl) (fun s i j e' e => by cases e; exact z s rfl)
      cases e0 with
      | str s0 =>
        cases h0
        refine iteF ?_
        refine ⟨_, rfl, t, _, 0, _, rfl, rfl, hx, at0, rfl, _, rfl, ite2 (fun z1 => ?_) (fun z1 => ?_)⟩
        · have es : s0 = "told" := V.str.inj (of_decide_eq_true z1)
          subst es
          refine ⟨_, rfl, t, _, rfl, .inr hx, rfl, _, rfl, ite2 (fun z2 => ?_) (fun z2 => ?_)⟩
          · have l2 : xr.length = 1 := by
              have := V.int.inj (of_decide_eq_true z2)
              rw [List.length_cons] at this; omega
            obtain ⟨x1, e1, rfl, rfl, h1⟩ := dp_one hr' l2
            refine ⟨_, rfl, _, rfl, t, _, 1, x1, rfl, rfl, hx, rfl, a, x1, e1, nss, rfl, ha, h1, fun c ns i e i0 i1 g tt kk => q _ _ (Same.refl H) (.inr ⟨c, ns, by rw [e, rowF_told i0, g], rfl, tt, kk⟩), fun z => bad ?_⟩
            cases e1 with
            | int i =>
              by_cases h : 0 ≤ i
              · rw [rowF_told h]
                refine List.getElem?_eq_none ?_
                have := z i rfl
                omega
              · exact rowF_two fun y => h y.2
            | _ => exact rowF_none (fun _ _ e => nomatch e) (fun _ _ _ _ e => nomatch e)
          · have nl : xr.length ≠ 1 := fun z => z2 (decide_eq_true (by rw [List.length_cons, z]; rfl))
            refine ⟨_, rfl, t, _, 0, _, rfl, rfl, hx, at0, rfl, _, rfl, ite2 (fun z => absurd z (by decide)) (fun _ => bad ?_)⟩
            have ln := dpA_len hr'
            by_cases hh : ∃ i j e, er = [.int i, .int j, e]
            · obtain ⟨i, j, e, rfl⟩ := hh
              exact rowF_four fun y => absurd y.1 (by decide)
            · exact rowF_none (fun s i e => by cases e; exact nl ln) (fun s i j e' e => by cases e; exact hh ⟨_, _, _, rfl⟩)
        · have ns : s0 ≠ "told" := fun e => z1 (decide_eq_true (by rw [e]))
          have no2 : (∀ i j e, er ≠ [.int i, .int j, e]) → rowF nss css (.tuple (.str s0 :: er)) = none := fun z => by
            by_cases h2 : ∃ i, er = [.int i]
            · obtain ⟨i, rfl⟩ := h2
              exact rowF_two fun y => ns y.1
            · exact rowF_none (fun s i e => by cases e; exact h2 ⟨i, rfl⟩) (fun s i j e' e => by cases e; exact z i j e' rfl)
          refine ⟨_, rfl, t, _, 0, _, rfl, rfl, hx, at0, rfl, _, rfl, ite2 (fun z2 => ?_) (fun z2 => ?_)⟩
          · have es : s0 = "met" := V.str.inj (of_decide_eq_true z2)
            subst es
            refine ⟨_, rfl, t, _, rfl, .inr hx, rfl, _, rfl, ite2 (fun z3 => ?_) (fun z3 => ?_)⟩
            · have l3 : xr.length = 3 := by
                have := V.int.inj (of_decide_eq_true z3)
                rw [List.length_cons] at this; omega
              obtain ⟨x1, x2, x3, e1, e2, e3, rfl, rfl, h1, h2, h3⟩ := dp_three hr' l3
              refine ⟨_, rfl, _, rfl, t, _, 1, x1, rfl, rfl, hx, rfl, _, rfl, t, _, 2, x2, rfl, rfl, hx, rfl, _, rfl, t, _, 3, x3, rfl, rfl, hx, rfl, b, x1, x2, x3, e1, e2, e3, css, rfl, hb, h1, h2, h3, fun v H' i j s1 d1 d2 i0 i1 j0 j1 rv => ?_, fun z => ?_⟩
              · subst d1 d2
                exact q v H' s1 (by rw [rowF_met i0 i1 j0 j1]; exact rv)
              · refine bad ?_
                by_cases hh : ∃ i j, e1 = .int i ∧ e2 = .int j
                · obtain ⟨i, j, rfl, rfl⟩ := hh
                  exact rowF_four fun y => z i j rfl rfl y.2
                · exact no2 fun i j e y => by cases y; exact hh ⟨i, j, rfl, rfl⟩
            · refine bad (no2 fun i j e y => ?_)
              have ln := dpA_len hr'
              rw [y] at ln
              exact z3 (decide_eq_true (by rw [List.length_cons, ln]; rfl))
          · refine bad ?_
            by_cases hh : ∃ i j e, er = [.int i, .int j, e]
            · obtain ⟨i, j, e, rfl⟩ := hh
              exact rowF_four fun y => z2 (decide_eq_true (by rw [y.1]))
            · exact no2 fun i j e y => hh ⟨i, j, e, y⟩
      | _ => exact iteT (bad (no0 fun s e => nomatch e))
  | int i => exact iteT (bad (rowF_none (fun _ _ e => nomatch e) (fun _ _ _ _ e => nomatch e)))
  | bool b => exact iteT (bad (rowF_none (fun _ _ e => nomatch e) (fun _ _ _ _ e => nomatch e)))
  | none => exact iteT (bad (rowF_none (fun _ _ e => nomatch e) (fun _ _ _ _ e => nomatch e)))
  | str _ => exact iteT (bad (rowF_none (fun _ _ e => nomatch e) (fun _ _ _ _ e => nomatch e)))
  | list _ => exact iteT (bad (rowF_none (fun _ _ e => nomatch e) (fun _ _ _ _ e => nomatch e)))
  | dict _ => exact iteT (bad (rowF_none (fun _ _ e => nomatch e) (fun _ _ _ _ e => nomatch e)))

def spRowsC (C : Addr) (K : PySem.W.Frag) : Sp := fun vs H Q E => ∃ (a : Addr) (x : V) (d : PyData) (nss : List (List Int)), vs = [.ref a, x] ∧ ClsL K H a nss ∧ RowX K H x d ∧
  (∀ (l : Addr) (H' : Hp) (css : List (List Int)) (ts : List Addr), Same H H' → allF nss d = .inr css → H l = none → H' l = some (.lst (ts.map V.ref)) → TupsI K H' ts css → (∀ c ∈ css, C30 c) → css.length ≤ 900 → Q (.ref l) H') ∧
  (∀ (H' : Hp) (dd : Addr) (n : Option Nat), Same H H' → allF nss d = .inl n → (∀ k, n = some k → k ≤ 1000) → H dd = none → H' dd = some (.xd [("number", numV n)]) → E (.ref C) (some dd) H')
theorem ok_rowsc {f C : Addr} {fd : FuncData} {k : Nat} (F : Fun K "row_clauses" "row_clauses" s_row_clauses f fd) (D_row_clause : Df P w K mg base (k + 1) "row_clause" ["clauses", "ahead", "row"] (spRowC K)) (E_NoRows : Er1 P w K mg base k "NoRows" "number" C)
    (m_isinstance : mg "isinstance" = none) (m_list : mg "list" = none) (m_len : mg "len" = none) (m_enumerate : mg "enumerate" = none) : FnOk P w K mg base (L2.CX P w) (k + 2) f fd ["clauses", "rows"] (spRowsC C K) := by
  refine F.okX sc_row_clauses (fun vs H Q E h => ?_) (fun cdv A outer s H vs Q E hr h => ?_)
  · obtain ⟨a, x, d, nss, rfl, _⟩ := h
    rfl
  obtain ⟨a, x, d, nss, rfl, ha, hx, q, qx⟩ := h
  refine ⟨_, (pss_cons (ps_if (PW.pt (pw_or (pt_not (pt_val (pe_callB call_isi (by rfl) m_isinstance (by decide +kernel) (pa_cons (pv 1) (pa_cons (pe_bltn (v := .ty "list") (by rfl) m_list (by decide +kernel) rfl) pa_nil))))) (pw_or1 (pt_cmpR op_eq (pe_callB call_len_seq (by rfl) m_len (by decide +kernel) (pa_cons (pv 1) pa_nil)) pe_int (nomark _)))))
       (pss_one (ps_raise1 E_NoRows rfl hr (takes_of rfl rfl rfl rfl) (by rfl) (pa_cons pe_non pa_nil)))
       pss_nil)
       (pss_cons (ps_set (i := 2) sc_row_clauses.nd rfl (.inl rfl) (pe_lst pa_nil))
       (pss_cons (ps_for (passes_of rfl) rfl (pi_enum (by rfl) m_enumerate (pa_cons (pv 1) pa_nil)) (pg_tup rfl (pgs_cons (pg_name (i := 3) sc_row_clauses.nd rfl (.inl rfl)) (pgs_cons (pg_name (i := 4) sc_row_clauses.nd rfl (.inl rfl)) pgs_nil)))
       (pss_cons (ps_set (i := 5) sc_row_clauses.nd rfl (.inl rfl) (pe_df D_row_clause hr (by rfl) (pa_cons (pv 0) (pa_cons (pv 2) (pa_cons (pv 4) pa_nil)))))
       (pss_cons (ps_if (pt_cmpR op_isN (pv 5) pe_non (nomark _))
       (pss_one (ps_raise1 E_NoRows rfl hr (takes_of rfl rfl rfl rfl) (by rfl) (pa_cons (pv 3) pa_nil)))
       pss_nil)
       (pss_one (ps_expr (pe_bm PySem.F.plainAttrs_list PySem.F.slot_list_append PySem.F.type_list_append mt_append (pv 2) (pa_cons (pv 5) pa_nil)))))))
       (pss_one (ps_ret (pv 2)))))), ?_⟩
  obtain ⟨ty, hty, hk⟩ := hx.ty
  refine ⟨_, rfl, _, _, _, _, _, rfl, .ty _, hty, kit_ty hk, _, rfl, ?_⟩
  have bad : allF nss d = .inl none → tMk1 C "number" (tCons (tC V.non) tNil) (L2.start ["clauses", "rows", "told", "number", "row", "clause"] [V.ref a, x]) H fun cls d H' => E cls d H' := fun z =>
    ⟨_, rfl, fun dd nd => qx _ dd none (same_new nd) z (fun k e => nomatch e) nd upd_same⟩
  cases d with
  | list ds =>
    refine iteF ?_
    rcases hx with ⟨hd, hsh, hln⟩ | ⟨_, _, _, _, z⟩
    · cases hd with
      | @lst t xs _ hs hall =>
      have l9 := hln ds rfl
      have lxd := dpA_len hall
      refine ⟨_, rfl, t, _, rfl, .inl hs, rfl, _, rfl, ite2 (fun z => ?_) (fun z => ?_)⟩
      · have e0 : xs.length = 0 := by
          have := V.int.inj (of_decide_eq_true z); omega
        have e1 : ds = [] := List.length_eq_zero_iff.mp (by omega)
        subst e1
        exact bad rfl
      have ne : ds ≠ [] := fun e => z (decide_eq_true (by rw [lxd, e]; rfl))
      refine ⟨(by show 0 ≤ sizeLine; decide), fun o no => ?_⟩
      refine ⟨_, rfl, t, xs, rfl, (same_new no).seq hs, for_it (walk_enum (K := K) (a := t) (xs := xs)) (fun i σ' H' => ∃ (css : List (List Int)) (ts : List Addr) (y3 y4 y5 : Option V), σ' = [some (.ref a), some (.ref t), some (.ref o), y3, y4, y5] ∧ Same H H' ∧ H' o = some (.lst (ts.map V.ref)) ∧ TupsI K H' ts css ∧ css.length = i ∧ (∀ c ∈ css, C30 c) ∧ rowsF nss [] ds = rowsF nss css (ds.drop i)) ?_ ?_ ?_ ?_⟩
      · exact ⟨[], [], _, _, _, rfl, same_new no, upd_same, .nil, rfl, (fun c hc => nomatch hc), rfl⟩
      · rintro i σ' H' _ ⟨css, ts, y3, y4, y5, rfl, s1, _⟩
        exact s1.seq hs
      · rintro i x' σ' H1 H2 hi ⟨css, ts, y3, y4, y5, rfl, s1, eo, tt, hl, hall30, heq⟩ ⟨T, u, v, rfl, nT, rfl, hu, hv⟩
        cases hu
        obtain ⟨dv, hdv1, hdv2, hdv3⟩ := dpA_at hall hv
        have s2 : Same H1 (upd H1 T (.tup [.int (i : Nat), v])) := same_new nT
        have eT : (upd H1 T (.tup [.int (i : Nat), v])) T = some (.tup [.int (i : Nat), v]) := upd_same
        generalize (upd H1 T (.tup [.int (i : Nat), v])) = H2 at *
        have s12 := s1.trans s2
        refine ⟨T, _, rfl, SqT.of eT, rfl, _, _, rfl, _, _, rfl, rfl, ?_⟩
        have eo2 := s2 _ _ eo
        refine ⟨_, rfl, _, rfl, _, rfl, a, o, v, dv, nss, css, rfl, ha.same s12, ⟨⟨ts, SqL.of eo2, tt.same s2⟩, hall30, by omega⟩, dpSame hdv2 s12, fun w H3 s3 rv => ?_⟩
        rcases rv with ⟨rn, rfl⟩ | ⟨p, c, rs, rfl, hp, c30⟩
        · refine ⟨_, rfl, rfl, _, rfl, iteT ?_⟩
          refine ⟨_, rfl, _, rfl, fun dd nd => ?_⟩
          have s13 := s12.trans s3
          refine qx _ dd (some i) (s13.trans (same_new nd)) ?_ (fun k e => by cases e; omega) (s13.free nd) upd_same
          rw [allF_of ne, rowsF_stop heq hdv3 rn, hl]
        · refine ⟨_, rfl, rfl, _, rfl, iteF ?_⟩
          have eo3 := s3 _ _ eo2
          refine ⟨_, rfl, .inl ⟨rfl, _, SqL.of eo3⟩, _, rfl, o, _, _, rfl, rfl, eo3, ?_, css ++ [c], ts ++ [p], _, _, _, rfl, ?_, ?_, ?_, ?_, ?_, ?_⟩
          · rw [List.length_map, tt.len, hl]; exact small1000 (by omega)
          · exact fun b ob hb => by rw [upd_ne (ne_of_none hb no)]; exact s3 _ _ (s12 _ _ hb)
          · rw [upd_same, List.map_append]; rfl
          · exact (((tt.same s2).same s3).snoc hp).lst eo3
          · rw [List.length_append, hl]; rfl
          · intro c' hc'
            rcases List.mem_append.mp hc' with h | h
            · exact hall30 c' h
            · rw [List.mem_singleton] at h; rw [h]; exact c30
          · exact rowsF_step heq hdv3 rs
      · rintro σ' H1 ⟨css, ts, y3, y4, y5, rfl, s1, eo, tt, hl, hall30, heq⟩
        refine ⟨_, rfl, q o H1 css ts s1 ?_ no eo tt hall30 (by omega)⟩
        rw [allF_of ne, rowsF_end heq lxd]
    · cases z
  | int i => exact iteT (bad rfl)
  | bool b => exact iteT (bad rfl)
  | none => exact iteT (bad rfl)
  | str _ => exact iteT (bad rfl)
  | tuple _ => exact iteT (bad rfl)
  | dict _ => exact iteT (bad rfl)

/-! ### lets_rows -/
def spLets (K : PySem.W.Frag) : Sp := fun vs H Q _ => ∃ (a b : Addr) (x : V) (d : PyData) (nss : List (List Int)) (es : List Int), vs = [.ref a, x, .ref b] ∧ ClsL K H a nss ∧ RowX K H x d ∧ SqT K H b (es.map V.int) ∧ ∀ H', Same H H' → Q (.bl (letsF nss d es)) H'
theorem ok_lets {f C_NoRows : Addr} {fd : FuncData} {k : Nat} {kws : List (Str × V)} (F : FunD K "lets_rows" "lets_rows" (defArgs s_lets_rows) (defBody s_lets_rows) (defScope s_lets_rows) [] kws f fd) (D_row_clauses : Dx P w K mg base k "row_clauses" ["clauses", "rows"] (spRowsC C_NoRows K)) (D_within : Df P w K mg base k "within" ["one", "other"] (spWithin K))
    (g_NoRows : mg "NoRows" = some (.ref C_NoRows)) (x1 : PySem.W.exmOne K (.ref C_NoRows) (.ref C_NoRows) = some true) : FnOk P w K mg base CX0 (k + 1) f fd ["clauses", "rows", "end"] (spLets K) := by
  refine F.ok sc_lets_rows (fun vs H Q E h => ?_) (fun cdv A outer s H vs Q E hr h => ?_)
  · obtain ⟨a, b, x, d, nss, es, rfl, _⟩ := h
    rfl
  obtain ⟨a, b, x, d, nss, es, rfl, ha, hx, hb, q⟩ := h
  refine ⟨_, (pss_cons (ps_try_only rfl rfl ⟨by rfl, by decide, .inl g_NoRows⟩ L2.takes0
       (fun W pn xe tk _ => (pss_one (ps_set (i := 3) sc_lets_rows.nd rfl (.inl rfl) (pe_dx D_row_clauses hr (by rfl) (fun σ => passAt tk σ) (pa_cons (pv 0) (pa_cons (pv 1) pa_nil))))))
       (fun a oe cls d pn hz hf => (pss_one (ps_ret pe_bl))))
       (pss_one (ps_ret (pe_df D_within hr (by rfl) (pa_cons (pe_ix ix_list (pv 3) (pe_un un_neg pe_int) (fun _ _ => rfl)) (pa_cons (pv 2) pa_nil)))))), ?_⟩
  refine ⟨_, rfl, _, rfl, a, x, d, nss, rfl, ha, hx, fun l H1 css ts s1 ea nl el tt h30 len => ?_, fun H1 dd n s1 ea hn nd ed => ?_⟩
  · obtain ⟨c, ns, g1, g2, g3, g4⟩ := tt.last (allF_ne ea)
    have c30 := (h30 ns g4).len
    refine ⟨_, rfl, _, rfl, l, _, -1, .ref c, rfl, rfl, SqL.of el, g1, _, rfl, c, b, ns, es, rfl, g3, same_tup s1 hb, by omega, fun H2 s2 => ?_⟩
    have := q H2 (s1.trans s2)
    rw [letsF_of ea g2] at this
    exact this
  · refine ⟨true, x1, fun _ e ne => ?_, fun z => nomatch z⟩
    have := q H1 s1
    rw [letsF_no ea] at this
    exact this

end
end K06
namespace K06
open PySem PySem.Spec PyProof.Rows L2 KL
section
variable {P : Program} {w : World} {K : PySem.W.Frag} {mg : Str → Option Value} {base : Heap}
/-! ### drawn rows -/
def spDrawn (K : PySem.W.Frag) : Sp := fun vs H Q _ => ∃ (p a : Addr) (nss : List (List Int)), vs = [.ref p, .ref a] ∧ Pl H p ∧ ClsL K (hid p H) a nss ∧ 1 ≤ nss.length ∧
  ∀ (r : Addr) (ts : List Addr) (H' : Hp), Kp p H H' → Pl H' p → H r = none → H' r = some (.lst (ts.map V.ref)) → (∀ t ∈ ts, Rw H' t) → 1 ≤ ts.length → ts.length ≤ 12 → Q (.ref r) H'
theorem ok_drawn {f : Addr} {fd : FuncData} {k : Nat} (F : Fun K "_law_drawn_rows" "_law_drawn_rows" s_law_drawn_rows f fd) (D_law_take : Df P w K mg base k "_law_take" ["_law_pool_here", "_law_many"] (spTake K)) (D_law_meet : Df P w K mg base k "_law_meet" ["_law_one", "_law_other", "_law_thing"] (spLMeet K))
    (m_range : mg "range" = none) (m_len : mg "len" = none) : FnOk P w K mg base CX0 (k + 1) f fd ["_law_pool_here", "_law_clauses"] (spDrawn K) := by
  refine F.ok sc_law_drawn_rows (fun vs H Q E h => ?_) (fun cdv A outer s H vs Q E hr h => ?_)
  · obtain ⟨p, a, nss, rfl, _⟩ := h
    rfl
  obtain ⟨p, a, nss, rfl, hp, hc, h1, q⟩ := h
  refine ⟨_, (pss_cons (ps_set (i := 2) sc_law_drawn_rows.nd rfl (.inl rfl) (pe_lst pa_nil))
       (pss_cons (ps_set (i := 3) sc_law_drawn_rows.nd rfl (.inr rfl) (pe_lst pa_nil))
       (pss_cons (ps_for PassesOwn.never rfl (pi_range1 (by rfl) m_range (pa_cons (pe_op op_add pe_int (pe_df D_law_take hr (by rfl) (pa_cons (pv 0) (pa_cons pe_int pa_nil)))) pa_nil)) (pg_name (i := 4) sc_law_drawn_rows.nd rfl (.inl rfl))
       (pss_cons (ps_set (i := 5) sc_law_drawn_rows.nd rfl (.inl rfl) (pe_tup (pa_cons pe_str (pa_cons (pe_df D_law_take hr (by rfl) (pa_cons (pv 0) (pa_cons (pe_callB call_len_seq (by rfl) m_len (by decide +kernel) (pa_cons (pv 1) pa_nil)) pa_nil))) pa_nil))))
       (pss_cons (ps_set (i := 6) sc_law_drawn_rows.nd rfl (.inl rfl) (pe_ix ix_list (pv 1) (pe_ix ix_tup (pv 5) pe_int (fun _ _ => rfl)) (fun _ _ => rfl)))
       (pss_cons (ps_for PassesOwn.never rfl (pi_range1 (by rfl) m_range (pa_cons pe_int pa_nil)) (pg_name (i := 7) sc_law_drawn_rows.nd rfl (.inl rfl))
       (pss_one (ps_if (pt_cmpR (op_neD hr.units) (pv 3) (pe_lst pa_nil) (nomark _))
       (pss_cons (ps_set (i := 8) sc_law_drawn_rows.nd rfl (.inr rfl) (pe_df D_law_take hr (by rfl) (pa_cons (pv 0) (pa_cons (pe_callB call_len_seq (by rfl) m_len (by decide +kernel) (pa_cons (pv 3) pa_nil)) pa_nil))))
       (pss_cons (ps_set (i := 9) sc_law_drawn_rows.nd rfl (.inr rfl) (pe_df D_law_take hr (by rfl) (pa_cons (pv 0) (pa_cons (pe_callB call_len_seq (by rfl) m_len (by decide +kernel) (pa_cons (pv 3) pa_nil)) pa_nil))))
       (pss_cons (ps_setLc (i := 10) (own := [("_law_sign_here", 11)]) (g := gName 11) rfl sc_law_drawn_rows.nd rfl rfl (sw_true rfl rfl rfl (by decide +kernel)) (pi_tup (pe_ix ix_list (pv 3) (pv 8) (fun _ _ => rfl))) (blkOk_by (by kernel_rfl)) (fun _ _ _ _ _ => (pg_name (i := 11) sc_law_drawn_rows.nd rfl (.inl rfl))) (fun _ _ _ _ _ => (pts_one (PW.pt (pw_and (pt_cmpR op_gt (pv 11) pe_int (nomark _)) (pw_and1 (pt_cmpR (op_inI' (K := K) rfl) (pe_op op_sub pe_int (pv 11)) (pe_ix (ix_list' (K := K) rfl) (pv 3) (pv 9) (fun _ _ => rfl)) rfl)))))) (fun _ _ _ _ _ => (pv 11)))
       (pss_cons (ps_setLc (i := 10) (own := [("_law_sign_here", 11)]) (g := gName 11) rfl sc_law_drawn_rows.nd rfl rfl (sw_true rfl rfl rfl (by decide +kernel)) (pi_list (pv 10)) (blkOk_by (by kernel_rfl)) (fun _ _ _ _ _ => (pg_name (i := 11) sc_law_drawn_rows.nd rfl (.inl rfl))) (fun _ _ _ _ _ => (pts_one (pt_cmpR op_notN (pe_df D_law_meet hr (by rfl) (pa_cons (pe_ix (ix_list' (K := K) rfl) (pv 3) (pv 8) (fun _ _ => rfl)) (pa_cons (pe_ix (ix_list' (K := K) rfl) (pv 3) (pv 9) (fun _ _ => rfl)) (pa_cons (pv 11) pa_nil)))) pe_non (nomark _)))) (fun _ _ _ _ _ => (pv 11)))
       (pss_one (ps_if (pt_cmpR (op_neD hr.units) (pv 10) (pe_lst pa_nil) (nomark _))
       (pss_cons (ps_set (i := 5) sc_law_drawn_rows.nd rfl (.inl rfl) (pe_tup (pa_cons pe_str (pa_cons (pv 8) (pa_cons (pv 9) (pa_cons (pe_ix ix_list (pv 10) (pe_df D_law_take hr (by rfl) (pa_cons (pv 0) (pa_cons (pe_callB call_len_seq (by rfl) m_len (by decide +kernel) (pa_cons (pv 10) pa_nil)) pa_nil))) (fun _ _ => rfl)) pa_nil))))))
       (pss_one (ps_set (i := 6) sc_law_drawn_rows.nd rfl (.inl rfl) (pe_df D_law_meet hr (by rfl) (pa_cons (pe_ix ix_list (pv 3) (pv 8) (fun _ _ => rfl)) (pa_cons (pe_ix ix_list (pv 3) (pv 9) (fun _ _ => rfl)) (pa_cons (pe_ix ix_tup (pv 5) pe_int (fun _ _ => rfl)) pa_nil)))))))
       pss_nil))))))
       pss_nil)))
       (pss_cons (ps_expr (pe_bm PySem.F.plainAttrs_list PySem.F.slot_list_append PySem.F.type_list_append mt_append (pv 2) (pa_cons (pv 5) pa_nil)))
       (pss_one (ps_expr (pe_bm PySem.F.plainAttrs_list PySem.F.slot_list_append PySem.F.type_list_append mt_append (pv 3) (pa_cons (pv 6) pa_nil)))))))))
       (pss_one (ps_ret (pv 2)))))), ?_⟩
  refine ⟨(by show 0 ≤ sizeLine; decide), fun o no => ?_⟩
  have sO : Same H (upd H o (.lst [])) := same_new no
  have eo0 : (upd H o (.lst [])) o = some (.lst []) := upd_same
  refine ⟨(by show 0 ≤ sizeLine; decide), fun so nso => ?_⟩
  generalize (upd H o (.lst [])) = HO at *
  have sS : Same HO (upd HO so (.lst [])) := same_new nso
  have es0 : (upd HO so (.lst [])) so = some (.lst []) := upd_same
  have nsoH := sO.free nso
  generalize (upd HO so (.lst [])) = HS at *
  have hop : o ≠ p := fun z => hp.at (z ▸ no)
  have hsp : so ≠ p := fun z => hp.at (z ▸ nsoH)
  have hoso : o ≠ so := fun z => by rw [z] at eo0; rw [eo0] at nso; cases nso
  have sHS := sO.trans sS
  refine ⟨_, rfl, p, 12, rfl, hp.same sHS, by omega, by omega, fun d H1 k1 hp1 d0 d12 => ⟨_, _, rfl, rfl, _, rfl, by omega, by omega, for_range (lo := 0) (fun i σ' H' => ∃ (ts cs : List Addr) (css : List (List Int)) (y4 y5 y6 y7 y8 y9 y10 y11 : Option V), σ' = [some (.ref p), some (.ref a), some (.ref o), some (.ref so), y4, y5, y6, y7, y8, y9, y10, y11] ∧ Kp p H H' ∧ Pl H' p ∧ H' o = some (.lst (ts.map V.ref)) ∧ (∀ t ∈ ts, Rw H' t) ∧ ts.length = i ∧ H' so = some (.lst (cs.map V.ref)) ∧ TupsI K H' cs css ∧ css.length = i ∧ ∀ c ∈ css, C30 c) ?_ ?_ ?_⟩⟩
  · exact ⟨[], [], [], _, _, _, _, _, _, _, _, rfl, (Kp.of sHS).trans k1, hp1, k1 _ _ hop (sS _ _ eo0), (fun t ht => nomatch ht), rfl, k1 _ _ hsp es0, .nil, rfl, fun c hc => nomatch hc⟩
  · rintro i σ' H2 hi ⟨ts, cs, css, y4, y5, y6, y7, y8, y9, y10, y11, rfl, k2, hp2, eo, hts, lts, es, tcs, lcs, c30⟩
    have hi12 : i < 12 := by omega
    have hc2 := k2.cls hc
    obtain ⟨cl, hcl, htl⟩ := hc2.ex
    -- a row told
    refine ⟨_, rfl, _, rfl, a, _, rfl, .inl hcl, p, _, rfl, hp2, ?_, ?_, fun dt H3 k3 hp3 dt0 dt1 => ?_⟩
    · rw [List.length_map, htl.len]; omega
    · rw [List.length_map, htl.len]; have := hc.len; omega
    rw [List.length_map, htl.len] at dt1
    refine ⟨(by show 2 ≤ sizeLine; decide), fun t nt => ?_⟩
    have s4 : Same H3 (upd H3 t (.tup [.str "told", .int dt])) := same_new nt
    have et : (upd H3 t (.tup [.str "told", .int dt])) t = some (.tup [.str "told", .int dt]) := upd_same
    have k24 : Kp p H2 (upd H3 t (.tup [.str "told", .int dt])) := k3.trans (Kp.of s4)
    have hp4 := hp3.same s4
    generalize (upd H3 t (.tup [.str "told", .int dt])) = H4 at *
    have hc4 := (k2.trans k24).cls hc
    obtain ⟨cl4, hcl4, htl4⟩ := hc4.ex
    obtain ⟨c0, ns0, g0, t0, v0, m0⟩ := tups_ix htl4 dt0 dt1
    refine ⟨_, rfl, _, rfl, t, _, 1, .int dt, rfl, rfl, SqT.of et, rfl, a, _, dt, .ref c0, rfl, rfl, hcl4, g0, ?_⟩
    have ns9 := hc.len
    -- four tries
    refine ⟨_, rfl, by omega, by omega, for_range (lo := 0) (n := (4 : Int).toNat) (fun j σ' H' => ∃ (t c : Addr) (ns : List Int) (y7 y8 y9 y10 y11 : Option V), σ' = [some (.ref p), some (.ref a), some (.ref o), some (.ref so), some (.int (0 + (i : Int))), some (.ref t), some (.ref c), y7, y8, y9, y10, y11] ∧ Kp p H2 H' ∧ Pl H' p ∧ Rw H' t ∧ SqT K H' c (ns.map V.int) ∧ C30 ns) ?_ ?_ ?_⟩
    · exact ⟨t, c0, ns0, _, _, _, _, _, rfl, k24, hp4, ⟨_, et, .inl ⟨dt, rfl, by omega⟩⟩, t0, hc.all ns0 m0⟩
    · rintro j σ' H5 hj ⟨t, c, ns, y7, y8, y9, y10, y11, rfl, k5, hp5, rw5, c5, n30⟩
      have es5 := k5 _ _ hsp es
      have tc5 := k5.tups (K := K) hp2 tcs
      refine ⟨_, rfl, (by show 0 ≤ sizeLine; decide), fun l0 nl0 => ?_⟩
      have s6 : Same H5 (upd H5 l0 (.lst [])) := same_new nl0
      have el0 : (upd H5 l0 (.lst [])) l0 = some (.lst []) := upd_same
      generalize (upd H5 l0 (.lst [])) = H6 at *
      have es6 := s6 _ _ es5
      have tc6 := tc5.same s6
      refine ⟨.list (css.map fun (ns : List Int) => PyData.tuple (ns.map PyData.int)), .list [], .lst (SqL.of es6) tc6.dp, .lst (SqL.of el0) .nil, shTups css, shNil, _, rfl, ?_⟩
      rw [eqvNilD]
      have k6 : Kp p H2 H6 := k5.trans (Kp.of s6)
      have hp6 := hp5.same s6
      have rw6 := rw5.mv fun a xs h => s6 _ _ h
      have c6 := same_tup s6 c5
      refine ite2 (fun z => ?_) (fun _ => ⟨t, c, ns, _, _, _, _, _, rfl, k6, hp6, rw6, c6, n30⟩)
      have cne : 0 < css.length := by
        cases css with
        | nil => exact absurd z (by decide)
        | cons x xs => simp
      refine ⟨_, rfl, _, rfl, so, _, rfl, .inl (SqL.of es6), p, _, rfl, hp6, ?_, ?_, fun d1 H7 k7 hp7 d10 d11 => ?_⟩
      · rw [List.length_map, tc6.len]; omega
      · rw [List.length_map, tc6.len]; omega
      rw [List.length_map, tc6.len] at d11
      have es7 := k7 _ _ hsp es6
      refine ⟨_, rfl, _, rfl, so, _, rfl, .inl (SqL.of es7), p, _, rfl, hp7, ?_, ?_, fun d2 H8 k8 hp8 d20 d21 => ?_⟩
      · rw [List.length_map, tc6.len]; omega
      · rw [List.length_map, tc6.len]; omega
      rw [List.length_map, tc6.len] at d21
      have k68 : Kp p H6 H8 := k7.trans k8
      have es8 := k68 _ _ hsp es6
      have tc8 := k68.tups (K := K) hp6 tc6
      have rw8 := rw6.mv (k68.tp hp6)
      have c8 := k68.tup hp6 c6
      have k8' : Kp p H2 H8 := k6.trans k68
      obtain ⟨c1, ns1, g1, t1, v1, m1⟩ := tups_ix tc8 d10 d11
      obtain ⟨c2, ns2, g2, t2, v2, m2⟩ := tups_ix tc8 d20 d21
      have n1 := c30 ns1 m1
      have n2 := c30 ns2 m2
      have l1 := n1.len
      have l2 := n2.len
      clear k7 k8 hp7 es7 hp6 s6 el0 es6 tc6 rw6 c6 k68 k6 z
      -- the signs by which they may meet
      refine ⟨_, rfl, _, rfl, so, _, d1, .ref c1, rfl, rfl, SqL.of es8, g1, c1, rfl, ⟨_, t1⟩, fun D nD => lc_tup (xs := ns1.map V.int) (fun k H' => Same H8 H' ∧ ∃ ps : List Int, H' D = some (.lst (ps.map V.int)) ∧ (∀ s ∈ ps, s ∈ ns1 ∧ 0 < s) ∧ ps.length ≤ k) ⟨same_new nD, [], upd_same, (fun s hs => nomatch hs), Nat.le_refl _⟩ (fun k H' _ h => same_tup h.1 t1) ?_ ?_⟩
      · rintro k x H9 ex ⟨s9, ps, eD, hps, lps⟩
        obtain ⟨n, rfl, hn, htk⟩ := at_int ex
        have hk : k < 100 := by
          have := (List.getElem?_eq_some_iff.mp ex).1
          rw [List.length_map] at this; omega
        have no : Same H8 H9 ∧ ∃ ps : List Int, H9 D = some (.lst (ps.map V.int)) ∧ (∀ s ∈ ps, s ∈ ns1 ∧ 0 < s) ∧ ps.length ≤ k + 1 := ⟨s9, ps, eD, hps, by omega⟩
        refine ⟨rfl, _, rfl, _, _, rfl, rfl, _, rfl, ite2 (fun z1 => ?_) (fun _ => iteF no)⟩
        have pn : 0 < n := of_decide_eq_true z1
        refine ⟨_, rfl, _, _, rfl, rfl, _, rfl, _, rfl, so, _, d2, .ref c2, rfl, rfl, SqL.of (s9 _ _ es8), g2, c2, _, ns2, rfl, rfl, .inr (same_tup s9 t2), _, rfl, ite2 (fun z2 => ?_) (fun _ => no)⟩
        refine ⟨_, rfl, _, eD, ?_, ?_, ps ++ [n], ?_, ?_, ?_⟩
        · rw [List.length_map]; exact small1000 (by omega)
        · exact fun b ob hb => by rw [upd_ne (ne_of_none hb nD)]; exact s9 _ _ hb
        · rw [upd_same, List.map_append]; rfl
        · intro s hs
          rcases List.mem_append.mp hs with h | h
          · exact hps s h
          · rw [List.mem_singleton] at h; rw [h]; exact ⟨hn, pn⟩
        · rw [List.length_append]; simp; omega
      rintro H9 ⟨s9, ps, eD, hps, lps⟩
      rw [List.length_map] at lps
      have hDp : D ≠ p := fun z => hp8.at (z ▸ nD)
      -- those by which they meet
      refine ⟨_, rfl, D, rfl, ⟨_, SqL.of eD⟩, fun D2 nD2 => lc_list (xs := ps.map V.int) (fun k H' => Same H9 H' ∧ ∃ qs : List Int, H' D2 = some (.lst (qs.map V.int)) ∧ (∀ s ∈ qs, s ∈ ns1 ∧ 0 < s ∧ ∃ cs, IsMet ns1 ns2 (.int s) (some cs)) ∧ qs.length ≤ k) ⟨same_new nD2, [], upd_same, (fun s hs => nomatch hs), Nat.le_refl _⟩ (fun k H' _ h => SqL.of (h.1 _ _ eD)) ?_ ?_⟩
      · rintro k x HA ex ⟨sA, qs, eD2, hqs, lqs⟩
        obtain ⟨n, rfl, hn, htk⟩ := at_int ex
        have hk : k < 100 := by
          have := (List.getElem?_eq_some_iff.mp ex).1
          rw [List.length_map] at this; omega
        have s8A := s9.trans sA
        obtain ⟨hn1, hn2⟩ := hps n hn
        refine ⟨rfl, _, rfl, _, rfl, so, _, d1, .ref c1, rfl, rfl, SqL.of (s8A _ _ es8), g1, _, rfl, _, rfl, so, _, d2, .ref c2, rfl, rfl, SqL.of (s8A _ _ es8), g2, _, rfl, c1, c2, n, ns1, ns2, rfl, same_tup s8A t1, same_tup s8A t2, by omega, by omega, by omega, n1.1, n2.1, n1.app n2, fun w HB r sB im ot => ?_⟩
        rcases ot with ⟨rfl, rfl⟩ | ⟨pp, cs', rfl, rfl, _, _⟩
        · refine ⟨rfl, _, rfl, iteF ⟨sA.trans sB, qs, sB _ _ eD2, hqs, by omega⟩⟩
        · refine ⟨rfl, _, rfl, iteT ⟨_, rfl, _, sB _ _ eD2, ?_, ?_, qs ++ [n], ?_, ?_, ?_⟩⟩
          · rw [List.length_map]; exact small1000 (by omega)
          · exact fun b ob hb => by rw [upd_ne (ne_of_none hb nD2)]; exact sB _ _ (sA _ _ hb)
          · rw [upd_same, List.map_append]; rfl
          · intro s hs
            rcases List.mem_append.mp hs with h | h
            · exact hqs s h
            · rw [List.mem_singleton] at h; rw [h]; exact ⟨hn1, hn2, cs', im⟩
          · rw [List.length_append]; simp; omega
      rintro HA ⟨sA, qs, eD2, hqs, lqs⟩
      rw [List.length_map] at lqs
      have s8A := s9.trans sA
      refine ⟨_, rfl, (by show 0 ≤ sizeLine; decide), fun l1' nl1 => ?_⟩
      have sB : Same HA (upd HA l1' (.lst [])) := same_new nl1
      have el1 : (upd HA l1' (.lst [])) l1' = some (.lst []) := upd_same
      generalize (upd HA l1' (.lst [])) = HB at *
      refine ⟨.list (qs.map PyData.int), .list [], .lst (SqL.of (sB _ _ eD2)) (dpInts _), .lst (SqL.of el1) .nil, shInts _, shNil, _, rfl, ?_⟩
      rw [eqvNil]
      have s8B := s8A.trans sB
      have hpB := hp8.same s8B
      have kB : Kp p H2 HB := k8'.trans (Kp.of s8B)
      have eqB := sB _ _ eD2
      have hD2p : D2 ≠ p := fun z => (hp8.same s9).at (z ▸ nD2)
      refine ite2 (fun z => ?_) (fun _ => ⟨t, c, ns, _, _, _, _, _, rfl, kB, hpB, rw8.mv fun a xs h => s8B _ _ h, same_tup s8B c8, n30⟩)
      have qne : 0 < qs.length := by
        cases qs with
        | nil => exact absurd z (by decide)
        | cons x xs => simp
      refine ⟨_, rfl, _, rfl, _, rfl, _, rfl, _, rfl, D2, _, rfl, .inl (SqL.of eqB), p, _, rfl, hpB, ?_, ?_, fun d3 HC kC hpC d30 d31 => ?_⟩
      · rw [List.length_map]; omega
      · rw [List.length_map]; omega
      rw [List.length_map] at d31
      obtain ⟨sg, gs1, gs2⟩ := atI_ints (ns := qs) d30 d31
      have sgm := List.mem_of_getElem? gs2
      obtain ⟨sg1, sg2, sgc, sgi⟩ := hqs sg sgm
      have sg30 := n1.2 sg sg1
      refine ⟨D2, _, d3, .int sg, rfl, rfl, SqL.of (kC _ _ hD2p eqB), gs1, (by show 4 ≤ sizeLine; decide), fun t2' nt2 => ?_⟩
      have sD : Same HC (upd HC t2' (.tup [.str "met", .int d1, .int d2, .int sg])) := same_new nt2
      have et2 : (upd HC t2' (.tup [.str "met", .int d1, .int d2, .int sg])) t2' = some (.tup [.str "met", .int d1, .int d2, .int sg]) := upd_same
      have kBD : Kp p HB (upd HC t2' (.tup [.str "met", .int d1, .int d2, .int sg])) := kC.trans (Kp.of sD)
      have hpD := hpC.same sD
      generalize (upd HC t2' (.tup [.str "met", .int d1, .int d2, .int sg])) = HD at *
      have esD := kBD _ _ hsp (s8B _ _ es8)
      have t1D := kBD.tup hpB (same_tup s8B t1)
      have t2D := kBD.tup hpB (same_tup s8B t2)
      refine ⟨_, rfl, _, rfl, so, _, d1, .ref c1, rfl, rfl, SqL.of esD, g1, _, rfl, _, rfl, so, _, d2, .ref c2, rfl, rfl, SqL.of esD, g2, _, rfl, t2', _, 3, .int sg, rfl, rfl, SqT.of et2, rfl, c1, c2, sg, ns1, ns2, rfl, t1D, t2D, by omega, by omega, by omega, n1.1, n2.1, n1.app n2, fun w HE r sE im ot => ?_⟩
      obtain rfl := im.eq sgi
      rcases ot with ⟨zz, _⟩ | ⟨pp, cs', ecs, rfl, _, epp⟩
      · cases zz
      cases ecs
      exact ⟨t2', pp, sgc, _, _, _, _, _, rfl, kB.trans (kBD.trans (Kp.of sE)), hpD.same sE, ⟨_, sE _ _ et2, .inr ⟨d1, d2, sg, rfl, by omega, by omega, by omega⟩⟩, SqT.of epp, n1.met n2 sgi⟩
    · rintro σ' H5 ⟨t, c, ns, y7, y8, y9, y10, y11, rfl, k5, hp5, rw5, c5, n30⟩
      have eo5 := k5 _ _ hop eo
      have es5 := k5 _ _ hsp es
      have tc5 := k5.tups (K := K) hp2 tcs
      refine ⟨_, rfl, .inl ⟨rfl, _, SqL.of eo5⟩, _, rfl, o, _, _, rfl, rfl, eo5, ?_, ?_⟩
      · rw [List.length_map, lts]; exact small1000 (by omega)
      have keep1 := new_tp (u := ts.map V.ref ++ [.ref t]) eo5
      have eso : (upd H5 o (.lst (ts.map V.ref ++ [.ref t]))) so = some (.lst (cs.map V.ref)) := by rw [upd_ne (Ne.symm hoso)]; exact es5
      have eoo : (upd H5 o (.lst (ts.map V.ref ++ [.ref t]))) o = some (.lst ((ts ++ [t]).map V.ref)) := by rw [upd_same, List.map_append]; rfl
      have kO : ∀ b ob, b ≠ p → H b = some ob → (upd H5 o (.lst (ts.map V.ref ++ [.ref t]))) b = some ob := fun b ob nb hb => by rw [upd_ne (ne_of_none hb no)]; exact k5 _ _ nb (k2 _ _ nb hb)
      have hpO : Pl (upd H5 o (.lst (ts.map V.ref ++ [.ref t]))) p := by
        obtain ⟨x, y, e, r⟩ := hp5
        exact ⟨x, y, by rw [upd_ne (Ne.symm hop)]; exact e, r⟩
      have tcO : TupsI K (upd H5 o (.lst (ts.map V.ref ++ [.ref t]))) cs css := tc5.lst eo5
      have cO : SqT K (upd H5 o (.lst (ts.map V.ref ++ [.ref t]))) c (ns.map V.int) := sqT_lst eo5 c5
      have rwO : ∀ t' ∈ ts ++ [t], Rw (upd H5 o (.lst (ts.map V.ref ++ [.ref t]))) t' := fun t' ht' => by
        rcases List.mem_append.mp ht' with h | h
        · exact ((hts t' h).mv (k5.tp hp2)).mv keep1
        · rw [List.mem_singleton] at h; rw [h]; exact rw5.mv keep1
      generalize (upd H5 o (.lst (ts.map V.ref ++ [.ref t]))) = H6 at *
      refine ⟨_, rfl, .inl ⟨rfl, _, SqL.of eso⟩, _, rfl, so, _, _, rfl, rfl, eso, ?_, ts ++ [t], cs ++ [c], css ++ [ns], _, _, _, _, _, _, _, _, rfl, ?_, ?_, ?_, ?_, ?_, ?_, ?_, ?_, ?_⟩
      · rw [List.length_map, tcO.len, lcs]; exact small1000 (by omega)
      · exact fun b ob nb hb => by rw [upd_ne (ne_of_none hb nsoH)]; exact kO b ob nb hb
      · obtain ⟨x, y, e, r⟩ := hpO
        exact ⟨x, y, by rw [upd_ne (Ne.symm hsp)]; exact e, r⟩
      · rw [upd_ne hoso]; exact eoo
      · exact fun t' ht' => (rwO t' ht').mv (new_tp eso)
      · rw [List.length_append, lts]; rfl
      · rw [upd_same, List.map_append]; rfl
      · exact (tcO.snoc cO).lst eso
      · rw [List.length_append, lcs]; rfl
      · intro c' hc'
        rcases List.mem_append.mp hc' with h | h
        · exact c30 c' h
        · rw [List.mem_singleton] at h; rw [h]; exact n30
  · rintro σ' H2 ⟨ts, cs, css, y4, y5, y6, y7, y8, y9, y10, y11, rfl, k2, hp2, eo, hts, lts, es, tcs, lcs, c30⟩
    exact ⟨_, rfl, q o ts H2 k2 hp2 no eo hts (by omega) (by omega)⟩

/-! ### bent rows -/
def spBentR (K : PySem.W.Frag) : Sp := fun vs H Q _ => ∃ (p r : Addr) (ts : List Addr), vs = [.ref p, .ref r] ∧ Pl H p ∧ H r = some (.lst (ts.map V.ref)) ∧ (∀ t ∈ ts, Rw H t) ∧ 1 ≤ ts.length ∧ ts.length ≤ 12 ∧
  ∀ (x : V) (H' : Hp), Kp p H H' → Pl H' p → BRes K (hid p H') x → Q x H'
theorem ok_bentr {f : Addr} {fd : FuncData} {k : Nat} (F : Fun K "_law_bent_rows" "_law_bent_rows" s_law_bent_rows f fd) (D_law_take : Df P w K mg base k "_law_take" ["_law_pool_here", "_law_many"] (spTake K))
    (m_len : mg "len" = none) (m_list : mg "list" = none) (m_tuple : mg "tuple" = none) : FnOk P w K mg base CX0 (k + 1) f fd ["_law_pool_here", "_law_rows"] (spBentR K) := by
  refine F.ok sc_law_bent_rows (fun vs H Q E h => ?_) (fun cdv A outer s H vs Q E hr h => ?_)
  · obtain ⟨p, r, ts, rfl, _⟩ := h
    rfl
  obtain ⟨p, r, ts, rfl, hp, er, hts, h1, h12, q⟩ := h
  refine ⟨_, (pss_cons (ps_set (i := 2) sc_law_bent_rows.nd rfl (.inl rfl) (pe_df D_law_take hr (by rfl) (pa_cons (pv 0) (pa_cons (pe_callB call_len_seq (by rfl) m_len (by decide +kernel) (pa_cons (pv 1) pa_nil)) pa_nil))))
       (pss_cons (ps_set (i := 3) sc_law_bent_rows.nd rfl (.inl rfl) (pe_ix ix_list (pv 1) (pv 2) (fun _ _ => rfl)))
       (pss_cons (ps_set (i := 4) sc_law_bent_rows.nd rfl (.inl rfl) (pe_df D_law_take hr (by rfl) (pa_cons (pv 0) (pa_cons (pe_callB call_len_seq (by rfl) m_len (by decide +kernel) (pa_cons (pv 3) pa_nil)) pa_nil))))
       (pss_cons (ps_set (i := 5) sc_law_bent_rows.nd rfl (.inl rfl) (pe_ix ix_list (pe_lst (pa_cons pe_non (pa_cons pe_bl (pa_cons (pe_un un_neg pe_int) (pa_cons pe_int (pa_cons pe_int (pa_cons pe_int (pa_cons pe_str (pa_cons pe_str (pa_cons (pe_tup (pa_cons pe_int pa_nil)) (pa_cons pe_int pa_nil))))))))))) (pe_df D_law_take hr (by rfl) (pa_cons (pv 0) (pa_cons pe_int pa_nil))) (fun _ _ => rfl)))
       (pss_cons (ps_set (i := 6) sc_law_bent_rows.nd rfl (.inl rfl) (pe_op op_catK (pe_op op_catK (pe_slice sl_tupK (pv 3) po_none (po_some (pv 4))) (pe_tup (pa_cons (pv 5) pa_nil))) (pe_slice sl_tupK (pv 3) (po_some (pe_op op_add (pv 4) pe_int)) po_none)))
       (pss_cons (ps_set (i := 7) sc_law_bent_rows.nd rfl (.inl rfl) (pe_lst (pa_cons (pe_op op_cat (pe_op op_cat (pe_slice sl_list (pv 1) po_none (po_some (pv 2))) (pe_lst (pa_cons (pv 6) pa_nil))) (pe_slice sl_list (pv 1) (po_some (pe_op op_add (pv 2) pe_int)) po_none)) (pa_cons (pe_op op_cat (pe_slice sl_list (pv 1) po_none (po_some (pv 2))) (pe_slice sl_list (pv 1) (po_some (pe_op op_add (pv 2) pe_int)) po_none)) (pa_cons (pe_revL (pv 1)) pa_nil)))))
       (pss_cons (ps_expr (pe_bm PySem.F.plainAttrs_list PySem.F.slot_list_append PySem.F.type_list_append mt_append (pv 7) (pa_cons (pe_op op_cat (pe_op op_cat (pe_slice sl_list (pv 1) po_none (po_some (pv 2))) (pe_lst (pa_cons (pe_callTy call_list_of (by rfl) m_list (by decide +kernel) (pa_cons (pv 3) pa_nil)) pa_nil))) (pe_slice sl_list (pv 1) (po_some (pv 2)) po_none)) pa_nil)))
       (pss_cons (ps_set (i := 7) sc_law_bent_rows.nd rfl (.inl rfl) (pe_op op_cat (pv 7) (pe_lst (pa_cons (pe_op op_cat (pe_op op_cat (pe_slice sl_list (pv 1) po_none (po_some (pv 2))) (pe_lst (pa_cons (pv 5) pa_nil))) (pe_slice sl_list (pv 1) (po_some (pv 2)) po_none)) (pa_cons (pe_callTy call_tuple_of (by rfl) m_tuple (by decide +kernel) (pa_cons (pv 1) pa_nil)) (pa_cons (pe_op op_cat (pv 1) (pe_lst (pa_cons (pe_op op_catK (pv 3) (pe_tup (pa_cons pe_int pa_nil))) pa_nil))) (pa_cons (pe_op op_cat (pv 1) (pe_lst (pa_cons (pe_slice sl_tupK (pv 3) po_none (po_some (pe_un un_neg pe_int))) pa_nil))) pa_nil)))))))
       (pss_one (ps_ret (pe_ix ix_list (pv 7) (pe_df D_law_take hr (by rfl) (pa_cons (pv 0) (pa_cons pe_int pa_nil))) (fun _ _ => rfl)))))))))))), ?_⟩
  have hrp : r ≠ p := fun z => by
    obtain ⟨u, v, e, _⟩ := hp
    rw [z, e] at er
    cases ts with
    | nil => cases er
    | cons t ts => cases er
  refine ⟨_, rfl, _, rfl, r, _, rfl, .inl (SqL.of er), p, _, rfl, hp, ?_, ?_, fun a H1 k1 hp1 a0 a1 => ?_⟩
  · rw [List.length_map]; omega
  · rw [List.length_map]; omega
  have er1 := k1 _ _ hrp er
  rw [List.length_map] at a1
  obtain ⟨tv, g1, g2⟩ := atI_at (xs := ts.map V.ref) (i := a) a0 (by rw [List.length_map]; exact a1)
  obtain ⟨t, tm, rfl⟩ := List.mem_map.mp (List.mem_of_getElem? g2)
  refine ⟨_, rfl, _, rfl, r, _, a, .ref t, rfl, rfl, SqL.of er1, g1, ?_⟩
  have hts1 : ∀ t ∈ ts, Rw H1 t := fun t ht => (hts t ht).mv (k1.tp hp)
  obtain ⟨xs, et, rv⟩ := hts1 t tm
  obtain ⟨rvi, rv4, rv2⟩ := rv.its (K := K) (H := H1)
  refine ⟨_, rfl, _, rfl, t, _, rfl, .inr (SqT.of et), p, _, rfl, hp1, by omega, by omega, fun pl H2 k2 hp2 pl0 pl1 => ?_⟩
  have et2 := k2.tp hp1 _ _ et
  -- something odd
  refine ⟨_, rfl, (by show 1 ≤ sizeLine; decide), fun ot not => ?_⟩
  have s3 : Same H2 (upd H2 ot (.tup [.int 1])) := same_new not
  have eot : (upd H2 ot (.tup [.int 1])) ot = some (.tup [.int 1]) := upd_same
  have hp3 := hp2.same s3
  generalize (upd H2 ot (.tup [.int 1])) = H3 at *
  refine ⟨(by show 10 ≤ sizeLine; decide), fun ol nol => ?_⟩
  have s4 : Same H3 (upd H3 ol (.lst [.non, .bl true, .int (-1), .int 99, .int 0, .int 1, .str (Str.ofString "told"), .str (Str.ofString "met"), .ref ot, .int 2])) := same_new nol
  have eol : (upd H3 ol (.lst [.non, .bl true, .int (-1), .int 99, .int 0, .int 1, .str (Str.ofString "told"), .str (Str.ofString "met"), .ref ot, .int 2])) ol = some (.lst [.non, .bl true, .int (-1), .int 99, .int 0, .int 1, .str (Str.ofString "told"), .str (Str.ofString "met"), .ref ot, .int 2]) := upd_same
  have holp : ol ≠ p := fun z => hp3.at (z ▸ nol)
  have hp4 := hp3.same s4
  generalize (upd H3 ol (.lst [.non, .bl true, .int (-1), .int 99, .int 0, .int 1, .str (Str.ofString "told"), .str (Str.ofString "met"), .ref ot, .int 2])) = H4 at *
  refine ⟨_, rfl, p, 10, rfl, hp4, by omega, by omega, fun dd H5 k5 hp5 dd0 dd1 => ?_⟩
  obtain ⟨odd, ho1, ho2⟩ := atI_at (xs := [V.non, .bl true, .int (-1), .int 99, .int 0, .int 1, .str (Str.ofString "told"), .str (Str.ofString "met"), .ref ot, .int 2]) dd0 dd1
  refine ⟨ol, _, dd, odd, rfl, rfl, SqL.of (k5 _ _ holp eol), ho1, ?_⟩
  have eot5 := k5.tp hp4 _ _ (s4 _ _ eot)
  have hodd : It K (hid p H5) odd := by
    have m := List.mem_of_getElem? ho2
    simp only [List.mem_cons, List.not_mem_nil, or_false] at m
    rcases m with rfl | rfl | rfl | rfl | rfl | rfl | rfl | rfl | rfl | rfl
    · exact ⟨_, .non, Fine.none⟩
    · exact ⟨_, .bl _, Fine.bool _⟩
    · exact It.int _ (by decide)
    · exact It.int _ (by decide)
    · exact It.int _ (by decide)
    · exact It.int _ (by decide)
    · exact It.str Fine.strTold
    · exact It.str Fine.strMet
    · refine ⟨.tuple [.int 1], .tup (SqT.of (hid_tup hp5 eot5)) (.cons (.int 1) .nil), ?_⟩
      exact (Fine.tuple (n := 110) (m := 0) (l := 1) (fun z hz => by rw [List.mem_singleton] at hz; subst hz; exact Fine.int 1 (by decide)) (by simp)).le (by omega) (by omega)
    · exact It.int _ (by decide)
  have k15 : Kp p H1 H5 := k2.trans ((Kp.of (s3.trans s4)).trans k5)
  have et5 := k15.tp hp1 _ _ et
  have er5 := k15 _ _ hrp er1
  have hts5 : ∀ t ∈ ts, Rw H5 t := fun t ht => (hts1 t ht).mv (k15.tp hp1)
  have kH5 : Kp p H H5 := k1.trans k15
  clear k2 k5 s3 s4 eot eol hp3 hp4 nol not et2 ho1 ho2 eot5 hp2 k15 hts1 er1 k1
  have it5 : ∀ v ∈ ts.map V.ref, It2 K (hid p H5) v := fun v hv => by
    obtain ⟨t, ht, rfl⟩ := List.mem_map.mp hv
    exact (hts5 t ht).it hp5
  have xi5 : ∀ (G : Hp), ∀ v ∈ xs, It K G v := fun G => (rv.its (K := K) (H := G)).1
  have cutx : ∀ lo hi, (cutV xs lo hi).length ≤ 4 := fun lo hi => by have := (cut_sub (xs := xs) (lo := lo) (hi := hi)).2; omega
  have cutr : ∀ lo hi, (cutV (ts.map V.ref) lo hi).length ≤ 12 := fun lo hi => by have := (cut_sub (xs := ts.map V.ref) (lo := lo) (hi := hi)).2; rw [List.length_map] at this; omega
  -- a bent row
  refine ⟨_, rfl, _, rfl, pl, rfl, t, _, rfl, SqT.of et5, fun r1 H6 s6 h6 => ?_⟩
  refine ⟨_, rfl, (by show 1 ≤ sizeLine; decide), fun t2 nt2 => ?_⟩
  have s7 : Same H6 (upd H6 t2 (.tup [odd])) := same_new nt2
  refine ⟨r1, t2, _, _, rfl, rfl, same_tup s7 h6, SqT.of upd_same, small (by have := cutx none (some pl); simp; omega), fun r3 H8 s8 h8 => ?_⟩
  have s58 : Same H5 H8 := s6.trans (s7.trans s8)
  refine ⟨_, rfl, _, rfl, _, _, rfl, rfl, _, rfl, t, _, rfl, SqT.of (s58 _ _ et5), fun r4 H9 s9 h9 => ?_⟩
  refine ⟨r3, r4, _, _, rfl, rfl, same_tup s9 h8, h9, small (by have := cutx none (some pl); have := cutx (some (pl + 1)) none; simp; omega), fun bt H10 s10 h10 => ?_⟩
  have s5A : Same H5 H10 := s58.trans (s9.trans s10)
  have hpA := hp5.same s5A
  have hbt : It2 K (hid p H10) (.ref bt) := by
    refine It2.tup (hidT hpA h10) (fun v hv => ?_) (by have := cutx none (some pl); have := cutx (some (pl + 1)) none; simp; omega)
    rcases List.mem_append.mp hv with h | h
    · rcases List.mem_append.mp h with h | h
      · exact xi5 _ v (cut_sub.1 v h)
      · rw [List.mem_singleton] at h; rw [h]; exact hodd.same (hid_mono s5A)
    · exact xi5 _ v (cut_sub.1 v h)
  clear s6 s7 s8 s9 s10 h6 h8 h9 h10 nt2 s58
  have sB0 : Same H10 H10 := Same.refl _
  refine ⟨_, rfl, _, rfl, a, rfl, r, _, rfl, SqL.of (s5A _ _ er5), fun aa1 naa1 => ?_⟩
  have sg1 : Same H10 (upd H10 aa1 (.lst (cutV (ts.map V.ref) none (some a)))) := same_new naa1
  have eaa1 : (upd H10 aa1 (.lst (cutV (ts.map V.ref) none (some a)))) aa1 = some (.lst (cutV (ts.map V.ref) none (some a))) := upd_same
  have npaa1 : aa1 ≠ p := fun z => (hp5.same s5A).at (z ▸ naa1)
  have nhaa1 : H5 aa1 = none := s5A.free naa1
  generalize (upd H10 aa1 (.lst (cutV (ts.map V.ref) none (some a)))) = G1 at *
  have s5g1 := s5A.trans sg1
  have sB1 := sB0.trans sg1
  refine ⟨_, rfl, (by show 1 ≤ sizeLine; decide), fun aa2 naa2 => ?_⟩
  have sg2 : Same G1 (upd G1 aa2 (.lst ([.ref bt]))) := same_new naa2
  have eaa2 : (upd G1 aa2 (.lst ([.ref bt]))) aa2 = some (.lst ([.ref bt])) := upd_same
  have npaa2 : aa2 ≠ p := fun z => (hp5.same s5g1).at (z ▸ naa2)
  have nhaa2 : H5 aa2 = none := s5g1.free naa2
  generalize (upd G1 aa2 (.lst ([.ref bt]))) = G2 at *
  have s5g2 := s5g1.trans sg2
  have sB2 := sB1.trans sg2
  have eaa1 := sg2 _ _ eaa1
  refine ⟨aa1, aa2, _, _, rfl, rfl, eaa1, eaa2, small (by have := cutr none (some a); have := cutr (some a) none; have := cutr (some (a + 1)) none; simp; omega), fun aa3 naa3 => ?_⟩
  have sg3 : Same G2 (upd G2 aa3 (.lst (cutV (ts.map V.ref) none (some a) ++ [.ref bt]))) := same_new naa3
  have eaa3 : (upd G2 aa3 (.lst (cutV (ts.map V.ref) none (some a) ++ [.ref bt]))) aa3 = some (.lst (cutV (ts.map V.ref) none (some a) ++ [.ref bt])) := upd_same
  have npaa3 : aa3 ≠ p := fun z => (hp5.same s5g2).at (z ▸ naa3)
  have nhaa3 : H5 aa3 = none := s5g2.free naa3
  generalize (upd G2 aa3 (.lst (cutV (ts.map V.ref) none (some a) ++ [.ref bt]))) = G3 at *
  have s5g3 := s5g2.trans sg3
  have sB3 := sB2.trans sg3
  refine ⟨_, rfl, _, rfl, _, _, rfl, rfl, _, rfl, r, _, rfl, SqL.of (s5g3 _ _ er5), fun aa4 naa4 => ?_⟩
  have sg4 : Same G3 (upd G3 aa4 (.lst (cutV (ts.map V.ref) (some (a + 1)) none))) := same_new naa4
  have eaa4 : (upd G3 aa4 (.lst (cutV (ts.map V.ref) (some (a + 1)) none))) aa4 = some (.lst (cutV (ts.map V.ref) (some (a + 1)) none)) := upd_same
  have npaa4 : aa4 ≠ p := fun z => (hp5.same s5g3).at (z ▸ naa4)
  have nhaa4 : H5 aa4 = none := s5g3.free naa4
  generalize (upd G3 aa4 (.lst (cutV (ts.map V.ref) (some (a + 1)) none))) = G4 at *
  have s5g4 := s5g3.trans sg4
  have sB4 := sB3.trans sg4
  have eaa3 := sg4 _ _ eaa3
  refine ⟨aa3, aa4, _, _, rfl, rfl, eaa3, eaa4, small (by have := cutr none (some a); have := cutr (some a) none; have := cutr (some (a + 1)) none; simp; omega), fun L0 nL0 => ?_⟩
  have sg5 : Same G4 (upd G4 L0 (.lst ((cutV (ts.map V.ref) none (some a) ++ [.ref bt]) ++ cutV (ts.map V.ref) (some (a + 1)) none))) := same_new nL0
  have eL0 : (upd G4 L0 (.lst ((cutV (ts.map V.ref) none (some a) ++ [.ref bt]) ++ cutV (ts.map V.ref) (some (a + 1)) none))) L0 = some (.lst ((cutV (ts.map V.ref) none (some a) ++ [.ref bt]) ++ cutV (ts.map V.ref) (some (a + 1)) none)) := upd_same
  have npL0 : L0 ≠ p := fun z => (hp5.same s5g4).at (z ▸ nL0)
  have nhL0 : H5 L0 = none := s5g4.free nL0
  generalize (upd G4 L0 (.lst ((cutV (ts.map V.ref) none (some a) ++ [.ref bt]) ++ cutV (ts.map V.ref) (some (a + 1)) none))) = G5 at *
  have s5g5 := s5g4.trans sg5
  have sB5 := sB4.trans sg5
  refine ⟨_, rfl, _, rfl, a, rfl, r, _, rfl, SqL.of (s5g5 _ _ er5), fun b1 nb1 => ?_⟩
  have sg6 : Same G5 (upd G5 b1 (.lst (cutV (ts.map V.ref) none (some a)))) := same_new nb1
  have eb1 : (upd G5 b1 (.lst (cutV (ts.map V.ref) none (some a)))) b1 = some (.lst (cutV (ts.map V.ref) none (some a))) := upd_same
  have npb1 : b1 ≠ p := fun z => (hp5.same s5g5).at (z ▸ nb1)
  have nhb1 : H5 b1 = none := s5g5.free nb1
  generalize (upd G5 b1 (.lst (cutV (ts.map V.ref) none (some a)))) = G6 at *
  have s5g6 := s5g5.trans sg6
  have sB6 := sB5.trans sg6
  have eL0 := sg6 _ _ eL0
  refine ⟨_, rfl, _, rfl, _, _, rfl, rfl, _, rfl, r, _, rfl, SqL.of (s5g6 _ _ er5), fun b2 nb2 => ?_⟩
  have sg7 : Same G6 (upd G6 b2 (.lst (cutV (ts.map V.ref) (some (a + 1)) none))) := same_new nb2
  have eb2 : (upd G6 b2 (.lst (cutV (ts.map V.ref) (some (a + 1)) none))) b2 = some (.lst (cutV (ts.map V.ref) (some (a + 1)) none)) := upd_same
  have npb2 : b2 ≠ p := fun z => (hp5.same s5g6).at (z ▸ nb2)
  have nhb2 : H5 b2 = none := s5g6.free nb2
  generalize (upd G6 b2 (.lst (cutV (ts.map V.ref) (some (a + 1)) none))) = G7 at *
  have s5g7 := s5g6.trans sg7
  have sB7 := sB6.trans sg7
  have eL0 := sg7 _ _ eL0
  have eb1 := sg7 _ _ eb1
  refine ⟨b1, b2, _, _, rfl, rfl, eb1, eb2, small (by have := cutr none (some a); have := cutr (some a) none; have := cutr (some (a + 1)) none; simp; omega), fun L1 nL1 => ?_⟩
  have sg8 : Same G7 (upd G7 L1 (.lst (cutV (ts.map V.ref) none (some a) ++ cutV (ts.map V.ref) (some (a + 1)) none))) := same_new nL1
  have eL1 : (upd G7 L1 (.lst (cutV (ts.map V.ref) none (some a) ++ cutV (ts.map V.ref) (some (a + 1)) none))) L1 = some (.lst (cutV (ts.map V.ref) none (some a) ++ cutV (ts.map V.ref) (some (a + 1)) none)) := upd_same
  have npL1 : L1 ≠ p := fun z => (hp5.same s5g7).at (z ▸ nL1)
  have nhL1 : H5 L1 = none := s5g7.free nL1
  generalize (upd G7 L1 (.lst (cutV (ts.map V.ref) none (some a) ++ cutV (ts.map V.ref) (some (a + 1)) none))) = G8 at *
  have s5g8 := s5g7.trans sg8
  have sB8 := sB7.trans sg8
  have eL0 := sg8 _ _ eL0
  refine ⟨_, rfl, r, _, rfl, SqL.of (s5g8 _ _ er5), fun L2' nL2' => ?_⟩
  have sg9 : Same G8 (upd G8 L2' (.lst ((ts.map V.ref).reverse))) := same_new nL2'
  have eL2' : (upd G8 L2' (.lst ((ts.map V.ref).reverse))) L2' = some (.lst ((ts.map V.ref).reverse)) := upd_same
  have npL2' : L2' ≠ p := fun z => (hp5.same s5g8).at (z ▸ nL2')
  have nhL2' : H5 L2' = none := s5g8.free nL2'
  generalize (upd G8 L2' (.lst ((ts.map V.ref).reverse))) = G9 at *
  have s5g9 := s5g8.trans sg9
  have sB9 := sB8.trans sg9
  have eL0 := sg9 _ _ eL0
  have eL1 := sg9 _ _ eL1
  refine ⟨(by show 3 ≤ sizeLine; decide), fun S nS => ?_⟩
  have sg10 : Same G9 (upd G9 S (.lst ([.ref L0, .ref L1, .ref L2']))) := same_new nS
  have eS : (upd G9 S (.lst ([.ref L0, .ref L1, .ref L2']))) S = some (.lst ([.ref L0, .ref L1, .ref L2'])) := upd_same
  have npS : S ≠ p := fun z => (hp5.same s5g9).at (z ▸ nS)
  have nhS : H5 S = none := s5g9.free nS
  have nSA : H10 S = none := sB9.free nS
  have nqL0 : L0 ≠ S := ne_of_none eL0 nS
  have nqL1 : L1 ≠ S := ne_of_none eL1 nS
  have nqL2' : L2' ≠ S := ne_of_none eL2' nS
  generalize (upd G9 S (.lst ([.ref L0, .ref L1, .ref L2']))) = G10 at *
  have s5g10 := s5g9.trans sg10
  have sB10 := sB9.trans sg10
  have eL0 := sg10 _ _ eL0
  have eL1 := sg10 _ _ eL1
  have eL2' := sg10 _ _ eL2'
  refine ⟨_, rfl, .inl ⟨rfl, _, SqL.of eS⟩, ?_⟩
  refine ⟨_, rfl, _, rfl, a, rfl, r, _, rfl, SqL.of (s5g10 _ _ er5), fun c1 nc1 => ?_⟩
  have sg11 : Same G10 (upd G10 c1 (.lst (cutV (ts.map V.ref) none (some a)))) := same_new nc1
  have ec1 : (upd G10 c1 (.lst (cutV (ts.map V.ref) none (some a)))) c1 = some (.lst (cutV (ts.map V.ref) none (some a))) := upd_same
  have npc1 : c1 ≠ p := fun z => (hp5.same s5g10).at (z ▸ nc1)
  have nhc1 : H5 c1 = none := s5g10.free nc1
  have nqc1 : c1 ≠ S := Ne.symm (ne_of_none eS nc1)
  generalize (upd G10 c1 (.lst (cutV (ts.map V.ref) none (some a)))) = G11 at *
  have s5g11 := s5g10.trans sg11
  have sB11 := sB10.trans sg11
  have eL0 := sg11 _ _ eL0
  have eL1 := sg11 _ _ eL1
  have eL2' := sg11 _ _ eL2'
  have eS := sg11 _ _ eS
  refine ⟨_, rfl, t, _, rfl, .inr (SqT.of (s5g11 _ _ et5)), fun c0 nc0 => ?_⟩
  have sg12 : Same G11 (upd G11 c0 (.lst (xs))) := same_new nc0
  have ec0 : (upd G11 c0 (.lst (xs))) c0 = some (.lst (xs)) := upd_same
  have npc0 : c0 ≠ p := fun z => (hp5.same s5g11).at (z ▸ nc0)
  have nhc0 : H5 c0 = none := s5g11.free nc0
  have nqc0 : c0 ≠ S := Ne.symm (ne_of_none eS nc0)
  generalize (upd G11 c0 (.lst (xs))) = G12 at *
  have s5g12 := s5g11.trans sg12
  have sB12 := sB11.trans sg12
  have eL0 := sg12 _ _ eL0
  have eL1 := sg12 _ _ eL1
  have eL2' := sg12 _ _ eL2'
  have eS := sg12 _ _ eS
  have ec1 := sg12 _ _ ec1
  refine ⟨(by show 1 ≤ sizeLine; decide), fun c2 nc2 => ?_⟩
  have sg13 : Same G12 (upd G12 c2 (.lst ([.ref c0]))) := same_new nc2
  have ec2 : (upd G12 c2 (.lst ([.ref c0]))) c2 = some (.lst ([.ref c0])) := upd_same
  have npc2 : c2 ≠ p := fun z => (hp5.same s5g12).at (z ▸ nc2)
  have nhc2 : H5 c2 = none := s5g12.free nc2
  have nqc2 : c2 ≠ S := Ne.symm (ne_of_none eS nc2)
  generalize (upd G12 c2 (.lst ([.ref c0]))) = G13 at *
  have s5g13 := s5g12.trans sg13
  have sB13 := sB12.trans sg13
  have eL0 := sg13 _ _ eL0
  have eL1 := sg13 _ _ eL1
  have eL2' := sg13 _ _ eL2'
  have eS := sg13 _ _ eS
  have ec1 := sg13 _ _ ec1
  have ec0 := sg13 _ _ ec0
  refine ⟨c1, c2, _, _, rfl, rfl, ec1, ec2, small (by have := cutr none (some a); have := cutr (some a) none; have := cutr (some (a + 1)) none; simp; omega), fun c3 nc3 => ?_⟩
  have sg14 : Same G13 (upd G13 c3 (.lst (cutV (ts.map V.ref) none (some a) ++ [.ref c0]))) := same_new nc3
  have ec3 : (upd G13 c3 (.lst (cutV (ts.map V.ref) none (some a) ++ [.ref c0]))) c3 = some (.lst (cutV (ts.map V.ref) none (some a) ++ [.ref c0])) := upd_same
  have npc3 : c3 ≠ p := fun z => (hp5.same s5g13).at (z ▸ nc3)
  have nhc3 : H5 c3 = none := s5g13.free nc3
  have nqc3 : c3 ≠ S := Ne.symm (ne_of_none eS nc3)
  generalize (upd G13 c3 (.lst (cutV (ts.map V.ref) none (some a) ++ [.ref c0]))) = G14 at *
  have s5g14 := s5g13.trans sg14
  have sB14 := sB13.trans sg14
  have eL0 := sg14 _ _ eL0
  have eL1 := sg14 _ _ eL1
  have eL2' := sg14 _ _ eL2'
  have eS := sg14 _ _ eS
  have ec0 := sg14 _ _ ec0
  refine ⟨_, rfl, _, rfl, a, rfl, r, _, rfl, SqL.of (s5g14 _ _ er5), fun c4 nc4 => ?_⟩
  have sg15 : Same G14 (upd G14 c4 (.lst (cutV (ts.map V.ref) (some a) none))) := same_new nc4
  have ec4 : (upd G14 c4 (.lst (cutV (ts.map V.ref) (some a) none))) c4 = some (.lst (cutV (ts.map V.ref) (some a) none)) := upd_same
  have npc4 : c4 ≠ p := fun z => (hp5.same s5g14).at (z ▸ nc4)
  have nhc4 : H5 c4 = none := s5g14.free nc4
  have nqc4 : c4 ≠ S := Ne.symm (ne_of_none eS nc4)
  generalize (upd G14 c4 (.lst (cutV (ts.map V.ref) (some a) none))) = G15 at *
  have s5g15 := s5g14.trans sg15
  have sB15 := sB14.trans sg15
  have eL0 := sg15 _ _ eL0
  have eL1 := sg15 _ _ eL1
  have eL2' := sg15 _ _ eL2'
  have eS := sg15 _ _ eS
  have ec0 := sg15 _ _ ec0
  have ec3 := sg15 _ _ ec3
  refine ⟨c3, c4, _, _, rfl, rfl, ec3, ec4, small (by have := cutr none (some a); have := cutr (some a) none; have := cutr (some (a + 1)) none; simp; omega), fun L3 nL3 => ?_⟩
  have sg16 : Same G15 (upd G15 L3 (.lst ((cutV (ts.map V.ref) none (some a) ++ [.ref c0]) ++ cutV (ts.map V.ref) (some a) none))) := same_new nL3
  have eL3 : (upd G15 L3 (.lst ((cutV (ts.map V.ref) none (some a) ++ [.ref c0]) ++ cutV (ts.map V.ref) (some a) none))) L3 = some (.lst ((cutV (ts.map V.ref) none (some a) ++ [.ref c0]) ++ cutV (ts.map V.ref) (some a) none)) := upd_same
  have npL3 : L3 ≠ p := fun z => (hp5.same s5g15).at (z ▸ nL3)
  have nhL3 : H5 L3 = none := s5g15.free nL3
  have nqL3 : L3 ≠ S := Ne.symm (ne_of_none eS nL3)
  generalize (upd G15 L3 (.lst ((cutV (ts.map V.ref) none (some a) ++ [.ref c0]) ++ cutV (ts.map V.ref) (some a) none))) = G16 at *
  have s5g16 := s5g15.trans sg16
  have sB16 := sB15.trans sg16
  have eL0 := sg16 _ _ eL0
  have eL1 := sg16 _ _ eL1
  have eL2' := sg16 _ _ eL2'
  have eS := sg16 _ _ eS
  have ec0 := sg16 _ _ ec0
  refine ⟨S, _, _, rfl, rfl, eS, (by show 3 < sizeLine; decide), ?_⟩
  have eS2 : (upd G16 S (.lst ([.ref L0, .ref L1, .ref L2'] ++ [.ref L3]))) S = some (.lst ([.ref L0, .ref L1, .ref L2'] ++ [.ref L3])) := upd_same
  have s5S : Same H5 (upd G16 S (.lst ([.ref L0, .ref L1, .ref L2'] ++ [.ref L3]))) := fun b o hb => by rw [upd_ne (ne_of_none hb nhS)]; exact s5g16 _ _ hb
  have eL0 : (upd G16 S (.lst ([.ref L0, .ref L1, .ref L2'] ++ [.ref L3]))) L0 = some (HO.lst ((cutV (ts.map V.ref) none (some a) ++ [.ref bt]) ++ cutV (ts.map V.ref) (some (a + 1)) none)) := by rw [upd_ne nqL0]; exact eL0
  have eL1 : (upd G16 S (.lst ([.ref L0, .ref L1, .ref L2'] ++ [.ref L3]))) L1 = some (HO.lst (cutV (ts.map V.ref) none (some a) ++ cutV (ts.map V.ref) (some (a + 1)) none)) := by rw [upd_ne nqL1]; exact eL1
  have eL2' : (upd G16 S (.lst ([.ref L0, .ref L1, .ref L2'] ++ [.ref L3]))) L2' = some (HO.lst ((ts.map V.ref).reverse)) := by rw [upd_ne nqL2']; exact eL2'
  have eL3 : (upd G16 S (.lst ([.ref L0, .ref L1, .ref L2'] ++ [.ref L3]))) L3 = some (HO.lst ((cutV (ts.map V.ref) none (some a) ++ [.ref c0]) ++ cutV (ts.map V.ref) (some a) none)) := by rw [upd_ne nqL3]; exact eL3
  have ec0 : (upd G16 S (.lst ([.ref L0, .ref L1, .ref L2'] ++ [.ref L3]))) c0 = some (HO.lst (xs)) := by rw [upd_ne nqc0]; exact ec0
  have hbt2 : It2 K (hid p (upd G16 S (.lst ([.ref L0, .ref L1, .ref L2'] ++ [.ref L3])))) (.ref bt) := hbt.same (hid_mono (p := p) (fun b o hb => by rw [upd_ne (ne_of_none hb nSA)]; exact sB16 _ _ hb))
  have sB100 : Same H10 (upd G16 S (.lst ([.ref L0, .ref L1, .ref L2'] ++ [.ref L3]))) := fun b o hb => by rw [upd_ne (ne_of_none hb nSA)]; exact sB16 _ _ hb
  generalize (upd G16 S (.lst ([.ref L0, .ref L1, .ref L2'] ++ [.ref L3]))) = G100 at *
  have eS := eS2
  -- the rest
  refine ⟨_, rfl, ?_⟩
  refine ⟨_, rfl, _, rfl, a, rfl, r, _, rfl, SqL.of (s5S _ _ er5), fun d1 nd1 => ?_⟩
  have sg17 : Same G100 (upd G100 d1 (.lst (cutV (ts.map V.ref) none (some a)))) := same_new nd1
  have ed1 : (upd G100 d1 (.lst (cutV (ts.map V.ref) none (some a)))) d1 = some (.lst (cutV (ts.map V.ref) none (some a))) := upd_same
  have npd1 : d1 ≠ p := fun z => (hp5.same s5S).at (z ▸ nd1)
  have nhd1 : H5 d1 = none := s5S.free nd1
  have nqd1 : d1 ≠ S := Ne.symm (ne_of_none eS nd1)
  generalize (upd G100 d1 (.lst (cutV (ts.map V.ref) none (some a)))) = G17 at *
  have s5g17 := s5S.trans sg17
  have sB17 := sB100.trans sg17
  have eL0 := sg17 _ _ eL0
  have eL1 := sg17 _ _ eL1
  have eL2' := sg17 _ _ eL2'
  have eL3 := sg17 _ _ eL3
  have ec0 := sg17 _ _ ec0
  have eS := sg17 _ _ eS
  refine ⟨_, rfl, (by show 1 ≤ sizeLine; decide), fun d2 nd2 => ?_⟩
  have sg18 : Same G17 (upd G17 d2 (.lst ([odd]))) := same_new nd2
  have ed2 : (upd G17 d2 (.lst ([odd]))) d2 = some (.lst ([odd])) := upd_same
  have npd2 : d2 ≠ p := fun z => (hp5.same s5g17).at (z ▸ nd2)
  have nhd2 : H5 d2 = none := s5g17.free nd2
  have nqd2 : d2 ≠ S := Ne.symm (ne_of_none eS nd2)
  generalize (upd G17 d2 (.lst ([odd]))) = G18 at *
  have s5g18 := s5g17.trans sg18
  have sB18 := sB17.trans sg18
  have eL0 := sg18 _ _ eL0
  have eL1 := sg18 _ _ eL1
  have eL2' := sg18 _ _ eL2'
  have eL3 := sg18 _ _ eL3
  have ec0 := sg18 _ _ ec0
  have eS := sg18 _ _ eS
  have ed1 := sg18 _ _ ed1
  refine ⟨d1, d2, _, _, rfl, rfl, ed1, ed2, small (by have := cutr none (some a); have := cutr (some a) none; have := cutr (some (a + 1)) none; simp; omega), fun d3 nd3 => ?_⟩
  have sg19 : Same G18 (upd G18 d3 (.lst (cutV (ts.map V.ref) none (some a) ++ [odd]))) := same_new nd3
  have ed3 : (upd G18 d3 (.lst (cutV (ts.map V.ref) none (some a) ++ [odd]))) d3 = some (.lst (cutV (ts.map V.ref) none (some a) ++ [odd])) := upd_same
  have npd3 : d3 ≠ p := fun z => (hp5.same s5g18).at (z ▸ nd3)
  have nhd3 : H5 d3 = none := s5g18.free nd3
  have nqd3 : d3 ≠ S := Ne.symm (ne_of_none eS nd3)
  generalize (upd G18 d3 (.lst (cutV (ts.map V.ref) none (some a) ++ [odd]))) = G19 at *
  have s5g19 := s5g18.trans sg19
  have sB19 := sB18.trans sg19
  have eL0 := sg19 _ _ eL0
  have eL1 := sg19 _ _ eL1
  have eL2' := sg19 _ _ eL2'
  have eL3 := sg19 _ _ eL3
  have ec0 := sg19 _ _ ec0
  have eS := sg19 _ _ eS
  refine ⟨_, rfl, _, rfl, a, rfl, r, _, rfl, SqL.of (s5g19 _ _ er5), fun d4 nd4 => ?_⟩
  have sg20 : Same G19 (upd G19 d4 (.lst (cutV (ts.map V.ref) (some a) none))) := same_new nd4
  have ed4 : (upd G19 d4 (.lst (cutV (ts.map V.ref) (some a) none))) d4 = some (.lst (cutV (ts.map V.ref) (some a) none)) := upd_same
  have npd4 : d4 ≠ p := fun z => (hp5.same s5g19).at (z ▸ nd4)
  have nhd4 : H5 d4 = none := s5g19.free nd4
  have nqd4 : d4 ≠ S := Ne.symm (ne_of_none eS nd4)
  generalize (upd G19 d4 (.lst (cutV (ts.map V.ref) (some a) none))) = G20 at *
  have s5g20 := s5g19.trans sg20
  have sB20 := sB19.trans sg20
  have eL0 := sg20 _ _ eL0
  have eL1 := sg20 _ _ eL1
  have eL2' := sg20 _ _ eL2'
  have eL3 := sg20 _ _ eL3
  have ec0 := sg20 _ _ ec0
  have eS := sg20 _ _ eS
  have ed3 := sg20 _ _ ed3
  refine ⟨d3, d4, _, _, rfl, rfl, ed3, ed4, small (by have := cutr none (some a); have := cutr (some a) none; have := cutr (some (a + 1)) none; simp; omega), fun L4 nL4 => ?_⟩
  have sg21 : Same G20 (upd G20 L4 (.lst ((cutV (ts.map V.ref) none (some a) ++ [odd]) ++ cutV (ts.map V.ref) (some a) none))) := same_new nL4
  have eL4 : (upd G20 L4 (.lst ((cutV (ts.map V.ref) none (some a) ++ [odd]) ++ cutV (ts.map V.ref) (some a) none))) L4 = some (.lst ((cutV (ts.map V.ref) none (some a) ++ [odd]) ++ cutV (ts.map V.ref) (some a) none)) := upd_same
  have npL4 : L4 ≠ p := fun z => (hp5.same s5g20).at (z ▸ nL4)
  have nhL4 : H5 L4 = none := s5g20.free nL4
  have nqL4 : L4 ≠ S := Ne.symm (ne_of_none eS nL4)
  generalize (upd G20 L4 (.lst ((cutV (ts.map V.ref) none (some a) ++ [odd]) ++ cutV (ts.map V.ref) (some a) none))) = G21 at *
  have s5g21 := s5g20.trans sg21
  have sB21 := sB20.trans sg21
  have eL0 := sg21 _ _ eL0
  have eL1 := sg21 _ _ eL1
  have eL2' := sg21 _ _ eL2'
  have eL3 := sg21 _ _ eL3
  have ec0 := sg21 _ _ ec0
  have eS := sg21 _ _ eS
  refine ⟨_, rfl, r, _, rfl, .inl ⟨SqL.of (s5g21 _ _ er5), fun L5 nL5 => ?_⟩⟩
  have sg22 : Same G21 (upd G21 L5 (.tup (ts.map V.ref))) := same_new nL5
  have eL5 : (upd G21 L5 (.tup (ts.map V.ref))) L5 = some (.tup (ts.map V.ref)) := upd_same
  have npL5 : L5 ≠ p := fun z => (hp5.same s5g21).at (z ▸ nL5)
  have nhL5 : H5 L5 = none := s5g21.free nL5
  have nqL5 : L5 ≠ S := Ne.symm (ne_of_none eS nL5)
  generalize (upd G21 L5 (.tup (ts.map V.ref))) = G22 at *
  have s5g22 := s5g21.trans sg22
  have sB22 := sB21.trans sg22
  have eL0 := sg22 _ _ eL0
  have eL1 := sg22 _ _ eL1
  have eL2' := sg22 _ _ eL2'
  have eL3 := sg22 _ _ eL3
  have ec0 := sg22 _ _ ec0
  have eS := sg22 _ _ eS
  have eL4 := sg22 _ _ eL4
  refine ⟨_, rfl, _, rfl, (by show 1 ≤ sizeLine; decide), fun z0 nz0 => ?_⟩
  have sg23 : Same G22 (upd G22 z0 (.tup ([.int 0]))) := same_new nz0
  have ez0 : (upd G22 z0 (.tup ([.int 0]))) z0 = some (.tup ([.int 0])) := upd_same
  have npz0 : z0 ≠ p := fun z => (hp5.same s5g22).at (z ▸ nz0)
  have nhz0 : H5 z0 = none := s5g22.free nz0
  have nqz0 : z0 ≠ S := Ne.symm (ne_of_none eS nz0)
  generalize (upd G22 z0 (.tup ([.int 0]))) = G23 at *
  have s5g23 := s5g22.trans sg23
  have sB23 := sB22.trans sg23
  have eL0 := sg23 _ _ eL0
  have eL1 := sg23 _ _ eL1
  have eL2' := sg23 _ _ eL2'
  have eL3 := sg23 _ _ eL3
  have ec0 := sg23 _ _ ec0
  have eS := sg23 _ _ eS
  have eL4 := sg23 _ _ eL4
  have eL5 := sg23 _ _ eL5
  refine ⟨t, z0, _, _, rfl, rfl, SqT.of (s5g23 _ _ et5), SqT.of ez0, small (by simp; omega), fun f1 HA sA hA => ?_⟩
  have s5g24 := s5g23.trans sA
  have sB24 := sB23.trans sA
  have eL0 := sA _ _ eL0
  have eL1 := sA _ _ eL1
  have eL2' := sA _ _ eL2'
  have eL3 := sA _ _ eL3
  have ec0 := sA _ _ ec0
  have eS := sA _ _ eS
  have eL4 := sA _ _ eL4
  have eL5 := sA _ _ eL5
  have ez0 := sA _ _ ez0
  refine ⟨(by show 1 ≤ sizeLine; decide), fun f2 nf2 => ?_⟩
  have sg25 : Same HA (upd HA f2 (.lst ([.ref f1]))) := same_new nf2
  have ef2 : (upd HA f2 (.lst ([.ref f1]))) f2 = some (.lst ([.ref f1])) := upd_same
  have npf2 : f2 ≠ p := fun z => (hp5.same s5g24).at (z ▸ nf2)
  have nhf2 : H5 f2 = none := s5g24.free nf2
  have nqf2 : f2 ≠ S := Ne.symm (ne_of_none eS nf2)
  generalize (upd HA f2 (.lst ([.ref f1]))) = G25 at *
  have s5g25 := s5g24.trans sg25
  have sB25 := sB24.trans sg25
  have eL0 := sg25 _ _ eL0
  have eL1 := sg25 _ _ eL1
  have eL2' := sg25 _ _ eL2'
  have eL3 := sg25 _ _ eL3
  have ec0 := sg25 _ _ ec0
  have eS := sg25 _ _ eS
  have eL4 := sg25 _ _ eL4
  have eL5 := sg25 _ _ eL5
  have ez0 := sg25 _ _ ez0
  have hA := same_tup sg25 hA
  refine ⟨r, f2, _, _, rfl, rfl, s5g25 _ _ er5, ef2, small (by simp; omega), fun L6 nL6 => ?_⟩
  have sg26 : Same G25 (upd G25 L6 (.lst (ts.map V.ref ++ [.ref f1]))) := same_new nL6
  have eL6 : (upd G25 L6 (.lst (ts.map V.ref ++ [.ref f1]))) L6 = some (.lst (ts.map V.ref ++ [.ref f1])) := upd_same
  have npL6 : L6 ≠ p := fun z => (hp5.same s5g25).at (z ▸ nL6)
  have nhL6 : H5 L6 = none := s5g25.free nL6
  have nqL6 : L6 ≠ S := Ne.symm (ne_of_none eS nL6)
  generalize (upd G25 L6 (.lst (ts.map V.ref ++ [.ref f1]))) = G26 at *
  have s5g26 := s5g25.trans sg26
  have sB26 := sB25.trans sg26
  have eL0 := sg26 _ _ eL0
  have eL1 := sg26 _ _ eL1
  have eL2' := sg26 _ _ eL2'
  have eL3 := sg26 _ _ eL3
  have ec0 := sg26 _ _ ec0
  have eS := sg26 _ _ eS
  have eL4 := sg26 _ _ eL4
  have eL5 := sg26 _ _ eL5
  have ez0 := sg26 _ _ ez0
  have hA := same_tup sg26 hA
  refine ⟨_, rfl, _, rfl, 1, rfl, -1, rfl, t, _, rfl, SqT.of (s5g26 _ _ et5), fun g1' HB sB hB => ?_⟩
  have s5g27 := s5g26.trans sB
  have sB27 := sB26.trans sB
  have eL0 := sB _ _ eL0
  have eL1 := sB _ _ eL1
  have eL2' := sB _ _ eL2'
  have eL3 := sB _ _ eL3
  have ec0 := sB _ _ ec0
  have eS := sB _ _ eS
  have eL4 := sB _ _ eL4
  have eL5 := sB _ _ eL5
  have ez0 := sB _ _ ez0
  have eL6 := sB _ _ eL6
  have hA := same_tup sB hA
  refine ⟨(by show 1 ≤ sizeLine; decide), fun g2' ng2' => ?_⟩
  have sg28 : Same HB (upd HB g2' (.lst ([.ref g1']))) := same_new ng2'
  have eg2' : (upd HB g2' (.lst ([.ref g1']))) g2' = some (.lst ([.ref g1'])) := upd_same
  have npg2' : g2' ≠ p := fun z => (hp5.same s5g27).at (z ▸ ng2')
  have nhg2' : H5 g2' = none := s5g27.free ng2'
  have nqg2' : g2' ≠ S := Ne.symm (ne_of_none eS ng2')
  generalize (upd HB g2' (.lst ([.ref g1']))) = G28 at *
  have s5g28 := s5g27.trans sg28
  have sB28 := sB27.trans sg28
  have eL0 := sg28 _ _ eL0
  have eL1 := sg28 _ _ eL1
  have eL2' := sg28 _ _ eL2'
  have eL3 := sg28 _ _ eL3
  have ec0 := sg28 _ _ ec0
  have eS := sg28 _ _ eS
  have eL4 := sg28 _ _ eL4
  have eL5 := sg28 _ _ eL5
  have ez0 := sg28 _ _ ez0
  have eL6 := sg28 _ _ eL6
  have hA := same_tup sg28 hA
  have hB := same_tup sg28 hB
  refine ⟨r, g2', _, _, rfl, rfl, s5g28 _ _ er5, eg2', small (by simp; omega), fun L7 nL7 => ?_⟩
  have sg29 : Same G28 (upd G28 L7 (.lst (ts.map V.ref ++ [.ref g1']))) := same_new nL7
  have eL7 : (upd G28 L7 (.lst (ts.map V.ref ++ [.ref g1']))) L7 = some (.lst (ts.map V.ref ++ [.ref g1'])) := upd_same
  have npL7 : L7 ≠ p := fun z => (hp5.same s5g28).at (z ▸ nL7)
  have nhL7 : H5 L7 = none := s5g28.free nL7
  have nqL7 : L7 ≠ S := Ne.symm (ne_of_none eS nL7)
  generalize (upd G28 L7 (.lst (ts.map V.ref ++ [.ref g1']))) = G29 at *
  have s5g29 := s5g28.trans sg29
  have sB29 := sB28.trans sg29
  have eL0 := sg29 _ _ eL0
  have eL1 := sg29 _ _ eL1
  have eL2' := sg29 _ _ eL2'
  have eL3 := sg29 _ _ eL3
  have ec0 := sg29 _ _ ec0
  have eS := sg29 _ _ eS
  have eL4 := sg29 _ _ eL4
  have eL5 := sg29 _ _ eL5
  have ez0 := sg29 _ _ ez0
  have eL6 := sg29 _ _ eL6
  have hA := same_tup sg29 hA
  have hB := same_tup sg29 hB
  refine ⟨(by show 4 ≤ sizeLine; decide), fun M nM => ?_⟩
  have sg30 : Same G29 (upd G29 M (.lst ([.ref L4, .ref L5, .ref L6, .ref L7]))) := same_new nM
  have eM : (upd G29 M (.lst ([.ref L4, .ref L5, .ref L6, .ref L7]))) M = some (.lst ([.ref L4, .ref L5, .ref L6, .ref L7])) := upd_same
  have npM : M ≠ p := fun z => (hp5.same s5g29).at (z ▸ nM)
  have nhM : H5 M = none := s5g29.free nM
  have nqM : M ≠ S := Ne.symm (ne_of_none eS nM)
  generalize (upd G29 M (.lst ([.ref L4, .ref L5, .ref L6, .ref L7]))) = G30 at *
  have s5g30 := s5g29.trans sg30
  have sB30 := sB29.trans sg30
  have eL0 := sg30 _ _ eL0
  have eL1 := sg30 _ _ eL1
  have eL2' := sg30 _ _ eL2'
  have eL3 := sg30 _ _ eL3
  have ec0 := sg30 _ _ ec0
  have eS := sg30 _ _ eS
  have eL4 := sg30 _ _ eL4
  have eL5 := sg30 _ _ eL5
  have ez0 := sg30 _ _ ez0
  have eL6 := sg30 _ _ eL6
  have eL7 := sg30 _ _ eL7
  have hA := same_tup sg30 hA
  have hB := same_tup sg30 hB
  refine ⟨S, M, _, _, rfl, rfl, eS, eM, (by show 8 ≤ sizeLine; decide), fun RR nRR => ?_⟩
  have sg31 : Same G30 (upd G30 RR (.lst (([.ref L0, .ref L1, .ref L2'] ++ [.ref L3]) ++ [.ref L4, .ref L5, .ref L6, .ref L7]))) := same_new nRR
  have eRR : (upd G30 RR (.lst (([.ref L0, .ref L1, .ref L2'] ++ [.ref L3]) ++ [.ref L4, .ref L5, .ref L6, .ref L7]))) RR = some (.lst (([.ref L0, .ref L1, .ref L2'] ++ [.ref L3]) ++ [.ref L4, .ref L5, .ref L6, .ref L7])) := upd_same
  have npRR : RR ≠ p := fun z => (hp5.same s5g30).at (z ▸ nRR)
  have nhRR : H5 RR = none := s5g30.free nRR
  have nqRR : RR ≠ S := Ne.symm (ne_of_none eS nRR)
  generalize (upd G30 RR (.lst (([.ref L0, .ref L1, .ref L2'] ++ [.ref L3]) ++ [.ref L4, .ref L5, .ref L6, .ref L7]))) = G31 at *
  have s5g31 := s5g30.trans sg31
  have sB31 := sB30.trans sg31
  have eL0 := sg31 _ _ eL0
  have eL1 := sg31 _ _ eL1
  have eL2' := sg31 _ _ eL2'
  have eL3 := sg31 _ _ eL3
  have ec0 := sg31 _ _ ec0
  have eS := sg31 _ _ eS
  have eL4 := sg31 _ _ eL4
  have eL5 := sg31 _ _ eL5
  have ez0 := sg31 _ _ ez0
  have eL6 := sg31 _ _ eL6
  have eL7 := sg31 _ _ eL7
  have eM := sg31 _ _ eM
  have hA := same_tup sg31 hA
  have hB := same_tup sg31 hB
  have hpF := hp5.same s5g31
  refine ⟨_, rfl, _, rfl, p, 8, rfl, hpF, by omega, by omega, fun d9 HZ kZ hpZ d90 d91 => ?_⟩
  obtain ⟨x, gx1, gx2⟩ := atI_at (xs := [V.ref L0, .ref L1, .ref L2', .ref L3, .ref L4, .ref L5, .ref L6, .ref L7]) d90 d91
  refine ⟨RR, _, d9, x, rfl, rfl, SqL.of (kZ _ _ npRR eRR), gx1, q x HZ (kH5.trans ((Kp.of s5g31).trans kZ)) hpZ (BRes.same ?_ kZ.hid)⟩
  have cutIt : ∀ lo hi, ∀ v ∈ cutV (ts.map V.ref) lo hi, It2 K (hid p G31) v := fun lo hi v hv => (it5 v (cut_sub.1 v hv)).same (hid_mono s5g31)
  have itF : ∀ v ∈ ts.map V.ref, It2 K (hid p G31) v := fun v hv => (it5 v hv).same (hid_mono s5g31)
  have c1l := cutr none (some a); have c2l := cutr (some a) none; have c3l := cutr (some (a + 1)) none
  have btF : It2 K (hid p G31) (.ref bt) := hbt.same (hid_mono sB31)
  have oddF : It K (hid p G31) odd := hodd.same (hid_mono s5g31)
  have m := List.mem_of_getElem? gx2
  simp only [List.mem_cons, List.not_mem_nil, or_false] at m
  rcases m with rfl | rfl | rfl | rfl | rfl | rfl | rfl | rfl
  · refine BRes.lst (SqL.of (hid_of npL0 eL0)) (fun v hv => ?_) (by simp; omega)
    rcases List.mem_append.mp hv with h | h
    · rcases List.mem_append.mp h with h | h
      · exact cutIt _ _ v h
      · rw [List.mem_singleton] at h; rw [h]; exact btF
    · exact cutIt _ _ v h
  · refine BRes.lst (SqL.of (hid_of npL1 eL1)) (fun v hv => ?_) (by simp; omega)
    rcases List.mem_append.mp hv with h | h
    · exact cutIt _ _ v h
    · exact cutIt _ _ v h
  · refine BRes.lst (SqL.of (hid_of npL2' eL2')) (fun v hv => itF v (List.mem_reverse.mp hv)) (by simp; omega)
  · refine BRes.lst (SqL.of (hid_of npL3 eL3)) (fun v hv => ?_) (by simp; omega)
    rcases List.mem_append.mp hv with h | h
    · rcases List.mem_append.mp h with h | h
      · exact cutIt _ _ v h
      · rw [List.mem_singleton] at h; rw [h]
        exact It2.lst (SqL.of (hid_of npc0 ec0)) (xi5 _) (by omega)
    · exact cutIt _ _ v h
  · refine BRes.lst (SqL.of (hid_of npL4 eL4)) (fun v hv => ?_) (by simp; omega)
    rcases List.mem_append.mp hv with h | h
    · rcases List.mem_append.mp h with h | h
      · exact cutIt _ _ v h
      · rw [List.mem_singleton] at h; rw [h]; exact It2.of oddF
    · exact cutIt _ _ v h
  · exact BRes.tup (SqT.of (hid_of npL5 eL5)) itF (by simp; omega)
  · refine BRes.lst (SqL.of (hid_of npL6 eL6)) (fun v hv => ?_) (by simp; omega)
    rcases List.mem_append.mp hv with h | h
    · exact itF v h
    · rw [List.mem_singleton] at h; rw [h]
      refine It2.tup (hidT hpF hA) (fun v hv => ?_) (by simp; omega)
      rcases List.mem_append.mp hv with h | h
      · exact xi5 _ v h
      · rw [List.mem_singleton] at h; rw [h]; exact It.int 0 (by decide)
  · refine BRes.lst (SqL.of (hid_of npL7 eL7)) (fun v hv => ?_) (by simp; omega)
    rcases List.mem_append.mp hv with h | h
    · exact itF v h
    · rw [List.mem_singleton] at h; rw [h]
      exact It2.tup (hidT hpF hB) (fun v hv => xi5 _ v (cut_sub.1 v hv)) (Nat.le_trans (cutx _ _) (by omega))

end
end K06
namespace K06
open PySem PySem.Spec PyProof.Rows L2 KL
section
variable {P : Program} {w : World} {K : PySem.W.Frag} {mg : Str → Option Value} {base : Heap}
/-! ### follows, last -/
structure Fills (H : Hp) (v : Addr) : Prop where
  ex : ∃ fs : List Addr, H v = some (.lst (fs.map V.ref)) ∧ fs.length ≤ 1000 ∧ ∀ t ∈ fs, ∃ bs : List Bool, H t = some (.tup (bs.map V.bl)) ∧ bs.length = 7
def spFollows (K : PySem.W.Frag) : Sp := fun vs H Q _ => ∃ (a b v : Addr) (nss : List (List Int)) (es : List Int), vs = [.ref a, .ref b, .ref v] ∧ ClsL K H a nss ∧ (∀ ns ∈ nss, C7 ns) ∧ SqT K H b (es.map V.int) ∧ C7 es ∧ Fills H v ∧
  (∀ bs : List Bool, (nss.all fun ns => ns.any (sayB bs)) = true → es.any (sayB bs) = true) ∧ ∀ H', Same H H' → Q (.bl true) H'
theorem ok_follows {f : Addr} {fd : FuncData} {k : Nat} (F : Fun K "_law_follows" "_law_follows" s_law_follows f fd) (D_law_hold : Df P w K mg base k "_law_hold" ["_law_clauses", "_law_filling"] (spHold K)) (D_holds : Df P w K mg base k "holds" ["clause", "filling"] (spHolds K)) :
    FnOk P w K mg base CX0 (k + 1) f fd ["_law_clauses", "_law_last_here", "_law_every"] (spFollows K) := by
  refine F.ok sc_law_follows (fun vs H Q E h => ?_) (fun cdv A outer s H vs Q E hr h => ?_)
  · obtain ⟨a, b, v, nss, es, rfl, _⟩ := h
    rfl
  obtain ⟨a, b, v, nss, es, rfl, ha, h7, hb, e7, ⟨fs, ev, lf, hfs⟩, hfol, q⟩ := h
  refine ⟨_, (pss_cons (ps_for PassesOwn.never rfl (pi_list (pv 2)) (pg_name (i := 3) sc_law_follows.nd rfl (.inl rfl))
       (pss_one (ps_if (PW.pt (pw_and (pt_val (pe_df D_law_hold hr (by rfl) (pa_cons (pv 0) (pa_cons (pv 3) pa_nil)))) (pw_and1 (pt_not (pt_val (pe_df D_holds hr (by rfl) (pa_cons (pv 1) (pa_cons (pv 3) pa_nil))))))))
       (pss_one (ps_ret pe_bl))
       pss_nil)))
       (pss_one (ps_ret pe_bl))), ?_⟩
  have le := e7.c30.len
  refine ⟨_, rfl, v, rfl, ⟨_, SqL.of ev⟩, for_list (xs := fs.map V.ref) (fun i σ' H' => ∃ y3 : Option V, σ' = [some (.ref a), some (.ref b), some (.ref v), y3] ∧ Same H H') ⟨_, rfl, Same.refl H⟩ ?_ ?_ ?_⟩
  · rintro i σ' H' _ ⟨_, _, sX⟩
    exact SqL.of (sX _ _ ev)
  · rintro i x σ' H1 ex ⟨y3, rfl, s1⟩
    obtain ⟨t, ht, rfl⟩ := List.mem_map.mp (List.mem_of_getElem? ex)
    obtain ⟨bs, et, lb⟩ := hfs t ht
    obtain ⟨cs, hcs, htt⟩ := (ha.same s1).ex
    refine ⟨_, rfl, _, rfl, a, t, cs, nss, bs, rfl, hcs, SqT.of (s1 _ _ et), htt, by have := ha.len; omega, fun ns hns => ⟨by have := (h7 ns hns).c30.len; omega, fun n hn => by have := (h7 ns hns).2 n hn; omega⟩, fun H2 s2 => ⟨_, rfl, ite2 (fun z => ?_) (fun _ => ⟨_, rfl, s1.trans s2⟩)⟩⟩
    have s12 := s1.trans s2
    refine ⟨_, rfl, _, rfl, b, t, es, bs, rfl, same_tup s12 hb, SqT.of (s12 _ _ et), by omega, fun n hn => by have := e7.2 n hn; omega, fun H3 s3 => ?_⟩
    rw [hfol bs z]
    exact ⟨_, rfl, iteF ⟨_, rfl, s12.trans s3⟩⟩
  · rintro σ' H1 ⟨y3, rfl, s1⟩
    exact q H1 s1
/-- what the last clause of rows is, or nothing -/
def LastV (K : PySem.W.Frag) (H : Hp) (nss : List (List Int)) (d : PyData) (v : V) : Prop := v = .non ∨ ∃ (c : Addr) (ns : List Int) (css : List (List Int)), v = .ref c ∧ allF nss d = .inr css ∧ css.getLast? = some ns ∧ SqT K H c (ns.map V.int)
def spLast (K : PySem.W.Frag) : Sp := fun vs H Q _ => ∃ (a : Addr) (x : V) (d : PyData) (nss : List (List Int)), vs = [.ref a, x] ∧ ClsL K H a nss ∧ RowX K H x d ∧
  ∀ (v : V) (H' : Hp), Same H H' → LastV K H' nss d v → Q v H'
theorem ok_last {f C_NoRows : Addr} {fd : FuncData} {k : Nat} (F : Fun K "_law_last" "_law_last" s_law_last f fd) (D_row_clauses : Dx P w K mg base k "row_clauses" ["clauses", "rows"] (spRowsC C_NoRows K)) (g_NoRows : mg "NoRows" = some (.ref C_NoRows)) (x1 : PySem.W.exmOne K (.ref C_NoRows) (.ref C_NoRows) = some true) :
    FnOk P w K mg base CX0 (k + 1) f fd ["_law_clauses", "_law_rows"] (spLast K) := by
  refine F.ok sc_law_last (fun vs H Q E h => ?_) (fun cdv A outer s H vs Q E hr h => ?_)
  · obtain ⟨a, x, d, nss, rfl, _⟩ := h
    rfl
  obtain ⟨a, x, d, nss, rfl, ha, hx, q⟩ := h
  refine ⟨_, (pss_cons (ps_set (i := 2) sc_law_last.nd rfl (.inl rfl) pe_non)
       (pss_cons (ps_try_only rfl rfl ⟨by rfl, by decide, .inl g_NoRows⟩ L2.takes0
       (fun W pn xe tk _ => (pss_one (ps_set (i := 2) sc_law_last.nd rfl (.inl rfl) (pe_ix (ix_list' (K := K) rfl) (pe_dx D_row_clauses hr (by rfl) (fun σ => passAt tk σ) (pa_cons (pv 0) (pa_cons (pv 1) pa_nil))) (pe_un un_neg pe_int) (fun _ _ => rfl)))))
       (fun a oe cls d pn hz hf => (pss_one (ps_set (i := 2) sc_law_last.nd rfl (.inl rfl) pe_non))))
       (pss_one (ps_ret (pv 2))))), ?_⟩
  refine ⟨_, rfl, _, rfl, a, x, d, nss, rfl, ha, hx, fun l H1 css ts s1 ea nl el tt h30 len => ?_, fun H1 dd n s1 ea hn nd ed => ?_⟩
  · obtain ⟨c, ns, g1, g2, g3, g4⟩ := tt.last (allF_ne ea)
    exact ⟨_, rfl, l, _, -1, .ref c, rfl, rfl, SqL.of el, g1, _, rfl, q (.ref c) H1 s1 (.inr ⟨c, ns, css, rfl, ea, g2, g3⟩)⟩
  · exact ⟨true, x1, fun _ e ne => ⟨_, rfl, q .non H1 s1 (.inl rfl)⟩, fun z => nomatch z⟩

end
end K06
namespace K06
open PySem PySem.Spec PyProof.Rows L2 KL
section
variable {P : Program} {w : World} {K : PySem.W.Frag} {mg : Str → Option Value} {base : Heap}
def spLaw (K : PySem.W.Frag) : Sp := fun vs H Q _ => ∃ (a : Addr) (ns : List Int), vs = [.ref a] ∧ SqL K H a (ns.map V.int) ∧ ns.length ≤ 63 ∧ ∀ H', Q (.bl true) H'
theorem Fills.same {H H' : Hp} {v : Addr} (h : Fills H v) (s : Same H H') : Fills H' v :=
  let ⟨fs, e, l, t⟩ := h.ex; ⟨fs, s _ _ e, l, fun x hx => let ⟨bs, e1, e2⟩ := t x hx; ⟨bs, s _ _ e1, e2⟩⟩
/-- a list of clauses of seven things, beside the pool -/
def Ls7 (K : PySem.W.Frag) (p : Addr) (H : Hp) (v : V) : Prop := ∃ (a : Addr) (nss : List (List Int)), v = .ref a ∧ ClsL K (hid p H) a nss ∧ ∀ ns ∈ nss, C7 ns
theorem Ls7.kp {p : Addr} {H H' : Hp} {v : V} (h : Ls7 K p H v) (k : Kp p H H') : Ls7 K p H' v := let ⟨a, nss, e, c, h7⟩ := h; ⟨a, nss, e, c.same k.hid, h7⟩
/-- nothing, or a clause of seven things -/
def End7 (K : PySem.W.Frag) (H : Hp) (v : V) : Prop := v = .non ∨ ∃ (c : Addr) (es : List Int), v = .ref c ∧ SqT K H c (es.map V.int) ∧ C7 es
theorem End7.same {H H' : Hp} {v : V} (h : End7 K H v) (s : Same H H') : End7 K H' v := h.imp id fun ⟨c, es, e, q, h7⟩ => ⟨c, es, e, same_tup s q, h7⟩
theorem End7.kp {p : Addr} {H H' : Hp} {v : V} (h : End7 K H v) (k : Kp p H H') (hp : Pl H p) : End7 K H' v := h.imp id fun ⟨c, es, e, q, h7⟩ => ⟨c, es, e, k.tup hp q, h7⟩
theorem LastV.end7 {H : Hp} {nss : List (List Int)} {d : PyData} {v : V} (h : LastV K H nss d v) (h7 : ∀ ns ∈ nss, C7 ns) : End7 K H v := h.imp id fun ⟨c, ns, css, e, ea, eg, q⟩ => ⟨c, ns, e, q, last_c7 h7 ea (List.mem_of_getLast? eg)⟩
theorem ok_law {f : Addr} {fd : FuncData} {k : Nat} (F : Fun K "law" "law" s_law f fd) (D_law_fillings : Df P w K mg base k "_law_fillings" ["_law_size"] (spFills K))
    (D_law_pool : Df P w K mg base k "_law_pool" ["_law_script", "_law_k"] (spPool K)) (D_law_take : Df P w K mg base k "_law_take" ["_law_pool_here", "_law_many"] (spTake K))
    (D_law_clause : Df P w K mg base k "_law_clause" ["_law_pool_here", "_law_things", "_law_most"] (spClause K)) (D_law_last : Df P w K mg base k "_law_last" ["_law_clauses", "_law_rows"] (spLast K)) (D_law_follows : Df P w K mg base k "_law_follows" ["_law_clauses", "_law_last_here", "_law_every"] (spFollows K))
    (DK_lets_rows : Dk P w K mg base k "lets_rows" ["clauses", "rows", "end"] (spLets K) 2 ["end"])
    (D_law_drawn_rows : Df P w K mg base k "_law_drawn_rows" ["_law_pool_here", "_law_clauses"] (spDrawn K)) (D_law_bent_rows : Df P w K mg base k "_law_bent_rows" ["_law_pool_here", "_law_rows"] (spBentR K))
    (m_len : mg "len" = none) (m_range : mg "range" = none) (m_max : mg "max" = none) (m_min : mg "min" = none) :
    GFn P w K mg base CX0 (k + 1) f fd ["_law_script"] (spLaw K) := by
  refine gfn0 F sc_law (fun vs H Q E h => ?_) (fun cdv A gu outer s H vs Q E hr h => ?_)
  · obtain ⟨a, ns, rfl, _⟩ := h
    rfl
  obtain ⟨a, ns, rfl, hS, hl, q⟩ := h
  refine ⟨_, (pss_cons (ps_set (i := 1) sc_law.nd rfl (.inl rfl) (pe_df D_law_fillings hr (by rfl) (pa_cons pe_int pa_nil)))
       (pss_cons (ps_for PassesOwn.never rfl (pi_range1 (by rfl) m_range (pa_cons (pe_callB (call_max2 rfl) (by rfl) m_max (by decide +kernel) (pa_cons pe_int (pa_cons (pe_callB (call_min2 rfl) (by rfl) m_min (by decide +kernel) (pa_cons pe_int (pa_cons (pe_callB call_len_seq (by rfl) m_len (by decide +kernel) (pa_cons (pv 0) pa_nil)) pa_nil))) pa_nil))) pa_nil)) (pg_name (i := 2) sc_law.nd rfl (.inl rfl))
       (pss_cons (ps_set (i := 3) sc_law.nd rfl (.inr rfl) (pe_df D_law_pool hr (by rfl) (pa_cons (pv 0) (pa_cons (pv 2) pa_nil))))
       (pss_cons (ps_setLc (i := 4) (own := [("_law_turn", 5)]) (g := gName 5) (tt := tYes) rfl sc_law.nd rfl rfl (sw_true rfl rfl rfl (by decide +kernel)) (pi_range1 (by rfl) m_range (pa_cons (pe_op op_add pe_int (pe_df D_law_take hr (by rfl) (pa_cons (pv 3) (pa_cons pe_int pa_nil)))) pa_nil)) (blkOk_by (by kernel_rfl)) (fun _ _ _ _ _ => (pg_name (i := 5) sc_law.nd rfl (.inl rfl))) (fun _ _ _ _ _ => pts_nil) (fun _ _ _ _ _ => (pe_df D_law_clause hr (by rfl) (pa_cons (pv 3) (pa_cons pe_int (pa_cons pe_int pa_nil))))))
       (pss_cons (ps_set (i := 6) sc_law.nd rfl (.inl rfl) (pe_df D_law_drawn_rows hr (by rfl) (pa_cons (pv 3) (pa_cons (pv 4) pa_nil))))
       (pss_cons (ps_set (i := 7) sc_law.nd rfl (.inl rfl) (pe_lst (pa_cons (pv 4) (pa_cons (pe_op op_cat (pv 4) (pe_lst (pa_cons (pe_df D_law_clause hr (by rfl) (pa_cons (pv 3) (pa_cons pe_int (pa_cons pe_int pa_nil)))) pa_nil))) (pa_cons (pe_lc (own := [("_law_clause_here", 8)]) (g := gName 8) (tt := tYes) (by rfl) sc_law.nd (pi_list (pv 4)) (blkOk_by (by kernel_rfl)) (fun _ _ _ _ _ => (pg_name (i := 8) sc_law.nd rfl (.inl rfl))) (fun _ _ _ _ _ => pts_nil) (fun _ _ _ _ _ => (pe_slice (sl_tupK' (K := K) rfl) (pv 8) (po_some pe_int) po_none))) pa_nil)))))
       (pss_one (ps_for PassesOwn.never rfl (pi_list (pe_lst (pa_cons (pv 6) (pa_cons (pe_slice sl_list (pv 6) po_none (po_some (pe_op op_add pe_int (pe_df D_law_take hr (by rfl) (pa_cons (pv 3) (pa_cons (pe_callB call_len_seq (by rfl) m_len (by decide +kernel) (pa_cons (pv 6) pa_nil)) pa_nil)))))) (pa_cons (pe_df D_law_bent_rows hr (by rfl) (pa_cons (pv 3) (pa_cons (pv 6) pa_nil))) pa_nil))))) (pg_name (i := 9) sc_law.nd rfl (.inl rfl))
       (pss_one (ps_for PassesOwn.never rfl (pi_list (pv 7)) (pg_name (i := 10) sc_law.nd rfl (.inl rfl))
       (pss_cons (ps_set (i := 11) sc_law.nd rfl (.inl rfl) (pe_df D_law_last hr (by rfl) (pa_cons (pv 10) (pa_cons (pv 9) pa_nil))))
       (C8.pss_cut (ps_if (PW.pt (pw_and (pt_cmpR op_notN (pv 11) pe_non (nomark _)) (pw_and1 (pt_not (pt_val (pe_dk DK_lets_rows hr (by rfl) (pa_cons (pv 10) (pa_cons (pv 9) pa_nil)) (pk_cons (pv 11) pk_nil)))))))
       (pss_one (ps_ret pe_bl))
       pss_nil)
       (pss_one (ps_for PassesOwn.never rfl (pi_list (pe_lst (pa_cons (pv 11) (pa_cons (pe_tup pa_nil) (pa_cons (pe_df D_law_clause hr (by rfl) (pa_cons (pv 3) (pa_cons pe_int (pa_cons pe_int pa_nil)))) pa_nil))))) (pg_name (i := 12) sc_law.nd rfl (.inl rfl))
       (pss_one (ps_if (PW.pt (pw_and (pt_cmpR op_notN (pv 12) pe_non (nomark _)) (pw_and1 (pt_val (pe_dk DK_lets_rows hr (by rfl) (pa_cons (pv 10) (pa_cons (pv 9) pa_nil)) (pk_cons (pv 12) pk_nil))))))
       (pss_one (ps_if (pt_not (pt_val (pe_df D_law_follows hr (by rfl) (pa_cons (pv 10) (pa_cons (pv 12) (pa_cons (pv 1) pa_nil))))))
       (pss_one (ps_ret pe_bl))
       pss_nil))
       pss_nil)))))))))))))))
       (pss_one (ps_ret pe_bl)))), ?_⟩
  have hlen : (ns.map V.int).length = ns.length := List.length_map _
  refine ⟨7, rfl, by decide, fun v fts H0 s0 nv ev lts hts => ?_⟩
  have fl0 : Fills H0 v := ⟨fts, ev, by rw [lts]; decide, fun t ht => by
    obtain ⟨j, hj⟩ := List.mem_iff_getElem?.mp ht
    exact ⟨_, hts j t hj, by unfold rowB; simp⟩⟩
  refine ⟨_, rfl, a, _, rfl, .inl (s0.seq hS), _, _, rfl, _, _, rfl, _, rfl, ?_, ?_, for_range (lo := 0) (fun i σ' H' => ∃ y2 y3 y4 y5 y6 y7 y8 y9 y10 y11 y12, σ' = [some (.ref a), some (.ref v), y2, y3, y4, y5, y6, y7, y8, y9, y10, y11, y12] ∧ Same H0 H') ?_ ?_ ?_⟩
  · rw [hlen]; split <;> (split <;> omega)
  · rw [hlen]; split <;> (split <;> omega)
  · exact ⟨_, _, _, _, _, _, _, _, _, _, _, rfl, Same.refl H0⟩
  · rintro i σ' H1 hi ⟨y2, y3, y4, y5, y6, y7, y8, y9, y10, y11, y12, rfl, s1⟩
    refine ⟨_, rfl, _, rfl, a, ns, _, rfl, (s0.trans s1).seq hS, by omega, by omega, fun p H2 np s2 hp2 => ?_⟩
    -- the clauses
    refine ⟨_, rfl, p, 8, rfl, hp2, by omega, by omega, fun d H3 k3 hp3 d0 d1 => ⟨_, _, rfl, rfl, _, rfl, by omega, by omega, fun D nD => lc_range (lo := 0) (n := (1 + d).toNat) (fun j H' => ∃ (cs : List Addr) (nss : List (List Int)), Kp p H3 H' ∧ Pl H' p ∧ H' D = some (.lst (cs.map V.ref)) ∧ TupsI K H' cs nss ∧ nss.length = j ∧ ∀ ns ∈ nss, C7 ns) ?_ ?_ ?_⟩⟩
    · exact ⟨[], [], Kp.of (same_new nD), hp3.same (same_new nD), upd_same, .nil, rfl, fun n hn => nomatch hn⟩
    · rintro j H4 hj ⟨cs, nss, k4, hp4, eD, tt, hln, h7⟩
      have hDp : D ≠ p := fun z => hp3.at (z ▸ nD)
      refine ⟨rfl, _, rfl, p, 7, 4, rfl, hp4, by omega, by omega, fun c cns H5 k5 hp5 nc ec cl m5 l5 => ?_⟩
      have eD5 := k5 _ _ hDp eD
      refine ⟨_, eD5, ?_, cs ++ [c], nss ++ [cns], ?_, ?_, ?_, ?_, ?_, ?_⟩
      · rw [List.length_map, tt.len, hln]; exact small1000 (by omega)
      · exact fun b o nb hb => by rw [upd_ne (ne_of_none hb nD)]; exact k5 _ _ nb (k4 _ _ nb hb)
      · obtain ⟨x, y, e, r⟩ := hp5
        exact ⟨x, y, by rw [upd_ne hDp.symm]; exact e, r⟩
      · rw [upd_same, List.map_append]; rfl
      · exact ((k5.tups (K := K) hp4 tt).snoc (SqT.of ec)).lst eD5
      · rw [List.length_append, hln]; rfl
      · intro n hn
        rcases List.mem_append.mp hn with h | h
        · exact h7 n h
        · rw [List.mem_singleton] at h; rw [h]
          exact ⟨cl.up, fun x hx => by have := cl.all x hx; exact ⟨this.1, Nat.le_trans this.2 (by decide)⟩⟩
    rintro H4 ⟨cs, nss, k4, hp4, eD, tt, hln, h7⟩
    have hDp : D ≠ p := fun z => hp3.at (z ▸ nD)
    have ln1 : 1 ≤ nss.length := by omega
    have ln8 : nss.length ≤ 8 := by omega
    have k24 : Kp p H2 H4 := k3.trans k4
    have cls4 : ClsL K (hid p H4) D nss := ⟨⟨cs, SqL.of (hid_of hDp eD), tt.mv fun a xs q => hidT hp4 q⟩, fun ns hns => (h7 ns hns).c30, by omega⟩
    clear k3 k4 hp3 nD
    -- the rows
    refine ⟨_, rfl, _, rfl, p, D, nss, rfl, hp4, cls4, ln1, fun r ts H5 k5 hp5 nr er hts l1 l12 => ?_⟩
    have hrp : r ≠ p := fun z => hp4.at (z ▸ nr)
    have eD5 := k5 _ _ hDp eD
    have tt5 := k5.tups (K := K) hp4 tt
    -- the lists
    refine ⟨_, rfl, _, rfl, _, rfl, p, 7, 4, rfl, hp5, by omega, by omega, fun c1 n1 H6 k6 hp6 nc1 ec1 cl1 m1 lc1 => ?_⟩
    refine ⟨(by show 1 ≤ sizeLine; decide), fun u1 nu1 => ?_⟩
    have s7 : Same H6 (upd H6 u1 (.lst [.ref c1])) := same_new nu1
    have eu1 : (upd H6 u1 (.lst [.ref c1])) u1 = some (.lst [.ref c1]) := upd_same
    have hp7 := hp6.same s7
    have eD7 := s7 _ _ (k6 _ _ hDp eD5)
    have tt7 := (k6.tups (K := K) hp5 tt5).same s7
    have ec17 := s7 _ _ ec1
    generalize (upd H6 u1 (.lst [.ref c1])) = H7 at *
    refine ⟨D, u1, _, _, rfl, rfl, eD7, eu1, small (by rw [List.length_map, tt.len]; simp; omega), fun D2 nD2 => ?_⟩
    have s8 : Same H7 (upd H7 D2 (.lst (cs.map V.ref ++ [.ref c1]))) := same_new nD2
    have eD2 : (upd H7 D2 (.lst (cs.map V.ref ++ [.ref c1]))) D2 = some (.lst (cs.map V.ref ++ [.ref c1])) := upd_same
    have hp8 := hp7.same s8
    have eD8 := s8 _ _ eD7
    have tt8 := tt7.same s8
    have ec18 := s8 _ _ ec17
    have hD2p : D2 ≠ p := fun z => hp7.at (z ▸ nD2)
    generalize (upd H7 D2 (.lst (cs.map V.ref ++ [.ref c1]))) = H8 at *
    refine ⟨_, rfl, D, rfl, ⟨_, SqL.of eD8⟩, fun D3 nD3 => lc_list (xs := cs.map V.ref) (fun j H' => Same H8 H' ∧ ∃ (ds : List Addr) (mss : List (List Int)), H' D3 = some (.lst (ds.map V.ref)) ∧ TupsI K H' ds mss ∧ mss.length = j ∧ ∀ ns ∈ mss, C7 ns) ?_ ?_ ?_ ?_⟩
    · exact ⟨same_new nD3, [], [], upd_same, .nil, rfl, fun n hn => nomatch hn⟩
    · exact fun i H' _ h => SqL.of (h.1 _ _ eD8)
    · rintro j x H9 ex ⟨s9, ds, mss, e9, t9, l9, h79⟩
      obtain ⟨c, cns, rfl, hin, hc1, htk⟩ := tt8.at ex
      have hj : j < nss.length := by
        have := (List.getElem?_eq_some_iff.mp ex).1
        rw [List.length_map, tt8.len] at this; exact this
      refine ⟨rfl, _, rfl, 1, rfl, c, _, rfl, same_tup s9 hc1, fun c2 HA sA hA => ?_⟩
      rw [cut_ints] at hA
      have eA := sA _ _ e9
      refine ⟨_, eA, ?_, ?_, ds ++ [c2], mss ++ [cutI cns (some 1) none], ?_, ?_, ?_, ?_⟩
      · rw [List.length_map, t9.len, l9]; exact small1000 (by omega)
      · exact fun b o hb => by rw [upd_ne (ne_of_none hb nD3)]; exact sA _ _ (s9 _ _ hb)
      · rw [upd_same, List.map_append]; rfl
      · exact ((t9.same sA).snoc hA).lst eA
      · rw [List.length_append, l9]; rfl
      · intro n hn
        rcases List.mem_append.mp hn with h | h
        · exact h79 n h
        · rw [List.mem_singleton] at h; rw [h]
          exact ⟨cutI_cl (n := 0) (h7 cns hin).1, fun x hx => (h7 cns hin).2 x (cutI_sub.1 x hx)⟩
    rintro H9 ⟨s9, ds, mss, e9, t9, l9, h79⟩
    rw [List.length_map, tt8.len] at l9
    have hD3p : D3 ≠ p := fun z => hp8.at (z ▸ nD3)
    refine ⟨(by show 3 ≤ sizeLine; decide), fun L nL => ?_⟩
    have sA : Same H9 (upd H9 L (.lst [.ref D, .ref D2, .ref D3])) := same_new nL
    have eL : (upd H9 L (.lst [.ref D, .ref D2, .ref D3])) L = some (.lst [.ref D, .ref D2, .ref D3]) := upd_same
    have hp9 := hp8.same s9
    have hLp : L ≠ p := fun z => hp9.at (z ▸ nL)
    have hpA := hp9.same sA
    generalize (upd H9 L (.lst [.ref D, .ref D2, .ref D3])) = HA at *
    have s8A := s9.trans sA
    have lists : ∀ x ∈ [V.ref D, .ref D2, .ref D3], Ls7 K p HA x := fun x hx => by
      simp only [List.mem_cons, List.not_mem_nil, or_false] at hx
      rcases hx with rfl | rfl | rfl
      · exact ⟨D, nss, rfl, ⟨⟨cs, SqL.of (hid_of hDp (s8A _ _ eD8)), (tt8.same s8A).mv fun a xs q => hidT hpA q⟩, fun ns hns => (h7 ns hns).c30, by omega⟩, h7⟩
      · refine ⟨D2, nss ++ [n1], rfl, ⟨⟨cs ++ [c1], ?_, ((tt8.snoc (SqT.of ec18)).same s8A).mv fun a xs q => hidT hpA q⟩, ?_, by rw [List.length_append]; simp; omega⟩, ?_⟩
        · have := hid_of (p := p) hD2p (s8A _ _ eD2)
          rw [List.map_append]; exact SqL.of this
        all_goals
          intro n hn
          rcases List.mem_append.mp hn with h | h
        · exact (h7 n h).c30
        · rw [List.mem_singleton] at h; rw [h]
          exact C7.c30 ⟨cl1.up, fun x hx => by have := cl1.all x hx; exact ⟨this.1, Nat.le_trans this.2 (by decide)⟩⟩
        · exact h7 n h
        · rw [List.mem_singleton] at h; rw [h]
          exact ⟨cl1.up, fun x hx => by have := cl1.all x hx; exact ⟨this.1, Nat.le_trans this.2 (by decide)⟩⟩
      · exact ⟨D3, mss, rfl, ⟨⟨ds, SqL.of (hid_of hD3p (sA _ _ e9)), (t9.same sA).mv fun a xs q => hidT hpA q⟩, fun ns hns => (h79 ns hns).c30, by omega⟩, h79⟩
    have k5A : Kp p H5 HA := k6.trans (Kp.of (s7.trans (s8.trans s8A)))
    have erA := k5A _ _ hrp er
    have htsA : ∀ t ∈ ts, Rw HA t := fun t ht => (hts t ht).mv (k5A.tp hp5)
    have s1A : Same H1 HA := same_kp s2 np (k24.trans (k5.trans k5A))
    clear k5A k6 s7 s8 s8A s9 sA nL nD3 nD2 nu1 nc1 hp9 hp8 hp7 hp6 hp5 hp4 er hts tt tt5 tt7 tt8 t9 eD eD5 eD7 eD8 eD2 e9 eu1 ec1 ec17 ec18 cls4 k5 k24 nr
    -- the things
    refine ⟨_, rfl, _, rfl, _, rfl, _, rfl, r, _, rfl, .inl (SqL.of erA), p, _, rfl, hpA, ?_, ?_, fun d2 HB kB hpB d20 d21 => ?_⟩
    · rw [List.length_map]; omega
    · rw [List.length_map]; omega
    have erB := kB _ _ hrp erA
    have htsB : ∀ t ∈ ts, Rw HB t := fun t ht => (htsA t ht).mv (kB.tp hpA)
    refine ⟨_, _, rfl, rfl, 1 + d2, rfl, r, _, rfl, SqL.of erB, fun r2 nr2 => ?_⟩
    have sC : Same HB (upd HB r2 (.lst (cutV (ts.map V.ref) none (some (1 + d2))))) := same_new nr2
    have er2 : (upd HB r2 (.lst (cutV (ts.map V.ref) none (some (1 + d2))))) r2 = some (.lst (cutV (ts.map V.ref) none (some (1 + d2)))) := upd_same
    have hr2p : r2 ≠ p := fun z => hpB.at (z ▸ nr2)
    have hpC := hpB.same sC
    generalize (upd HB r2 (.lst (cutV (ts.map V.ref) none (some (1 + d2))))) = HC at *
    have erC := sC _ _ erB
    have htsC : ∀ t ∈ ts, Rw HC t := fun t ht => (htsB t ht).mv fun _ _ e => sC _ _ e
    refine ⟨_, rfl, _, rfl, p, r, ts, rfl, hpC, erC, htsC, l1, l12, fun x2 HD kD hpD b2 => ?_⟩
    have itD : ∀ v ∈ ts.map V.ref, It2 K (hid p HD) v := fun v hv => by
      obtain ⟨t, ht, rfl⟩ := List.mem_map.mp hv
      exact ((htsC t ht).mv (kD.tp hpC)).it hpD
    have b0 : BRes K (hid p HD) (.ref r) := BRes.lst (SqL.of (hid_of hrp (kD _ _ hrp erC))) itD (by rw [List.length_map]; omega)
    have b1 : BRes K (hid p HD) (.ref r2) := BRes.lst (SqL.of (hid_of hr2p (kD _ _ hr2p er2))) (fun v hv => itD v (cut_sub.1 v hv)) (by have := (cut_sub (xs := ts.map V.ref) (lo := none) (hi := some (1 + d2))).2; rw [List.length_map] at this; omega)
    refine ⟨(by show 3 ≤ sizeLine; decide), fun LT nLT => ?_⟩
    have sE : Same HD (upd HD LT (.lst [.ref r, .ref r2, x2])) := same_new nLT
    have eLT : (upd HD LT (.lst [.ref r, .ref r2, x2])) LT = some (.lst [.ref r, .ref r2, x2]) := upd_same
    have hLTp : LT ≠ p := fun z => hpD.at (z ▸ nLT)
    have hpE := hpD.same sE
    generalize (upd HD LT (.lst [.ref r, .ref r2, x2])) = HE at *
    have things : ∀ x ∈ [V.ref r, .ref r2, x2], BRes K (hid p HE) x := fun x hx => by
      simp only [List.mem_cons, List.not_mem_nil, or_false] at hx
      rcases hx with rfl | rfl | rfl
      · exact b0.same (hid_mono sE)
      · exact b1.same (hid_mono sE)
      · exact b2.same (hid_mono sE)
    have kAE : Kp p HA HE := kB.trans ((Kp.of sC).trans (kD.trans (Kp.of sE)))
    have eLE := kAE _ _ hLp eL
    have listsE : ∀ x ∈ [V.ref D, .ref D2, .ref D3], Ls7 K p HE x := fun x hx => (lists x hx).kp kAE
    have s1E : Same H1 HE := fun b o hb => kAE _ _ (ne_of_none hb np) (s1A _ _ hb)
    have flE : Fills HE v := fl0.same (s1.trans s1E)
    have hvp : ∀ {H'}, Kp p HE H' → Fills H' v := fun k => fl0.same (s1.trans fun b o hb => k _ _ (ne_of_none hb np) (s1E _ _ hb))
    clear kAE kB sC kD sE b0 b1 b2 itD lists eL erA erB erC htsA htsB htsC hpA hpB hpC hpD nr2 nLT er2 flE
    refine ⟨LT, rfl, ⟨_, SqL.of eLT⟩, for_list (xs := [V.ref r, .ref r2, x2]) (fun j σ' H' => ∃ y9 y10 y11 y12 : Option V, σ' = [some (.ref a), some (.ref v), some (.int (0 + (i : Int))), some (.ref p), some (.ref D), y5, some (.ref r), some (.ref L), y8, y9, y10, y11, y12] ∧ Kp p HE H' ∧ Pl H' p) ?_ ?_ ?_ ?_⟩
    · exact ⟨_, _, _, _, rfl, Kp.refl _ _, hpE⟩
    · rintro j σ' H' _ ⟨_, _, _, _, _, kX, _⟩
      exact SqL.of (kX _ _ hLTp eLT)
    · rintro j x σ' HF ex ⟨y9, y10, y11, y12, rfl, kF, hpF⟩
      have bx := (things x (List.mem_of_getElem? ex)).same kF.hid
      obtain ⟨dx, hdx, fdx, rx, l30⟩ := bx.row
      refine ⟨_, rfl, L, rfl, ⟨_, SqL.of (kF _ _ hLp eLE)⟩, for_list (xs := [V.ref D, .ref D2, .ref D3]) (fun j2 σ' H' => ∃ y10 y11 y12 : Option V, σ' = [some (.ref a), some (.ref v), some (.int (0 + (i : Int))), some (.ref p), some (.ref D), y5, some (.ref r), some (.ref L), y8, some x, y10, y11, y12] ∧ Kp p HF H' ∧ Pl H' p) ?_ ?_ ?_ ?_⟩
      · exact ⟨_, _, _, rfl, Kp.refl _ _, hpF⟩
      · rintro j2 σ' H' _ ⟨_, _, _, _, kX, _⟩
        exact SqL.of (kX _ _ hLp (kF _ _ hLp eLE))
      · rintro j2 z σ' HG ez ⟨y10, y11, y12, rfl, kG, hpG⟩
        obtain ⟨A, mss, rfl, clsA, m7⟩ := (listsE z (List.mem_of_getElem? ez)).kp (kF.trans kG)
        have rxG := rx.same kG.hid
        have up := hid_same p HG
        refine ⟨_, rfl, _, rfl, A, x, dx, mss, rfl, clsA.same up, rxG.same up, fun lv HH sH lvH => ?_⟩
        refine ⟨fun σ' H' => ∃ y12 : Option V, σ' = [some (.ref a), some (.ref v), some (.int (0 + (i : Int))), some (.ref p), some (.ref D), y5, some (.ref r), some (.ref L), y8, some x, some (.ref A), some lv, y12] ∧ Same HH H', ?_, ?_⟩
        · rcases lvH with rfl | ⟨c, es, css, rfl, ea, eg, qc⟩
          · exact ⟨_, rfl, rfl, _, rfl, iteF ⟨_, rfl, Same.refl _⟩⟩
          · refine ⟨_, rfl, rfl, _, rfl, iteT ?_⟩
            refine ⟨_, rfl, _, rfl, _, rfl, rfl, rfl, A, c, x, dx, mss, es, rfl, (clsA.same up).same sH, (rxG.same up).same sH, qc, fun HI sI => ?_⟩
            rw [letsF_self ea eg]
            exact ⟨_, rfl, iteF ⟨_, rfl, sI⟩⟩
        rintro σ' HI ⟨y12', rfl, sI⟩
        have ev7 := (lvH.end7 m7).same sI
        have sGI := sH.trans sI
        have hpI := hpG.same sGI
        refine ⟨_, rfl, (by show 0 ≤ sizeLine; decide), fun t1 nt1 => ?_⟩
        have sJ : Same HI (upd HI t1 (.tup [])) := same_new nt1
        have et1 : (upd HI t1 (.tup [])) t1 = some (.tup []) := upd_same
        generalize (upd HI t1 (.tup [])) = HJ at *
        have hpJ := hpI.same sJ
        refine ⟨_, rfl, p, 7, 7, rfl, hpJ, by omega, by omega, fun c3 cs3 HK kK hpK nc3 ec3 cl3 m3 lc3 => ?_⟩
        refine ⟨(by show 3 ≤ sizeLine; decide), fun LE nLE => ?_⟩
        have sL : Same HK (upd HK LE (.lst [lv, .ref t1, .ref c3])) := same_new nLE
        have eLE' : (upd HK LE (.lst [lv, .ref t1, .ref c3])) LE = some (.lst [lv, .ref t1, .ref c3]) := upd_same
        have hLEp : LE ≠ p := fun z => hpK.at (z ▸ nLE)
        have hpL := hpK.same sL
        generalize (upd HK LE (.lst [lv, .ref t1, .ref c3])) = HL at *
        have ends : ∀ x ∈ [lv, .ref t1, .ref c3], End7 K HL x := fun x hx => by
          simp only [List.mem_cons, List.not_mem_nil, or_false] at hx
          rcases hx with rfl | rfl | rfl
          · exact ((ev7.same sJ).kp kK hpJ).same sL
          · exact .inr ⟨t1, [], rfl, SqT.of (sL _ _ (kK.tp hpJ _ _ et1)), List.Pairwise.nil, fun n hn => nomatch hn⟩
          · exact .inr ⟨c3, cs3, rfl, SqT.of (sL _ _ ec3), cl3.up, fun x hx => by have := cl3.all x hx; exact ⟨this.1, Nat.le_trans this.2 (by decide)⟩⟩
        have kGL : Kp p HG HL := (Kp.of (sGI.trans sJ)).trans (kK.trans (Kp.of sL))
        have clsL := clsA.same kGL.hid
        have rxL := rxG.same kGL.hid
        have flL : Fills HL v := hvp (kF.trans (kG.trans kGL))
        have upL := hid_same p HL
        refine ⟨LE, rfl, ⟨_, SqL.of eLE'⟩, for_list (xs := [lv, .ref t1, .ref c3]) (fun j3 σ' H' => ∃ y12 : Option V, σ' = [some (.ref a), some (.ref v), some (.int (0 + (i : Int))), some (.ref p), some (.ref D), y5, some (.ref r), some (.ref L), y8, some x, some (.ref A), some lv, y12] ∧ Same HL H') ?_ ?_ ?_ ?_⟩
        · exact ⟨_, rfl, Same.refl _⟩
        · rintro j3 σ' H' _ ⟨_, _, sX⟩
          exact SqL.of (sX _ _ eLE')
        · rintro j3 u σ' HM eu ⟨y12'', rfl, sM⟩
          rcases (ends u (List.mem_of_getElem? eu)).same sM with rfl | ⟨c, es, rfl, qc, e7⟩
          · exact ⟨_, rfl, rfl, _, rfl, iteF ⟨_, rfl, sM⟩⟩
          · refine ⟨_, rfl, rfl, _, rfl, iteT ?_⟩
            refine ⟨_, rfl, _, rfl, _, rfl, rfl, rfl, A, c, x, dx, mss, es, rfl, (clsL.same upL).same sM, (rxL.same upL).same sM, qc, fun HN sN => ?_⟩
            refine ⟨_, rfl, ite2 (fun z => ?_) (fun z => ⟨_, rfl, sM.trans sN⟩)⟩
            have sMN := sM.trans sN
            refine ⟨_, rfl, _, rfl, _, rfl, A, c, v, mss, es, rfl, (clsL.same upL).same sMN, m7, same_tup sN qc, e7, flL.same sMN, fun bs hb => lets_follow m7 z hb, fun HO sO => ?_⟩
            exact ⟨_, rfl, iteF ⟨_, rfl, sMN.trans sO⟩⟩
        · rintro σ' HM ⟨y12'', rfl, sM⟩
          exact ⟨_, _, _, rfl, kG.trans (kGL.trans (Kp.of sM)), hpL.same sM⟩
      · rintro σ' HG ⟨y10, y11, y12, rfl, kG, hpG⟩
        exact ⟨_, _, _, _, rfl, kF.trans kG, hpG⟩
    · rintro σ' HF ⟨y9, y10, y11, y12, rfl, kF, hpF⟩
      exact ⟨_, _, _, _, _, _, _, _, _, _, _, rfl, s1.trans fun b o hb => kF _ _ (ne_of_none hb np) (s1E _ _ hb)⟩
  · rintro σ' H1 ⟨y2, y3, y4, y5, y6, y7, y8, y9, y10, y11, y12, rfl, s1⟩
    exact q H1

end
end K06
namespace K06
open PySem PySem.Spec PyProof.Rows L2 KL
abbrev s_NoRows___init__ : Stmt := inClass (topS 2) 0
theorem si_NoRows : NdefX.NScope ["self", "number", "__class__"] ["self", "number"] ["__class__"] (defScope s_NoRows___init__) := NdefX.nscope_by (by decide +kernel)
theorem all_mk {l : PySem.W.OpenLaw} {w : World} {K : PySem.W.Frag} {h : Heap} {mg : Str → Option Value} {fa : Addr} (X : K.In h) (G : h.Ns mainGlobals mg) (hfa : mg "law" = some (.ref fa))
    {f_is_whole : Addr} {od_is_whole an_is_whole : Option Addr} {sl_is_whole : Array (Option Value)} {oc_is_whole kV_is_whole dc_is_whole pm_is_whole cd_is_whole ct_is_whole : Value}
    (a_is_whole : PySem.W.nsIn K mainGlobals "is_whole" = some (some (.ref f_is_whole)))
    (l_is_whole : K.lookup f_is_whole = some ⟨oc_is_whole, od_is_whole, .func (PySem.W.fnOf "is_whole" "is_whole" (defArgs s_is_whole) (defBody s_is_whole) (defScope s_is_whole) .none kV_is_whole dc_is_whole pm_is_whole an_is_whole cd_is_whole ct_is_whole), sl_is_whole⟩)
    (c_is_whole : PySem.W.codeIn K cd_is_whole "is_whole" = true) (k_is_whole : PySem.W.keepIn K (.ref f_is_whole) = true)
    {f_is_number : Addr} {od_is_number an_is_number : Option Addr} {sl_is_number : Array (Option Value)} {oc_is_number kV_is_number dc_is_number pm_is_number cd_is_number ct_is_number : Value}
    (a_is_number : PySem.W.nsIn K mainGlobals "is_number" = some (some (.ref f_is_number)))
    (l_is_number : K.lookup f_is_number = some ⟨oc_is_number, od_is_number, .func (PySem.W.fnOf "is_number" "is_number" (defArgs s_is_number) (defBody s_is_number) (defScope s_is_number) .none kV_is_number dc_is_number pm_is_number an_is_number cd_is_number ct_is_number), sl_is_number⟩)
    (c_is_number : PySem.W.codeIn K cd_is_number "is_number" = true) (k_is_number : PySem.W.keepIn K (.ref f_is_number) = true)
    {f_clause_of : Addr} {od_clause_of an_clause_of : Option Addr} {sl_clause_of : Array (Option Value)} {oc_clause_of kV_clause_of dc_clause_of pm_clause_of cd_clause_of ct_clause_of : Value}
    (a_clause_of : PySem.W.nsIn K mainGlobals "clause_of" = some (some (.ref f_clause_of)))
    (l_clause_of : K.lookup f_clause_of = some ⟨oc_clause_of, od_clause_of, .func (PySem.W.fnOf "clause_of" "clause_of" (defArgs s_clause_of) (defBody s_clause_of) (defScope s_clause_of) .none kV_clause_of dc_clause_of pm_clause_of an_clause_of cd_clause_of ct_clause_of), sl_clause_of⟩)
    (c_clause_of : PySem.W.codeIn K cd_clause_of "clause_of" = true) (k_clause_of : PySem.W.keepIn K (.ref f_clause_of) = true)
    {f_says : Addr} {od_says an_says : Option Addr} {sl_says : Array (Option Value)} {oc_says kV_says dc_says pm_says cd_says ct_says : Value}
    (a_says : PySem.W.nsIn K mainGlobals "says" = some (some (.ref f_says)))
    (l_says : K.lookup f_says = some ⟨oc_says, od_says, .func (PySem.W.fnOf "says" "says" (defArgs s_says) (defBody s_says) (defScope s_says) .none kV_says dc_says pm_says an_says cd_says ct_says), sl_says⟩)
    (c_says : PySem.W.codeIn K cd_says "says" = true) (k_says : PySem.W.keepIn K (.ref f_says) = true)
    {f_holds : Addr} {od_holds an_holds : Option Addr} {sl_holds : Array (Option Value)} {oc_holds kV_holds dc_holds pm_holds cd_holds ct_holds : Value}
    (a_holds : PySem.W.nsIn K mainGlobals "holds" = some (some (.ref f_holds)))
    (l_holds : K.lookup f_holds = some ⟨oc_holds, od_holds, .func (PySem.W.fnOf "holds" "holds" (defArgs s_holds) (defBody s_holds) (defScope s_holds) .none kV_holds dc_holds pm_holds an_holds cd_holds ct_holds), sl_holds⟩)
    (c_holds : PySem.W.codeIn K cd_holds "holds" = true) (k_holds : PySem.W.keepIn K (.ref f_holds) = true)
    {f_within : Addr} {od_within an_within : Option Addr} {sl_within : Array (Option Value)} {oc_within kV_within dc_within pm_within cd_within ct_within : Value}
    (a_within : PySem.W.nsIn K mainGlobals "within" = some (some (.ref f_within)))
    (l_within : K.lookup f_within = some ⟨oc_within, od_within, .func (PySem.W.fnOf "within" "within" (defArgs s_within) (defBody s_within) (defScope s_within) .none kV_within dc_within pm_within an_within cd_within ct_within), sl_within⟩)
    (c_within : PySem.W.codeIn K cd_within "within" = true) (k_within : PySem.W.keepIn K (.ref f_within) = true)
    {f_meeting : Addr} {od_meeting an_meeting : Option Addr} {sl_meeting : Array (Option Value)} {oc_meeting kV_meeting dc_meeting pm_meeting cd_meeting ct_meeting : Value}
    (a_meeting : PySem.W.nsIn K mainGlobals "meeting" = some (some (.ref f_meeting)))
    (l_meeting : K.lookup f_meeting = some ⟨oc_meeting, od_meeting, .func (PySem.W.fnOf "meeting" "meeting" (defArgs s_meeting) (defBody s_meeting) (defScope s_meeting) .none kV_meeting dc_meeting pm_meeting an_meeting cd_meeting ct_meeting), sl_meeting⟩)
    (c_meeting : PySem.W.codeIn K cd_meeting "meeting" = true) (k_meeting : PySem.W.keepIn K (.ref f_meeting) = true)
    {f_picked : Addr} {od_picked an_picked : Option Addr} {sl_picked : Array (Option Value)} {oc_picked kV_picked dc_picked pm_picked cd_picked ct_picked : Value}
    (a_picked : PySem.W.nsIn K mainGlobals "picked" = some (some (.ref f_picked)))
    (l_picked : K.lookup f_picked = some ⟨oc_picked, od_picked, .func (PySem.W.fnOf "picked" "picked" (defArgs s_picked) (defBody s_picked) (defScope s_picked) .none kV_picked dc_picked pm_picked an_picked cd_picked ct_picked), sl_picked⟩)
    (c_picked : PySem.W.codeIn K cd_picked "picked" = true) (k_picked : PySem.W.keepIn K (.ref f_picked) = true)
    {f_met_clause : Addr} {od_met_clause an_met_clause : Option Addr} {sl_met_clause : Array (Option Value)} {oc_met_clause kV_met_clause dc_met_clause pm_met_clause cd_met_clause ct_met_clause : Value}
    (a_met_clause : PySem.W.nsIn K mainGlobals "met_clause" = some (some (.ref f_met_clause)))
    (l_met_clause : K.lookup f_met_clause = some ⟨oc_met_clause, od_met_clause, .func (PySem.W.fnOf "met_clause" "met_clause" (defArgs s_met_clause) (defBody s_met_clause) (defScope s_met_clause) .none kV_met_clause dc_met_clause pm_met_clause an_met_clause cd_met_clause ct_met_clause), sl_met_clause⟩)
    (c_met_clause : PySem.W.codeIn K cd_met_clause "met_clause" = true) (k_met_clause : PySem.W.keepIn K (.ref f_met_clause) = true)
    {f_row_clause : Addr} {od_row_clause an_row_clause : Option Addr} {sl_row_clause : Array (Option Value)} {oc_row_clause kV_row_clause dc_row_clause pm_row_clause cd_row_clause ct_row_clause : Value}
    (a_row_clause : PySem.W.nsIn K mainGlobals "row_clause" = some (some (.ref f_row_clause)))
    (l_row_clause : K.lookup f_row_clause = some ⟨oc_row_clause, od_row_clause, .func (PySem.W.fnOf "row_clause" "row_clause" (defArgs s_row_clause) (defBody s_row_clause) (defScope s_row_clause) .none kV_row_clause dc_row_clause pm_row_clause an_row_clause cd_row_clause ct_row_clause), sl_row_clause⟩)
    (c_row_clause : PySem.W.codeIn K cd_row_clause "row_clause" = true) (k_row_clause : PySem.W.keepIn K (.ref f_row_clause) = true)
    {f_row_clauses : Addr} {od_row_clauses an_row_clauses : Option Addr} {sl_row_clauses : Array (Option Value)} {oc_row_clauses kV_row_clauses dc_row_clauses pm_row_clauses cd_row_clauses ct_row_clauses : Value}
    (a_row_clauses : PySem.W.nsIn K mainGlobals "row_clauses" = some (some (.ref f_row_clauses)))
    (l_row_clauses : K.lookup f_row_clauses = some ⟨oc_row_clauses, od_row_clauses, .func (PySem.W.fnOf "row_clauses" "row_clauses" (defArgs s_row_clauses) (defBody s_row_clauses) (defScope s_row_clauses) .none kV_row_clauses dc_row_clauses pm_row_clauses an_row_clauses cd_row_clauses ct_row_clauses), sl_row_clauses⟩)
    (c_row_clauses : PySem.W.codeIn K cd_row_clauses "row_clauses" = true) (k_row_clauses : PySem.W.keepIn K (.ref f_row_clauses) = true)
    {f_lets_rows : Addr} {od_lets_rows an_lets_rows : Option Addr} {sl_lets_rows : Array (Option Value)} {oc_lets_rows dc_lets_rows pm_lets_rows cd_lets_rows ct_lets_rows : Value}
    {KD_lets_rows : Addr}
    (a_lets_rows : PySem.W.nsIn K mainGlobals "lets_rows" = some (some (.ref f_lets_rows)))
    (l_lets_rows : K.lookup f_lets_rows = some ⟨oc_lets_rows, od_lets_rows, .func (PySem.W.fnOf "lets_rows" "lets_rows" (defArgs s_lets_rows) (defBody s_lets_rows) (defScope s_lets_rows) .none (.ref KD_lets_rows) dc_lets_rows pm_lets_rows an_lets_rows cd_lets_rows ct_lets_rows), sl_lets_rows⟩)
    (c_lets_rows : PySem.W.codeIn K cd_lets_rows "lets_rows" = true) (k_lets_rows : PySem.W.keepIn K (.ref f_lets_rows) = true)
    {T0_lets_rows_end : Addr} {oT0_lets_rows_end : Option Addr} {nT0_lets_rows_end : Nat} {slT0_lets_rows_end : Array (Option Value)} (kd_lets_rows_end : PySem.W.nsIn K KD_lets_rows "end" = some (some (.ref T0_lets_rows_end))) (kt_lets_rows_end : K.lookup T0_lets_rows_end = some ⟨.type "tuple", oT0_lets_rows_end, .seq #[] nT0_lets_rows_end, slT0_lets_rows_end⟩)
    {f_law_pool : Addr} {od_law_pool an_law_pool : Option Addr} {sl_law_pool : Array (Option Value)} {oc_law_pool kV_law_pool dc_law_pool pm_law_pool cd_law_pool ct_law_pool : Value}
    (a_law_pool : PySem.W.nsIn K mainGlobals "_law_pool" = some (some (.ref f_law_pool)))
    (l_law_pool : K.lookup f_law_pool = some ⟨oc_law_pool, od_law_pool, .func (PySem.W.fnOf "_law_pool" "_law_pool" (defArgs s_law_pool) (defBody s_law_pool) (defScope s_law_pool) .none kV_law_pool dc_law_pool pm_law_pool an_law_pool cd_law_pool ct_law_pool), sl_law_pool⟩)
    (c_law_pool : PySem.W.codeIn K cd_law_pool "_law_pool" = true) (k_law_pool : PySem.W.keepIn K (.ref f_law_pool) = true)
    {f_law_take : Addr} {od_law_take an_law_take : Option Addr} {sl_law_take : Array (Option Value)} {oc_law_take kV_law_take dc_law_take pm_law_take cd_law_take ct_law_take : Value}
    (a_law_take : PySem.W.nsIn K mainGlobals "_law_take" = some (some (.ref f_law_take)))
    (l_law_take : K.lookup f_law_take = some ⟨oc_law_take, od_law_take, .func (PySem.W.fnOf "_law_take" "_law_take" (defArgs s_law_take) (defBody s_law_take) (defScope s_law_take) .none kV_law_take dc_law_take pm_law_take an_law_take cd_law_take ct_law_take), sl_law_take⟩)
    (c_law_take : PySem.W.codeIn K cd_law_take "_law_take" = true) (k_law_take : PySem.W.keepIn K (.ref f_law_take) = true)
    {f_law_fillings : Addr} {od_law_fillings an_law_fillings : Option Addr} {sl_law_fillings : Array (Option Value)} {oc_law_fillings kV_law_fillings dc_law_fillings pm_law_fillings cd_law_fillings ct_law_fillings : Value}
    (a_law_fillings : PySem.W.nsIn K mainGlobals "_law_fillings" = some (some (.ref f_law_fillings)))
    (l_law_fillings : K.lookup f_law_fillings = some ⟨oc_law_fillings, od_law_fillings, .func (PySem.W.fnOf "_law_fillings" "_law_fillings" (defArgs s_law_fillings) (defBody s_law_fillings) (defScope s_law_fillings) .none kV_law_fillings dc_law_fillings pm_law_fillings an_law_fillings cd_law_fillings ct_law_fillings), sl_law_fillings⟩)
    (c_law_fillings : PySem.W.codeIn K cd_law_fillings "_law_fillings" = true) (k_law_fillings : PySem.W.keepIn K (.ref f_law_fillings) = true)
    {f_law_says : Addr} {od_law_says an_law_says : Option Addr} {sl_law_says : Array (Option Value)} {oc_law_says kV_law_says dc_law_says pm_law_says cd_law_says ct_law_says : Value}
    (a_law_says : PySem.W.nsIn K mainGlobals "_law_says" = some (some (.ref f_law_says)))
    (l_law_says : K.lookup f_law_says = some ⟨oc_law_says, od_law_says, .func (PySem.W.fnOf "_law_says" "_law_says" (defArgs s_law_says) (defBody s_law_says) (defScope s_law_says) .none kV_law_says dc_law_says pm_law_says an_law_says cd_law_says ct_law_says), sl_law_says⟩)
    (c_law_says : PySem.W.codeIn K cd_law_says "_law_says" = true) (k_law_says : PySem.W.keepIn K (.ref f_law_says) = true)
    {f_law_hold : Addr} {od_law_hold an_law_hold : Option Addr} {sl_law_hold : Array (Option Value)} {oc_law_hold kV_law_hold dc_law_hold pm_law_hold cd_law_hold ct_law_hold : Value}
    (a_law_hold : PySem.W.nsIn K mainGlobals "_law_hold" = some (some (.ref f_law_hold)))
    (l_law_hold : K.lookup f_law_hold = some ⟨oc_law_hold, od_law_hold, .func (PySem.W.fnOf "_law_hold" "_law_hold" (defArgs s_law_hold) (defBody s_law_hold) (defScope s_law_hold) .none kV_law_hold dc_law_hold pm_law_hold an_law_hold cd_law_hold ct_law_hold), sl_law_hold⟩)
    (c_law_hold : PySem.W.codeIn K cd_law_hold "_law_hold" = true) (k_law_hold : PySem.W.keepIn K (.ref f_law_hold) = true)
    {f_law_clause : Addr} {od_law_clause an_law_clause : Option Addr} {sl_law_clause : Array (Option Value)} {oc_law_clause kV_law_clause dc_law_clause pm_law_clause cd_law_clause ct_law_clause : Value}
    (a_law_clause : PySem.W.nsIn K mainGlobals "_law_clause" = some (some (.ref f_law_clause)))
    (l_law_clause : K.lookup f_law_clause = some ⟨oc_law_clause, od_law_clause, .func (PySem.W.fnOf "_law_clause" "_law_clause" (defArgs s_law_clause) (defBody s_law_clause) (defScope s_law_clause) .none kV_law_clause dc_law_clause pm_law_clause an_law_clause cd_law_clause ct_law_clause), sl_law_clause⟩)
    (c_law_clause : PySem.W.codeIn K cd_law_clause "_law_clause" = true) (k_law_clause : PySem.W.keepIn K (.ref f_law_clause) = true)
    {f_law_meet : Addr} {od_law_meet an_law_meet : Option Addr} {sl_law_meet : Array (Option Value)} {oc_law_meet kV_law_meet dc_law_meet pm_law_meet cd_law_meet ct_law_meet : Value}
    (a_law_meet : PySem.W.nsIn K mainGlobals "_law_meet" = some (some (.ref f_law_meet)))
    (l_law_meet : K.lookup f_law_meet = some ⟨oc_law_meet, od_law_meet, .func (PySem.W.fnOf "_law_meet" "_law_meet" (defArgs s_law_meet) (defBody s_law_meet) (defScope s_law_meet) .none kV_law_meet dc_law_meet pm_law_meet an_law_meet cd_law_meet ct_law_meet), sl_law_meet⟩)
    (c_law_meet : PySem.W.codeIn K cd_law_meet "_law_meet" = true) (k_law_meet : PySem.W.keepIn K (.ref f_law_meet) = true)
    {f_law_drawn_rows : Addr} {od_law_drawn_rows an_law_drawn_rows : Option Addr} {sl_law_drawn_rows : Array (Option Value)} {oc_law_drawn_rows kV_law_drawn_rows dc_law_drawn_rows pm_law_drawn_rows cd_law_drawn_rows ct_law_drawn_rows : Value}
    (a_law_drawn_rows : PySem.W.nsIn K mainGlobals "_law_drawn_rows" = some (some (.ref f_law_drawn_rows)))
    (l_law_drawn_rows : K.lookup f_law_drawn_rows = some ⟨oc_law_drawn_rows, od_law_drawn_rows, .func (PySem.W.fnOf "_law_drawn_rows" "_law_drawn_rows" (defArgs s_law_drawn_rows) (defBody s_law_drawn_rows) (defScope s_law_drawn_rows) .none kV_law_drawn_rows dc_law_drawn_rows pm_law_drawn_rows an_law_drawn_rows cd_law_drawn_rows ct_law_drawn_rows), sl_law_drawn_rows⟩)
    (c_law_drawn_rows : PySem.W.codeIn K cd_law_drawn_rows "_law_drawn_rows" = true) (k_law_drawn_rows : PySem.W.keepIn K (.ref f_law_drawn_rows) = true)
    {f_law_bent_rows : Addr} {od_law_bent_rows an_law_bent_rows : Option Addr} {sl_law_bent_rows : Array (Option Value)} {oc_law_bent_rows kV_law_bent_rows dc_law_bent_rows pm_law_bent_rows cd_law_bent_rows ct_law_bent_rows : Value}
    (a_law_bent_rows : PySem.W.nsIn K mainGlobals "_law_bent_rows" = some (some (.ref f_law_bent_rows)))
    (l_law_bent_rows : K.lookup f_law_bent_rows = some ⟨oc_law_bent_rows, od_law_bent_rows, .func (PySem.W.fnOf "_law_bent_rows" "_law_bent_rows" (defArgs s_law_bent_rows) (defBody s_law_bent_rows) (defScope s_law_bent_rows) .none kV_law_bent_rows dc_law_bent_rows pm_law_bent_rows an_law_bent_rows cd_law_bent_rows ct_law_bent_rows), sl_law_bent_rows⟩)
    (c_law_bent_rows : PySem.W.codeIn K cd_law_bent_rows "_law_bent_rows" = true) (k_law_bent_rows : PySem.W.keepIn K (.ref f_law_bent_rows) = true)
    {f_law_follows : Addr} {od_law_follows an_law_follows : Option Addr} {sl_law_follows : Array (Option Value)} {oc_law_follows kV_law_follows dc_law_follows pm_law_follows cd_law_follows ct_law_follows : Value}
    (a_law_follows : PySem.W.nsIn K mainGlobals "_law_follows" = some (some (.ref f_law_follows)))
    (l_law_follows : K.lookup f_law_follows = some ⟨oc_law_follows, od_law_follows, .func (PySem.W.fnOf "_law_follows" "_law_follows" (defArgs s_law_follows) (defBody s_law_follows) (defScope s_law_follows) .none kV_law_follows dc_law_follows pm_law_follows an_law_follows cd_law_follows ct_law_follows), sl_law_follows⟩)
    (c_law_follows : PySem.W.codeIn K cd_law_follows "_law_follows" = true) (k_law_follows : PySem.W.keepIn K (.ref f_law_follows) = true)
    {f_law_last : Addr} {od_law_last an_law_last : Option Addr} {sl_law_last : Array (Option Value)} {oc_law_last kV_law_last dc_law_last pm_law_last cd_law_last ct_law_last : Value}
    (a_law_last : PySem.W.nsIn K mainGlobals "_law_last" = some (some (.ref f_law_last)))
    (l_law_last : K.lookup f_law_last = some ⟨oc_law_last, od_law_last, .func (PySem.W.fnOf "_law_last" "_law_last" (defArgs s_law_last) (defBody s_law_last) (defScope s_law_last) .none kV_law_last dc_law_last pm_law_last an_law_last cd_law_last ct_law_last), sl_law_last⟩)
    (c_law_last : PySem.W.codeIn K cd_law_last "_law_last" = true) (k_law_last : PySem.W.keepIn K (.ref f_law_last) = true)
    {f_law : Addr} {od_law an_law : Option Addr} {sl_law : Array (Option Value)} {oc_law kV_law dc_law pm_law cd_law ct_law : Value}
    (a_law : PySem.W.nsIn K mainGlobals "law" = some (some (.ref f_law)))
    (l_law : K.lookup f_law = some ⟨oc_law, od_law, .func (PySem.W.fnOf "law" "law" (defArgs s_law) (defBody s_law) (defScope s_law) .none kV_law dc_law pm_law an_law cd_law ct_law), sl_law⟩)
    (c_law : PySem.W.codeIn K cd_law "law" = true) (k_law : PySem.W.keepIn K (.ref f_law) = true)
    (z_len : PySem.W.nsIn K mainGlobals "len" = some none)
    (z_range : PySem.W.nsIn K mainGlobals "range" = some none)
    (z_max : PySem.W.nsIn K mainGlobals "max" = some none)
    (z_min : PySem.W.nsIn K mainGlobals "min" = some none)
    (z_isinstance : PySem.W.nsIn K mainGlobals "isinstance" = some none)
    (z_int : PySem.W.nsIn K mainGlobals "int" = some none)
    (z_bool : PySem.W.nsIn K mainGlobals "bool" = some none)
    (z_tuple : PySem.W.nsIn K mainGlobals "tuple" = some none)
    (z_list : PySem.W.nsIn K mainGlobals "list" = some none)
    (z_str : PySem.W.nsIn K mainGlobals "str" = some none)
    (z_abs : PySem.W.nsIn K mainGlobals "abs" = some none)
    (z_sorted : PySem.W.nsIn K mainGlobals "sorted" = some none)
    (z_enumerate : PySem.W.nsIn K mainGlobals "enumerate" = some none)
    (z_super : PySem.W.nsIn K mainGlobals "super" = some none)
    (z_all : PySem.W.nsIn K mainGlobals "all" = some none)
    (z_any : PySem.W.nsIn K mainGlobals "any" = some none)
    {C_NoRows : Addr} (a_NoRows : PySem.W.nsIn K mainGlobals "NoRows" = some (some (.ref C_NoRows)))
    {fI_NoRows cc_NoRows cda_NoRows N_NoRows : Addr} {nm_NoRows q_NoRows fl_NoRows : Str} {bs_NoRows bm_NoRows sub_NoRows : List Value} {sn_NoRows : List Str} {ab_NoRows : Bool} {col_NoRows : Option Bool} {dd_NoRows od_NoRows cdd_NoRows cld_NoRows an_NoRows : Option Addr} {k0_NoRows k1_NoRows k2_NoRows k3_NoRows k5_NoRows : Option Value} {oc_NoRows ccl_NoRows cl_NoRows kV_NoRows dc_NoRows pm_NoRows ct_NoRows : Value} {osl_NoRows ccs_NoRows csl_NoRows : Array (Option Value)} {vs_NoRows : Array Value} {tf_NoRows : Tok}
    (o_NoRows : K.lookup C_NoRows = some (excClassObj nm_NoRows q_NoRows C_NoRows N_NoRows bs_NoRows bm_NoRows true sn_NoRows sub_NoRows ab_NoRows col_NoRows dd_NoRows k0_NoRows k1_NoRows k2_NoRows k3_NoRows k5_NoRows "ValueError.__new__"))
    (rv_NoRows : PySem.HandSPX.refsVE bm_NoRows = true)
    (sa_NoRows : PySem.W.findIn K (.ref C_NoRows) "__setattr__" = some (some (.builtin "object.__setattr__")))
    (ex_NoRows : PySem.W.subIn K (.ref C_NoRows) (.type "BaseException") = some true)
    (ty_NoRows : PySem.W.typeIn K (.ref C_NoRows) = some (.type "type"))
    (kC_NoRows : PySem.W.keepIn K (.ref C_NoRows) = true)
    (in_NoRows : PySem.W.findIn K (.ref C_NoRows) "__init__" = some (some (.ref fI_NoRows)))
    (lf_NoRows : K.lookup fI_NoRows = some ⟨oc_NoRows, od_NoRows, .func (PySem.W.fnX "__init__" "NoRows.__init__" (defArgs s_NoRows___init__) (defBody s_NoRows___init__) (defScope s_NoRows___init__) [("__class__", cc_NoRows)] .none kV_NoRows dc_NoRows pm_NoRows an_NoRows (.ref cda_NoRows) ct_NoRows), osl_NoRows⟩)
    (cd_NoRows : PySem.W.codeIn K (.ref cda_NoRows) "NoRows.__init__" = true)
    (lc_NoRows : K.lookup cda_NoRows = some ⟨ccl_NoRows, cdd_NoRows, .fields vs_NoRows, ccs_NoRows⟩)
    (v2_NoRows : vs_NoRows[2]? = some (.str fl_NoRows tf_NoRows))
    (pf_NoRows : ((l.prog.main.file : Str) == fl_NoRows) = true)
    (le_NoRows : K.lookup cc_NoRows = some ⟨cl_NoRows, cld_NoRows, .cell (some (.ref C_NoRows)), csl_NoRows⟩)
    (al_NoRows : PySem.W.ks_superIn K C_NoRows C_NoRows "__init__" = some (some (.builtin "ValueError.__init__")))
    (mr_NoRows : PySem.W.mroIn K C_NoRows (.ref C_NoRows) = some true)
    (sv_NoRows : PySem.W.subIn K (.ref C_NoRows) (.type "ValueError") = some true)
    (tI_NoRows : PySem.W.typeIn K (.ref fI_NoRows) = some (.type "function"))
    (tp_super : (l.prog.main.scope.names.lookup ("super" : Str)).isSome = false) (opq : PySem.W.nsIn K cStatics "thirdparty.any" = some none)
    (fn_NoRows_number : PySem.W.findIn K (.ref C_NoRows) "number" = some none)
    (x135 : PySem.W.exmOne K (.ref C_NoRows) (.ref C_NoRows) = some true) :
    ∃ fd : FuncData, (∀ (s : Shared) (v : Value), BindsTo s fd ⟨[v], []⟩ [("_law_script", v)]) ∧ ∀ base : Heap, K.In base → base.Ns mainGlobals mg → GFn l.prog w K mg base CX0 8 fa fd ["_law_script"] (spLaw K) := by
  have e := hfa.symm.trans (PySem.W.mg_of X G a_law)
  cases e
  have F_law := fun_mk (st := s_law) l_law c_law k_law
  refine ⟨PySem.W.fnOf "law" "law" (defArgs s_law) (defBody s_law) (defScope s_law) .none kV_law dc_law pm_law an_law cd_law ct_law, fun s v => .of_eq rfl, fun base _ _ => ?_⟩
  have ml {x : Str} {v : Value} (q : PySem.W.nsIn K mainGlobals x = some (some v)) : mg x = some v := PySem.W.mg_of X G q
  have mn {x : Str} (q : PySem.W.nsIn K mainGlobals x = some none) : mg x = none := PySem.W.mg_none_of X G q
  have T_NoRows := sup_mk (P := l.prog) (x := "NoRows") (ml a_NoRows) o_NoRows rv_NoRows sa_NoRows ex_NoRows ty_NoRows kC_NoRows in_NoRows lf_NoRows cd_NoRows lc_NoRows v2_NoRows pf_NoRows le_NoRows (mn z_super) tp_super opq al_NoRows mr_NoRows sv_NoRows tI_NoRows rfl
  have G_NoRows : FnOk l.prog w K mg base CX0 1 fI_NoRows _ ["self", "number"] (spI1 C_NoRows "number") := ok_init1 T_NoRows si_NoRows rfl rfl (fun _ => rfl) (fun _ _ => rfl) fn_NoRows_number (by decide) (by decide)
  have E_NoRows : Er1 l.prog w K mg base 1 "NoRows" "number" C_NoRows := er1_mk (ml a_NoRows) T_NoRows G_NoRows (.all fun us hl => match us, hl with | [_, _], _ => rfl)
  have F_is_whole := fun_mk (st := s_is_whole) l_is_whole c_is_whole k_is_whole
  have D_is_whole : Df l.prog w K mg base 1 "is_whole" _ (spWh K) := ⟨_, _, ok_wh F_is_whole (mn z_isinstance) (mn z_int) (mn z_bool), k_is_whole, F_is_whole.binds fun _ _ _ _ _ _ us hl => match us, hl with | [_], _ => rfl, ml a_is_whole⟩
  have F_is_number := fun_mk (st := s_is_number) l_is_number c_is_number k_is_number
  have D_is_number : Df l.prog w K mg base 2 "is_number" _ (spNum K) := ⟨_, _, ok_num F_is_number D_is_whole, k_is_number, F_is_number.binds fun _ _ _ _ _ _ us hl => match us, hl with | [_, _, _], _ => rfl, ml a_is_number⟩
  have F_clause_of := fun_mk (st := s_clause_of) l_clause_of c_clause_of k_clause_of
  have D_clause_of : Df l.prog w K mg base 2 "clause_of" _ (spClOf K) := ⟨_, _, ok_clof F_clause_of (mn z_abs) (mn z_tuple) (mn z_sorted), k_clause_of, F_clause_of.binds fun _ _ _ _ _ _ us hl => match us, hl with | [_], _ => rfl, ml a_clause_of⟩
  have F_says := fun_mk (st := s_says) l_says c_says k_says
  have D_says : Df l.prog w K mg base 2 "says" _ (spSays K) := ⟨_, _, ok_says F_says (mn z_abs), k_says, F_says.binds fun _ _ _ _ _ _ us hl => match us, hl with | [_, _], _ => rfl, ml a_says⟩
  have F_holds := fun_mk (st := s_holds) l_holds c_holds k_holds
  have D_holds : Df l.prog w K mg base 3 "holds" _ (spHolds K) := ⟨_, _, ok_holds F_holds D_says (mn z_any), k_holds, F_holds.binds fun _ _ _ _ _ _ us hl => match us, hl with | [_, _], _ => rfl, ml a_holds⟩
  have F_meeting := fun_mk (st := s_meeting) l_meeting c_meeting k_meeting
  have D_meeting : Df l.prog w K mg base 3 "meeting" _ (spMtg K) := ⟨_, _, ok_mtg F_meeting (D_is_whole.mono (by decide)) D_clause_of (mn z_abs), k_meeting, F_meeting.binds fun _ _ _ _ _ _ us hl => match us, hl with | [_, _, _], _ => rfl, ml a_meeting⟩
  have F_picked := fun_mk (st := s_picked) l_picked c_picked k_picked
  have D_picked : Df l.prog w K mg base 3 "picked" _ (spPick K) := ⟨_, _, ok_pick F_picked D_is_number (mn z_len), k_picked, F_picked.binds fun _ _ _ _ _ _ us hl => match us, hl with | [_, _], _ => rfl, ml a_picked⟩
  have F_met_clause := fun_mk (st := s_met_clause) l_met_clause c_met_clause k_met_clause
  have D_met_clause : Df l.prog w K mg base 4 "met_clause" _ (spMetC K) := ⟨_, _, ok_metc F_met_clause D_picked D_meeting, k_met_clause, F_met_clause.binds fun _ _ _ _ _ _ us hl => match us, hl with | [_, _, _, _], _ => rfl, ml a_met_clause⟩
  have F_row_clause := fun_mk (st := s_row_clause) l_row_clause c_row_clause k_row_clause
  have D_row_clause : Df l.prog w K mg base 5 "row_clause" _ (spRowC K) := ⟨_, _, ok_rowc F_row_clause (D_picked.mono (by decide)) D_met_clause (mn z_isinstance) (mn z_tuple) (mn z_str) (mn z_len), k_row_clause, F_row_clause.binds fun _ _ _ _ _ _ us hl => match us, hl with | [_, _, _], _ => rfl, ml a_row_clause⟩
  have F_row_clauses := fun_mk (st := s_row_clauses) l_row_clauses c_row_clauses k_row_clauses
  have D_row_clauses : Dx l.prog w K mg base 6 "row_clauses" _ (spRowsC C_NoRows K) := ⟨_, _, ok_rowsc (k := 4) F_row_clauses D_row_clause (E_NoRows.mono (by decide)) (mn z_isinstance) (mn z_list) (mn z_len) (mn z_enumerate), k_row_clauses, F_row_clauses.binds fun _ _ _ _ _ _ us hl => match us, hl with | [_, _], _ => rfl, ml a_row_clauses⟩
  have F_law_pool := fun_mk (st := s_law_pool) l_law_pool c_law_pool k_law_pool
  have D_law_pool : Df l.prog w K mg base 2 "_law_pool" _ (spPool K) := ⟨_, _, ok_pool F_law_pool (mn z_len) (mn z_int), k_law_pool, F_law_pool.binds fun _ _ _ _ _ _ us hl => match us, hl with | [_, _], _ => rfl, ml a_law_pool⟩
  have F_law_take := fun_mk (st := s_law_take) l_law_take c_law_take k_law_take
  have D_law_take : Df l.prog w K mg base 2 "_law_take" _ (spTake K) := ⟨_, _, ok_take F_law_take , k_law_take, F_law_take.binds fun _ _ _ _ _ _ us hl => match us, hl with | [_, _], _ => rfl, ml a_law_take⟩
  have F_law_fillings := fun_mk (st := s_law_fillings) l_law_fillings c_law_fillings k_law_fillings
  have D_law_fillings : Df l.prog w K mg base 2 "_law_fillings" _ (spFills K) := ⟨_, _, ok_fills F_law_fillings (mn z_range) (mn z_tuple), k_law_fillings, F_law_fillings.binds fun _ _ _ _ _ _ us hl => match us, hl with | [_], _ => rfl, ml a_law_fillings⟩
  have F_law_says := fun_mk (st := s_law_says) l_law_says c_law_says k_law_says
  have D_law_says : Df l.prog w K mg base 2 "_law_says" _ (spLSays K) := ⟨_, _, ok_lsays F_law_says (mn z_abs), k_law_says, F_law_says.binds fun _ _ _ _ _ _ us hl => match us, hl with | [_, _], _ => rfl, ml a_law_says⟩
  have F_law_hold := fun_mk (st := s_law_hold) l_law_hold c_law_hold k_law_hold
  have D_law_hold : Df l.prog w K mg base 3 "_law_hold" _ (spHold K) := ⟨_, _, ok_hold F_law_hold D_law_says, k_law_hold, F_law_hold.binds fun _ _ _ _ _ _ us hl => match us, hl with | [_, _], _ => rfl, ml a_law_hold⟩
  have F_law_clause := fun_mk (st := s_law_clause) l_law_clause c_law_clause k_law_clause
  have D_law_clause : Df l.prog w K mg base 3 "_law_clause" _ (spClause K) := ⟨_, _, ok_clause F_law_clause D_law_take (mn z_len) (mn z_range) (mn z_tuple), k_law_clause, F_law_clause.binds fun _ _ _ _ _ _ us hl => match us, hl with | [_, _, _], _ => rfl, ml a_law_clause⟩
  have F_law_meet := fun_mk (st := s_law_meet) l_law_meet c_law_meet k_law_meet
  have D_law_meet : Df l.prog w K mg base 2 "_law_meet" _ (spLMeet K) := ⟨_, _, ok_lmeet F_law_meet (mn z_abs) (mn z_tuple) (mn z_sorted), k_law_meet, F_law_meet.binds fun _ _ _ _ _ _ us hl => match us, hl with | [_, _, _], _ => rfl, ml a_law_meet⟩
  have F_law_drawn_rows := fun_mk (st := s_law_drawn_rows) l_law_drawn_rows c_law_drawn_rows k_law_drawn_rows
  have D_law_drawn_rows : Df l.prog w K mg base 3 "_law_drawn_rows" _ (spDrawn K) := ⟨_, _, ok_drawn F_law_drawn_rows D_law_take D_law_meet (mn z_range) (mn z_len), k_law_drawn_rows, F_law_drawn_rows.binds fun _ _ _ _ _ _ us hl => match us, hl with | [_, _], _ => rfl, ml a_law_drawn_rows⟩
  have F_law_bent_rows := fun_mk (st := s_law_bent_rows) l_law_bent_rows c_law_bent_rows k_law_bent_rows
  have D_law_bent_rows : Df l.prog w K mg base 3 "_law_bent_rows" _ (spBentR K) := ⟨_, _, ok_bentr F_law_bent_rows D_law_take (mn z_len) (mn z_list) (mn z_tuple), k_law_bent_rows, F_law_bent_rows.binds fun _ _ _ _ _ _ us hl => match us, hl with | [_, _], _ => rfl, ml a_law_bent_rows⟩
  have F_within := fun_mk (st := s_within) l_within c_within k_within
  have D_within : Df l.prog w K mg base 2 "within" _ (spWithin K) := ⟨_, _, ok_within F_within (mn z_all), k_within, F_within.binds fun _ _ _ _ _ _ us hl => match us, hl with | [_, _], _ => rfl, ml a_within⟩
  have FD_lets : FunD K "lets_rows" "lets_rows" (defArgs s_lets_rows) (defBody s_lets_rows) (defScope s_lets_rows) [] [("end", .ref T0_lets_rows_end)] f_lets_rows _ := ⟨⟨_, _, _, _, _, _, _, _, _, _, rfl, l_lets_rows, c_lets_rows, .inl ⟨rfl, rfl⟩, .inr ⟨KD_lets_rows, rfl, fun q hq => by rw [List.mem_singleton] at hq; subst hq; exact ⟨_, kd_lets_rows_end, rfl⟩⟩⟩, k_lets_rows⟩
  have G_lets : FnOk l.prog w K mg base CX0 7 f_lets_rows _ ["clauses", "rows", "end"] (spLets K) := ok_lets FD_lets D_row_clauses (D_within.mono (by decide)) (ml a_NoRows) x135
  have DK_lets : Dk l.prog w K mg base 7 "lets_rows" ["clauses", "rows", "end"] (spLets K) 2 ["end"] := ⟨_, _, G_lets, k_lets_rows, ⟨fun s us ws _ h1 h2 => match us, ws, h1, h2 with | [_, _], [_], _, _ => .of_eq rfl, fun r rz => r.append rz⟩, ml a_lets_rows⟩
  have F_law_follows := fun_mk (st := s_law_follows) l_law_follows c_law_follows k_law_follows
  have D_law_follows : Df l.prog w K mg base 4 "_law_follows" _ (spFollows K) := ⟨_, _, ok_follows F_law_follows D_law_hold D_holds, k_law_follows, F_law_follows.binds fun _ _ _ _ _ _ us hl => match us, hl with | [_, _, _], _ => rfl, ml a_law_follows⟩
  have F_law_last := fun_mk (st := s_law_last) l_law_last c_law_last k_law_last
  have D_law_last : Df l.prog w K mg base 7 "_law_last" _ (spLast K) := ⟨_, _, ok_last F_law_last D_row_clauses (ml a_NoRows) x135, k_law_last, F_law_last.binds fun _ _ _ _ _ _ us hl => match us, hl with | [_, _], _ => rfl, ml a_law_last⟩
  exact ok_law F_law (D_law_fillings.mono (by decide)) (D_law_pool.mono (by decide)) (D_law_take.mono (by decide)) (D_law_clause.mono (by decide)) D_law_last (D_law_follows.mono (by decide)) DK_lets (D_law_drawn_rows.mono (by decide)) (D_law_bent_rows.mono (by decide))
    (mn z_len) (mn z_range) (mn z_max) (mn z_min)

end K06
open PySem PySem.W PyProof.Rows
set_option maxHeartbeats 0 in
theorem PySem.Challenge.cw_keptclauses_k06_whole_what_rows_end_with_holds : PySem.Challenge.rw_keptclauses_k06_whole_what_rows_end_with.Holds := by
  w_on; o_law; k_head; (case hw => w_witness2)
  k_fill
  refine KL.walk_g (l := PySem.Challenge.rw_keptclauses_k06_whole_what_rows_end_with) (n := 63) (k := 8) (x := "_law_script") (sp := K06.spLaw) rfl (by decide) rfl ⟨rfl, by decide, by decide⟩ (fun w h Y => PySem.W.kIn_of Y) ?F (fun _ _ a ns hl _ hS => ⟨a, ns, rfl, hS, hl, fun _ => rfl⟩)
  case F =>
    intro w mg fa h KX G hmg
    refine' K06.all_mk KX G hmg ?a_is_whole ?l_is_whole ?c_is_whole ?k_is_whole ?a_is_number ?l_is_number ?c_is_number ?k_is_number ?a_clause_of ?l_clause_of ?c_clause_of ?k_clause_of ?a_says ?l_says ?c_says ?k_says ?a_holds ?l_holds ?c_holds ?k_holds ?a_within ?l_within ?c_within ?k_within ?a_meeting ?l_meeting ?c_meeting ?k_meeting ?a_picked ?l_picked ?c_picked ?k_picked ?a_met_clause ?l_met_clause ?c_met_clause ?k_met_clause ?a_row_clause ?l_row_clause ?c_row_clause ?k_row_clause ?a_row_clauses ?l_row_clauses ?c_row_clauses ?k_row_clauses ?a_lets_rows ?l_lets_rows ?c_lets_rows ?k_lets_rows ?kd_lets_rows_end ?kt_lets_rows_end ?a_law_pool ?l_law_pool ?c_law_pool ?k_law_pool ?a_law_take ?l_law_take ?c_law_take ?k_law_take ?a_law_fillings ?l_law_fillings ?c_law_fillings ?k_law_fillings ?a_law_says ?l_law_says ?c_law_says ?k_law_says ?a_law_hold ?l_law_hold ?c_law_hold ?k_law_hold ?a_law_clause ?l_law_clause ?c_law_clause ?k_law_clause ?a_law_meet ?l_law_meet ?c_law_meet ?k_law_meet ?a_law_drawn_rows ?l_law_drawn_rows ?c_law_drawn_rows ?k_law_drawn_rows ?a_law_bent_rows ?l_law_bent_rows ?c_law_bent_rows ?k_law_bent_rows ?a_law_follows ?l_law_follows ?c_law_follows ?k_law_follows ?a_law_last ?l_law_last ?c_law_last ?k_law_last ?a_law ?l_law ?c_law ?k_law ?z_len ?z_range ?z_max ?z_min ?z_isinstance ?z_int ?z_bool ?z_tuple ?z_list ?z_str ?z_abs ?z_sorted ?z_enumerate ?z_super ?z_all ?z_any ?a_NoRows ?o_NoRows ?rv_NoRows ?sa_NoRows ?ex_NoRows ?ty_NoRows ?kC_NoRows ?in_NoRows ?lf_NoRows ?cd_NoRows ?lc_NoRows ?v2_NoRows ?pf_NoRows ?le_NoRows ?al_NoRows ?mr_NoRows ?sv_NoRows ?tI_NoRows ?tp_super ?opq ?fn_NoRows_number ?x135
    (case a_is_whole => k_is); (case l_is_whole => k_is); (case c_is_whole => k_is); (case k_is_whole => k_is); (case a_is_number => k_is); (case l_is_number => k_is); (case c_is_number => k_is); (case k_is_number => k_is); (case a_clause_of => k_is); (case l_clause_of => k_is); (case c_clause_of => k_is); (case k_clause_of => k_is); (case a_says => k_is); (case l_says => k_is); (case c_says => k_is); (case k_says => k_is); (case a_holds => k_is); (case l_holds => k_is); (case c_holds => k_is); (case k_holds => k_is); (case a_within => k_is); (case l_within => k_is); (case c_within => k_is); (case k_within => k_is); (case a_meeting => k_is); (case l_meeting => k_is); (case c_meeting => k_is); (case k_meeting => k_is); (case a_picked => k_is); (case l_picked => k_is); (case c_picked => k_is); (case k_picked => k_is); (case a_met_clause => k_is); (case l_met_clause => k_is); (case c_met_clause => k_is); (case k_met_clause => k_is); (case a_row_clause => k_is); (case l_row_clause => k_is); (case c_row_clause => k_is); (case k_row_clause => k_is); (case a_row_clauses => k_is); (case l_row_clauses => k_is); (case c_row_clauses => k_is); (case k_row_clauses => k_is); (case a_lets_rows => k_is); (case l_lets_rows => k_is); (case c_lets_rows => k_is); (case k_lets_rows => k_is); (case kd_lets_rows_end => k_is); (case kt_lets_rows_end => k_is); (case a_law_pool => k_is); (case l_law_pool => k_is); (case c_law_pool => k_is); (case k_law_pool => k_is); (case a_law_take => k_is); (case l_law_take => k_is); (case c_law_take => k_is); (case k_law_take => k_is); (case a_law_fillings => k_is); (case l_law_fillings => k_is); (case c_law_fillings => k_is); (case k_law_fillings => k_is); (case a_law_says => k_is); (case l_law_says => k_is); (case c_law_says => k_is); (case k_law_says => k_is); (case a_law_hold => k_is); (case l_law_hold => k_is); (case c_law_hold => k_is); (case k_law_hold => k_is); (case a_law_clause => k_is); (case l_law_clause => k_is); (case c_law_clause => k_is); (case k_law_clause => k_is); (case a_law_meet => k_is); (case l_law_meet => k_is); (case c_law_meet => k_is); (case k_law_meet => k_is); (case a_law_drawn_rows => k_is); (case l_law_drawn_rows => k_is); (case c_law_drawn_rows => k_is); (case k_law_drawn_rows => k_is); (case a_law_bent_rows => k_is); (case l_law_bent_rows => k_is); (case c_law_bent_rows => k_is); (case k_law_bent_rows => k_is); (case a_law_follows => k_is); (case l_law_follows => k_is); (case c_law_follows => k_is); (case k_law_follows => k_is); (case a_law_last => k_is); (case l_law_last => k_is); (case c_law_last => k_is); (case k_law_last => k_is); (case a_law => k_is); (case l_law => k_is); (case c_law => k_is); (case k_law => k_is); (case z_len => k_is); (case z_range => k_is); (case z_max => k_is); (case z_min => k_is); (case z_isinstance => k_is); (case z_int => k_is); (case z_bool => k_is); (case z_tuple => k_is); (case z_list => k_is); (case z_str => k_is); (case z_abs => k_is); (case z_sorted => k_is); (case z_enumerate => k_is); (case z_super => k_is); (case z_all => k_is); (case z_any => k_is); (case a_NoRows => k_is); (case o_NoRows => k_is); (case rv_NoRows => exact rfl); (case sa_NoRows => k_is); (case ex_NoRows => k_is); (case ty_NoRows => k_is); (case kC_NoRows => k_is); (case in_NoRows => k_is); (case lf_NoRows => k_is); (case cd_NoRows => k_is); (case lc_NoRows => k_is); (case v2_NoRows => exact rfl); (case pf_NoRows => decide +kernel); (case le_NoRows => k_is); (case al_NoRows => kernel_rfl); (case mr_NoRows => k_is); (case sv_NoRows => k_is); (case tI_NoRows => k_is); (case tp_super => exact rfl); (case opq => k_is); (case fn_NoRows_number => k_is); (case x135 => kernel_rfl)
