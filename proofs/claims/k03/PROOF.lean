import PyProof.Rows.All
import Wide.All
import OpenK.AllK
import Wide.FinOn
import PyProof.ReprRoads
import PyProof.ReprLen
import KE.KRevSl
import HandS.Base
import HandS.Call
import HandS.List
import HandS.Words
import HandS.Ends
import HandS.WordsList
import HandS.ForMost
import HandS.Wide
import HandS.IsInst
import HandS.TupAny
import HandS.Defaults
import HandS.Codes
import HandS.SetKeys
import HandS.More
import HandS.Style
import KE.KExcSuper
import HandS.Exc
import HandS.ExcSuper
import HandS.ExcInit
import HandS.Nested
import HandS.TryOnly
import HandS.WordsExc
import HandS.ExcIs
import HandS.ExcField
import HandS.ExcOwn
import KE.KExcIs
import HandS.SortRule
import HandS.Conv
import PySem.Challenge.RW_keptclauses_k03_clauses_meet
set_option Elab.async false
set_option linter.all false
set_option maxRecDepth 100000
set_option maxHeartbeats 4000000
namespace KL
open PySem PySem.Spec PyProof.Rows L2
section
variable {prog : Program} {w : World} {A : Around} {E : Value → Shared → Prop} {s : Shared}
/-! a tuple read backwards: t[::-1] -/
theorem adj_back (n : Nat) : Builtin.Slice.sliceAdjust none none (-1) (n : Int) = ((n : Int) - 1, -1) := by
  unfold Builtin.Slice.sliceAdjust
  simp
theorem plc_back (n : Nat) : Builtin.Slice.slicePlaces ((n : Int) - 1) (-1) (-1) = n := by
  unfold Builtin.Slice.slicePlaces
  have h1 : ¬ ((-1 : Int) > 0) := by omega
  simp only [h1, if_false]
  split
  · simp
  · omega
theorem fm_map {α β : Type} {f : α → Option β} {g : α → β} : ∀ l : List α, (∀ k ∈ l, f k = some (g k)) → l.filterMap f = l.map g
  | [], _ => rfl
  | x :: l, h => by
    rw [List.filterMap_cons, h x List.mem_cons_self, fm_map l fun k hk => h k (List.mem_cons_of_mem _ hk)]
    rfl
theorem pick_back (xs : List Value) : ((List.range xs.length).filterMap fun (k : Nat) => xs.toArray[((xs.length : Int) - 1 + (k : Int) * -1).toNat]?) = xs.reverse := by
  have e := fm_map (f := fun (k : Nat) => xs.toArray[((xs.length : Int) - 1 + (k : Int) * -1).toNat]?) (g := fun k => (xs[xs.length - 1 - k]?).getD .none) (List.range xs.length) fun k hk => by
    have hk' := List.mem_range.mp hk
    have ei : ((xs.length : Int) - 1 + (k : Int) * -1).toNat = xs.length - 1 - k := by omega
    show xs.toArray[((xs.length : Int) - 1 + (k : Int) * -1).toNat]? = _
    rw [ei, List.getElem?_toArray]
    have hb : xs.length - 1 - k < xs.length := by omega
    rw [List.getElem?_eq_getElem hb]
    rfl
  rw [e]
  apply List.ext_getElem?
  intro i
  rw [List.getElem?_map]
  by_cases hi : i < xs.length
  · rw [List.getElem?_range hi, List.getElem?_reverse hi]
    show some ((xs[xs.length - 1 - i]?).getD .none) = _
    rw [List.getElem?_eq_getElem (show xs.length - 1 - i < xs.length by omega)]
    rfl
  · rw [List.getElem?_eq_none (by simpa using hi), List.getElem?_eq_none (by simpa using hi)]
    rfl
theorem app_back {sl : Addr} {vk : Value} {n : Nat} {Q : Int × Int × Nat → Shared → Prop} (hs : s.heap.IsSliceOf sl .none .none vk) (pk : IsPart vk (some (-1)))
    (h : Q ((n : Int) - 1, -1, n) s) : wpAny (model prog w) A (Builtin.Slice.sliceApplied (.ref sl) (pure (n : Int))) Q E s := by
  obtain ⟨o, ho, hc, hd⟩ := id hs
  unfold Builtin.Slice.sliceApplied Builtin.Slice.sliceFields
  refine wpAny_bind (wpAny_bind (wpAny_field ho hd (x := .none) rfl (wpAny_bind (wpAny_field ho hd (x := .none) rfl
    (wpAny_bind (wpAny_field ho hd (x := vk) rfl (wpAny_pure ?_)))))))
  cases pk with
  | int i t =>
    refine wpAny_bind (slicePart_int ?_)
    show wpAny _ _ (if ((-1 : Int) == 0) = true then _ else _) _ _ s
    rw [if_neg (by decide)]
    refine wpAny_bind (slicePart_none (wpAny_bind (slicePart_none (wpAny_bind (wpAny_pure ?_)))))
    show wpAny _ _ (match Builtin.Slice.sliceAdjust none none (-1) (n : Int) with | (lo, hi) => pure (lo, (-1 : Int), Builtin.Slice.slicePlaces lo hi (-1))) _ _ s
    rw [adj_back n]
    show wpAny _ _ (pure ((n : Int) - 1, (-1 : Int), Builtin.Slice.slicePlaces ((n : Int) - 1) (-1) (-1))) _ _ s
    rw [plc_back]
    exact wpAny_pure h
theorem tup_back {t sl : Addr} {its : List Value} {vk : Value} {Q : Value → Shared → Prop} (ht : IsTup s.heap t its.toArray) (hs : s.heap.IsSliceOf sl .none .none vk) (pk : IsPart vk (some (-1)))
    (h : Q (.ref s.heap.objs.size) { s with heap := s.heap.push { cls := .type "tuple", data := .seq its.reverse.toArray } })
    (hz : its.length ≤ sizeLine) : wpAny (model prog w) A (getItem (.ref t) (.ref sl)) Q E s := by
  have hok : sizeOk (.seq its.reverse.toArray) := by
    show its.reverse.toArray.size ≤ sizeLine
    rw [List.size_toArray, List.length_reverse]
    exact hz
  obtain ⟨o, ho, hc, hd⟩ := id hs
  have hT : s.TypeIs (.ref sl) "slice" := ⟨o, ho, hc⟩
  unfold getItem
  try with_reducible refine wpAny_holding ?_
  first | refine wpAny_bind (wpAny_pure ?_) | skip
  refine wpAny_bind (wpAny_sequenceKey ht.typeIs (by decide) ?_)
  refine wpAny_bind (wpAny_callSpecial?_slot (name := Str.ofString "__getitem__") ht.typeIs slot_tuple_getitem (wpAny_call_entry slot_tuple_getitem ht.typeIs entry_tuple_getitem ?_ (args_tuple_getitem _ _)))
  show wpAny _ _ (Builtin.Tuple.tupleItemsOf (.ref t) >>= _) _ _ s
  refine wpAny_bind (tupleItemsOf_ ht ?_)
  refine wpAny_bind (wpAny_typeOf hT ?_)
  rw [if_pos (by decide)]
  rw [List.size_toArray]
  refine wpAny_bind (app_back hs pk ?_)
  have hno : ¬ ((((its.length : Int) - 1) == 0 && (-1 : Int) == 1 && its.length == its.length) = true) := by simp
  show wpAny _ _ (if (((its.length : Int) - 1) == 0 && (-1 : Int) == 1 && its.length == its.length) = true then _ else _) _ _ s
  rw [if_neg hno, pick_back its]
  first
    | exact wpAny_bind (m := Builtin.Tuple.tupleExact _) (wpAny_newObj_type (wpAny_pure ⟨_, rfl, wpAny_pure h⟩) hok)
    | exact wpAny_bind (m := Builtin.Tuple.tupleExact _) (wpAny_newObj_type (wpAny_bind (wpAny_pure (wpAny_pure ⟨_, rfl, wpAny_pure h⟩))) hok)
    | exact wpAny_bind (wpAny_bind (m := Builtin.Tuple.tupleExact _) (wpAny_newObj_type (wpAny_pure (wpAny_pure ⟨_, rfl, wpAny_pure h⟩)) hok))
    | exact wpAny_bind (wpAny_bind (m := Builtin.Tuple.tupleExact _) (wpAny_newObj_type (wpAny_pure ⟨_, rfl, wpAny_pure h⟩) hok))
end
section
variable {X : Cx}
def tRevT (K : PySem.W.Frag) (te : TE) : TE := fun σ H Q => te σ H fun x H1 => ∃ a xs, x = .ref a ∧ SqT K H1 a xs ∧ ∀ p, H1 p = none → Q (.ref p) (upd H1 p (.tup xs.reverse))
theorem pe_revT {e : Expr} {te : TE} {k : Nat} {p1 p2 p3 pos : Pos} (he : PE X e te) :
    PE X (.Subscript e (.Slice none none (some (.UnaryOp .USub (.Constant (.int 1) k p1) p2)) p3) pos) (tRevT X.K te) := by
  refine ⟨fun pins s σ H Q I h => ?_⟩
  refine Subscript_ (thn (he.run pins s σ H _ I h) fun v s1 ⟨x, H1, I1, r1, a, xs, ex, hx, q⟩ => ?_)
  subst ex
  cases r1
  have pm : PO X (some (.UnaryOp .USub (.Constant (.int 1) k p1) p2)) (tPart (tUn (rU fun i => .int (-i)) (tC (.int 1)))) := po_some (pe_un un_neg pe_int)
  refine wpAny_Slice (thn (po_none.run pins s1 σ H1 (fun o G => o = none ∧ G = H1) I1 ⟨rfl, rfl⟩) fun vl s2 ⟨l, G2, I2, pl, el, e2⟩ => ?_)
  subst el e2
  refine thn (po_none.run pins s2 σ G2 (fun o G => o = none ∧ G = G2) I2 ⟨rfl, rfl⟩) fun vu s3 ⟨u, G3, I3, pu, eu, e3⟩ => ?_
  subst eu e3
  refine thn (pm.run pins s3 σ G3 (fun o G => o = some (-1) ∧ G = G3) I3 ⟨1, rfl, -1, rfl, rfl, rfl⟩) fun vs s4 ⟨o, G4, I4, ps, eo, e4⟩ => ?_
  subst eo e4
  cases pl
  cases pu
  have I5 : Inv X pins σ G4 { s4 with heap := s4.heap.push { cls := .type "slice", data := .fields #[.none, .none, vs] } } := I4.kept (t' := s4.toks) fun b ob q => Heap.get?_push_of_some _ q
  obtain ⟨its, r, ht, hz⟩ := I5.tuple hx
  have hlen := r.length
  show wpAny (model X.prog X.w) X.A (subscriptTail e (.Slice none none (some (.UnaryOp .USub (.Constant (.int 1) k p1) p2)) p3) (.ref a) (.ref s4.heap.objs.size)) (EP X pins σ Q) X.xe
    { s4 with heap := s4.heap.push { cls := .type "slice", data := .fields #[.none, .none, vs] } }
  refine tail_any (ops := [.ref a, .ref s4.heap.objs.size]) ht.typeIs slot_tuple_getitem.lookup ?_ (by with_unfolding_all rfl)
  refine tup_back ht (Heap.IsSliceOf.new _ .none .none vs) ps ?_ (by omega)
  refine ⟨.ref _, _, I5.laid (t' := s4.toks) (o := .tup xs.reverse) (fun b ob q => Heap.get?_push_of_some _ q) (Nat.le_refl _) ?_, rfl, q _ (I5.hok.fresh (Nat.le_refl _))⟩
  exact ⟨by rw [List.length_reverse]; exact hz, _, r.reverse, _, Heap.get?_push_size _ rfl, rfl, 0, rfl⟩
/-! repr of data -/
def rRep (K : PySem.W.Frag) : List V → Hp → VK → Prop := fun xs H Q => ∃ x d, xs = [x] ∧ Dp K H x d ∧ d.showable = true ∧ d.depth ≤ 60 ∧ d.shown.length ≤ sizeLine ∧ Q (.str d.shown) H
mutual
theorem noDict {K : PySem.W.Frag} {H : Hp} : ∀ (d : PyData) (x : V), Dp K H x d → d.hasDict = false
  | .none, _, _ | .bool _, _, _ | .int _, _, _ | .str _, _, _ => by unfold PyData.hasDict; rfl
  | .list ds, _, h => by
    cases h with
    | lst _ a => unfold PyData.hasDict; exact noDicts ds _ a
  | .tuple ds, _, h => by
    cases h with
    | tup _ a => unfold PyData.hasDict; exact noDicts ds _ a
  | .dict _, _, h => by cases h
theorem noDicts {K : PySem.W.Frag} {H : Hp} : ∀ (ds : List PyData) (xs : List V), DpAll K H xs ds → PyData.hasDictAll ds = false
  | [], _, _ => by unfold PyData.hasDictAll; rfl
  | d :: ds, _, h => by
    cases h with
    | cons h1 h2 => unfold PyData.hasDictAll; rw [noDict d _ h1, noDicts ds _ h2]; rfl
end
theorem call_rep (hg : X.A.guards = some []) (hu : X.A.units + 64 < cLine) : CallR X (.builtin "repr") (rRep X.K) := by
  intro pins s σ H xs us Q I r h
  obtain ⟨x, d, rfl, hd, hs, hdp, hz, q⟩ := h
  obtain ⟨u, rfl, ru⟩ := vals1 r
  obtain ⟨as, hr⟩ := Dp.reads I d x u hd ru
  have nd := noDict d x hd
  cases hd with
  | non =>
    cases (show u = Value.none from ru)
    exact PySem.P.repr_of_none ⟨.str _, H, I.tok _, ⟨_, rfl⟩, q⟩
  | bl b =>
    cases (show u = Value.bool b from ru)
    exact PySem.P.repr_of_bool ⟨.str _, H, I.tok _, ⟨_, rfl⟩, q⟩
  | int i =>
    obtain ⟨t, rfl⟩ := ru
    exact PySem.P.repr_of_int (of_decide_eq_true hs) ⟨.str _, H, I.tok _, ⟨_, rfl⟩, q⟩
  | str y =>
    obtain ⟨t, rfl⟩ := ru
    exact PySem.P.repr_of_str ⟨.str _, H, I.tok _, ⟨_, rfl⟩, q⟩ hz
  | lst _ _ =>
    cases (show u = Value.ref _ from ru)
    exact repr_of_reads' hr hs (fun z => absurd z (by rw [nd]; exact Bool.false_ne_true)) hg (by omega) (fun _ _ e => e)
      (fun h' t tk k => ⟨.str _, H, I.kept (t' := tk) k, ⟨t, rfl⟩, q⟩) hz
  | tup _ _ =>
    cases (show u = Value.ref _ from ru)
    exact repr_of_reads' hr hs (fun z => absurd z (by rw [nd]; exact Bool.false_ne_true)) hg (by omega) (fun _ _ e => e)
      (fun h' t tk k => ⟨.str _, H, I.kept (t' := tk) k, ⟨t, rfl⟩, q⟩) hz
end
end KL
namespace KL
open PySem PySem.Spec PyProof.Rows L2
/-- a def's promise where nothing is being shown by repr around it -/
structure GFn (P : Program) (w : World) (K : PySem.W.Frag) (mg : Str → Option Value) (base : Heap) (CX : CXT) (k : Nat) (f : Addr) (fd : FuncData) (ps : List Str) (sp : Sp) : Prop where
  len : ∀ vs H Q E, sp vs H Q E → vs.length = ps.length
  go : ∀ (A : Around), A.guards = some [] → Room k A → ∀ (outer : List Env) (s : Shared) (H : Hp) (args : Args) (us : List Value) (vs : List V) (Q : VK) (E : XK),
    Env0 P w K mg base A outer s H → BindsTo s fd args (ps.zip us) → Vals vs us → sp vs H Q E → codeAny (model P w) A (.call (.ref f) args) (CR CX outer P w H s Q E) s
section
variable {P : Program} {w : World} {K : PySem.W.Frag} {mg : Str → Option Value} {base : Heap} {CX : CXT} {k : Nat} {f : Addr} {fd : FuncData} {ps : List Str} {sp : Sp}
theorem GFn.of (F : FnOk P w K mg base CX k f fd ps sp) : GFn P w K mg base CX k f fd ps sp :=
  ⟨F.len, fun A _ hr outer s H args us vs Q E e b r h => F.run A outer s H args us vs Q E hr e b r h⟩
/-- a def of the text by its body -/
theorem gfn {x qual : Str} {st : Stmt} {N : List Str} (F : Fun K x qual st f fd) (S : FnScope N ps (defScope st)) (len : ∀ vs H Q E, sp vs H Q E → vs.length = ps.length)
    (body : ∀ (cdv : Value) (A : Around), A.guards = some [] → ∀ (outer : List Env) (s : Shared) (H : Hp) (vs : List V) (Q : VK) (E : XK), Room k (A.deeper (envOfC qual (defScope st) s.heap.objs.size f cdv)) → sp vs H Q E →
      ∃ t, PSs (cxOf CX P w K mg base N qual (defScope st) f cdv A outer s H E) (defBody st) t ∧ t { nx := fun _ G => Q .non G, rt := Q } (start N vs) H) :
    GFn P w K mg base CX (k + 1) f fd ps sp := by
  obtain ⟨oc, od, kV, doc, pm, an, cdv, ct, osl, rfl, lk, hcd⟩ := F.ex
  refine ⟨len, fun A hg hr outer s H args us vs Q E e0 hb r hsp => ?_⟩
  have hl := len _ _ _ _ hsp
  have up : ∀ b o, base.get? b = some o → s.heap.get? b = some o := fun b o e => (e0.bs b o e).1
  have KX : K.In s.heap := e0.mod.kin.keeps up
  have lim : s.heap.NoLimit := e0.mod.nolimit.keeps up
  have kinds : ∀ y ∈ ps.zip us, (defScope st).names.lookup y.1 = some .local ∨
      ((defScope st).names.lookup y.1 = some .cell ∧ ((cellsFrom (s.heap.objs.size + 1) (defScope st).names []).lookup y.1).isSome = true) := by
    rintro ⟨n, v⟩ hy
    cases S.par n (List.of_mem_zip hy).1 with
    | inl q => exact .inl q
    | inr q => exact .inr ⟨q, PySem.W.cellsFrom_some _ _ _ (.inl q)⟩
  refine codeAny_call_function hr.depth (KX _ _ lk) rfl S.co S.gen rfl (PySem.W.codeRec_of KX hcd) (hb _ _ _ _ ?_)
  refine wpAny_newFunctionEnv_cells S.kind kinds fun env he s1 x => ?_
  subst he
  refine ⟨lim.keeps x.toInCall.keep, codeAny_func ?_⟩
  obtain ⟨t, ht, hq⟩ := body cdv A hg outer s H vs Q E (hr.deeper _) hsp
  have I := inv_start (CX := CX) (E := E) S hr.hd e0 hl r x
  refine wpAny_mono (ht.run [] s1 (start N vs) H _ I hq) (fun fl s' hs => ?_) fun e s' hs => hs
  have ends : ∀ {σ' : L2.St} {H' : Hp} {v : V} {u : Value}, Inv (cxOf CX P w K mg base N qual (defScope st) f cdv A outer s H E) [] σ' H' s' → RelV v u → Q v H' → CE outer P w H s Q u s' :=
    fun J rv q => ⟨_, _, J.os, J.bare, J.base, J.hok, rv, q⟩
  match fl, hs with
  | .ret u, ⟨v, σ', H', J, rv, q⟩ => exact ends J rv q
  | .next, ⟨σ', H', J, q⟩ => exact ends (v := V.non) (u := Value.none) J rfl q
  | .brk, ⟨_, _, _, q⟩ => exact False.elim q
  | .cont, ⟨_, _, _, q⟩ => exact False.elim q
/-- no exception leaves it -/
theorem gfn0 {x qual : Str} {st : Stmt} {N : List Str} (F : Fun K x qual st f fd) (S : FnScope N ps (defScope st)) (len : ∀ vs H Q E, sp vs H Q E → vs.length = ps.length)
    (body : ∀ (cdv : Value) (A : Around), A.guards = some [] → ∀ (outer : List Env) (s : Shared) (H : Hp) (vs : List V) (Q : VK) (E : XK), Room k (A.deeper (envOfC qual (defScope st) s.heap.objs.size f cdv)) → sp vs H Q E →
      ∃ t, PSs (cxOf CX0 P w K mg base N qual (defScope st) f cdv A outer s H E).nox (defBody st) t ∧ t { nx := fun _ G => Q .non G, rt := Q } (start N vs) H) :
    GFn P w K mg base CX0 (k + 1) f fd ps sp :=
  gfn F S len fun cdv A hg outer s H vs Q E hr h => let ⟨t, h1, h2⟩ := body cdv A hg outer s H vs Q E hr h; ⟨t, h1.nox, h2⟩
end
section
variable {X : Cx} {CX : CXT} {k : Nat} {f : Addr} {fd : FuncData} {ps : List Str} {sp : Sp} {E : XK} {ds : List Value} {dvs : List V}
theorem run_g {pins : List (Addr × Obj)} {σ : L2.St} {H : Hp} {s : Shared} {Q : VK} {us : List Value} {vs : List V} (F : GFn X.prog X.w X.K X.mg X.base CX k f fd ps sp) (hg : X.A.guards = some []) (hr : Room k X.A)
    (hb : Binds X.K fd ps ds) (hd : Vals dvs ds) (hx : Passes CX X E) (I : Inv X pins σ H s) (r : Vals vs us) (h : sp (vs ++ dvs) H Q E) : wpAny (model X.prog X.w) X.A (call (.ref f) us) (EP X pins σ Q) X.xe s := by
  have r2 : Vals (vs ++ dvs) (us ++ ds) := r.append hd
  have hl : (us ++ ds).length = ps.length := r2.length ▸ F.len _ _ _ _ h
  refine wpAny_call (codeAny_mono (F.go X.A hg hr X.stack s H ⟨us, []⟩ (us ++ ds) (vs ++ dvs) Q E I.env0 (hb s us I.kIn hl) r2 h) ?_)
  intro r s' hq
  match r, hq with
  | .error e, hq => exact hx pins σ H s e s' I hq
  | .ok (.ret u), hq => exact I.after hq
  | .ok .next, hq | .ok .brk, hq | .ok .cont, hq => exact False.elim hq
theorem pe_callG {x : Str} {p pos : Pos} {e : Expr} {es : List Expr} {t : TA} (F : GFn X.prog X.w X.K X.mg X.base CX k f fd ps sp) (gu : X.A.guards = some []) (hr : Room k X.A) (hg : Gl X x) (hm : X.mg x = some (.ref f))
    (hk : PySem.W.keepIn X.K (.ref f) = true) (hb : Binds X.K fd ps ds) (hd : Vals dvs ds) (hx : Passes CX X E) (ha : PA X (e :: es) t) (hdb : (x == ("__debug__" : Str)) = false := by decide)
    (he : starEach (e :: es) X.env = (false, eval e X.env) :: starEach es X.env := by rfl) (hpl : (backTo pos (starEach es X.env)).any (·.1) = false := by rfl) :
    PE X (.Call (.Name x p) (e :: es) [] pos) (tCall sp dvs E t) :=
  ⟨fun pins s σ H Q I h => wpAny_Call_Name_kw (ld_glob I hg hm (PySem.W.callWith_K (h₀ := X.base) I.ok.mod.kin hk
    (thn (ha.run pos pins s σ H _ I h) fun us s1 ⟨vs, H1, I1, r, q⟩ => ⟨I1.kIn, run_g F gu hr hb hd hx I1 r q⟩) he hpl) hdb)⟩
end
/-- from the law's promise to the call of the law -/
theorem law_g {P : Program} {w : World} {K : PySem.W.Frag} {mg mb : Str → Option Value} {CX : CXT} {k : Nat} {fa a : Addr} {fd : FuncData} {x : Str} {sp : Sp} {s₁ : Shared} {vs : List Value} {ns : List Int}
    (KX : K.In s₁.heap) (hns : s₁.heap.Ns mainGlobals mg) (hb : s₁.heap.Ns builtinsNs mb) (hbb : ∀ x : Str, x ≠ "__name__" → mb x = bootBuiltins x) (hlim : s₁.heap.NoLimit) (hg : s₁.gens = #[])
    (ha : s₁.heap.get? a = some { cls := .type "list", data := .seq vs.toArray }) (hi : IntsAre vs ns) (hl : ns.length ≤ sizeLine) (hr : Room k callerA)
    (F : ∀ base : Heap, K.In base → base.Ns mainGlobals mg → GFn P w K mg base CX k fa fd [x] sp) (hbind : ∀ (s : Shared) (u : Value), BindsTo s fd ⟨[u], []⟩ [(x, u)])
    (hsp : ∀ H : Hp, Only H → SqL K H a (ns.map V.int) → sp [.ref a] H (fun v _ => v = .bl true) fun _ _ _ => False)
    (hCX : ∀ H e s', CX [] H s₁ (fun _ _ _ => False) e s' → False) :
    codeAny (model P w) callerA (.call (.ref fa) ⟨[.ref a], []⟩) (fun r s' => r = .ok (.ret (.bool true)) ∧ OldK s₁.heap s'.heap ∧ s'.os = s₁.os ∧ AllBare s'.gens) s₁ := by
  have rv := vals_ints hi
  have lenV := hi.length
  suffices core : ∀ H : Hp, Only H → SqL K H a (ns.map V.int) → HOk P w H s₁.heap → (∀ b, H b ≠ none → b = a) → (H a ≠ none → K.lookup a = none) →
      codeAny (model P w) callerA (.call (.ref fa) ⟨[.ref a], []⟩) (fun r s' => r = .ok (.ret (.bool true)) ∧ OldK s₁.heap s'.heap ∧ s'.os = s₁.os ∧ AllBare s'.gens) s₁ by
    cases hk : K.lookup a with
    | some o =>
      have e := KX a o hk
      rw [ha] at e
      cases e
      exact core (fun _ => none) (fun _ => .inl rfl) (.inr ⟨_, vs.toArray, _, hk, rfl, rfl, rfl, by rw [List.size_toArray, lenV]; exact hl, by simpa using rv⟩) (fun b u z => nomatch (show (none : Option HO) = some u from z)) (fun b z => absurd rfl z) fun z => absurd rfl z
    | none =>
      let o : Obj := { cls := .type "list", data := .seq vs.toArray }
      refine core (fun b => if b = a then some (.frz o (.lst (ns.map V.int))) else none) (fun b => ?_) (.inl (.inr ⟨o, if_pos rfl⟩)) (fun b u z => ?_) (fun b z => ?_) fun _ => hk
      · by_cases q : b = a
        · exact .inr ⟨_, _, if_pos q⟩
        · exact .inl (if_neg q)
      · by_cases q : b = a
        · have z2 := (if_pos q).symm.trans z
          cases z2
          subst q
          exact ⟨ha, by rw [List.length_map]; exact hl, vs, _, rv, ha⟩
        · have z2 := (if_neg q).symm.trans z
          cases z2
      · by_cases q : b = a
        · exact q
        · exact absurd (if_neg q) z
  intro H hO hS hok hA hK
  have at_a : ∀ {b : Addr} {u : HO}, H b = some u → b = a := fun {b u} q => hA b (by rw [q]; exact fun z => nomatch z)
  have noA : ∀ {b : Addr} {o : Obj} {es : Array DictEntry} {ep : Nat}, s₁.heap.get? b = some o → o.data = .dict es ep → H b = none := fun {b o es ep} e d => by
    match q : H b with
    | none => rfl
    | some u =>
      obtain rfl := at_a q
      rw [ha] at e; cases e
      exact nomatch (show Data.seq vs.toArray _ = Data.dict es ep from d)
  have nsK : ∀ {b : Addr} {m : Str → Option Value}, s₁.heap.Ns b m → (hidT s₁.heap H).Ns b m := fun ⟨o, es, ep, e, d, r⟩ => ⟨o, es, ep, hidT_get e (noA e d), d, r⟩
  have hKb : K.In (hidT s₁.heap H) := fun b o e => hidT_get (KX b o e) (by
    match q : H b with
    | none => rfl
    | some u =>
      obtain rfl := at_a q
      rw [hK (by rw [q]; exact fun z => nomatch z)] at e; cases e)
  have hM : Mod K mg (hidT s₁.heap H) := ⟨hKb, nsK hns, ⟨mb, nsK hb, hbb⟩, let ⟨mc, h1, h2⟩ := hlim; ⟨mc, nsK h1, h2⟩⟩
  have none_in : ∀ b : Addr, b ∉ frs [] := fun b z => nomatch (show b ∈ ([] : List Addr) from z)
  have e0 : Env0 P w K mg (hidT s₁.heap H) callerA [] s₁ H := ⟨rfl, hM, fun b o e => of_hidT e, Nat.le_of_eq (hidT_size _ _), trivial, fun b z => absurd z (none_in b), hok, .of_eq hg⟩
  have run := (F _ hKb (nsK hns)).go callerA rfl hr [] s₁ H ⟨[.ref a], []⟩ [.ref a] [.ref a] _ _ e0 (hbind s₁ (.ref a)) (.cons rfl .nil) (hsp H hO hS)
  refine codeAny_mono run fun r s' h => ?_
  match r, h with
  | .error e, h => exact (hCX H e s' h).elim
  | .ok .next, h | .ok .brk, h | .ok .cont, h => exact False.elim h
  | .ok (.ret u), ⟨v, H', os, bare, un, hok', r', q⟩ =>
    have q1 : v = .bl true := q
    subst q1
    obtain rfl : u = Value.bool true := r'
    refine ⟨rfl, OldK.of_keep fun b o e => ?_, os, bare⟩
    match q : H b with
    | none => exact un.keep b o e q (none_in b) (fun z => nomatch z)
    | some u =>
      rcases hO b with z | ⟨ob, xs, z⟩
      · rw [q] at z; cases z
      · have z2 := un.frzs b ob _ z
        obtain ⟨e1, _⟩ := hok b _ z
        obtain ⟨e2, _⟩ := hok' b _ z2
        rw [e] at e1; cases e1
        exact e2
theorem walk_g {l : PySem.W.OpenLaw} {n k : Nat} {q : Program} {loose : List Str} {XP : (Str → Option Value) → Heap → Prop} {YP : World → Heap → Prop} {d : DefRec} {K : Params → PySem.W.Frag} {sp : PySem.W.Frag → Sp} {x : Str}
    (hn : l.most = some n) (hn2 : n ≤ sizeLine) (hdf : d.params.defaults = []) (hr : Room k callerA) (hY : ∀ (w : World) (h : Heap), YP w h → (K w.params).In h)
    (F : ∀ (w : World) (mg : Str → Option Value) (fa : Addr) (h : Heap), (K w.params).In h → h.Ns mainGlobals mg → mg d.name = some (.ref fa) →
      ∃ fd : FuncData, (∀ (s : Shared) (u : Value), BindsTo s fd ⟨[u], []⟩ [(x, u)]) ∧ ∀ base : Heap, (K w.params).In base → base.Ns mainGlobals mg → GFn l.prog w (K w.params) mg base CX0 k fa fd [x] (sp (K w.params)))
    (hsp : ∀ (K : PySem.W.Frag) (H : Hp) (a : Addr) (ns : List Int), ns.length ≤ n → Only H → SqL K H a (ns.map V.int) → sp K [.ref a] H (fun v _ => v = .bl true) fun _ _ _ => False) :
    PySem.W.WalkO q loose XP YP l.row.toRowW d [] (fun f vs => PySem.call f vs) := by
  refine Att.attach_call hn hdf fun w s₀ s₁ mg mb fa o pm cd doc a vs ns G Y ho hd hcd hmg hobj hints hlen hg => ?_
  have KX := hY w _ Y
  obtain ⟨fd, hb, hF⟩ := F w mg fa _ KX G.T.g hmg
  exact law_g KX G.T.g G.T.b G.T.builtins G.T.nolimit hg hobj hints (Nat.le_trans hlen hn2) hr hF hb (fun H hO hS => hsp _ H a ns hlen hO hS) fun _ _ _ z => z
end KL
namespace KL
open PySem PySem.Spec PyProof.Rows L2
/-- a def of the text, by its name, that keeps a promise and lets no error out -/
def Df (P : Program) (w : World) (K : PySem.W.Frag) (mg : Str → Option Value) (base : Heap) (k : Nat) (x : Str) (ps : List Str) (sp : Sp) : Prop :=
  ∃ (f : Addr) (fd : FuncData), FnOk P w K mg base CX0 k f fd ps sp ∧ PySem.W.keepIn K (.ref f) = true ∧ Binds K fd ps [] ∧ mg x = some (.ref f)
theorem pe_df {X : Cx} {k : Nat} {ps : List Str} {sp : Sp} {x : Str} {p pos : Pos} {e : Expr} {es : List Expr} {t : TA} (D : Df X.prog X.w X.K X.mg X.base k x ps sp) (hr : Room k X.A) (hg : Gl X x) (ha : PA X (e :: es) t)
    (hdb : (x == ("__debug__" : Str)) = false := by decide) (he : starEach (e :: es) X.env = (false, eval e X.env) :: starEach es X.env := by rfl) (hpl : (backTo pos (starEach es X.env)).any (·.1) = false := by rfl) :
    PE X (.Call (.Name x p) (e :: es) [] pos) (tCall sp [] E0 t) := by
  obtain ⟨f, fd, F, kp, b, m⟩ := D
  exact pe_call F hr hg m kp b .nil L2.pass0 ha hdb he hpl
theorem Df.mono {P : Program} {w : World} {K : PySem.W.Frag} {mg : Str → Option Value} {base : Heap} {j k : Nat} {x : Str} {ps : List Str} {sp : Sp} (D : Df P w K mg base j x ps sp) (h : j ≤ k) : Df P w K mg base k x ps sp :=
  let ⟨f, fd, F, r⟩ := D; ⟨f, fd, F.mono h, r⟩
/-! what a draw of the pool leaves -/
def Pl (H : Hp) (p : Addr) : Prop := ∃ a b : Int, H p = some (.lst [.int a, .int b]) ∧ 0 ≤ a ∧ 0 ≤ b ∧ b < 2147483647
/-- all but what stands at p is as it was -/
def Kp (p : Addr) (H H' : Hp) : Prop := ∀ b o, b ≠ p → H b = some o → H' b = some o
theorem Kp.refl (p : Addr) (H : Hp) : Kp p H H := fun _ _ _ h => h
theorem Kp.trans {p : Addr} {H H1 H2 : Hp} (a : Kp p H H1) (b : Kp p H1 H2) : Kp p H H2 := fun c o n h => b c o n (a c o n h)
theorem Kp.of {p : Addr} {H H' : Hp} (s : Same H H') : Kp p H H' := fun b o _ h => s b o h
theorem Kp.upd (p : Addr) (H : Hp) (o : HO) : Kp p H (upd H p o) := fun b u n h => by rw [upd_ne n]; exact h
theorem Pl.same {H H' : Hp} {p : Addr} (h : Pl H p) (s : Same H H') : Pl H' p := let ⟨a, b, e, r⟩ := h; ⟨a, b, s _ _ e, r⟩
theorem same_new {H : Hp} {p : Addr} {o : HO} (h : H p = none) : Same H (upd H p o) := fun b u q => by rw [upd_ne (ne_of_none q h)]; exact q
theorem Kp.free {p : Addr} {H H' : Hp} (k : Kp p H H') {l : Addr} (n : l ≠ p) (h : H' l = none) : H l = none := by
  cases q : H l with
  | none => rfl
  | some o => rw [k l o n q] at h; cases h
theorem Pl.at {H : Hp} {p : Addr} (h : Pl H p) : H p ≠ none := by
  obtain ⟨a, b, e, _⟩ := h
  rw [e]; exact fun z => nomatch z
theorem Kp.freeP {p : Addr} {H H' : Hp} (k : Kp p H H') (h0 : Pl H' p) {l : Addr} (h : H' l = none) : H l = none :=
  k.free (fun e => h0.at (e ▸ h)) h
/-- a tuple is never the pool -/
theorem Kp.tup {K : PySem.W.Frag} {p a : Addr} {H H' : Hp} {xs : List V} (k : Kp p H H') (hp : Pl H p) (h : SqT K H a xs) : SqT K H' a xs := by
  obtain ⟨x, y, e, _⟩ := hp
  rcases h with (h | ⟨o, h⟩) | h
  · exact .inl (.inl (k _ _ (ne_of h e (by intro z; cases z)) h))
  · exact .inl (.inr ⟨o, k _ _ (ne_of h e (by intro z; cases z)) h⟩)
  · exact .inr h
theorem same_tup {K : PySem.W.Frag} {a : Addr} {H H' : Hp} {xs : List V} (s : Same H H') (h : SqT K H a xs) : SqT K H' a xs := by
  rcases h with (h | ⟨o, h⟩) | h
  · exact .inl (.inl (s _ _ h))
  · exact .inl (.inr ⟨o, s _ _ h⟩)
  · exact .inr h
theorem small {n : Nat} (h : n ≤ 1000) : n ≤ sizeLine := Nat.le_of_lt (small1000 h)
end KL
namespace KL
open PySem PySem.Spec PyProof.Rows L2
/-! ### data that can be shown -/
structure Fine (n m : Nat) (d : PyData) : Prop where
  sh : d.showable = true
  ls : d.leavesShort 128 = true
  cl : d.canLay0 = true
  wt : d.weight ≤ n
  dp : d.depth ≤ m
theorem Fine.le {n m n' m' : Nat} {d : PyData} (h : Fine n m d) (hn : n ≤ n') (hm : m ≤ m') : Fine n' m' d := ⟨h.sh, h.ls, h.cl, Nat.le_trans h.wt hn, Nat.le_trans h.dp hm⟩
theorem Fine.none {n m : Nat} : Fine n m .none := ⟨rfl, rfl, rfl, by simp only [PyData.weight]; omega, by simp only [PyData.depth]; omega⟩
theorem Fine.bool {n m : Nat} (b : Bool) : Fine n m (.bool b) := ⟨rfl, rfl, rfl, by simp only [PyData.weight]; omega, by simp only [PyData.depth]; omega⟩
theorem log_lt {i : Int} (h : i.natAbs < 2 ^ 110) : i.natAbs.log2 < 110 := by
  by_cases h0 : i.natAbs = 0
  · rw [h0]; decide
  · exact (Nat.log2_lt h0).mpr h
theorem Fine.int {m : Nat} (i : Int) (h : i.natAbs < 2 ^ 110) : Fine 110 m (.int i) := by
  have hl := log_lt h
  refine ⟨?_, ?_, ?_, ?_, by simp only [PyData.depth]; omega⟩
  · simp only [PyData.showable, decide_eq_true_eq]; omega
  · simp only [PyData.leavesShort, PyData.shown]
    refine decide_eq_true ?_
    have := int_text_length_le (k := 110) (by decide) hl
    show (Str.ofString (toString i)).length ≤ 128
    rw [PySem.ofString_length]
    omega
  · simp only [PyData.canLay0]
  · simp only [PyData.weight]; split <;> omega
structure FineAll (n m : Nat) (ds : List PyData) : Prop where
  all : ∀ d ∈ ds, Fine n m d
theorem FineAll.sh {n m : Nat} : ∀ {ds : List PyData}, FineAll n m ds → PyData.showableAll ds = true
  | [], _ => by simp only [PyData.showableAll]
  | d :: ds, h => by
    simp only [PyData.showableAll, (h.all d List.mem_cons_self).sh, Bool.true_and]
    exact FineAll.sh ⟨fun x hx => h.all x (List.mem_cons_of_mem _ hx)⟩
theorem FineAll.ls {n m : Nat} : ∀ {ds : List PyData}, FineAll n m ds → PyData.leavesShortAll 128 ds = true
  | [], _ => by simp only [PyData.leavesShortAll]
  | d :: ds, h => by
    simp only [PyData.leavesShortAll, (h.all d List.mem_cons_self).ls, Bool.true_and]
    exact FineAll.ls ⟨fun x hx => h.all x (List.mem_cons_of_mem _ hx)⟩
theorem FineAll.cl {n m : Nat} : ∀ {ds : List PyData}, FineAll n m ds → PyData.canLayAll0 ds = true
  | [], _ => by simp only [PyData.canLayAll0]
  | d :: ds, h => by
    simp only [PyData.canLayAll0, (h.all d List.mem_cons_self).cl, Bool.true_and]
    exact FineAll.cl ⟨fun x hx => h.all x (List.mem_cons_of_mem _ hx)⟩
theorem FineAll.wt {n m : Nat} : ∀ {ds : List PyData}, FineAll n m ds → PyData.weightAll ds ≤ ds.length * (n + 1)
  | [], _ => by simp only [PyData.weightAll]; omega
  | d :: ds, h => by
    simp only [PyData.weightAll, List.length_cons]
    have h1 := (h.all d List.mem_cons_self).wt
    have h2 := FineAll.wt (ds := ds) ⟨fun x hx => h.all x (List.mem_cons_of_mem _ hx)⟩
    rw [Nat.add_mul]; omega
theorem FineAll.dp {n m : Nat} : ∀ {ds : List PyData}, FineAll n m ds → PyData.depthAll ds ≤ m
  | [], _ => by simp only [PyData.depthAll]; omega
  | d :: ds, h => by
    simp only [PyData.depthAll]
    have h1 := (h.all d List.mem_cons_self).dp
    have h2 := FineAll.dp (ds := ds) ⟨fun x hx => h.all x (List.mem_cons_of_mem _ hx)⟩
    omega
theorem Fine.tuple {n m l : Nat} {ds : List PyData} (h : ∀ d ∈ ds, Fine n m d) (hl : ds.length ≤ l) : Fine (l * (n + 1)) (m + 1) (.tuple ds) := by
  have a : FineAll n m ds := ⟨h⟩
  refine ⟨by simp only [PyData.showable]; exact a.sh, by simp only [PyData.leavesShort]; exact a.ls, by simp only [PyData.canLay0]; exact a.cl, ?_, ?_⟩
  · simp only [PyData.weight]; exact Nat.le_trans a.wt (Nat.mul_le_mul_right _ hl)
  · simp only [PyData.depth]; exact Nat.succ_le_succ a.dp
theorem Fine.list {n m l : Nat} {ds : List PyData} (h : ∀ d ∈ ds, Fine n m d) (hl : ds.length ≤ l) : Fine (l * (n + 1)) (m + 1) (.list ds) := by
  have a : FineAll n m ds := ⟨h⟩
  refine ⟨by simp only [PyData.showable]; exact a.sh, by simp only [PyData.leavesShort]; exact a.ls, by simp only [PyData.canLay0]; exact a.cl, ?_, ?_⟩
  · simp only [PyData.weight]; exact Nat.le_trans a.wt (Nat.mul_le_mul_right _ hl)
  · simp only [PyData.depth]; exact Nat.succ_le_succ a.dp
theorem Fine.len {n m : Nat} {d : PyData} (h : Fine n m d) (hn : n ≤ 100000) : d.shown.length ≤ sizeLine := by
  have e := PyData.shown_le 128 (by decide) d h.ls
  have e2 : (128 + 2) * d.weight ≤ (128 + 2) * 100000 := Nat.mul_le_mul_left _ (Nat.le_trans h.wt hn)
  rw [sizeLine_eq]; omega
theorem Fine.shaped {n m : Nat} {d : PyData} (h : Fine n m d) (hm : m ≤ 60) : SeqAt.shaped d = true := by
  unfold SeqAt.shaped
  rw [h.cl, Bool.true_and]
  exact decide_eq_true (Nat.le_trans h.dp (by omega))
/-- what repr asks, of fine data -/
theorem rep_of {K : PySem.W.Frag} {H : Hp} {x : V} {d : PyData} {Q : VK} {n m : Nat} (h : Dp K H x d) (f : Fine n m d) (hn : n ≤ 100000) (hm : m ≤ 60) (q : Q (.str d.shown) H) : rRep K [x] H Q :=
  ⟨x, d, rfl, h, f.sh, Nat.le_trans f.dp hm, f.len hn, q⟩
theorem rep_bool {K : PySem.W.Frag} {H : Hp} {b : Bool} {Q : VK} (q : Q (.str (PyData.bool b).shown) H) : rRep K [.bl b] H Q := rep_of (n := 0) (m := 0) (.bl b) (Fine.bool b) (by omega) (by omega) q
/-! ### kinds -/
def tyD : PyData → String
  | .none => "NoneType"
  | .bool _ => "bool"
  | .int _ => "int"
  | .str _ => "str"
  | .list _ => "list"
  | .tuple _ => "tuple"
  | .dict _ => "dict"
theorem dpTy {K : PySem.W.Frag} {H : Hp} {x : V} {d : PyData} (h : Dp K H x d) : TyX K H x (.type (tyD d)) := by
  cases h with
  | non => exact .base .non
  | bl b => exact .base (.bl b)
  | int i => exact .base (.int i)
  | str y => exact .base (.str y)
  | lst s _ =>
    rcases s with (e | ⟨o, e⟩) | ⟨o, its, n, e, c, _⟩
    · exact .base (.lst e)
    · exact .base (.frz e)
    · exact .kList e c
  | tup s _ =>
    rcases s with (e | ⟨o, e⟩) | ⟨o, its, n, e, c, _⟩
    · exact .base (.tup e)
    · exact .fTuple e
    · exact .kTuple e c
/-- isinstance(x, T) over data -/
def isiD (d : PyData) (T : String) : Bool := match kitB (tyD d) T with
  | some b => b
  | none => false
theorem kit_int (d : PyData) : kitB (tyD d) "int" = some (match d with | .int _ | .bool _ => true | _ => false) := by cases d <;> (simp only [tyD]; decide +kernel)
theorem kit_bool (d : PyData) : kitB (tyD d) "bool" = some (match d with | .bool _ => true | _ => false) := by cases d <;> (simp only [tyD]; decide +kernel)
theorem kit_tuple (d : PyData) : kitB (tyD d) "tuple" = some (match d with | .tuple _ => true | _ => false) := by cases d <;> (simp only [tyD]; decide +kernel)
theorem kit_list (d : PyData) : kitB (tyD d) "list" = some (match d with | .list _ => true | _ => false) := by cases d <;> (simp only [tyD]; decide +kernel)
theorem kit_str (d : PyData) : kitB (tyD d) "str" = some (match d with | .str _ => true | _ => false) := by cases d <;> (simp only [tyD]; decide +kernel)
theorem isi_of {K : PySem.W.Frag} {H : Hp} {x : V} {d : PyData} {T : String} {b : Bool} {Q : VK} (h : Dp K H x d) (k : kitB (tyD d) T = some b) (q : Q (.bl b) H) : rIsi K [x, .ty T] H Q :=
  ⟨x, .ty T, .type (tyD d), .type T, b, rfl, .ty T, dpTy h, kit_ty k, q⟩
theorem atI_at {α : Type} {xs : List α} {i : Int} (h0 : 0 ≤ i) (h : i < (xs.length : Int)) : ∃ v, atI xs i = some v ∧ xs[i.toNat]? = some v := by
  have hi : i.toNat < xs.length := by omega
  refine ⟨xs[i.toNat], ?_, List.getElem?_eq_getElem hi⟩
  have q := atI_nat (List.getElem?_eq_getElem hi)
  rw [show ((i.toNat : Nat) : Int) = i by omega] at q
  exact q
theorem atI_ints {ns : List Int} {i : Int} (h0 : 0 ≤ i) (h : i < (ns.length : Int)) : ∃ v, atI (ns.map V.int) i = some (.int v) ∧ ns[i.toNat]? = some v := by
  obtain ⟨v, h1, h2⟩ := atI_at (xs := ns.map V.int) h0 (by rw [List.length_map]; exact h)
  rw [List.getElem?_map] at h2
  cases e : ns[i.toNat]? with
  | none => rw [e] at h2; cases h2
  | some u => rw [e] at h2; cases h2; exact ⟨u, h1, rfl⟩
/-! ### ints as data -/
theorem dpInts {K : PySem.W.Frag} {H : Hp} : ∀ ns : List Int, DpAll K H (ns.map V.int) (ns.map PyData.int)
  | [] => .nil
  | n :: ns => .cons (.int n) (dpInts ns)
theorem fineInts {B : Nat} {ns : List Int} (h : ∀ n ∈ ns, n.natAbs < 2 ^ 110) : ∀ d ∈ ns.map PyData.int, Fine 110 0 d := fun d hd => by
  obtain ⟨n, hn, rfl⟩ := List.mem_map.mp hd
  exact Fine.int n (h n hn)
theorem shInts (ns : List Int) : SeqAt.shaped (.list (ns.map PyData.int)) = true := by
  have h1 : ∀ ns : List Int, PyData.canLayAll0 (ns.map PyData.int) = true := fun ns => by
    induction ns with
    | nil => simp only [List.map_nil, PyData.canLayAll0]
    | cons n ns ih => simp only [List.map_cons, PyData.canLayAll0, PyData.canLay0, ih, Bool.true_and]
  have h2 : ∀ ns : List Int, PyData.depthAll (ns.map PyData.int) = 0 := fun ns => by
    induction ns with
    | nil => simp only [List.map_nil, PyData.depthAll]
    | cons n ns ih => simp only [List.map_cons, PyData.depthAll, PyData.depth, ih, Nat.max_self]
  unfold SeqAt.shaped
  simp only [PyData.canLay0, h1, PyData.depth, h2, Bool.true_and]
  decide
theorem shNil : SeqAt.shaped (.list []) = true := shInts []
theorem eqvNil (ns : List Int) : PyData.eqv (.list (ns.map PyData.int)) (.list []) = decide (ns = []) := by
  cases ns with
  | nil => simp [PyData.eqv, PyData.eqvAll]
  | cons n ns => simp [PyData.eqv, PyData.eqvAll]
mutual
theorem dpMv {K : PySem.W.Frag} {H H' : Hp} (tl : ∀ a xs, SqL K H a xs → SqL K H' a xs) (tt : ∀ a xs, SqT K H a xs → SqT K H' a xs) : ∀ (d : PyData) {x : V}, Dp K H x d → Dp K H' x d
  | .none, _, h => by cases h; exact .non
  | .bool b, _, h => by cases h; exact .bl b
  | .int i, _, h => by cases h; exact .int i
  | .str y, _, h => by cases h; exact .str y
  | .list ds, _, h => by
    cases h with
    | lst s a => exact .lst (tl _ _ s) (dpMvs tl tt ds a)
  | .tuple ds, _, h => by
    cases h with
    | tup s a => exact .tup (tt _ _ s) (dpMvs tl tt ds a)
  | .dict _, _, h => by cases h
theorem dpMvs {K : PySem.W.Frag} {H H' : Hp} (tl : ∀ a xs, SqL K H a xs → SqL K H' a xs) (tt : ∀ a xs, SqT K H a xs → SqT K H' a xs) : ∀ (ds : List PyData) {xs : List V}, DpAll K H xs ds → DpAll K H' xs ds
  | [], _, h => by cases h; exact .nil
  | d :: ds, _, h => by
    cases h with
    | cons h1 h2 => exact .cons (dpMv tl tt d h1) (dpMvs tl tt ds h2)
end
theorem dpSame {K : PySem.W.Frag} {H H' : Hp} {x : V} {d : PyData} (h : Dp K H x d) (s : Same H H') : Dp K H' x d := dpMv (fun _ _ q => s.seq q) (fun _ _ q => same_tup s q) d h
end KL
namespace KL
open PySem PySem.Spec PyProof.Rows L2
/-! ### what is told apart from the pool -/
def hid (p : Addr) (H : Hp) : Hp := fun b => if b = p then none else H b
theorem hid_same (p : Addr) (H : Hp) : Same (hid p H) H := fun b o h => by
  unfold hid at h
  split at h
  · cases h
  · exact h
theorem Kp.hid {p : Addr} {H H' : Hp} (k : Kp p H H') : Same (hid p H) (hid p H') := fun b o h => by
  unfold KL.hid at h ⊢
  split at h
  · cases h
  · rename_i n; rw [if_neg n]; exact k b o n h
theorem hid_of {p b : Addr} {H : Hp} {o : HO} (n : b ≠ p) (h : H b = some o) : hid p H b = some o := by unfold hid; rw [if_neg n]; exact h
theorem hidT {K : PySem.W.Frag} {p a : Addr} {H : Hp} {xs : List V} (hp : Pl H p) (h : SqT K H a xs) : SqT K (hid p H) a xs := by
  obtain ⟨x, y, e, _⟩ := hp
  rcases h with (h | ⟨o, h⟩) | h
  · exact .inl (.inl (hid_of (ne_of h e (by intro z; cases z)) h))
  · exact .inl (.inr ⟨o, hid_of (ne_of h e (by intro z; cases z)) h⟩)
  · exact .inr h
theorem unhidT {K : PySem.W.Frag} {p a : Addr} {H : Hp} {xs : List V} (h : SqT K (hid p H) a xs) : SqT K H a xs := same_tup (hid_same p H) h
section
variable {X : Cx}
/-- t + u, whichever object it is -/
def rCatK (K : PySem.W.Frag) : R2 := fun x y H Q => ∃ a b xs ys, x = .ref a ∧ y = .ref b ∧ SqT K H a xs ∧ SqT K H b ys ∧ xs.length + ys.length ≤ sizeLine ∧ ∀ r H', Same H H' → SqT K H' r (xs ++ ys) → Q (.ref r) H'
theorem op_catK : OpR X (binaryOp .Add) (rCatK X.K) := by
  intro pins s σ H x y v u Q I rx ry h
  obtain ⟨a, b, xs, ys, rfl, rfl, ha, hb, hz, q⟩ := h
  refine op_catA pins s σ H _ _ v u Q I rx ry ⟨a, b, xs, ys, rfl, rfl, ha, hb, hz, fun e => ?_, fun _ e => ?_, fun _ _ p hp => q p _ (same_new hp) (SqT.of upd_same)⟩
  · subst e; exact q b H (Same.refl H) hb
  · subst e; exact q a H (Same.refl H) (by rw [List.append_nil]; exact ha)
theorem cut_whole {xs : List V} {lo hi : Option Int} (h : HT.sIx xs.length 0 lo = 0 ∧ HT.sIx xs.length xs.length hi = xs.length) : cutV xs lo hi = xs := by
  unfold cutV
  rw [h.1, h.2]
  simp
theorem cut_sub {xs : List V} {lo hi : Option Int} : (∀ v ∈ cutV xs lo hi, v ∈ xs) ∧ (cutV xs lo hi).length ≤ xs.length := by
  unfold cutV
  refine ⟨fun v hv => List.mem_of_mem_drop (List.mem_of_mem_take hv), ?_⟩
  rw [List.length_take, List.length_drop]
  omega
/-- t[lo:hi], whichever object it is -/
def rSlK (K : PySem.W.Frag) : V → Option Int → Option Int → Hp → VK → Prop := fun x lo hi H Q => ∃ a xs, x = .ref a ∧ SqT K H a xs ∧ ∀ r H', Same H H' → SqT K H' r (cutV xs lo hi) → Q (.ref r) H'
theorem sl_tupK : SlR X (rSlK X.K) := by
  intro pins s σ H x v vl vu lo hi sl Q I rx hs pl pu h
  obtain ⟨a, xs, rfl, hx, q⟩ := h
  exact sl_tupA pins s σ H _ v vl vu lo hi sl Q I rx hs pl pu ⟨a, xs, rfl, hx, fun w => q a H (Same.refl H) (by rw [cut_whole w]; exact hx), fun _ p hp => q p _ (same_new hp) (SqT.of upd_same)⟩
end
theorem Fine.str1 : Fine 10 0 (.str (Str.ofString "1")) := ⟨rfl, by decide +kernel, by decide +kernel, by decide +kernel, by decide +kernel⟩
/-- an item that can be shown -/
def It (K : PySem.W.Frag) (H : Hp) (v : V) : Prop := ∃ d, Dp K H v d ∧ Fine 200 1 d
theorem It.same {K : PySem.W.Frag} {H H' : Hp} {v : V} (h : It K H v) (s : Same H H') : It K H' v := let ⟨d, h1, h2⟩ := h; ⟨d, dpSame h1 s, h2⟩
theorem It.int {K : PySem.W.Frag} {H : Hp} (i : Int) (h : i.natAbs < 2 ^ 110) : It K H (.int i) := ⟨_, .int i, (Fine.int (m := 0) i h).le (by omega) (by omega)⟩
theorem its_all {K : PySem.W.Frag} {H : Hp} : ∀ {xs : List V}, (∀ v ∈ xs, It K H v) → ∃ ds, DpAll K H xs ds ∧ ds.length = xs.length ∧ ∀ d ∈ ds, Fine 200 1 d
  | [], _ => ⟨[], .nil, rfl, fun _ h => nomatch h⟩
  | x :: xs, h => by
    obtain ⟨d, h1, h2⟩ := h x List.mem_cons_self
    obtain ⟨ds, h3, h4, h5⟩ := its_all (xs := xs) fun v hv => h v (List.mem_cons_of_mem _ hv)
    exact ⟨d :: ds, .cons h1 h3, by rw [List.length_cons, List.length_cons, h4], fun z hz => by
      rcases List.mem_cons.mp hz with e | e
      · rw [e]; exact h2
      · exact h5 z e⟩
/-- data that can be shown -/
def Dat (K : PySem.W.Frag) (H : Hp) (x : V) : Prop := ∃ d, Dp K H x d ∧ Fine 100000 3 d
theorem Dat.same {K : PySem.W.Frag} {H H' : Hp} {v : V} (h : Dat K H v) (s : Same H H') : Dat K H' v := let ⟨d, h1, h2⟩ := h; ⟨d, dpSame h1 s, h2⟩
theorem dat_tup {K : PySem.W.Frag} {H : Hp} {a : Addr} {xs : List V} (h : SqT K H a xs) (hi : ∀ v ∈ xs, It K H v) (hl : xs.length ≤ 400) : Dat K H (.ref a) := by
  obtain ⟨ds, h1, h2, h3⟩ := its_all hi
  exact ⟨_, .tup h h1, (Fine.tuple h3 (l := 400) (by omega)).le (by omega) (by omega)⟩
theorem dat_lst {K : PySem.W.Frag} {H : Hp} {a : Addr} {xs : List V} (h : SqL K H a xs) (hi : ∀ v ∈ xs, It K H v) (hl : xs.length ≤ 400) : Dat K H (.ref a) := by
  obtain ⟨ds, h1, h2, h3⟩ := its_all hi
  exact ⟨_, .lst h h1, (Fine.list h3 (l := 400) (by omega)).le (by omega) (by omega)⟩
end KL
namespace KL
open PySem PySem.Spec PyProof.Rows L2
/-- a def of the text, whatever its defaults -/
def Fb (K : PySem.W.Frag) (x qual : Str) (st : Stmt) (f : Addr) (fd : FuncData) : Prop :=
  ∃ (oc : Value) (od : Option Addr) (dV kV doc pm : Value) (an : Option Addr) (cdv ct : Value) (osl : Array (Option Value)),
    fd = PySem.W.fnOf x qual (defArgs st) (defBody st) (defScope st) dV kV doc pm an cdv ct ∧ K.lookup f = some ⟨oc, od, .func fd, osl⟩ ∧ PySem.W.codeIn K cdv qual = true
section
variable {P : Program} {w : World} {K : PySem.W.Frag} {mg : Str → Option Value} {base : Heap} {x qual : Str} {st : Stmt} {f : Addr} {fd : FuncData}
theorem Fb.ok {N ps : List Str} {k : Nat} {sp : Sp} (F : Fb K x qual st f fd) (S : FnScope N ps (defScope st)) (len : ∀ vs H Q E, sp vs H Q E → vs.length = ps.length)
    (body : ∀ (cdv : Value) (A : Around) (outer : List Env) (s : Shared) (H : Hp) (vs : List V) (Q : VK) (E : XK), Room k (A.deeper (envOfC qual (defScope st) s.heap.objs.size f cdv)) → sp vs H Q E →
      ∃ t, PSs (cxOf CX0 P w K mg base N qual (defScope st) f cdv A outer s H E).nox (defBody st) t ∧ t { nx := fun _ G => Q .non G, rt := Q } (start N vs) H) : FnOk P w K mg base CX0 (k + 1) f fd ps sp := by
  obtain ⟨oc, od, dV, kV, doc, pm, an, cdv, ct, osl, rfl, lk, hcd⟩ := F
  exact fn_of lk hcd S len fun A outer s H vs Q E hr h => let ⟨t, h1, h2⟩ := body cdv A outer s H vs Q E hr h; ⟨t, h1.nox, h2⟩
theorem Fb.of (F : Fun K x qual st f fd) : Fb K x qual st f fd := let ⟨oc, od, kV, doc, pm, an, cdv, ct, osl, h⟩ := F.ex; ⟨oc, od, .none, kV, doc, pm, an, cdv, ct, osl, h⟩
end
/-- a def called with its last defaults left out -/
def Dfd (P : Program) (w : World) (K : PySem.W.Frag) (mg : Str → Option Value) (base : Heap) (k : Nat) (x : Str) (ps : List Str) (sp : Sp) (dvs : List V) : Prop :=
  ∃ (f : Addr) (fd : FuncData) (ds : List Value), FnOk P w K mg base CX0 k f fd ps sp ∧ PySem.W.keepIn K (.ref f) = true ∧ Binds K fd ps ds ∧ Vals dvs ds ∧ mg x = some (.ref f)
theorem pe_dfd {X : Cx} {k : Nat} {ps : List Str} {sp : Sp} {dvs : List V} {x : Str} {p pos : Pos} {e : Expr} {es : List Expr} {t : TA} (D : Dfd X.prog X.w X.K X.mg X.base k x ps sp dvs) (hr : Room k X.A) (hg : Gl X x) (ha : PA X (e :: es) t)
    (hdb : (x == ("__debug__" : Str)) = false := by decide) (he : starEach (e :: es) X.env = (false, eval e X.env) :: starEach es X.env := by rfl) (hpl : (backTo pos (starEach es X.env)).any (·.1) = false := by rfl) :
    PE X (.Call (.Name x p) (e :: es) [] pos) (tCall sp dvs E0 t) := by
  obtain ⟨f, fd, ds, F, kp, b, r, m⟩ := D
  exact pe_call F hr hg m kp b r L2.pass0 ha hdb he hpl
theorem Dfd.mono {P : Program} {w : World} {K : PySem.W.Frag} {mg : Str → Option Value} {base : Heap} {j k : Nat} {x : Str} {ps : List Str} {sp : Sp} {dvs : List V} (D : Dfd P w K mg base j x ps sp dvs) (h : j ≤ k) : Dfd P w K mg base k x ps sp dvs :=
  let ⟨f, fd, ds, F, r⟩ := D; ⟨f, fd, ds, F.mono h, r⟩
theorem same_kp {p : Addr} {H H1 H2 : Hp} (s : Same H H1) (n : H p = none) (k : Kp p H1 H2) : Same H H2 := fun b o h => k b o (ne_of_none h n) (s b o h)
theorem ne_self {A B : Prop} {x : V} (h : B) : if (!decide (x = x)) = true then A else B := by rw [decide_eq_true rfl]; exact iteF h
end KL
namespace KL
open PySem PySem.Spec PyProof.Rows L2
section
variable {X : Cx}
theorem eqV_int (i j : Int) : eqV (.int i) (.int j) = decide (i = j) := by
  show (i == j) = decide (i = j)
  exact Bool.eq_iff_iff.mpr (by rw [beq_iff_eq, decide_eq_true_eq])
theorem inV_ints (n : Int) : ∀ ns : List Int, inV (.int n) (ns.map V.int) = decide (n ∈ ns)
  | [] => by simp [inV]
  | m :: ns => by
    have ih := inV_ints n ns
    unfold inV at ih ⊢
    rw [List.map_cons, List.any_cons, ih, eqV_int]
    by_cases h : m = n
    · subst h; simp
    · have h' : ¬ n = m := fun e => h e.symm
      simp [h, h']
theorem flat_ints : ∀ ns : List Int, (ns.map V.int).all flatV = true
  | [] => rfl
  | _ :: ns => by rw [List.map_cons, List.all_cons, flat_ints ns]; rfl
/-- n in ns, ints -/
def rInI (K : PySem.W.Frag) (neg : Bool) : R2 := fun x y H Q => ∃ (p : Addr) (n : Int) (ns : List Int), x = .int n ∧ y = .ref p ∧ (SqL K H p (ns.map V.int) ∨ SqT K H p (ns.map V.int)) ∧ Q (.bl (if neg then !decide (n ∈ ns) else decide (n ∈ ns))) H
theorem op_inI : OpR X (compareOp .In) (rInI X.K false) := by
  intro pins s σ H x y v u Q I rx ry h
  obtain ⟨p, n, ns, rfl, rfl, hq, q⟩ := h
  exact op_in_seq pins s σ H _ _ v u Q I rx ry ⟨p, ns.map V.int, rfl, hq, rfl, flat_ints ns, by rw [inV_ints]; exact q⟩
theorem op_notInI : OpR X (compareOp .NotIn) (rInI X.K true) := by
  intro pins s σ H x y v u Q I rx ry h
  obtain ⟨p, n, ns, rfl, rfl, hq, q⟩ := h
  exact op_notIn_seq pins s σ H _ _ v u Q I rx ry ⟨p, ns.map V.int, rfl, hq, rfl, flat_ints ns, by rw [inV_ints]; exact q⟩
theorem pi_or {tg l : Expr} {w1 w2 : TI} (h1 : PI X tg l w1) (h2 : PI X tg l w2) : PI X tg l (fun σ H R => w1 σ H R ∨ w2 σ H R) :=
  ⟨fun pins s σ H R I h => h.elim (fun h => h1.run pins s σ H R I h) (fun h => h2.run pins s σ H R I h)⟩
theorem pi_seq {tg l : Expr} {tl : TE} (hl : PE X l tl) : PI X tg l (fun σ H R => iList X.K tl σ H R ∨ iTup X.K tl σ H R) := pi_or (pi_list hl) (pi_tup hl)
end
/-! ### ints by their things -/
abbrev ab (n : Int) : Int := if n < 0 then -n else n
theorem ab_nat (n : Int) : ab n = (n.natAbs : Int) := by unfold ab; split <;> omega
theorem natAbs_eq {a b : Int} (h : a.natAbs = b.natAbs) : a = b ∨ a = -b := by omega
/-- rising lists of the same ints are the same -/
theorem rising_eq : ∀ {xs ys : List Int}, xs.Pairwise (fun a b => a.natAbs < b.natAbs) → ys.Pairwise (fun a b => a.natAbs < b.natAbs) → (∀ m, m ∈ xs ↔ m ∈ ys) → xs = ys
  | [], [], _, _, _ => rfl
  | [], y :: ys, _, _, h => absurd ((h y).mpr List.mem_cons_self) (by simp)
  | x :: xs, [], _, _, h => absurd ((h x).mp List.mem_cons_self) (by simp)
  | x :: xs, y :: ys, hx, hy, h => by
    rw [List.pairwise_cons] at hx hy
    have e : x = y := by
      have h1 := (h x).mp List.mem_cons_self
      have h2 := (h y).mpr List.mem_cons_self
      rcases List.mem_cons.mp h1 with e | e
      · exact e
      rcases List.mem_cons.mp h2 with e' | e'
      · exact e'.symm
      have a := hy.1 x e
      have b := hx.1 y e'
      omega
    subst e
    rw [rising_eq hx.2 hy.2 fun m => ?_]
    have hm := h m
    rw [List.mem_cons, List.mem_cons] at hm
    constructor
    · intro z
      rcases hm.mp (.inr z) with e | e
      · subst e; exact absurd (hx.1 m z) (by omega)
      · exact e
    · intro z
      rcases hm.mpr (.inr z) with e | e
      · subst e; exact absurd (hy.1 m z) (by omega)
      · exact e
/-- the clause of signs: rising, each once -/
structure ClOf (ns cs : List Int) : Prop where
  up : cs.Pairwise fun a b => a.natAbs < b.natAbs
  mem : ∀ m, m ∈ cs ↔ m ∈ ns
theorem ClOf.eq {ns cs ds : List Int} (h : ClOf ns cs) (h' : ClOf ns ds) : cs = ds := rising_eq h.up h'.up fun m => (h.mem m).trans (h'.mem m).symm
/-- signs that say both of a thing -/
def Both (ns : List Int) : Prop := ∃ n ∈ ns, -n ∈ ns
/-! the dict of signs by their things -/
def kvOf (ms : List Int) : List (Key × V) := ms.map fun m => (Sum.inl (ab m), V.int m)
theorem kvOf_get {ms : List Int} {k : Int} {v : V} (h : valV (kvOf ms) (.inl k) = some v) : ∃ m ∈ ms, ab m = k ∧ v = .int m := by
  induction ms with
  | nil => rw [show kvOf [] = [] from rfl, valV_nil] at h; cases h
  | cons m ms ih =>
    by_cases e : ab m = k
    · rw [show kvOf (m :: ms) = (Sum.inl (ab m), V.int m) :: kvOf ms from rfl, valV_pos (congrArg Sum.inl e)] at h
      cases h
      exact ⟨m, List.mem_cons_self, e, rfl⟩
    · rw [show kvOf (m :: ms) = (Sum.inl (ab m), V.int m) :: kvOf ms from rfl, valV_neg (fun z => e (Sum.inl.inj z))] at h
      obtain ⟨x, hx, r⟩ := ih h
      exact ⟨x, List.mem_cons_of_mem _ hx, r⟩
theorem kvOf_none {ms : List Int} {k : Int} (h : valV (kvOf ms) (.inl k) = none) : ∀ m ∈ ms, ab m ≠ k := by
  induction ms with
  | nil => intro m hm; cases hm
  | cons x ms ih =>
    by_cases e : ab x = k
    · rw [show kvOf (x :: ms) = (Sum.inl (ab x), V.int x) :: kvOf ms from rfl, valV_pos (congrArg Sum.inl e)] at h
      cases h
    · rw [show kvOf (x :: ms) = (Sum.inl (ab x), V.int x) :: kvOf ms from rfl, valV_neg (fun z => e (Sum.inl.inj z))] at h
      intro m hm
      rcases List.mem_cons.mp hm with z | z
      · rw [z]; exact e
      · exact ih h m z
theorem kvOf_put {ms : List Int} {n : Int} (h : ∀ m ∈ ms, ab m ≠ ab n) : putK (kvOf ms) (.inl (ab n)) (.int n) = kvOf (ms ++ [n]) := by
  unfold putK
  rw [if_neg ?_]
  · unfold kvOf; rw [List.map_append]; rfl
  · intro z
    obtain ⟨p, hp, e⟩ := List.any_eq_true.mp z
    obtain ⟨m, hm, rfl⟩ := List.mem_map.mp hp
    exact h m hm (Sum.inl.inj (of_decide_eq_true e))
theorem find_ab {ms : List Int} (hd : ms.Pairwise fun a b => ab a ≠ ab b) {m : Int} (hm : m ∈ ms) : (ms.find? fun x => decide (ab x = ab m)) = some m := by
  induction ms with
  | nil => cases hm
  | cons x ms ih =>
    rw [List.pairwise_cons] at hd
    rw [List.find?_cons]
    rcases List.mem_cons.mp hm with e | e
    · subst e; simp
    · rw [decide_eq_false (hd.1 m e)]
      exact ih hd.2 e
theorem ab_inj {ms : List Int} (hd : ms.Pairwise fun a b => ab a ≠ ab b) {x m : Int} (hx : x ∈ ms) (hm : m ∈ ms) (e : ab x = ab m) : x = m := by
  have h1 := find_ab hd hm
  have h2 := find_ab hd hx
  rw [e, h1] at h2
  exact (Option.some.inj h2).symm
theorem kvOf_some {ms : List Int} (hd : ms.Pairwise fun a b => ab a ≠ ab b) : ∀ m ∈ ms, valV (kvOf ms) (.inl (ab m)) = some (.int m) := by
  intro m hm
  cases e : valV (kvOf ms) (.inl (ab m)) with
  | none => exact absurd rfl (kvOf_none e m hm)
  | some v =>
    obtain ⟨x, hx, e1, rfl⟩ := kvOf_get e
    rw [ab_inj hd hx hm e1]
theorem kvOf_keys (ms : List Int) : (kvOf ms).map (·.1) = (ms.map ab).map Sum.inl := by
  unfold kvOf
  rw [List.map_map, List.map_map]
  rfl
/-- the signs by the sorted things -/
def byKeys (ms : List Int) (ys : List Int) : List Int := ys.map fun y => (ms.find? fun m => decide (ab m = y)).getD 0
theorem byKeys_ok {ms ys : List Int} (hd : ms.Pairwise fun a b => ab a ≠ ab b) (hp : ys.Perm (ms.map ab)) (hs : ys.Pairwise (· ≤ ·)) : ClOf ms (byKeys ms ys) := by
  have nd : ys.Nodup := hp.nodup_iff.mpr ((List.pairwise_map.mpr hd))
  have each : ∀ y ∈ ys, ∃ m ∈ ms, ab m = y ∧ (ms.find? fun x => decide (ab x = y)).getD 0 = m := fun y hy => by
    obtain ⟨m, hm, e⟩ := List.mem_map.mp (hp.mem_iff.mp hy)
    subst e
    exact ⟨m, hm, rfl, by rw [find_ab hd hm]; rfl⟩
  refine ⟨?_, fun m => ⟨fun h => ?_, fun h => ?_⟩⟩
  · unfold byKeys
    rw [List.pairwise_map]
    have st : ys.Pairwise (fun a b => a ≤ b ∧ a ≠ b) := hs.and nd
    refine List.Pairwise.imp_of_mem (fun {a b} ha hb h => ?_) st
    obtain ⟨m1, _, e1, f1⟩ := each a ha
    obtain ⟨m2, _, e2, f2⟩ := each b hb
    rw [f1, f2]
    rw [ab_nat] at e1 e2
    omega
  · obtain ⟨y, hy, rfl⟩ := List.mem_map.mp h
    obtain ⟨m, hm, _, f⟩ := each y hy
    rw [f]; exact hm
  · refine List.mem_map.mpr ⟨ab m, hp.mem_iff.mpr (List.mem_map.mpr ⟨m, h, rfl⟩), ?_⟩
    rw [find_ab hd h]; rfl
end KL
namespace KL
open PySem PySem.Spec PyProof.Rows L2
def sayB (bs : List Bool) (n : Int) : Bool := (bs.getD (n.natAbs - 1) false) == decide (0 < n)
theorem say_at {bs : List Bool} {n : Int} (h1 : 1 ≤ n.natAbs) (h2 : n.natAbs ≤ bs.length) : ∃ b, atI (bs.map V.bl) (ab n - 1) = some (.bl b) ∧ sayB bs n = (b == decide (0 < n)) := by
  obtain ⟨v, h3, h4⟩ := atI_at (xs := bs.map V.bl) (i := ab n - 1) (by rw [ab_nat]; omega) (by rw [ab_nat, List.length_map]; omega)
  have e : (ab n - 1).toNat = n.natAbs - 1 := by rw [ab_nat]; omega
  rw [e, List.getElem?_map] at h4
  cases q : bs[n.natAbs - 1]? with
  | none => rw [q] at h4; cases h4
  | some b =>
    rw [q] at h4; cases h4
    refine ⟨b, h3, ?_⟩
    unfold sayB
    rw [List.getD_eq_getElem?_getD, q]; rfl
theorem say_eq (b c : Bool) : decide (V.bl b = V.bl c) = (b == c) := by cases b <;> cases c <;> rfl
theorem at_int {ns : List Int} {i : Nat} {x : V} (h : (ns.map V.int)[i]? = some x) : ∃ n, x = .int n ∧ n ∈ ns ∧ ns.take (i + 1) = ns.take i ++ [n] := by
  rw [List.getElem?_map] at h
  cases q : ns[i]? with
  | none => rw [q] at h; cases h
  | some n =>
    rw [q] at h; cases h
    refine ⟨n, rfl, List.mem_of_getElem? q, ?_⟩
    rw [List.take_add_one, q]; rfl
/-- the loop of clause_of -/
def CofW (ns : List Int) (H : Hp) (a d : Addr) (i : Nat) (σ : L2.St) (H1 : Hp) : Prop :=
  ∃ (y2 y3 : Option V) (ms : List Int), σ = [some (.ref a), some (.ref d), y2, y3] ∧ Same H H1 ∧ H1 d = some (.dK (kvOf ms)) ∧ ms.Pairwise (fun a b => ab a ≠ ab b) ∧ ∀ m, m ∈ ms ↔ m ∈ ns.take i
theorem CofW.same {ns : List Int} {H : Hp} {a d : Addr} {i : Nat} {σ : L2.St} {H1 : Hp} (h : CofW ns H a d i σ H1) : Same H H1 := let ⟨_, _, _, _, s, _⟩ := h; s
theorem nd_len : ∀ {ms ns : List Int}, ms.Nodup → (∀ m ∈ ms, m ∈ ns) → ms.length ≤ ns.length
  | [], _, _, _ => Nat.zero_le _
  | m :: ms, ns, hd, h => by
    rw [List.nodup_cons] at hd
    have h1 := h m List.mem_cons_self
    have ih := nd_len (ms := ms) (ns := ns.erase m) hd.2 fun x hx => (List.mem_erase_of_ne (fun e : x = m => hd.1 (by rw [← e]; exact hx))).mpr (h x (List.mem_cons_of_mem _ hx))
    rw [List.length_erase_of_mem h1] at ih
    have := List.length_pos_of_mem h1
    rw [List.length_cons]; omega
theorem dj_len {ms ns : List Int} (dj : ms.Pairwise fun a b => ab a ≠ ab b) (h : ∀ m ∈ ms, m ∈ ns) : ms.length ≤ ns.length := by
  have nd : ms.Nodup := dj.imp fun h e => h (by rw [e])
  exact nd_len nd h
end KL
namespace KL
open PySem PySem.Spec PyProof.Rows L2
/-! rules with the written part named, for use within a comprehension -/
section
variable {X : Cx} {K : PySem.W.Frag}
theorem op_inI' (e : X.K = K) : OpR X (compareOp .In) (rInI K false) := e ▸ op_inI
theorem op_notInI' (e : X.K = K) : OpR X (compareOp .NotIn) (rInI K true) := e ▸ op_notInI
theorem ix_tup' (e : X.K = K) : IxR X (rIxT K) := e ▸ ix_tup
theorem ix_list' (e : X.K = K) : IxR X (rIxL K) := e ▸ ix_list
theorem op_eqD' (e : X.K = K) (hu : X.A.units + 64 < cLine) : OpR X (compareOp .Eq) (rEqD K) := e ▸ op_eqD hu
theorem op_neD' (e : X.K = K) (hu : X.A.units + 64 < cLine) : OpR X (compareOp .NotEq) (rNeD K) := e ▸ op_neD hu
theorem op_catK' (e : X.K = K) : OpR X (binaryOp .Add) (rCatK K) := e ▸ op_catK
theorem sl_tupK' (e : X.K = K) : SlR X (rSlK K) := e ▸ sl_tupK
theorem sl_list' (e : X.K = K) : SlR X (fun x lo hi H Q => ∃ a xs, x = .ref a ∧ SqL K H a xs ∧ ∀ p, H p = none → Q (.ref p) (upd H p (.lst (cutV xs lo hi)))) := e ▸ sl_list
theorem call_len_seq' (e : X.K = K) : CallR X (.builtin "len") (fun xs H Q => ∃ p ys, xs = [.ref p] ∧ (SqL K H p ys ∨ SqT K H p ys) ∧ Q (.int ys.length) H) := e ▸ call_len_seq
theorem call_tuple_of' (e : X.K = K) : CallR X (.type "tuple") (fun xs H Q => ∃ p ys, xs = [.ref p] ∧ ((SqL K H p ys ∧ ∀ l, H l = none → Q (.ref l) (upd H l (.tup ys))) ∨ (SqT K H p ys ∧ Q (.ref p) H))) := e ▸ call_tuple_of
theorem call_list_of' (e : X.K = K) : CallR X (.type "list") (fun xs H Q => ∃ p ys, xs = [.ref p] ∧ (SqL K H p ys ∨ SqT K H p ys) ∧ ∀ l, H l = none → Q (.ref l) (upd H l (.lst ys))) := e ▸ call_list_of
theorem call_isi' (e : X.K = K) : CallR X (.builtin "isinstance") (rIsi K) := e ▸ call_isi
theorem call_rep' (e : X.K = K) (hg : X.A.guards = some []) (hu : X.A.units + 64 < cLine) : CallR X (.builtin "repr") (rRep K) := e ▸ call_rep hg hu
theorem cr_any' (e : X.K = K) (hc : X.calm = true) : CallR X (.builtin "any") (rAny K) := e ▸ cr_any hc
theorem cr_all' (e : X.K = K) (hc : X.calm = true) : CallR X (.builtin "all") (rAll K) := e ▸ cr_all hc
theorem pi_tup' {tg l : Expr} {tl : TE} (e : X.K = K) (hl : PE X l tl) : PI X tg l (iTup K tl) := e ▸ pi_tup hl
theorem pi_list' {tg l : Expr} {tl : TE} (e : X.K = K) (hl : PE X l tl) : PI X tg l (iList K tl) := e ▸ pi_list hl
theorem pi_seq' {tg l : Expr} {tl : TE} (e : X.K = K) (hl : PE X l tl) : PI X tg l (fun σ H R => iList K tl σ H R ∨ iTup K tl σ H R) := e ▸ pi_seq hl
theorem pe_revT' {x : Expr} {te : TE} {k : Nat} {p1 p2 p3 pos : Pos} (e : X.K = K) (he : PE X x te) : PE X (.Subscript x (.Slice none none (some (.UnaryOp .USub (.Constant (.int 1) k p1) p2)) p3) pos) (tRevT K te) := e ▸ pe_revT he
end
end KL
namespace KL
open PySem PySem.Spec PyProof.Rows L2
/-- a row of the table of fillings -/
def rowB (n m : Nat) : List Bool := (List.range n).map fun (k : Nat) => decide (V.int (Builtin.bitAnd ((m : Int) / 2 ^ ((n : Int) - 1 - (k : Int)).toNat) 1) = V.int 1)
theorem rowB_len (n m : Nat) : (rowB n m).length = n := by unfold rowB; simp
theorem rowB_take {n m k : Nat} (h : k < n) : (rowB n m).take (k + 1) = (rowB n m).take k ++ [decide (V.int (Builtin.bitAnd ((m : Int) / 2 ^ ((n : Int) - 1 - (k : Int)).toNat) 1) = V.int 1)] := by
  have e : (rowB n m)[k]? = some (decide (V.int (Builtin.bitAnd ((m : Int) / 2 ^ ((n : Int) - 1 - (k : Int)).toNat) 1) = V.int 1)) := by
    unfold rowB
    rw [List.getElem?_map, List.getElem?_range h]; rfl
  rw [List.take_add_one, e]; rfl
/-- tuples of ints, one by one -/
inductive TupsI (K : PySem.W.Frag) (H : Hp) : List Addr → List (List Int) → Prop
  | nil : TupsI K H [] []
  | cons {c : Addr} {cs : List Addr} {ns : List Int} {nss : List (List Int)} : SqT K H c (ns.map V.int) → TupsI K H cs nss → TupsI K H (c :: cs) (ns :: nss)
theorem TupsI.len {K : PySem.W.Frag} {H : Hp} : ∀ {cs : List Addr} {nss : List (List Int)}, TupsI K H cs nss → cs.length = nss.length
  | _, _, .nil => rfl
  | _, _, .cons _ t => by rw [List.length_cons, List.length_cons, t.len]
theorem TupsI.mv {K : PySem.W.Frag} {H H' : Hp} (m : ∀ a xs, SqT K H a xs → SqT K H' a xs) : ∀ {cs : List Addr} {nss : List (List Int)}, TupsI K H cs nss → TupsI K H' cs nss
  | _, _, .nil => .nil
  | _, _, .cons h t => .cons (m _ _ h) (t.mv m)
theorem TupsI.same {K : PySem.W.Frag} {H H' : Hp} {cs : List Addr} {nss : List (List Int)} (h : TupsI K H cs nss) (s : Same H H') : TupsI K H' cs nss := h.mv fun _ _ q => same_tup s q
theorem TupsI.lst {K : PySem.W.Frag} {H : Hp} {D : Addr} {xs ys : List V} {cs : List Addr} {nss : List (List Int)} (h : TupsI K H cs nss) (e : H D = some (.lst xs)) : TupsI K (upd H D (.lst ys)) cs nss := h.mv fun a zs q => by
  rcases q with (q | ⟨o, q⟩) | q
  · exact .inl (.inl (by rw [upd_ne (ne_of q e (by intro z; cases z))]; exact q))
  · exact .inl (.inr ⟨o, by rw [upd_ne (ne_of q e (by intro z; cases z))]; exact q⟩)
  · exact .inr q
theorem TupsI.snoc {K : PySem.W.Frag} {H : Hp} {c : Addr} {ns : List Int} (hc : SqT K H c (ns.map V.int)) : ∀ {cs : List Addr} {nss : List (List Int)}, TupsI K H cs nss → TupsI K H (cs ++ [c]) (nss ++ [ns])
  | _, _, .nil => .cons hc .nil
  | _, _, .cons h t => .cons h (TupsI.snoc hc t)
theorem TupsI.at {K : PySem.W.Frag} {H : Hp} : ∀ {cs : List Addr} {nss : List (List Int)} {i : Nat} {x : V}, TupsI K H cs nss → (cs.map V.ref)[i]? = some x →
    ∃ c ns, x = .ref c ∧ ns ∈ nss ∧ SqT K H c (ns.map V.int) ∧ nss.take (i + 1) = nss.take i ++ [ns]
  | _, _, _, _, .nil, e => by simp at e
  | _, _, 0, _, .cons h _, e => by
    rw [List.map_cons] at e
    cases e
    exact ⟨_, _, rfl, List.mem_cons_self, h, by simp⟩
  | _, _, i + 1, x, .cons _ t, e => by
    obtain ⟨c, ns, h1, h2, h3, h4⟩ := t.at (i := i) (x := x) (by simpa using e)
    exact ⟨c, ns, h1, List.mem_cons_of_mem _ h2, h3, by rw [List.take_succ_cons, h4]; rfl⟩
theorem TupsI.dp {K : PySem.W.Frag} {H : Hp} : ∀ {cs : List Addr} {nss : List (List Int)}, TupsI K H cs nss → DpAll K H (cs.map V.ref) (nss.map fun ns => .tuple (ns.map PyData.int))
  | _, _, .nil => .nil
  | _, _, .cons h t => .cons (.tup h (dpInts _)) t.dp
theorem cl_ints : ∀ ns : List Int, PyData.canLayAll0 (ns.map PyData.int) = true
  | [] => by simp only [List.map_nil, PyData.canLayAll0]
  | _ :: ns => by simp only [List.map_cons, PyData.canLayAll0, PyData.canLay0, cl_ints ns, Bool.true_and]
theorem dp_ints : ∀ ns : List Int, PyData.depthAll (ns.map PyData.int) = 0
  | [] => by simp only [List.map_nil, PyData.depthAll]
  | _ :: ns => by simp only [List.map_cons, PyData.depthAll, PyData.depth, dp_ints ns, Nat.max_self]
theorem shTups (nss : List (List Int)) : SeqAt.shaped (.list (nss.map fun ns => .tuple (ns.map PyData.int))) = true := by
  have h1 : ∀ nss : List (List Int), PyData.canLayAll0 (nss.map fun ns => .tuple (ns.map PyData.int)) = true := fun nss => by
    induction nss with
    | nil => simp only [List.map_nil, PyData.canLayAll0]
    | cons n ns ih => simp only [List.map_cons, PyData.canLayAll0, PyData.canLay0, ih, cl_ints, Bool.true_and]
  have h2 : ∀ nss : List (List Int), PyData.depthAll (nss.map fun ns => .tuple (ns.map PyData.int)) ≤ 1 := fun nss => by
    induction nss with
    | nil => simp only [List.map_nil, PyData.depthAll]; omega
    | cons n ns ih => simp only [List.map_cons, PyData.depthAll, PyData.depth, dp_ints]; omega
  unfold SeqAt.shaped
  simp only [PyData.canLay0, h1, PyData.depth, Bool.true_and]
  exact decide_eq_true (by have := h2 nss; omega)
theorem eqvNilD (ds : List PyData) : PyData.eqv (.list ds) (.list []) = ds.isEmpty := by
  cases ds with
  | nil => simp [PyData.eqv, PyData.eqvAll]
  | cons d ds => simp [PyData.eqv, PyData.eqvAll]
end KL
namespace KL
open PySem PySem.Spec PyProof.Rows L2
/-- what the clause of signs is: None, or a new tuple -/
def CRes (H : Hp) (ns : List Int) (v : V) (H' : Hp) : Prop := (v = .non ∧ Both ns) ∨ ∃ (r : Addr) (cs : List Int), v = .ref r ∧ H r = none ∧ H' r = some (.tup (cs.map V.int)) ∧ ¬ Both ns ∧ ClOf ns cs
def IsRes (ns : List Int) (d : PyData) : Prop := (d = .none ∧ Both ns) ∨ ∃ cs : List Int, d = .tuple (cs.map PyData.int) ∧ ¬ Both ns ∧ ClOf ns cs
theorem IsRes.eq {ns : List Int} {d e : PyData} (h : IsRes ns d) (h' : IsRes ns e) : d = e := by
  rcases h with ⟨rfl, b⟩ | ⟨cs, rfl, nb, c⟩ <;> rcases h' with ⟨rfl, b'⟩ | ⟨ds, rfl, nb', c'⟩
  · rfl
  · exact absurd b nb'
  · exact absurd b' nb
  · rw [c.eq c']
theorem ClOf.len {ns cs : List Int} (h : ClOf ns cs) : cs.length ≤ ns.length :=
  nd_len (h.up.imp fun h e => by rw [e] at h; exact Nat.lt_irrefl _ h) fun m hm => (h.mem m).mp hm
theorem IsRes.fine {ns : List Int} {d : PyData} (h : IsRes ns d) (hb : ∀ n ∈ ns, n.natAbs < 2 ^ 110) (hl : ns.length ≤ 400) : Fine 100000 3 d := by
  rcases h with ⟨rfl, _⟩ | ⟨cs, rfl, _, c⟩
  · exact Fine.none
  · exact (Fine.tuple (n := 110) (m := 0) (l := 400) (fineInts (B := 0) fun n hn => hb n ((c.mem n).mp hn)) (by rw [List.length_map]; exact Nat.le_trans c.len hl)).le (by omega) (by omega)
theorem CRes.dat {K : PySem.W.Frag} {H H' : Hp} {ns : List Int} {v : V} (h : CRes H ns v H') : ∃ d, Dp K H' v d ∧ IsRes ns d := by
  rcases h with ⟨rfl, b⟩ | ⟨r, cs, rfl, _, e, nb, c⟩
  · exact ⟨_, .non, .inl ⟨rfl, b⟩⟩
  · exact ⟨_, .tup (SqT.of e) (dpInts cs), .inr ⟨cs, rfl, nb, c⟩⟩
def cutI (ns : List Int) (lo hi : Option Int) : List Int := (ns.drop (HT.sIx ns.length 0 lo)).take (HT.sIx ns.length ns.length hi - HT.sIx ns.length 0 lo)
theorem cut_ints (ns : List Int) (lo hi : Option Int) : cutV (ns.map V.int) lo hi = (cutI ns lo hi).map V.int := by
  unfold cutV cutI
  rw [List.length_map, List.map_take, List.map_drop]
theorem cutI_sub {ns : List Int} {lo hi : Option Int} : (∀ v ∈ cutI ns lo hi, v ∈ ns) ∧ (cutI ns lo hi).length ≤ ns.length := by
  unfold cutI
  refine ⟨fun v hv => List.mem_of_mem_drop (List.mem_of_mem_take hv), ?_⟩
  rw [List.length_take, List.length_drop]; omega
theorem cutI_cl {n : Nat} {ns : List Int} {lo hi : Option Int} (h : ns.Pairwise fun a b => a.natAbs < b.natAbs) : (cutI ns lo hi).Pairwise fun a b => a.natAbs < b.natAbs :=
  (h.sublist (List.drop_sublist _ _)).sublist (List.take_sublist _ _)
theorem all_key (os cs : List Int) : decide ((os.filter fun n => !decide (n ∈ cs)) = []) = os.all fun n => decide (n ∈ cs) := by
  rw [Bool.eq_iff_iff]; simp
end KL
namespace KL
open PySem PySem.Spec PyProof.Rows L2
/-- an own class over ValueError whose __init__ begins with super().__init__(a text) -/
structure SupC (K : PySem.W.Frag) (P : Program) (mg : Str → Option Value) (C fI cc cda : Addr) (qual : Str) (st : Stmt) (fd : FuncData) : Prop where
  oex : OexC K C
  fn : ∃ (oc : Value) (od : Option Addr) (dV kV doc pm : Value) (an : Option Addr) (ct : Value) (osl : Array (Option Value)),
    fd = PySem.W.fnX "__init__" qual (defArgs st) (defBody st) (defScope st) [("__class__", cc)] dV kV doc pm an (.ref cda) ct ∧ K.lookup fI = some ⟨oc, od, .func fd, osl⟩
  code : PySem.W.codeIn K (.ref cda) qual = true
  file : ∃ (ccl : Value) (cdd : Option Addr) (vs : Array Value) (ccs : Array (Option Value)) (file : Str) (tf : Tok), K.lookup cda = some ⟨ccl, cdd, .fields vs, ccs⟩ ∧ vs[2]? = some (.str file tf) ∧ ((P.main.file : Str) == file) = true
  cell : ∃ (cl : Value) (cld : Option Addr) (csl : Array (Option Value)), K.lookup cc = some ⟨cl, cld, .cell (some (.ref C)), csl⟩
  sup : mg "super" = none
  top : (P.main.scope.names.lookup ("super" : Str)).isSome = false
  opq : PySem.W.nsIn K cStatics "thirdparty.any" = some none
  along : PySem.W.ks_superIn K C C "__init__" = some (some (.builtin "ValueError.__init__"))
  mro : PySem.W.mroIn K C (.ref C) = some true
  subV : PySem.W.subIn K (.ref C) (.type "ValueError") = some true
  ini : PySem.W.findIn K (.ref C) "__init__" = some (some (.ref fI))
  tyI : PySem.W.typeIn K (.ref fI) = some (.type "function")
  par : ((defArgs st).posonlyargs ++ (defArgs st).args).head?.map (·.arg) = some "self"
section
variable {X : Cx} {pins : List (Addr × Obj)} {σ : L2.St} {H : Hp} {s : Shared} {a C fI cc cda : Addr} {qual : Str} {st : Stmt} {fd : FuncData}
theorem call_mw {prog : Program} {w : World} {A : Around} {E : Value → Shared → Prop} {h : Heap} {g : Array GenState} {d : Drawn} {t : Nat} {os : OsState} {nm q : Str} {C N : Addr} {bs bm : List Value} {hdct : Bool} {sn : List Str} {sub : List Value} {ab : Bool} {col : Option Bool}
    {dd : Option Addr} {k0 k1 k2 k3 k5 : Option Value} {u e t0 : Addr} {rest : List Value} {Q : Value → Shared → Prop} (hC : h.get? C = some (excClassObj nm q C N bs bm hdct sn sub ab col dd k0 k1 k2 k3 k5 "ValueError.__new__"))
    (he : h.get? e = some (HandSPX.excO C t0)) (hu : h.get? u = some (PySem.W.kxs_mw "ValueError.__init__" e)) (hrest : rest.length ≤ sizeLine)
    (hq : ∀ h' t1, (∀ b o, b ≠ e → h.get? b = some o → h'.get? b = some o) → h'.get? e = some (HandSPX.excO C t1) → Q .none ⟨h', g, d, t, os⟩) : wpAny (model prog w) A (call (.ref u) rest) Q E ⟨h, g, d, t, os⟩ := by
  refine wpAny_call (codeAny_of_tree ?_)
  show wpAny _ A.in1 (callAny (.ref u) ⟨rest, []⟩) _ _ _
  simp only [callAny]
  refine wpAny_bind (wpAny_load hu ?_)
  simp only [PySem.W.kxs_mw, show (Value.type "method-wrapper" == Value.type "method" || Value.type "method-wrapper" == Value.type "builtin_function_or_method" || Value.type "method-wrapper" == Value.type "method-wrapper") = true by decide, if_true]
  refine PySem.W.KFB.if_so (by decide) ?_
  refine wpAny_bind (ESX.check_bound F.excBase_ValueError hC he rfl ?_)
  refine wpAny_bind (wpAny_pure (wpAny_pure ?_))
  refine ⟨Code.quiet_builtin _ (by decide +kernel), codeAny_builtin F.excBase_ValueError.initEntry ?_⟩
  rw [Around.under_plainId F.excBase_ValueError.init.plain _]
  wp_walk
  refine hq _ h.objs.size (fun b o hb ho => ?_) ?_
  · rw [Heap.get?_update_other _ _ (Ne.symm hb)]
    exact Heap.get?_push_of_some _ ho
  · rw [Heap.get?_update_self _ (Heap.get?_push_of_some _ he) rfl]
    rfl
theorem sup_call {pl : Sem Bool} {body : List Stmt} {txt : Str} {j : Nat} {p0 p1 p2 p3 p4 : Pos} {Q : Shared → Prop} {E : Value → Shared → Prop} (T : SupC X.K X.prog X.mg C fI cc cda qual st fd) (I : Inv X pins σ H s) (ea : H a = some (exo a C none))
    (hN : X.N[0]? = some ("self" : Str)) (hσ : σ[0]? = some (some (.ref a))) (hka : X.env.kindOf "self" = some .local) (hks : X.env.kindOf "super" = some .globalImplicit) (hkc : X.env.kindOf "__class__" = some .free)
    (hcl : X.env.cells.lookup ("__class__" : Str) = some cc) (hfu : X.env.func = some fI) (hco : X.env.code = .ref cda)
    (he : eval (.Call (.Attribute (.Call (.Name "super" p0) [] [] p1) "__init__" p2) [.Constant (.str txt) j p3] [] p4) X.env = (do
      let ov ← attributeBase (.Call (.Name "super" p0) [] [] p1) "__init__" X.env (eval (.Call (.Name "super" p0) [] [] p1) X.env)
      standAt p2.atName
      let (f, first) ← holding [ov] (getMethod ov "__init__" pl)
      callWith p4 f first (backTo p4 (starEach [.Constant (.str txt) j p3] X.env)) []))
    (h : ∀ s', Inv X pins σ H s' → Q s') : _root_.PySem.wpAt (model X.prog X.w) X.A (.func body X.env) (eval (.Call (.Attribute (.Call (.Name "super" p0) [] [] p1) "__init__" p2) [.Constant (.str txt) j p3] [] p4) X.env) (fun _ s' => Q s') E s := by
  have KX := I.kIn
  have hk : X.env.scope.kind = .function := I.ok.kind
  obtain ⟨oc, od, dV, kV, doc, pm, an, ct, osl, rfl, lf⟩ := T.fn
  obtain ⟨ccl, cdd, vs, ccs, file, tf, lc, hvs, hfile⟩ := T.file
  obtain ⟨cl, cld, csl, lcc⟩ := T.cell
  obtain ⟨nm, q, N, bs, bm, sn, sub, ab, col, dd, k0, k1, k2, k3, k5, hC, hbm⟩ := T.oex.cls
  obtain ⟨t1, hx⟩ := exo_at I.hok ea
  obtain ⟨ar, har, earg⟩ : ∃ ar : Arg, ((defArgs st).posonlyargs ++ (defArgs st).args).head? = some ar ∧ ar.arg = ("self" : Str) := by
    have := T.par
    cases q : ((defArgs st).posonlyargs ++ (defArgs st).args).head? with
    | none => rw [q] at this; cases this
    | some ar => rw [q] at this; exact ⟨ar, rfl, Option.some.inj this⟩
  have hcdC : ∃ cd, PySem.W.clsIn X.K C = some cd := by
    unfold PySem.W.clsIn
    rw [hC]
    exact ⟨_, rfl⟩
  obtain ⟨cd, hcd⟩ := hcdC
  obtain ⟨mb, hbn, hbb⟩ := I.mod.blt
  obtain ⟨m, hn, hl⟩ := id I.loc
  obtain ⟨u0, ru, look⟩ := hl 0 _ _ hN hσ (.inl hka)
  obtain rfl : u0 = Value.ref a := ru
  have hv : m ("self" : Str) = some (.ref a) := by
    rcases look with l | ⟨z, _⟩
    · exact l.2
    · rw [hka] at z; rcases z with z | z <;> cases z
  refine PySem.ks_wpAt_MethodCall (pl := pl) ?_ he
  refine PySem.ks_wpAt_super_base hks hkc (by decide) hfu (KX _ _ lf) rfl har hco (KX _ _ lc) rfl hvs hfile T.top ?_
  refine PySem.W.ks_loadName_global hk hks ?_
  obtain ⟨hh, g, d, t, os⟩ := s
  have aneC : a ≠ C := fun z => by
    have := (I.bs C _ (I.ok.mod.kin C _ hC)).2
    rw [← z, ea] at this; cases this
  refine Calls.loadGlobal_builtin (by rw [I.ok.glob]; exact I.mod.glob.keeps I.bk) T.sup (by rw [I.ok.blt]; exact hbn.keeps I.bk) ((hbb _ (by decide)).trans (show bootBuiltins "super" = some (.type "super") by decide +kernel)) ⟨rfl, ?_⟩
  refine wpAny_loadName_free hk hkc hcl ⟨_, KX _ _ lcc, rfl⟩ ?_
  rw [earg]
  refine wpAny_loadName_local hk hka hn hv ?_
  refine PySem.ks_wpAny_isType_cls (KX _ _ hC) rfl ⟨rfl, ?_⟩
  refine PySem.ks_wpAny_call_super (KX _ _ hC) rfl hx rfl (fun c e => by cases e) (PySem.W.looks_mroIn KX T.mro) (fun h' e k => ?_)
  have I1 : Inv X pins σ H ⟨h', g, d, t, os⟩ := I.kept (t' := t) k
  have hx1 := k _ _ hx
  have IA : PySem.W.InstAt h' a { cls := .ref C, dict := none, data := .fields #[.ref t1, .none, .none, .none, .bool false, .none] } C none := ⟨hx1, rfl, rfl, trivial⟩
  have al : PySem.W.alongIn X.K "__init__" ((cd.mro.dropWhile (· != .ref C)).drop 1) = some (some (.builtin "ValueError.__init__")) := by
    have := T.along
    unfold PySem.W.ks_superIn at this
    rw [hcd] at this
    exact this
  refine PySem.W.kxs_getMethod PySem.W.kxs_ValueError e (PySem.W.looks_opaque I1.kIn T.opq) (l₀ := cd.mro) (fun A Q E s k q => wpAny_bind ((PySem.W.looks_clsIn I1.kIn hcd) A _ E s k (wpAny_pure q))) rfl I1.kIn al (IA.type.andThen (PySem.W.looks_subIn I1.kIn T.subV)) aneC (by decide) ?_
  have up : ∀ b o, h'.get? b = some o → (h'.push (PySem.W.kxs_mw "ValueError.__init__" a)).get? b = some o := fun b o e => Heap.get?_push_of_some _ e
  have hu : (h'.push (PySem.W.kxs_mw "ValueError.__init__" a)).get? h'.objs.size = some (PySem.W.kxs_mw "ValueError.__init__" a) := Heap.get?_push_at rfl rfl
  refine PySem.W.kxs_callWith (i := "ValueError.__init__") (x := a) rfl (Calls.evalArgs_plain ?_)
  refine Calls.spliced_cons (Calls.Constant_str (k := j) (pos := p3) (Calls.spliced_nil ⟨hu, ?_⟩))
  have I2 : Inv X pins σ H ⟨h'.push (PySem.W.kxs_mw "ValueError.__init__" a), g, d, t + 1 + 1, os⟩ := I1.kept (t' := t + 1 + 1) up
  refine call_mw (I2.kIn _ _ hC) (up _ _ hx1) hu (by show 1 ≤ sizeLine; decide) fun h'' t2 kk hx2 => ?_
  have J := I2.write (t' := t + 1 + 1) (x := a) (e := a) (o := exo a C none) (by rw [ea]; exact True.intro) (.inl rfl) kk ⟨_, hx2⟩ (exo_ok hx2)
  have eu : upd H a (exo a C none) = H := by
    funext b
    by_cases hb : b = a
    · rw [hb, upd_same, ea]
    · rw [upd_ne hb]
  rw [eu] at J
  exact h _ J
/-- the def __init__, by what stands behind its first statement -/
theorem init_of {P : Program} {w : World} {K : PySem.W.Frag} {mg : Str → Option Value} {base : Heap} {k : Nat} {ps N : List Str} {sp : Sp} {rest : List Stmt} {txt : Str} {j : Nat} {p0 p1 p2 p3 p4 p5 : Pos} (T : SupC K P mg C fI cc cda qual st fd)
    (S : NdefX.NScope N ps ["__class__"] (defScope st)) (hps : ps.head? = some ("self" : Str)) (hb : defBody st = .Expr (.Call (.Attribute (.Call (.Name "super" p0) [] [] p1) "__init__" p2) [.Constant (.str txt) j p3] [] p4) p5 :: rest)
    (hsup : (defScope st).names.lookup ("super" : Str) = some .globalImplicit) {pl : Env → Sem Bool}
    (he : ∀ env : Env, eval (.Call (.Attribute (.Call (.Name "super" p0) [] [] p1) "__init__" p2) [.Constant (.str txt) j p3] [] p4) env = (do
      let ov ← attributeBase (.Call (.Name "super" p0) [] [] p1) "__init__" env (eval (.Call (.Name "super" p0) [] [] p1) env)
      standAt p2.atName
      let (f, first) ← holding [ov] (getMethod ov "__init__" (pl env))
      callWith p4 f first (backTo p4 (starEach [.Constant (.str txt) j p3] env)) []))
    (len : ∀ vs H Q E, sp vs H Q E → vs.length = ps.length) (self : ∀ vs H Q E, sp vs H Q E → ∃ a, vs.head? = some (.ref a) ∧ H a = some (exo a C none))
    (hbody : ∀ (A : Around) (outer : List Env) (s : Shared) (H : Hp) (vs : List V) (Q : VK) (E : XK), Room k (A.deeper (NdefX.envF ⟨"__init__", qual, defArgs st, defBody st, defScope st, [("__class__", cc)], cda⟩ fI s.heap.objs.size)) → sp vs H Q E →
      ∃ t, PSs (NdefX.ncx CX0 P w K mg base N ⟨"__init__", qual, defArgs st, defBody st, defScope st, [("__class__", cc)], cda⟩ fI A outer s H E) rest t ∧ t { nx := fun _ H' => Q .non H', rt := Q } (NdefX.startF N vs [some (.ref C)]) H) :
    FnOk P w K mg base CX0 (k + 1) fI fd ps sp := by
  have T0 := T
  obtain ⟨oc, od, dV, kV, doc, pm, an, ct, osl, efd, lf⟩ := T.fn
  subst efd
  obtain ⟨cl, cld, csl, lcc⟩ := T.cell
  refine ⟨len, fun A outer s H args us vs Q E hr e0 hbd r hsp => ?_⟩
  have hl := len _ _ _ _ hsp
  have bk : ∀ b o, base.get? b = some o → s.heap.get? b = some o := fun b o e => (e0.bs b o e).1
  have KX : K.In s.heap := e0.mod.kin.keeps bk
  have lim : s.heap.NoLimit := e0.mod.nolimit.keeps bk
  obtain ⟨a, ha, ea⟩ := self _ _ _ _ hsp
  have CA : NdefX.CellsAt [("__class__", cc)] ["__class__"] [some (.ref C)] s.heap H := by
    have hc : H cc = none ∧ s.heap.IsCell cc (some (.ref C)) := ⟨(e0.bs _ _ (e0.mod.kin _ _ lcc)).2, _, KX _ _ lcc, rfl⟩
    have one : ∀ (y : Str) (c : Addr), ([(("__class__" : Str), cc)] : List (Str × Addr)).lookup y = some c → y = "__class__" ∧ c = cc := fun y c e => by
      rw [List.lookup_cons] at e
      split at e
      · rename_i z; cases e; exact ⟨beq_iff_eq.mp z, rfl⟩
      · cases e
    refine ⟨rfl, fun y c e => ?_, fun x y c e1 e2 => by rw [(one _ _ e1).1, (one _ _ e2).1], fun i y hy => ?_⟩
    · obtain ⟨_, rfl⟩ := one y c e
      exact ⟨hc.1, _, hc.2⟩
    · match i, hy with
      | 0, hy =>
        cases hy
        exact ⟨cc, by rw [List.lookup_cons]; simp, fun v hv => by cases hv; exact ⟨_, rfl, hc.2⟩⟩
  refine PySem.ks_codeAny_call_defAt (body := defBody st) (binds := ps.zip us) hr.depth (KX _ _ lf) rfl lim (PySem.W.codeRec_of KX T.code) rfl hbd S.nocell (fun ⟨n, _⟩ hy => S.par n (List.of_mem_zip hy).1) (fun h₁ hns kp => ?_) S.co S.gen S.kind
  have I : Inv (NdefX.ncx CX0 P w K mg base N ⟨"__init__", qual, defArgs st, defBody st, defScope st, [("__class__", cc)], cda⟩ fI A outer s H E) [] (NdefX.startF N vs [some (.ref C)]) H { s with heap := h₁, toks := s.toks + (ps.zip us).length } :=
    NdefX.inv_startN (F := ⟨"__init__", qual, defArgs st, defBody st, defScope st, [("__class__", cc)], cda⟩) S hr.hd e0 hl r CA hns kp
  obtain ⟨t, ht, hq⟩ := hbody A outer s H vs Q E (hr.deeper _) hsp
  have hN0 : N[0]? = some ("self" : Str) := by
    have e : (N.take (ps.length + 1))[0]? = (ps ++ [("__class__" : Str)])[0]? := congrArg (·[0]?) S.pre
    rw [List.getElem?_take_of_lt (by omega)] at e
    rw [e]
    cases ps with
    | nil => cases hps
    | cons p ps => cases hps; rfl
  have hself : ("self" : Str) ∈ ps := by
    cases ps with
    | nil => cases hps
    | cons p ps => cases hps; exact List.mem_cons_self
  have hv0 : (NdefX.startF N vs [some (.ref C)])[0]? = some (some (.ref a)) := by
    cases vs with
    | nil => cases ha
    | cons v vs => cases ha; rfl
  rw [hb] at *
  refine PySem.ks_wpAt_execs_cons (PySem.ks_wpAt_Expr_any ?_ (by show ((defScope st).kind == ScopeKind.module && _) = false; rw [S.kind]; rfl) (by rfl))
  refine sup_call (X := NdefX.ncx CX0 P w K mg base N ⟨"__init__", qual, defArgs st, _, defScope st, [("__class__", cc)], cda⟩ fI A outer s H E) T0 I ea hN0 hv0 (S.par _ hself) hsup (S.frk _ (by simp)) (show ([(("__class__" : Str), cc)] : List (Str × Addr)).lookup ("__class__" : Str) = some cc by rw [List.lookup_cons]; simp) rfl rfl (he _) (fun s' J => ?_)
  refine wpAt_of_wpAny (wpAny_mono (ht.run [] s' _ H _ J hq) (fun fl s'' hs => ?_) fun e s'' hs => hs)
  match fl, hs with
  | .ret u, ⟨v, σ', H', J, rv, q⟩ => exact ⟨v, H', J.os, J.bare, J.base, J.hok, rv, q⟩
  | .next, ⟨σ', H', J, q⟩ => exact ⟨V.non, H', J.os, J.bare, J.base, J.hok, rfl, q⟩
  | .brk, ⟨_, _, _, q⟩ => exact False.elim q
  | .cont, ⟨_, _, _, q⟩ => exact False.elim q
end
end KL
namespace KL
open PySem PySem.Spec PyProof.Rows L2
/-- a caught error that is kept: at a, of the class cls, its dict d -/
def XO (a : Addr) (cls : Value) (d : Option Addr) : HO := .ext fun h => ∃ (oe : Obj) (vs : Array Value), h.get? a = some oe ∧ Zc cls d oe ∧ oe.data = .fields vs
theorem XO_ok {P : Program} {w : World} {H : Hp} {h : Heap} {a : Addr} {cls : Value} {d : Option Addr} {oe : Obj} {vs : Array Value} (e : h.get? a = some oe) (z : Zc cls d oe) (q : oe.data = .fields vs) : ObjOk P w H h a (XO a cls d) :=
  ⟨⟨oe, vs, e, z, q⟩, ⟨oe, e⟩, fun _ _ ⟨o, v, e1, z1, q1⟩ k => ⟨o, v, k _ e1, z1, q1⟩⟩
theorem XO_at {P : Program} {w : World} {H : Hp} {h : Heap} {a : Addr} {cls : Value} {d : Option Addr} (hok : HOk P w H h) (e : H a = some (XO a cls d)) : ∃ (oe : Obj) (vs : Array Value), h.get? a = some oe ∧ Zc cls d oe ∧ oe.data = .fields vs := (hok a _ e).1
/-- an object that stands there and is not tracked yet may be tracked -/
theorem track {X : Cx} {pins : List (Addr × Obj)} {σ : L2.St} {H : Hp} {s : Shared} {a : Addr} {cls : Value} {d : Option Addr} {oe : Obj} {vs : Array Value} (I : Inv X pins σ H s) (na : H a = none) (n0 : X.s_0.heap.get? a = none) (nL : a ≠ X.env.locals)
    (nC : ∀ x c, X.env.cells.lookup x = some c → c ≠ a) (nP : ∀ p ∈ X.pn ++ pins, p.1 ≠ a) (e : s.heap.get? a = some oe) (z : Zc cls d oe) (q : oe.data = .fields vs) : Inv X pins σ (upd H a (XO a cls d)) s := by
  have ne : ∀ {b : Addr} {o : HO}, H b = some o → b ≠ a := fun hb z => by rw [z, na] at hb; cases hb
  refine ⟨I.ok, I.os, I.bare, ⟨I.base.keep, I.base.slot, fun b o h1 h2 h3 => ?_, I.base.there, fun b xs h1 => ?_, fun b o u h1 => ?_, fun b ps h1 => ?_⟩, I.loc, I.cell, ?_, fun x c hx => ?_, fun p hp => ?_, fun b o hb => ?_, I.len⟩
  · rw [upd_ne (fun y => by rw [y, n0] at h1; cases h1)]; exact I.base.free b o h1 h2 h3
  · have := I.base.tups b xs h1; rw [upd_ne (ne this)]; exact this
  · have := I.base.frzs b o u h1; rw [upd_ne (ne this)]; exact this
  · obtain ⟨m, hm⟩ := I.base.tbls b ps h1; exact ⟨m, by rw [upd_ne (ne hm)]; exact hm⟩
  · rw [upd_ne (Ne.symm nL)]; exact I.free
  · rw [upd_ne (nC x c hx)]; exact I.freeC x c hx
  · obtain ⟨p1, p2, p3, p4, p5⟩ := I.pin p hp
    exact ⟨p1, by rw [upd_ne (nP p hp)]; exact p2, p3, p4, p5⟩
  · by_cases hba : b = a
    · subst hba
      rw [upd_same] at hb; cases hb
      exact XO_ok e z q
    · rw [upd_ne hba] at hb
      exact (I.hok b o hb).stay (fun _ _ _ y => y) (fun c y => by rw [upd_ne (ne y)]; exact y) fun c xs y => by rw [upd_ne (ne y)]; exact y
/-- what 'except x as n' asks where the error outlives the suite: it is tracked behind it -/
def wKeep (K : PySem.W.Frag) (c : Value) (i : Nat) (ts : Addr → Value → Option Addr → TS) (Wo : WX) (D : Ends) : WX := fun cls d σ H => ∃ b, PySem.W.exmOne K cls c = some b ∧
  (b = true → ∀ a, H a = none → ts a cls d { nx := fun σ1 H1 => D.nx (σ1.set i none) (upd H1 a (XO a cls d)), rt := fun v H1 => D.rt v (upd H1 a (XO a cls d)), bk := fun σ1 H1 => D.bk (σ1.set i none) (upd H1 a (XO a cls d)), ct := fun σ1 H1 => D.ct (σ1.set i none) (upd H1 a (XO a cls d)) } (σ.set i (some (.ref a))) H) ∧ (b = false → Wo cls d σ H)
section
variable {X : Cx} {x n : Str} {c : Value} {i : Nat} {bd su : List Stmt} {st : Stmt} {q0 q1 q2 : Pos} {tb : WX → TS} {ts : Addr → Value → Option Addr → TS} {Wo : WX}
theorem ps_try_keep (hstk : X.stack = X.env :: X.outer) (hfrm : X.env.frame = some X.env.locals) (hex : X.ex = []) (hnd : X.N.Nodup) (hix : X.N[i]? = some n) (hloc : X.env.kindOf n = some .local) (hcls : Names X x c) (tk : Takes X Wo)
    (hbd : ∀ (W : WX) (pn : List (Addr × Obj)) (xe : Value → Shared → Prop), Takes (X.tr pn xe) W → PassesOwn (model X.prog X.w) X.A X.env xe → PSs (X.tr pn xe) bd (tb W))
    (hst : ∀ (a : Addr) (oe : Obj) (cls : Value) (d : Option Addr) (pn : List (Addr × Obj)), Zc cls d oe → (∃ vs, oe.data = .fields vs) → PSs (X.suite a ((a, oe) :: pn)) (st :: su) (ts a cls d)) :
    PS X (.Try bd [.ExceptHandler (some (.Name x q0)) (some n) (st :: su) q1] [] [] q2) (fun D σ H => tb (wKeep X.K c i ts Wo D) D σ H) := by
  refine ⟨fun pins s σ H D I hgo => ?_⟩
  have okX := I.ok
  have hA : X.A.frames = some (X.env :: X.outer) := by rw [okX.frames, hstk]
  refine wpAny_Try_except ?_
  refine wpAny_mono ((hbd (wKeep X.K c i ts Wo D) (X.pn ++ pins) (fun er r1 => wpAny (model X.prog X.w) X.A (noteFrame er X.env) (fun _ r2 => wpAny (model X.prog X.w) X.A (setFlight er none)
    (fun _ r3 => wpAny (model X.prog X.w) X.A (handleBy er X.env [.ExceptHandler (some (.Name x q0)) (some n) (st :: su) q1]) (SP X pins D) X.xe r3) X.xe r2) X.xe r1) (fun u s' air => ?_) PassesOwn.looking).run [] s σ H D (I.toTry _) hgo) (fun f r1 hr1 => ?_) (fun _ _ z => z)
  · obtain ⟨a, B, sI, pin1, σ1, H1, cls, d, rfl, Jt, nb, up, sky, na, os, ag, b, hb, hy, hn⟩ := air
    have J : Inv X pins σ1 H1 sI := Jt.ofTry okX
    have sk1 : Sky B (X.env :: X.outer) a (Zc cls d) X.env.locals s'.heap := by rw [← hstk]; exact sky
    have Ba : B.get? a = none := by
      rcases sk1 with z | z | z
      · exact z.2.1
      · exact z.2.1
      · exact z.2.1
    show wpAny (model X.prog X.w) X.A (noteFrame (.ref a) X.env) _ _ _
    refine Sky.land Zc.steady hA hfrm sk1 fun g3 F3 u3 => ?_
    have J3 : Inv X pins σ1 H1 { s' with heap := g3 } := J.landed nb F3.1 (up.trans u3) os ag
    obtain ⟨o3, v3, e3, z3, d3⟩ := F3.there
    have nfr : a ∉ frs (X.env :: X.outer) := fun hm => by
      obtain ⟨_, o4, e4, k4⟩ := F3.2.2.1.mem hm
      rw [e3] at e4; cases e4
      exact k4 _ d3
    have nL : a ≠ X.env.locals := fun z => nfr (List.mem_filterMap.mpr ⟨X.env, List.mem_cons_self, by rw [hfrm, z]⟩)
    have nF : a ∉ X.fs := fun hm => by
      obtain ⟨e, he, q⟩ := List.mem_filterMap.mp hm
      exact nfr (List.mem_filterMap.mpr ⟨e, List.mem_cons_of_mem _ he, q⟩)
    have aI : sI.heap.get? a = none := by
      cases hq : sI.heap.get? a with
      | none => rfl
      | some o => have := nb a o hq (by rw [hstk]; exact nfr); rw [Ba] at this; cases this
    have a0 : X.s_0.heap.get? a = none := by
      cases hq : X.s_0.heap.get? a with
      | none => rfl
      | some o => obtain ⟨o', z⟩ := J.base.there a o hq (by rw [hex]; exact List.not_mem_nil); rw [aI] at z; cases z
    have aC : ∀ y cc, X.env.cells.lookup y = some cc → cc ≠ a := fun y cc hc z => by
      obtain ⟨v, o, z1, _⟩ := J.cell y cc hc
      rw [z, aI] at z1; cases z1
    have aP : ∀ p ∈ X.pn ++ pins, p.1 ≠ a := fun p hp z => by
      have := (J.pin p hp).1; rw [z, aI] at this; cases this
    have S3 := J3.suite e3 d3 na nL nF
    refine wpAny_handleBy_cons (codeAny_handlers_test ?_) (by intro q; cases q)
    have LT : PySem.W.Looks (model X.prog X.w) g3 (typeOf (.ref a)) cls := fun A Q E s k q => wpAny_typeOf_ref (k _ _ e3) (by rw [z3.1]; exact q)
    have LM := PySem.W.exm_one (M := model X.prog X.w) (J3.kIn) LT hb
    have ask : ∀ {Q : Value → Shared → Prop} {E : Value → Shared → Prop}, Q c { s' with heap := g3 } → wpAny (model X.prog X.w) (X.A.mark (some (.ref a))) (eval (.Name x q0) X.env) Q E { s' with heap := g3 } := fun {Q E} q => by
      obtain ⟨hg, hdb, hm | ⟨hm, hv, hnn⟩⟩ := hcls
      · exact ld_glob (X := X.suite a ((a, o3) :: (X.pn ++ pins))) S3 hg hm q hdb
      · exact ld_blt (X := X.suite a ((a, o3) :: (X.pn ++ pins))) S3 hg hm hv q hnn hdb
    refine ask (LM.here ?_)
    cases b with
    | true =>
      refine codeAny_handlers_suite_as ?_
      refine HandSPX.lands_againZ F3 fun g4 F4 u4 => ?_
      have J4 : Inv X pins σ1 H1 { s' with heap := g4 } := J.landed nb F4.1 ((up.trans u3).trans u4) os ag
      obtain ⟨o4, v4, e4, z4, d4⟩ := F4.there
      have S4 := J4.suite e4 d4 na nL nF
      refine store_ok (X := X.suite a ((a, o4) :: (X.pn ++ pins))) (v := .ref a) S4 hnd hix (.inl hloc) rfl (fun s5 S5 => ?_) (.inr hloc)
      refine wpAny_mono ((hst a o4 cls d (X.pn ++ pins) z4 ⟨_, d4⟩).run [] s5 _ H1 _ S5 (hy rfl a na)) (fun f s6 hs6 => ?_) (fun _ _ z => False.elim z)
      have go : ∀ {σ6 : L2.St} {H6 : Hp} {Q : Shared → Prop}, Inv (X.suite a ((a, o4) :: (X.pn ++ pins))) [] σ6 H6 s6 → (∀ s7, Inv X pins (σ6.set i none) (upd H6 a (XO a cls d)) s7 → Q s7) →
          wpAny (model X.prog X.w) X.A (do bindName X.env n .none; unbindBehindTheSuite X.env n q1) (fun _ s7 => Q s7) X.xe s6 := fun {σ6 H6 Q} S6 hq => by
        obtain ⟨k1, k2, _⟩ := S6.pin (a, o4) (List.mem_append_left _ List.mem_cons_self)
        exact gone_ok (track (S6.unsuite okX) k2 a0 nL aC aP k1 z4 d4) hnd hix hloc hq
      cases f with
      | next =>
        obtain ⟨σ6, H6, S6, q6⟩ := hs6
        exact go S6 fun s7 J7 => ⟨_, _, J7, q6⟩
      | brk =>
        obtain ⟨σ6, H6, S6, q6⟩ := hs6
        exact go S6 fun s7 J7 => ⟨_, _, J7, q6⟩
      | cont =>
        obtain ⟨σ6, H6, S6, q6⟩ := hs6
        exact go S6 fun s7 J7 => ⟨_, _, J7, q6⟩
      | ret u =>
        obtain ⟨w6, σ6, H6, S6, r6, q6⟩ := hs6
        exact go S6 fun s7 J7 => ⟨_, _, _, J7, r6, q6⟩
    | false =>
      show wpAny _ X.A (handleBy (.ref a) X.env []) _ _ _
      refine wpAny_handleBy_nil ?_
      obtain ⟨f1, f2, f3, oe, vs, T, oT, tt, he, hz, hd, h1, hr⟩ := id F3
      unfold PySem.passOn
      refine wpAny_bind (wpAny_field he hd h1 ?_)
      rw [if_neg (show ¬ ((Value.ref T == Value.none) = true) from by simp)]
      have fin : wpAny (model X.prog X.w) X.A (setFlight (.ref a) X.env.frame) (fun _ s4 => wpAny (model X.prog X.w) X.A (throw (.ref a) : Sem Flow) (SP X pins D) X.xe s4) X.xe { s' with heap := g3 } := by
        rw [hfrm]
        refine HandSPX.setFlight_upZ F3 fun g4 k4 u4 => wpAny_throw (tk _ _ ?_)
        exact ⟨a, B, sI, pins, σ1, H1, cls, d, rfl, J, nb, (up.trans u3).trans u4, .inr (.inr (by rw [hstk]; exact k4)), na, os, ag, hn rfl⟩
      first
        | exact wpAny_bind (wpAny_pure (wpAny_bind fin))
        | exact wpAny_bind fin
  · cases f with
    | next =>
      obtain ⟨σ1, H1, J1, q⟩ := hr1
      exact wpAny_execs_nil ⟨σ1, H1, J1.ofTry okX, q⟩
    | brk =>
      obtain ⟨σ1, H1, J1, q⟩ := hr1
      exact ⟨σ1, H1, J1.ofTry okX, q⟩
    | cont =>
      obtain ⟨σ1, H1, J1, q⟩ := hr1
      exact ⟨σ1, H1, J1.ofTry okX, q⟩
    | ret u =>
      obtain ⟨v, σ1, H1, J1, r, q⟩ := hr1
      exact ⟨v, σ1, H1, J1.ofTry okX, r, q⟩
end
/-- isinstance of a kept error: one class, a tuple of classes -/
def rIsX (K : PySem.W.Frag) : List V → Hp → VK → Prop := fun xs H Q => ∃ (a D : Addr) (d : Option Addr) (c : V) (u : Value) (b : Bool), xs = [.ref a, c] ∧ H a = some (XO a (.ref D) d) ∧ (∀ dd, d = some dd → ∃ fs, H dd = some (.xd fs)) ∧ ClsV c u ∧ ExcC K D ∧ PySem.W.kitOne K (.ref D) u = some b ∧ Q (.bl b) H
def rIsXT (K : PySem.W.Frag) : List V → Hp → VK → Prop := fun xs H Q => ∃ (a D : Addr) (d : Option Addr) (tp : Addr) (cs : List V) (us : List Value) (b : Bool), xs = [.ref a, .ref tp] ∧ H a = some (XO a (.ref D) d) ∧ (∀ dd, d = some dd → ∃ fs, H dd = some (.xd fs)) ∧ H tp = some (.tup cs) ∧ Paired ClsV cs us ∧ ExcC K D ∧ PySem.W.kitAny K (.ref D) us = some b ∧ Q (.bl b) H
section
variable {X : Cx}
theorem instX {pins : List (Addr × Obj)} {σ : L2.St} {H : Hp} {s : Shared} {a D : Addr} {d : Option Addr} (I : Inv X pins σ H s) (e : H a = some (XO a (.ref D) d)) (hd : ∀ dd, d = some dd → ∃ fs, H dd = some (.xd fs)) :
    ∃ oe od, PySem.W.InstAt s.heap a oe D od := by
  obtain ⟨oe, vs, e1, z, q⟩ := XO_at I.hok e
  have nc : PySem.W.notCls oe := by unfold PySem.W.notCls; rw [q] <;> rfl
  cases d with
  | none => exact ⟨oe, none, e1, z.1, nc, by rw [z.2]; exact True.intro⟩
  | some dd =>
    obtain ⟨fs, ed⟩ := hd dd rfl
    obtain ⟨mA, hns, hr⟩ := (show ObjOk X.prog X.w H s.heap dd (.xd fs) from I.hok dd _ ed)
    obtain ⟨od, ho, hl⟩ := lookIn_ns hns
    exact ⟨oe, some od, e1, z.1, nc, by rw [z.2]; exact ho⟩
theorem call_isX : CallR X (.builtin "isinstance") (rIsX X.K) := by
  intro pins s σ H xs us Q I r h
  obtain ⟨a, D, d, c, u, b, rfl, ea, hd, k, T, e, q⟩ := h
  obtain ⟨u1, u2, rfl, r1, r2⟩ := vals2 r
  cases (show u1 = Value.ref a from r1)
  have e2 := k.eq r2
  subst e2
  obtain ⟨oe, od, J⟩ := instX I ea hd
  exact PySem.W.kia_one (PySem.W.kitx_exc (by obtain ⟨cd, hc, _⟩ := PySem.W.any_some T.hd; rw [hc]; rfl) T.hg T.hk T.hs T.ha T.hn T.ht T.hm) I.kIn J e (fun z => nomatch z) fun tk => ⟨.bl b, H, I.tok tk, rfl, q⟩
theorem call_isXT : CallR X (.builtin "isinstance") (rIsXT X.K) := by
  intro pins s σ H xs us Q I r h
  obtain ⟨a, D, d, tp, cs, ws, b, rfl, ea, hd, hT, k, T, e, q⟩ := h
  obtain ⟨u1, u2, rfl, r1, r2⟩ := vals2 r
  cases (show u1 = Value.ref a from r1)
  cases (show u2 = Value.ref tp from r2)
  obtain ⟨oe, od, J⟩ := instX I ea hd
  obtain ⟨_, its, rv, o, h1, h2, n, h3⟩ := (show ObjOk X.prog X.w H s.heap tp (.tup cs) from I.hok tp _ hT)
  have e3 := ClsV.all k rv
  subst e3
  obtain ⟨oc, od', dt, sl⟩ := o
  simp only at h2 h3
  subst h2 h3
  exact PySem.W.kia_tup (PySem.W.kitx_exc (by obtain ⟨cd, hc, _⟩ := PySem.W.any_some T.hd; rw [hc]; rfl) T.hg T.hk T.hs T.ha T.hn T.ht T.hm) I.kIn J h1 e (fun z => nomatch z) fun tk => ⟨.bl b, H, I.tok tk, rfl, q⟩
/-- the field of a kept error -/
def tXk (K : PySem.W.Frag) (f : Str) (te : TE) : TE := fun σ H Q => te σ H fun x H1 => ∃ (a C dd : Addr) (fs : List (Str × V)) (v : V), x = .ref a ∧ H1 a = some (XO a (.ref C) (some dd)) ∧ XfC K C ∧ PySem.W.findIn K (.ref C) f = some none ∧ H1 dd = some (.xd fs) ∧ fs.lookup f = some v ∧ Q v H1
theorem pe_xk {e : Expr} {te : TE} {pos : Pos} {f : Str} (he : PE X e te) (hb : attributeBase e f X.env (eval e X.env) = eval e X.env := by rfl) : PE X (.Attribute e f pos) (tXk X.K f te) := by
  refine ⟨fun pins s σ H Q I h => ?_⟩
  refine attr_of hb (thn (he.run pins s σ H _ I h) fun u s1 hh => ?_)
  obtain ⟨x, H1, I1, rx, a, C, dd, fs, v, ex, ea, T, hno, ed, l, q⟩ := hh
  subst ex
  obtain rfl : u = Value.ref a := rx
  obtain ⟨oe, vs, e1, z, hd⟩ := XO_at I1.hok ea
  obtain ⟨mA, hns, hr⟩ := (show ObjOk X.prog X.w H1 s1.heap dd (.xd fs) from I1.hok dd _ ed)
  obtain ⟨od, ho, hl⟩ := lookIn_ns hns
  obtain ⟨u, hu, ru⟩ := RelO.some_of (v := v) (o := mA f) (by rw [← l]; exact hr f)
  have J : PySem.W.InstAt s1.heap a oe C (some od) := ⟨e1, z.1, by unfold PySem.W.notCls; rw [hd] <;> rfl, by rw [z.2]; exact ho⟩
  exact HandSPX.exc_get I1.kIn J T.ga T.gg T.exC (PySem.W.findObj_own T.hdC hno rfl (by rw [hl, hu])) (handed_of ru) ⟨v, H1, I1.tok _, ru, q⟩
end
end KL
namespace KL
open PySem PySem.Spec PyProof.Rows L2
/-- what __init__ with one field promises -/
def spI1 (C : Addr) (f : Str) : Sp := fun vs H Q _ => ∃ (a : Addr) (v : V), vs = [.ref a, v] ∧ H a = some (exo a C none) ∧ ∀ dx, H dx = none → dx ≠ a → Q .non (upd (upd H dx (exd dx [(f, v)])) a (exo a C (some dx)))
section
variable {P : Program} {w : World} {K : PySem.W.Frag} {mg : Str → Option Value} {base : Heap} {C fI cc cda : Addr} {qual : Str} {st : Stmt} {fd : FuncData} {k : Nat}
theorem ok_init1 {f txt : Str} {j : Nat} {p0 p1 p2 p3 p4 p5 q0 q1 q2 q3 : Pos} (T : SupC K P mg C fI cc cda qual st fd) (S : NdefX.NScope ["self", f, "__class__"] ["self", f] ["__class__"] (defScope st))
    (hb : defBody st = [.Expr (.Call (.Attribute (.Call (.Name "super" p0) [] [] p1) "__init__" p2) [.Constant (.str txt) j p3] [] p4) p5, .Assign [.Attribute (.Name "self" q0) f q1] (.Name f q2) q3])
    (hsup : (defScope st).names.lookup ("super" : Str) = some .globalImplicit) {pl : Env → Sem Bool}
    (he : ∀ env : Env, eval (.Call (.Attribute (.Call (.Name "super" p0) [] [] p1) "__init__" p2) [.Constant (.str txt) j p3] [] p4) env = (do
      let ov ← attributeBase (.Call (.Name "super" p0) [] [] p1) "__init__" env (eval (.Call (.Name "super" p0) [] [] p1) env)
      standAt p2.atName
      let (g, first) ← holding [ov] (getMethod ov "__init__" (pl env))
      callWith p4 g first (backTo p4 (starEach [.Constant (.str txt) j p3] env)) []))
    (hs : ∀ env line, swapsWith (.Name f q2) (some (.Attribute (.Name "self" q0) f q1)) line env = pure false) (hno : PySem.W.findIn K (.ref C) f = some none) (hd : (f == ("__debug__" : Str)) = false) (hcd : (f == ("__classdict__" : Str)) = false) :
    FnOk P w K mg base CX0 (k + 1) fI fd ["self", f] (spI1 C f) := by
  refine init_of T S rfl hb hsup he (fun vs H Q E h => ?_) (fun vs H Q E h => ?_) (fun A outer s H vs Q E hr h => ?_)
  · obtain ⟨a, v, rfl, _⟩ := h; rfl
  · obtain ⟨a, v, rfl, e, _⟩ := h; exact ⟨a, rfl, e⟩
  · obtain ⟨a, v, rfl, e, q⟩ := h
    refine ⟨_, pss_one (ps_ost (pe_var (i := 0) rfl (.inl (S.par _ (by simp))) (by decide) (by decide)) (pe_var (i := 1) rfl (.inl (S.par _ (by simp))) hd hcd) (hs _ _)), ?_⟩
    exact ⟨_, rfl, _, rfl, a, C, rfl, T.oex, hno, .inl ⟨e, fun dx n ne => q dx n ne⟩⟩
end
/-- X(e), X's __init__ keeping one field -/
def tMk1 (C : Addr) (f : Str) (ta : TA) : L2.St → Hp → XK → Prop := fun σ H Q => ta σ H fun vs H1 => ∃ v, vs = [v] ∧ ∀ d, H1 d = none → Q (.ref C) (some d) (upd H1 d (.xd [(f, v)]))
section
variable {X : Cx} {x f : Str} {e : Expr} {ta : TA} {p pos : Pos} {C fI : Addr} {k : Nat} {fd : FuncData} {ps : List Str}
theorem pmk_sup1 (T : OexC X.K C) (iC : PySem.W.findIn X.K (.ref C) "__init__" = some (some (.ref fI))) (tI : PySem.W.typeIn X.K (.ref fI) = some (.type "function"))
    (F1 : FnOk X.prog X.w X.K X.mg X.base CX0 k fI fd ps (spI1 C f)) (hr : Room (k + 1) X.A) (hb : Binds X.K fd ps []) (hg : Gl X x) (hm : X.mg x = some (.ref C)) (ha : PA X [e] ta)
    (hdb : (x == ("__debug__" : Str)) = false := by decide) (he : starEach [e] X.env = (false, eval e X.env) :: starEach [] X.env := by rfl) (hpl : (backTo pos (starEach [] X.env)).any (·.1) = false := by rfl) :
    PMk X (.Call (.Name x p) [e] [] pos) (tMk1 C f ta) := by
  intro pins s σ H Q I h
  have ha' : PA X [e] (fun σ H Q => ∃ Q0, ta σ H Q0 ∧ ∀ vs H', Q0 vs H' → Q vs H') :=
    ⟨fun pos pins s σ H Q I ⟨Q0, h, m⟩ => wpAny_mono (ha.run pos pins s σ H Q0 I h) (fun us s1 ⟨vs, H1, I1, r, q⟩ => ⟨vs, H1, I1, r, m _ _ q⟩) (fun _ _ z => z)⟩
  refine pmk_oex T iC tI F1 hr hb (dvs := []) .nil (fun _ _ _ _ _ _ _ z => z.elim) hg hm ha' hdb he hpl pins s σ H Q I ?_
  refine ⟨_, h, fun vs H1 hh => ?_⟩
  obtain ⟨v, rfl, q⟩ := hh
  refine ⟨by show 1 ≤ 1000; omega, fun a na => ⟨a, v, rfl, upd_same, fun dx n ne => ⟨rfl, dx, [(f, v)], upd_same, ?_, ?_, ?_⟩⟩⟩
  · rw [upd_ne ne, upd_same]
  · rw [upd_ne ne] at n; exact n
  · rw [upd_ne ne] at n
    have : upd (del (upd (upd (upd H1 a (exo a C none)) dx (exd dx [(f, v)])) a (exo a C (some dx))) a) dx (.xd [(f, v)]) = upd H1 dx (.xd [(f, v)]) := by
      funext b
      by_cases h1 : b = dx
      · subst h1; rw [upd_same, upd_same]
      · rw [upd_ne h1, upd_ne h1]
        by_cases h2 : b = a
        · subst h2; rw [del_same, na]
        · rw [del_ne h2, upd_ne h2, upd_ne h1, upd_ne h2]
    rw [this]; exact q dx n
end
/-- an own error class with one field, as a def may raise it -/
structure Er1 (P : Program) (w : World) (K : PySem.W.Frag) (mg : Str → Option Value) (base : Heap) (k : Nat) (x f : Str) (C : Addr) : Prop where
  T : OexC K C
  fn : ∃ (fI : Addr) (fd : FuncData) (ps : List Str), PySem.W.findIn K (.ref C) "__init__" = some (some (.ref fI)) ∧ PySem.W.typeIn K (.ref fI) = some (.type "function") ∧ FnOk P w K mg base CX0 k fI fd ps (spI1 C f) ∧ Binds K fd ps []
  gl : mg x = some (.ref C)
theorem Er1.mono {P : Program} {w : World} {K : PySem.W.Frag} {mg : Str → Option Value} {base : Heap} {j k : Nat} {x f : Str} {C : Addr} (e : Er1 P w K mg base j x f C) (h : j ≤ k) : Er1 P w K mg base k x f C :=
  let ⟨fI, fd, ps, a, b, c, d⟩ := e.fn; ⟨e.T, ⟨fI, fd, ps, a, b, c.mono h, d⟩, e.gl⟩
theorem ps_raise1 {X : Cx} {W : WX} {x f : Str} {e : Expr} {ta : TA} {p pos pos2 : Pos} {C : Addr} {k : Nat} (E : Er1 X.prog X.w X.K X.mg X.base k x f C) (hc : X.calm = true) (hr : Room (k + 1) X.A) (tk : Takes X W) (hg : Gl X x) (ha : PA X [e] ta)
    (hdb : (x == ("__debug__" : Str)) = false := by decide) (he : starEach [e] X.env = (false, eval e X.env) :: starEach [] X.env := by rfl) (hpl : (backTo pos (starEach [] X.env)).any (·.1) = false := by rfl) :
    PS X (.Raise (some (.Call (.Name x p) [e] [] pos)) none pos2) (fun _ σ H => tMk1 C f ta σ H fun cls d H' => W cls d σ H') :=
  let ⟨_, _, _, iC, tI, F1, hb⟩ := E.fn
  ps_raise hc tk (pmk_sup1 E.T iC tI F1 hr hb hg E.gl ha hdb he hpl)
/-- a def that may raise -/
def Dx (P : Program) (w : World) (K : PySem.W.Frag) (mg : Str → Option Value) (base : Heap) (k : Nat) (x : Str) (ps : List Str) (sp : Sp) : Prop :=
  ∃ (f : Addr) (fd : FuncData), FnOk P w K mg base (L2.CX P w) k f fd ps sp ∧ PySem.W.keepIn K (.ref f) = true ∧ Binds K fd ps [] ∧ mg x = some (.ref f)
theorem Dx.mono {P : Program} {w : World} {K : PySem.W.Frag} {mg : Str → Option Value} {base : Heap} {j k : Nat} {x : Str} {ps : List Str} {sp : Sp} (D : Dx P w K mg base j x ps sp) (h : j ≤ k) : Dx P w K mg base k x ps sp :=
  let ⟨f, fd, F, kk, b, g⟩ := D; ⟨f, fd, F.mono h, kk, b, g⟩
theorem pe_dx {X : Cx} {k : Nat} {ps : List Str} {sp : Sp} {E : L2.St → XK} {x : Str} {p pos : Pos} {e : Expr} {es : List Expr} {t : TA} (D : Dx X.prog X.w X.K X.mg X.base k x ps sp) (hr : Room k X.A) (hg : Gl X x) (hx : ∀ σ, PassesAt (L2.CX X.prog X.w) X σ (E σ)) (ha : PA X (e :: es) t)
    (hdb : (x == ("__debug__" : Str)) = false := by decide) (he : starEach (e :: es) X.env = (false, eval e X.env) :: starEach es X.env := by rfl) (hpl : (backTo pos (starEach es X.env)).any (·.1) = false := by rfl) :
    PE X (.Call (.Name x p) (e :: es) [] pos) (tCallS sp E t) :=
  let ⟨_, _, F, kk, b, g⟩ := D
  pe_callS F hr hg g kk b hx ha hdb he hpl
/-- called where it does not raise -/
theorem pass0 {X : Cx} (σ : L2.St) : PassesAt (L2.CX X.prog X.w) X σ ((fun _ _ _ _ => False : L2.St → XK) σ) := fun _ _ _ _ _ _ ⟨_, _, _, _, _, _, _, _, _, _, _, _, z⟩ => z.elim

theorem pe_dx0 {X : Cx} {k : Nat} {ps : List Str} {sp : Sp} {x : Str} {p pos : Pos} {e : Expr} {es : List Expr} {t : TA} (D : Dx X.prog X.w X.K X.mg X.base k x ps sp) (hr : Room k X.A) (hg : Gl X x) (ha : PA X (e :: es) t)
    (hdb : (x == ("__debug__" : Str)) = false := by decide) (he : starEach (e :: es) X.env = (false, eval e X.env) :: starEach es X.env := by rfl) (hpl : (backTo pos (starEach es X.env)).any (·.1) = false := by rfl) :
    PE X (.Call (.Name x p) (e :: es) [] pos) (tCallS sp (fun _ _ _ _ => False) t) := pe_dx D hr hg pass0 ha hdb he hpl
/-! ### a list, each k-th from a place on -/
theorem vals_pick {xs : List V} {its : List Value} (r : Vals xs its) : ∀ l : List Nat, Vals (l.filterMap (xs[·]?)) (l.filterMap (its.toArray[·]?))
  | [] => .nil
  | i :: l => by
    rw [List.filterMap_cons, List.filterMap_cons]
    cases hx : xs[i]? with
    | none =>
      have : its.toArray[i]? = none := by
        rw [List.getElem?_toArray, List.getElem?_eq_none_iff, ← r.length]; exact List.getElem?_eq_none_iff.mp hx
      rw [this]; exact vals_pick r l
    | some v =>
      obtain ⟨u, hu, ru⟩ := r.get hx
      rw [show its.toArray[i]? = some u by rw [List.getElem?_toArray]; exact hu]
      exact .cons ru (vals_pick r l)
def tStepL (K : PySem.W.Frag) (te tl : TE) : TE := fun σ H Q => te σ H fun x H1 => tl σ H1 fun y H2 => ∃ a xs n, x = .ref a ∧ y = .int n ∧ SqL K H2 a xs ∧ ∀ ys p, (∀ v ∈ ys, v ∈ xs) → ys.length ≤ xs.length → H2 p = none → Q (.ref p) (upd H2 p (.lst ys))
theorem pe_stepL {X : Cx} {e lo : Expr} {te tl : TE} {c : Int} {k : Nat} {p1 p3 pos : Pos} (hc0 : c ≠ 0) (he : PE X e te) (hlo : PE X lo tl) : PE X (.Subscript e (.Slice (some lo) none (some (.Constant (.int c) k p1)) p3) pos) (tStepL X.K te tl) := by
  refine ⟨fun pins s σ H Q I h => ?_⟩
  refine Subscript_ (thn (he.run pins s σ H _ I h) fun v s1 ⟨x, H1, I1, r1, h1⟩ => ?_)
  have pm : PO X (some (.Constant (.int c) k p1)) (tPart (tC (.int c))) := po_some pe_int
  have pl : PO X (some lo) (tPart fun σ H Q => ∃ Q0, tl σ H Q0 ∧ ∀ v H', Q0 v H' → Q v H') := po_some ⟨fun pins s σ H Q I ⟨Q0, h, m⟩ => wpAny_mono (hlo.run pins s σ H Q0 I h) (fun u s1 ⟨v, H1, I1, r, q⟩ => ⟨v, H1, I1, r, m _ _ q⟩) (fun _ _ z => z)⟩
  refine wpAny_Slice (thn (pl.run pins s1 σ H1 (fun o G => ∃ n, o = some n ∧ ∃ a xs, x = .ref a ∧ SqL X.K G a xs ∧ ∀ ys p, (∀ v ∈ ys, v ∈ xs) → ys.length ≤ xs.length → G p = none → Q (.ref p) (upd G p (.lst ys))) I1 ⟨_, h1, ?_⟩) fun vl s2 ⟨l, G2, I2, pl, n, el, a, xs, ex, hx, q⟩ => ?_)
  · rintro v H' ⟨a, xs, n, rfl, rfl, hx, q⟩
    exact ⟨n, rfl, n, rfl, a, xs, rfl, hx, q⟩
  subst el ex
  cases r1
  refine thn (po_none.run pins s2 σ G2 (fun o G => o = none ∧ G = G2) I2 ⟨rfl, rfl⟩) fun vu s3 ⟨u, G3, I3, pu, eu, e3⟩ => ?_
  subst eu e3
  refine thn (pm.run pins s3 σ G3 (fun o G => o = some c ∧ G = G3) I3 ⟨c, rfl, rfl, rfl⟩) fun vs s4 ⟨o, G4, I4, ps, eo, e4⟩ => ?_
  subst eo e4
  have I5 : Inv X pins σ G4 { s4 with heap := s4.heap.push { cls := .type "slice", data := .fields #[vl, vu, vs] } } := I4.kept (t' := s4.toks) fun b ob q => Heap.get?_push_of_some _ q
  obtain ⟨its, r, ht, hz⟩ := I5.list hx
  have hlen := r.length
  show wpAny (model X.prog X.w) X.A (subscriptTail e (.Slice (some lo) none (some (.Constant (.int c) k p1)) p3) (.ref a) (.ref s4.heap.objs.size)) (EP X pins σ Q) X.xe
    { s4 with heap := s4.heap.push { cls := .type "slice", data := .fields #[vl, vu, vs] } }
  refine tail_any (ops := [.ref a, .ref s4.heap.objs.size]) ht.isList.typeIs slot_list_getitem.lookup ?_ (by with_unfolding_all rfl)
  refine wpAny_getItem_list_slice ht.isList (Heap.IsSliceOf.new _ vl vu vs) pl pu ps (fun z => hc0 (Option.some.inj z)) ?_ (by rw [List.size_toArray]; omega)
  have rp := vals_pick r (sliceRange (sliceBounds (some n) none (some c) its.toArray.size).1 (sliceBounds (some n) none (some c) its.toArray.size).2.1 (sliceBounds (some n) none (some c) its.toArray.size).2.2)
  have hl := slicePick_size_le its.toArray (some n) none (some c)
  unfold slicePick at hl ⊢
  generalize sliceRange (sliceBounds (some n) none (some c) its.toArray.size).1 (sliceBounds (some n) none (some c) its.toArray.size).2.1 (sliceBounds (some n) none (some c) its.toArray.size).2.2 = rg at *
  rw [List.size_toArray, List.size_toArray, ← rp.length, ← hlen] at hl
  refine ⟨.ref _, _, I5.laid (t' := s4.toks) (o := .lst (rg.filterMap (xs[·]?))) (fun b ob q => Heap.get?_push_of_some _ q) (Nat.le_refl _) ?_, rfl, q _ _ (fun v hv => ?_) hl (I5.hok.fresh (Nat.le_refl _))⟩
  · exact ⟨Nat.le_trans hl hz, _, 0, rp, Heap.get?_push_size _ rfl⟩
  · obtain ⟨i, _, hi⟩ := List.mem_filterMap.mp hv
    exact List.mem_of_getElem? hi
end KL
namespace KL
open PySem PySem.Spec PyProof.Rows L2
theorem dec_V (a b : Int) : decide (V.int a = V.int b) = decide (a = b) := by rw [Bool.eq_iff_iff]; simp
theorem pg_tup' {X : Cx} {K : PySem.W.Frag} {es : List Expr} {k : Nat} {pos : Pos} {t : TGs} {n : Nat} (e : X.K = K) (hc : X.calm = true) (h : PGs X es t) (hn : (assignEach es X.env).length = n := by rfl) (hst : (assignEach es X.env).findIdx? (·.1) = none := by rfl) :
    PG X (.Tuple es k pos) (gTup K n t) := e ▸ pg_tup hc h hn hst
/-! ### what two clauses meet in -/
def lft (one other : List Int) (t : Int) : List Int := (one ++ other).filter fun s => !decide (ab s = t)
def Mt (one other : List Int) (t : Int) : Prop := t ∈ one ∧ -t ∈ other
abbrev Up (ns : List Int) : Prop := ns.Pairwise fun a b => a.natAbs < b.natAbs
/-- what two clauses meet in by d, or none -/
def IsMet (one other : List Int) (d : PyData) (r : Option (List Int)) : Prop :=
  (r = none ∧ ∀ t, d = .int t → 1 ≤ t → True → Mt one other t → Both (lft one other t)) ∨ ∃ t cs, d = .int t ∧ 1 ≤ t ∧ True ∧ r = some cs ∧ Mt one other t ∧ ¬ Both (lft one other t) ∧ ClOf (lft one other t) cs
theorem IsMet.eq {one other : List Int} {d : PyData} {r r' : Option (List Int)} (h : IsMet one other d r) (h' : IsMet one other d r') : r = r' := by
  rcases h with ⟨e, h⟩ | ⟨t, cs, ed, h1, h2, e, m, b, c⟩ <;> rcases h' with ⟨e', h'⟩ | ⟨t', cs', ed', h1', h2', e', m', b', c'⟩
  · rw [e, e']
  · exact absurd (h t' ed' h1' h2' m') b'
  · exact absurd (h' t ed h1 h2 m) b
  · rw [ed] at ed'; cases ed'
    rw [e, e', c.eq c']
/-- a new tuple of ints, or None -/
def OptT (H : Hp) (r : Option (List Int)) (v : V) (H' : Hp) : Prop := (r = none ∧ v = .non) ∨ ∃ p cs, r = some cs ∧ v = .ref p ∧ H p = none ∧ H' p = some (.tup (cs.map V.int))
theorem mem_lft {one other : List Int} {t m : Int} : m ∈ lft one other t ↔ (m ∈ one ∨ m ∈ other) ∧ ab m ≠ t := by
  unfold lft
  rw [List.mem_filter, List.mem_append]
  simp
theorem up_eq {ns : List Int} (h : Up ns) {a b : Int} (ha : a ∈ ns) (hb : b ∈ ns) (e : a.natAbs = b.natAbs) : a = b := by
  induction ns with
  | nil => cases ha
  | cons x ns ih =>
    have h := List.pairwise_cons.mp h
    rcases List.mem_cons.mp ha with rfl | ha' <;> rcases List.mem_cons.mp hb with rfl | hb'
    · rfl
    · exact absurd (h.1 b hb') (by omega)
    · exact absurd (h.1 a ha') (by omega)
    · exact ih h.2 ha' hb'
theorem up_nd {ns : List Int} (h : Up ns) : ns.Nodup := h.imp fun hab e => by rw [e] at hab; omega
/-- the clauses' own meeting, as the law puts it together -/
theorem met_left {one other L : List Int} {t : Int} (u1 : Up one) (u2 : Up other) (ht : 1 ≤ t) (m : Mt one other t) (hL : ∀ m, m ∈ L ↔ (m ∈ one ∧ m ≠ t) ∨ (m ∈ other ∧ m ≠ 0 - t)) : ∀ m, m ∈ L ↔ m ∈ lft one other t := by
  intro x
  rw [hL, mem_lft]
  constructor
  · rintro (⟨h, n⟩ | ⟨h, n⟩)
    · refine ⟨.inl h, fun e => n ?_⟩
      exact up_eq u1 h m.1 (by rw [ab_nat] at e; omega)
    · refine ⟨.inr h, fun e => n ?_⟩
      have := up_eq u2 h m.2 (by rw [ab_nat] at e; omega)
      omega
  · rintro ⟨h | h, n⟩
    · exact .inl ⟨h, fun e => n (by rw [e, ab_nat]; omega)⟩
    · exact .inr ⟨h, fun e => n (by rw [e, ab_nat]; omega)⟩
theorem both_congr {ns ms : List Int} (h : ∀ m, m ∈ ns ↔ m ∈ ms) : Both ns ↔ Both ms :=
  ⟨fun ⟨n, a, b⟩ => ⟨n, (h _).mp a, (h _).mp b⟩, fun ⟨n, a, b⟩ => ⟨n, (h _).mpr a, (h _).mpr b⟩⟩
theorem ClOf.congr {ns ms cs : List Int} (h : ∀ m, m ∈ ns ↔ m ∈ ms) (c : ClOf ns cs) : ClOf ms cs := ⟨c.up, fun m => (c.mem m).trans (h m)⟩
/-- pairs (abs s, s), sorted: the second ones rise -/
theorem srt_up {xs ys : List V} {ns : List Int} {k : V → Int × Int} (hk : xs.map k = ns.map fun n => (ab n, n)) (nd : ns.Pairwise fun a b => ab a ≠ ab b) (hs : SrtO.Srtd (ltP k) ys) (hb : SrtO.Stb (ltP k) ys xs) : ClOf ns (ys.map fun y => (k y).2) := by
  have hp := hb.perm
  have e : (ys.map k).Perm (ns.map fun n => (ab n, n)) := by rw [← hk]; exact hp.map k
  have e2 : (ys.map fun y => (k y).2).Perm ns := by
    have := e.map Prod.snd
    rw [List.map_map, List.map_map] at this
    have i : (Prod.snd ∘ fun n : Int => (ab n, n)) = id := rfl
    rw [i, List.map_id] at this
    exact this
  refine ⟨?_, fun m => e2.mem_iff⟩
  have kk : ∀ y ∈ ys, (k y).1 = ab (k y).2 := fun y hy => by
    have : k y ∈ ns.map fun n => (ab n, n) := e.mem_iff.mp (List.mem_map_of_mem hy)
    obtain ⟨n, _, hn⟩ := List.mem_map.mp this
    rw [← hn]
  have nd2 : (ys.map fun y => (k y).2).Pairwise fun a b => ab a ≠ ab b := (e2.pairwise_iff (fun h => Ne.symm h)).mpr nd
  rw [List.pairwise_map] at nd2 ⊢
  refine (hs.and nd2).imp_of_mem ?_
  rintro a b ha hb' ⟨h1, h2⟩
  have h1' := SrtO.lexB_no.mp (show SrtO.lexB (k b) (k a) = false by simpa using h1)
  have ka := kk a ha
  have kb := kk b hb'
  rw [ab_nat] at ka kb
  rw [ab_nat, ab_nat] at h2
  omega
end KL
namespace KL
open PySem PySem.Spec PyProof.Rows L2
/-! ### tuple([s for at, s in sorted([(abs(s), s) for s in L])]) -/
inductive Prs (H : Hp) : List Addr → List Int → Prop
  | nil : Prs H [] []
  | cons {t : Addr} {n : Int} {ts : List Addr} {ns : List Int} (h : H t = some (.tup [.int (ab n), .int n])) (r : Prs H ts ns) : Prs H (t :: ts) (n :: ns)
theorem Prs.mv {H H' : Hp} (m : ∀ a xs, H a = some (.tup xs) → H' a = some (.tup xs)) : ∀ {ts : List Addr} {ns : List Int}, Prs H ts ns → Prs H' ts ns
  | _, _, .nil => .nil
  | _, _, .cons h r => .cons (m _ _ h) (r.mv m)
theorem Prs.snoc {H : Hp} {t : Addr} {n : Int} (h : H t = some (.tup [.int (ab n), .int n])) : ∀ {ts : List Addr} {ns : List Int}, Prs H ts ns → Prs H (ts ++ [t]) (ns ++ [n])
  | _, _, .nil => .cons h .nil
  | _, _, .cons h' r => .cons h' (r.snoc h)
def pairK (H : Hp) (x : V) : Int × Int := match x with
  | .ref t => match H t with
    | some (.tup [.int a, .int b]) => (a, b)
    | _ => (0, 0)
  | _ => (0, 0)
theorem pairK_of {H : Hp} {t : Addr} {a b : Int} (h : H t = some (.tup [.int a, .int b])) : pairK H (.ref t) = (a, b) := by
  unfold pairK
  simp only [h]
theorem Prs.keys {H : Hp} : ∀ {ts : List Addr} {ns : List Int}, Prs H ts ns → (ts.map V.ref).map (pairK H) = ns.map fun n => (ab n, n)
  | _, _, .nil => rfl
  | _, _, .cons h r => by rw [List.map_cons, List.map_cons, List.map_cons, r.keys, pairK_of h]
theorem Prs.at {H : Hp} : ∀ {ts : List Addr} {ns : List Int} {x : V}, Prs H ts ns → x ∈ ts.map V.ref → ∃ t, x = V.ref t ∧ H t = some (.tup [.int (pairK H x).1, .int (pairK H x).2])
  | _, _, _, .nil, h => nomatch h
  | _, _, _, .cons h r, hx => by
    rw [List.map_cons] at hx
    rcases List.mem_cons.mp hx with e | e
    · rw [e]; exact ⟨_, rfl, by rw [pairK_of h]; exact h⟩
    · exact r.at e
theorem Prs.len {H : Hp} : ∀ {ts : List Addr} {ns : List Int}, Prs H ts ns → ts.length = ns.length
  | _, _, .nil => rfl
  | _, _, .cons _ r => by rw [List.length_cons, List.length_cons, r.len]
abbrev tSrt (K : PySem.W.Frag) (m i j : Nat) : TE := tCB (fun xs H Q => ∃ p ys, xs = [V.ref p] ∧ ((SqL K H p ys ∧ ∀ l, H l = none → Q (V.ref l) (upd H l (.tup ys))) ∨ (SqT K H p ys ∧ Q (V.ref p) H)))
  (tCons (tLc (iList K (tCB (rSortedPO K) (tCons (tLc (iList K (tVar m)) (gName i) tYes (tTup (tCons (tCB (fun xs H Q => ∃ i, xs = [V.int i] ∧ Q (V.int (if i < 0 then -i else i)) H) (tCons (tVar i) tNil)) (tCons (tVar i) tNil))) [i]) tNil)))
    (gTup K 2 (gCons (gName j) (gCons (gName i) gNil))) tYes (tVar i) [j, i]) tNil)
theorem srt_read {K : PySem.W.Frag} {m i j : Nat} {σ : L2.St} {H : Hp} {Q : VK} {D : Addr} {L : List Int} (hm : σ[m]? = some (some (.ref D))) (hi1 : ∀ v, wipe ((wipe σ [i]).set i (some v)) [i] = wipe σ [i]) (hi2 : ∀ v : V, ((wipe σ [i]).set i (some v))[i]? = some (some v))
    (hj1 : ∀ u v, wipe (((wipe σ [j, i]).set j (some u)).set i (some v)) [j, i] = wipe σ [j, i]) (hj2 : ∀ u v : V, (((wipe σ [j, i]).set j (some u)).set i (some v))[i]? = some (some v)) (e : H D = some (.lst (L.map V.int))) (hl : L.length ≤ 1000) (dj : L.Pairwise fun a b => ab a ≠ ab b)
    (q : ∀ (r : Addr) (cs : List Int) (H' : Hp), Same H H' → H r = none → H' r = some (.tup (cs.map V.int)) → ClOf L cs → Q (.ref r) H') : tSrt K m i j σ H Q := by
  refine ⟨_, hm, D, rfl, ⟨_, SqL.of e⟩, fun D1 nD1 => lc_list (xs := L.map V.int) (fun k H' => ∃ ts : List Addr, Same H H' ∧ H' D1 = some (.lst (ts.map V.ref)) ∧ Prs H' ts (L.take k)) ⟨[], same_new nD1, upd_same, .nil⟩ (fun k H' _ ⟨ts, s1, _⟩ => SqL.of (s1 _ _ e)) ?_ ?_⟩
  · rintro k x H1 ex ⟨ts, s1, e1, pr⟩
    obtain ⟨n, rfl, hn, htk⟩ := at_int ex
    have hk : k < 1000 := by
      have := (List.getElem?_eq_some_iff.mp ex).1
      rw [List.length_map] at this; omega
    refine ⟨hi1 _, ?_⟩
    refine ⟨_, hi2 _, n, rfl, _, hi2 _, (by show 2 ≤ sizeLine; decide), fun t nt => ?_⟩
    have s2 : Same H1 (upd H1 t (.tup [.int (ab n), .int n])) := same_new nt
    have et : (upd H1 t (.tup [.int (ab n), .int n])) t = some (.tup [.int (ab n), .int n]) := upd_same
    have eD := s2 _ _ e1
    have pr2 := pr.mv (H' := upd H1 t (.tup [.int (ab n), .int n])) fun a xs h => s2 _ _ h
    change ∃ acc, (upd H1 t (.tup [.int (ab n), .int n])) D1 = some (.lst acc) ∧ _
    generalize (upd H1 t (.tup [.int (ab n), .int n])) = H2 at *
    refine ⟨_, eD, ?_, ts ++ [t], ?_, ?_, ?_⟩
    · rw [List.length_map, pr.len, List.length_take]; exact small1000 (by omega)
    · exact fun b o hb => by rw [upd_ne (ne_of_none hb nD1)]; exact s2 _ _ (s1 _ _ hb)
    · rw [upd_same, List.map_append]; rfl
    · rw [htk]
      exact (pr2.snoc et).mv fun a xs h => by rw [upd_ne (ne_of h eD (by intro z; cases z))]; exact h
  rintro H1 ⟨ts, s1, e1, pr⟩
  rw [List.length_map, List.take_length] at pr
  refine ⟨D1, _, pairK H1, rfl, SqL.of e1, fun x hx => pr.at hx, fun ys p hs hb np => ?_⟩
  have s2 : Same H1 (upd H1 p (.lst ys)) := same_new np
  have ep : (upd H1 p (.lst ys)) p = some (.lst ys) := upd_same
  have hys : ∀ y ∈ ys, ∃ t, y = V.ref t ∧ (upd H1 p (.lst ys)) t = some (.tup [.int (pairK H1 y).1, .int (pairK H1 y).2]) := fun y hy => by
    obtain ⟨t, e1, e2⟩ := pr.at (hb.perm.mem_iff.mp hy)
    exact ⟨t, e1, s2 _ _ e2⟩
  have cl := srt_up pr.keys dj hs hb
  have lys : ys.length ≤ 1000 := by rw [hb.len, List.length_map, pr.len]; exact hl
  generalize (upd H1 p (.lst ys)) = H2 at *
  refine ⟨p, rfl, ⟨_, SqL.of ep⟩, fun D3 nD3 => lc_list (xs := ys) (fun k H' => Same H2 H' ∧ H' D3 = some (.lst (((ys.take k).map fun y => (pairK H1 y).2).map V.int))) ⟨same_new nD3, upd_same⟩ (fun k H' _ h => SqL.of (h.1 _ _ ep)) ?_ ?_⟩
  · rintro k x H3 ex ⟨s3, e3⟩
    obtain ⟨t, rfl, et⟩ := hys x (List.mem_of_getElem? ex)
    have hk : k < 1000 := by
      have := (List.getElem?_eq_some_iff.mp ex).1
      omega
    refine ⟨t, _, rfl, SqT.of (s3 _ _ et), rfl, _, _, rfl, _, _, rfl, rfl, hj1 _ _, _, hj2 _ _, _, e3, ?_, ?_, ?_⟩
    · rw [List.length_map, List.length_map, List.length_take]; exact small1000 (by omega)
    · exact fun b o hb => by rw [upd_ne (ne_of_none hb nD3)]; exact s3 _ _ hb
    · rw [upd_same, List.take_add_one, ex, List.map_append, List.map_append]; rfl
  rintro H3 ⟨s3, e3⟩
  rw [List.take_length] at e3
  exact ⟨D3, _, rfl, .inl ⟨SqL.of e3, fun r nr => q r _ _ (s1.trans (s2.trans (s3.trans (same_new nr)))) ((s1.trans (s2.trans s3)).free nr) upd_same cl⟩⟩
end KL
namespace K03
open PySem PySem.Spec PyProof.Rows L2 KL
def topS (i : Nat) : Stmt := PySem.Challenge.pw_keptclauses_k03_clauses_meet.main.body.getD i (.Pass ⟨0, 0, 0, 0⟩)
abbrev s_is_whole : Stmt := topS 6
theorem sc_is_whole : FnScope ["thing"] ["thing"] (defScope s_is_whole) := ⟨rfl, rfl, rfl, by decide +kernel, rfl, by decide +kernel, by decide +kernel⟩
abbrev s_clause_of : Stmt := topS 8
theorem sc_clause_of : FnScope ["signs", "chosen", "sign", "thing"] ["signs"] (defScope s_clause_of) := ⟨rfl, rfl, rfl, by decide +kernel, rfl, by decide +kernel, by decide +kernel⟩
abbrev s_meeting : Stmt := topS 9
theorem sc_meeting : FnScope ["one", "other", "thing", "sign"] ["one", "other", "thing"] (defScope s_meeting) := ⟨rfl, rfl, rfl, by decide +kernel, rfl, by decide +kernel, by decide +kernel⟩
abbrev s_met : Stmt := topS 10
theorem sc_met : FnScope ["one", "other", "thing", "told"] ["one", "other", "thing"] (defScope s_met) := ⟨rfl, rfl, rfl, by decide +kernel, rfl, by decide +kernel, by decide +kernel⟩
abbrev s_law_pool : Stmt := topS 12
theorem sc_law_pool : FnScope ["_law_script", "_law_k", "_law_cell", "_law_seed"] ["_law_script", "_law_k"] (defScope s_law_pool) := ⟨rfl, rfl, rfl, by decide +kernel, rfl, by decide +kernel, by decide +kernel⟩
abbrev s_law_take : Stmt := topS 13
theorem sc_law_take : FnScope ["_law_pool_here", "_law_many", "_law_digit"] ["_law_pool_here", "_law_many"] (defScope s_law_take) := ⟨rfl, rfl, rfl, by decide +kernel, rfl, by decide +kernel, by decide +kernel⟩
abbrev s_law_whole : Stmt := topS 14
theorem sc_law_whole : FnScope ["_law_thing"] ["_law_thing"] (defScope s_law_whole) := ⟨rfl, rfl, rfl, by decide +kernel, rfl, by decide +kernel, by decide +kernel⟩
abbrev s_law_fillings : Stmt := topS 15
theorem sc_law_fillings : FnScope ["_law_size", "_law_k", "_law_number"] ["_law_size"] (defScope s_law_fillings) := ⟨rfl, rfl, rfl, by decide +kernel, rfl, by decide +kernel, by decide +kernel⟩
abbrev s_law_says : Stmt := topS 16
theorem sc_law_says : FnScope ["_law_sign_here", "_law_filling"] ["_law_sign_here", "_law_filling"] (defScope s_law_says) := ⟨rfl, rfl, rfl, by decide +kernel, rfl, by decide +kernel, by decide +kernel⟩
abbrev s_law_hold : Stmt := topS 17
theorem sc_law_hold : FnScope ["_law_clauses", "_law_filling", "_law_clause_here", "_law_sign_here"] ["_law_clauses", "_law_filling"] (defScope s_law_hold) := ⟨rfl, rfl, rfl, by decide +kernel, rfl, by decide +kernel, by decide +kernel⟩
abbrev s_law_clause : Stmt := topS 18
theorem sc_law_clause : FnScope ["_law_pool_here", "_law_things", "_law_most", "_law_found", "_law_thing"] ["_law_pool_here", "_law_things", "_law_most"] (defScope s_law_clause) := ⟨rfl, rfl, rfl, by decide +kernel, rfl, by decide +kernel, by decide +kernel⟩
abbrev s_law_meet : Stmt := topS 20
theorem sc_law_meet : FnScope ["_law_one", "_law_other", "_law_thing", "_law_left", "_law_sign_here", "_law_at"] ["_law_one", "_law_other", "_law_thing"] (defScope s_law_meet) := ⟨rfl, rfl, rfl, by decide +kernel, rfl, by decide +kernel, by decide +kernel⟩
abbrev s_law_told : Stmt := topS 23
theorem sc_law_told : FnScope ["_law_one", "_law_other", "_law_thing", "_law_error", "_law_found", "e"] ["_law_one", "_law_other", "_law_thing"] (defScope s_law_told) := ⟨rfl, rfl, rfl, by decide +kernel, rfl, by decide +kernel, by decide +kernel⟩
abbrev s_law_due : Stmt := topS 24
theorem sc_law_due : FnScope ["_law_one", "_law_other", "_law_thing"] ["_law_one", "_law_other", "_law_thing"] (defScope s_law_due) := ⟨rfl, rfl, rfl, by decide +kernel, rfl, by decide +kernel, by decide +kernel⟩
abbrev s_law : Stmt := topS 25
theorem sc_law : FnScope ["_law_script", "_law_k", "_law_pool_here", "_law_one", "_law_other", "_law_at", "_law_both", "_law_sign_here", "_law_place", "_law_thing", "_law_pair", "_law_found", "_law_filling"] ["_law_script"] (defScope s_law) := ⟨rfl, rfl, rfl, by decide +kernel, rfl, by decide +kernel, by decide +kernel⟩
section
variable {P : Program} {w : World} {K : PySem.W.Frag} {mg : Str → Option Value} {base : Heap}
/-! ### whole numbers, signs -/
def whB : PyData → Bool
  | .int _ => true
  | _ => false
def spWh (K : PySem.W.Frag) : Sp := fun vs H Q _ => ∃ (x : V) (d : PyData), vs = [x] ∧ Dp K H x d ∧ Q (.bl (whB d)) H
theorem ok_wh {f : Addr} {fd : FuncData} {k : Nat} (F : Fun K "is_whole" "is_whole" s_is_whole f fd) (m_isinstance : mg "isinstance" = none) (m_int : mg "int" = none) (m_bool : mg "bool" = none) :
    FnOk P w K mg base CX0 (k + 1) f fd ["thing"] (spWh K) := by
  refine F.ok sc_is_whole (fun vs H Q E h => ?_) (fun cdv A outer s H vs Q E hr h => ?_)
  · obtain ⟨x, d, rfl, _⟩ := h
    rfl
  obtain ⟨x, d, rfl, hd, q⟩ := h
  refine ⟨_, (pss_one (ps_ret (pe_and (pe_callB call_isi (by rfl) m_isinstance (by decide +kernel) (pa_cons (pv 0) (pa_cons (pe_bltn (v := .ty "int") (by rfl) m_int (by decide +kernel) rfl) pa_nil))) (pe_one (pe_not (pe_callB call_isi (by rfl) m_isinstance (by decide +kernel) (pa_cons (pv 0) (pa_cons (pe_bltn (v := .ty "bool") (by rfl) m_bool (by decide +kernel) rfl) pa_nil)))))))), ?_⟩
  refine ⟨_, rfl, _, _, _, _, _, rfl, .ty _, dpTy hd, kit_ty (kit_int d), _, rfl, ?_⟩
  cases d with
  | int i => exact iteT ⟨_, rfl, _, _, _, _, _, rfl, .ty _, dpTy hd, kit_ty (kit_bool (.int i)), _, rfl, q⟩
  | bool b => exact iteT ⟨_, rfl, _, _, _, _, _, rfl, .ty _, dpTy hd, kit_ty (kit_bool (.bool b)), _, rfl, q⟩
  | none => exact iteF q
  | str _ => exact iteF q
  | list _ => exact iteF q
  | tuple _ => exact iteF q
  | dict _ => exact iteF q

/-! ### the clause of signs -/
def spClOf (K : PySem.W.Frag) : Sp := fun vs H Q _ => ∃ (a : Addr) (ns : List Int), vs = [.ref a] ∧ (SqL K H a (ns.map V.int) ∨ SqT K H a (ns.map V.int)) ∧ ns.length < 64 ∧ (∀ n ∈ ns, n ≠ 0) ∧ ∀ (v : V) (H' : Hp), Same H H' → CRes H ns v H' → Q v H'
theorem ok_clof {f : Addr} {fd : FuncData} {k : Nat} (F : Fun K "clause_of" "clause_of" s_clause_of f fd) (m_abs : mg "abs" = none) (m_tuple : mg "tuple" = none) (m_sorted : mg "sorted" = none) :
    FnOk P w K mg base CX0 (k + 1) f fd ["signs"] (spClOf K) := by
  refine F.ok sc_clause_of (fun vs H Q E h => ?_) (fun cdv A outer s H vs Q E hr h => ?_)
  · obtain ⟨a, ns, rfl, _⟩ := h
    rfl
  obtain ⟨a, ns, rfl, hS, hl, h0, qq⟩ := h
  have qn : ∀ H', Same H H' → Both ns → Q .non H' := fun H' s b => qq _ _ s (.inl ⟨rfl, b⟩)
  have q : ∀ (r : Addr) (cs : List Int) (H' : Hp), Same H H' → H r = none → H' r = some (.tup (cs.map V.int)) → ¬ Both ns → ClOf ns cs → Q (.ref r) H' := fun r cs H' s n e b c => qq _ _ s (.inr ⟨r, cs, rfl, n, e, b, c⟩)
  refine ⟨_, (pss_cons (ps_set (i := 1) sc_clause_of.nd rfl (.inr rfl) pe_dnewK)
       (pss_cons (ps_for PassesOwn.never rfl (pi_seq (pv 0)) (pg_name (i := 2) sc_clause_of.nd rfl (.inl rfl))
       (pss_one (ps_if (pt_cmpR op_ne (pe_dsetd (pv 1) (pe_callB call_abs (by rfl) m_abs (by decide +kernel) (pa_cons (pv 2) pa_nil)) (pv 2) ⟨rfl, rfl, rfl, rfl⟩) (pv 2) (nomark _))
       (pss_one (ps_ret pe_non))
       pss_nil)))
       (pss_one (ps_ret (pe_callTy call_tuple_of (by rfl) m_tuple (by decide +kernel) (pa_cons (pe_lc (own := [("thing", 3)]) (g := gName 3) (tt := tYes) (by rfl) sc_clause_of.nd (pi_list (pe_callB (call_sortedDI rfl) (by rfl) m_sorted (by decide +kernel) (pa_cons (pv 1) pa_nil))) (blkOk_by (by kernel_rfl)) (fun _ _ _ _ _ => (pg_name (i := 3) sc_clause_of.nd rfl (.inl rfl))) (fun _ _ _ _ _ => pts_nil) (fun _ _ _ _ _ => (pe_dget (hu_of hr) (pv 1) (pv 3) (fun _ _ => rfl)))) pa_nil)))))), ?_⟩
  refine fun d nd => ?_
  have W0 : CofW ns H a d 0 [some (.ref a), some (.ref d), none, none] (upd H d (.dK [])) := ⟨_, _, [], rfl, fun b o hb => by rw [upd_ne (ne_of_none hb nd)]; exact hb, upd_same, List.Pairwise.nil, by simp⟩
  rcases hS with hS | hS
  · refine .inl ⟨_, rfl, a, rfl, ⟨_, (same_new nd).seq hS⟩, for_list (xs := ns.map V.int) (CofW ns H a d) W0 (fun i σ' H' _ h => h.same.seq hS) ?_ ?_⟩
    · rintro i x σ' H1 ex ⟨y2, y3, ms, rfl, s1, ed, dj, hm⟩
      obtain ⟨n, rfl, hi, ht⟩ := at_int ex
      refine ⟨_, rfl, d, rfl, .inl ⟨_, .inl ed⟩, _, rfl, n, rfl, _, rfl, kvOf ms, .inl (ab n), ed, rfl, ?_, fun v hv => ?_, fun hv => ?_⟩
      · rw [show (kvOf ms).length = ms.length from List.length_map _]
        have := dj_len dj (fun m hm' => (hm m).mp hm')
        exact small1000 (by rw [List.length_take] at this; omega)
      · obtain ⟨m, hm1, hm2, rfl⟩ := kvOf_get hv
        refine ⟨_, rfl, rfl, _, rfl, ite2 (fun c => ?_) (fun c => ?_)⟩
        · have c' : m ≠ n := fun z => by subst z; simp at c
          have e : m = -n := by
            rw [ab_nat, ab_nat] at hm2
            omega
          refine qn H1 s1 ⟨n, hi, ?_⟩
          rw [← e]; exact List.mem_of_mem_take ((hm m).mp hm1)
        · have c' : m = n := by
            by_cases z : m = n
            · exact z
            · exfalso; apply c; rw [dec_int]; simp [z]
          subst c'
          exact ⟨_, _, ms, rfl, s1, ed, dj, fun x => by rw [hm, ht]; simp; intro z; subst z; exact (hm _).mp hm1⟩
      · refine ⟨_, rfl, rfl, _, rfl, ne_self ?_⟩
        have nn := kvOf_none hv
        refine ⟨_, _, ms ++ [n], rfl, ?_, ?_, ?_, ?_⟩
        · exact fun b o hb => by rw [upd_ne (ne_of_none hb nd)]; exact s1 _ _ hb
        · rw [upd_same, kvOf_put nn]
        · rw [List.pairwise_append]
          exact ⟨dj, List.pairwise_singleton _ _, fun x hx y hy => by rw [List.mem_singleton] at hy; subst hy; exact nn x hx⟩
        · intro x; rw [ht, List.mem_append, List.mem_append, hm]
    · rintro σ' H1 ⟨y2, y3, ms, rfl, s1, ed, dj, hm⟩
      have hall : ∀ x, x ∈ ms ↔ x ∈ ns := fun x => by rw [hm, List.length_map, List.take_length]
      have nb : ¬ Both ns := by
        rintro ⟨n, h1, h2⟩
        have e : ab n = ab (-n) := by rw [ab_nat, ab_nat]; omega
        have := ab_inj dj ((hall n).mpr h1) ((hall (-n)).mpr h2) e
        have := h0 n h1
        omega
      have lm : ms.length < 64 := by
        have := dj_len dj (fun m hm' => (hm m).mp hm')
        rw [List.length_take] at this; simp at this; omega
      refine ⟨_, rfl, d, kvOf ms, ms.map ab, rfl, .inl ed, kvOf_keys ms, by rw [List.length_map]; exact lm, fun ys p hp hs np => ?_⟩
      have sp : Same H1 (upd H1 p (.lst (ys.map V.int))) := same_new np
      have ep : (upd H1 p (.lst (ys.map V.int))) p = some (.lst (ys.map V.int)) := upd_same
      generalize (upd H1 p (.lst (ys.map V.int))) = H2 at *
      have ok := byKeys_ok dj hp hs
      have ly : ys.length = ms.length := by rw [hp.length_eq, List.length_map]
      refine ⟨p, rfl, ⟨_, SqL.of ep⟩, fun D nD => lc_list (xs := ys.map V.int) (fun i H' => Same H2 H' ∧ H' D = some (.lst (((byKeys ms ys).take i).map V.int))) ⟨same_new nD, upd_same⟩ (fun i H' _ h => SqL.of (h.1 _ _ ep)) ?_ ?_⟩
      · rintro i x H3 ex ⟨s3, e3⟩
        obtain ⟨y, rfl, hi, ht⟩ := at_int ex
        obtain ⟨m, hmm, em⟩ := List.mem_map.mp (hp.mem_iff.mp hi)
        subst em
        refine ⟨rfl, _, rfl, _, rfl, d, .int m, rfl, ?_, _, e3, ?_, ?_, ?_⟩
        · have g := DGet.k (k := Sum.inl (ab m)) (s3 _ _ (sp _ _ ed))
          rw [kvOf_some dj m hmm] at g
          exact g
        · have lb : (byKeys ms ys).length = ys.length := List.length_map _
          simp only [List.length_map, List.length_take]; exact small1000 (by omega)
        · exact fun b o hb => by rw [upd_ne (ne_of_none hb nD)]; exact s3 _ _ hb
        · have eb : (byKeys ms ys)[i]? = some m := by
            unfold byKeys
            rw [List.getElem?_map]
            have : ys[i]? = some (ab m) := by
              have := ex
              rw [List.getElem?_map] at this
              cases q : ys[i]? with
              | none => rw [q] at this; cases this
              | some z => rw [q] at this; cases this; rfl
            rw [this]
            show some ((ms.find? fun x => decide (ab x = ab m)).getD 0) = some m
            rw [find_ab dj hmm]; rfl
          rw [upd_same, List.take_add_one, eb, List.map_append]
          rfl
      · rintro H3 ⟨s3, e3⟩
        have e4 : ((byKeys ms ys).take (ys.map V.int).length) = byKeys ms ys := List.take_of_length_le (by unfold byKeys; simp)
        rw [e4] at e3
        refine ⟨D, _, rfl, .inl ⟨SqL.of e3, fun r nr => ?_⟩⟩
        exact q r (byKeys ms ys) _ (s1.trans (sp.trans (s3.trans (same_new nr)))) ((s1.trans (sp.trans s3)).free nr) upd_same nb ⟨ok.up, fun m => (ok.mem m).trans (hall m)⟩

  · refine .inr ⟨_, rfl, a, rfl, ⟨_, same_tup (same_new nd) hS⟩, for_tup (xs := ns.map V.int) (CofW ns H a d) W0 (fun i σ' H' _ h => same_tup h.same hS) ?_ ?_⟩
    · rintro i x σ' H1 ex ⟨y2, y3, ms, rfl, s1, ed, dj, hm⟩
      obtain ⟨n, rfl, hi, ht⟩ := at_int ex
      refine ⟨_, rfl, d, rfl, .inl ⟨_, .inl ed⟩, _, rfl, n, rfl, _, rfl, kvOf ms, .inl (ab n), ed, rfl, ?_, fun v hv => ?_, fun hv => ?_⟩
      · rw [show (kvOf ms).length = ms.length from List.length_map _]
        have := dj_len dj (fun m hm' => (hm m).mp hm')
        exact small1000 (by rw [List.length_take] at this; omega)
      · obtain ⟨m, hm1, hm2, rfl⟩ := kvOf_get hv
        refine ⟨_, rfl, rfl, _, rfl, ite2 (fun c => ?_) (fun c => ?_)⟩
        · have c' : m ≠ n := fun z => by subst z; simp at c
          have e : m = -n := by
            rw [ab_nat, ab_nat] at hm2
            omega
          refine qn H1 s1 ⟨n, hi, ?_⟩
          rw [← e]; exact List.mem_of_mem_take ((hm m).mp hm1)
        · have c' : m = n := by
            by_cases z : m = n
            · exact z
            · exfalso; apply c; rw [dec_int]; simp [z]
          subst c'
          exact ⟨_, _, ms, rfl, s1, ed, dj, fun x => by rw [hm, ht]; simp; intro z; subst z; exact (hm _).mp hm1⟩
      · refine ⟨_, rfl, rfl, _, rfl, ne_self ?_⟩
        have nn := kvOf_none hv
        refine ⟨_, _, ms ++ [n], rfl, ?_, ?_, ?_, ?_⟩
        · exact fun b o hb => by rw [upd_ne (ne_of_none hb nd)]; exact s1 _ _ hb
        · rw [upd_same, kvOf_put nn]
        · rw [List.pairwise_append]
          exact ⟨dj, List.pairwise_singleton _ _, fun x hx y hy => by rw [List.mem_singleton] at hy; subst hy; exact nn x hx⟩
        · intro x; rw [ht, List.mem_append, List.mem_append, hm]
    · rintro σ' H1 ⟨y2, y3, ms, rfl, s1, ed, dj, hm⟩
      have hall : ∀ x, x ∈ ms ↔ x ∈ ns := fun x => by rw [hm, List.length_map, List.take_length]
      have nb : ¬ Both ns := by
        rintro ⟨n, h1, h2⟩
        have e : ab n = ab (-n) := by rw [ab_nat, ab_nat]; omega
        have := ab_inj dj ((hall n).mpr h1) ((hall (-n)).mpr h2) e
        have := h0 n h1
        omega
      have lm : ms.length < 64 := by
        have := dj_len dj (fun m hm' => (hm m).mp hm')
        rw [List.length_take] at this; simp at this; omega
      refine ⟨_, rfl, d, kvOf ms, ms.map ab, rfl, .inl ed, kvOf_keys ms, by rw [List.length_map]; exact lm, fun ys p hp hs np => ?_⟩
      have sp : Same H1 (upd H1 p (.lst (ys.map V.int))) := same_new np
      have ep : (upd H1 p (.lst (ys.map V.int))) p = some (.lst (ys.map V.int)) := upd_same
      generalize (upd H1 p (.lst (ys.map V.int))) = H2 at *
      have ok := byKeys_ok dj hp hs
      have ly : ys.length = ms.length := by rw [hp.length_eq, List.length_map]
      refine ⟨p, rfl, ⟨_, SqL.of ep⟩, fun D nD => lc_list (xs := ys.map V.int) (fun i H' => Same H2 H' ∧ H' D = some (.lst (((byKeys ms ys).take i).map V.int))) ⟨same_new nD, upd_same⟩ (fun i H' _ h => SqL.of (h.1 _ _ ep)) ?_ ?_⟩
      · rintro i x H3 ex ⟨s3, e3⟩
        obtain ⟨y, rfl, hi, ht⟩ := at_int ex
        obtain ⟨m, hmm, em⟩ := List.mem_map.mp (hp.mem_iff.mp hi)
        subst em
        refine ⟨rfl, _, rfl, _, rfl, d, .int m, rfl, ?_, _, e3, ?_, ?_, ?_⟩
        · have g := DGet.k (k := Sum.inl (ab m)) (s3 _ _ (sp _ _ ed))
          rw [kvOf_some dj m hmm] at g
          exact g
        · have lb : (byKeys ms ys).length = ys.length := List.length_map _
          simp only [List.length_map, List.length_take]; exact small1000 (by omega)
        · exact fun b o hb => by rw [upd_ne (ne_of_none hb nD)]; exact s3 _ _ hb
        · have eb : (byKeys ms ys)[i]? = some m := by
            unfold byKeys
            rw [List.getElem?_map]
            have : ys[i]? = some (ab m) := by
              have := ex
              rw [List.getElem?_map] at this
              cases q : ys[i]? with
              | none => rw [q] at this; cases this
              | some z => rw [q] at this; cases this; rfl
            rw [this]
            show some ((ms.find? fun x => decide (ab x = ab m)).getD 0) = some m
            rw [find_ab dj hmm]; rfl
          rw [upd_same, List.take_add_one, eb, List.map_append]
          rfl
      · rintro H3 ⟨s3, e3⟩
        have e4 : ((byKeys ms ys).take (ys.map V.int).length) = byKeys ms ys := List.take_of_length_le (by unfold byKeys; simp)
        rw [e4] at e3
        refine ⟨D, _, rfl, .inl ⟨SqL.of e3, fun r nr => ?_⟩⟩
        exact q r (byKeys ms ys) _ (s1.trans (sp.trans (s3.trans (same_new nr)))) ((s1.trans (sp.trans s3)).free nr) upd_same nb ⟨ok.up, fun m => (ok.mem m).trans (hall m)⟩


/-! ### a draw -/
def spTake (K : PySem.W.Frag) : Sp := fun vs H Q _ => ∃ (p : Addr) (m : Int), vs = [.ref p, .int m] ∧ Pl H p ∧ 1 ≤ m ∧ m < 1073741824 ∧
  ∀ (d : Int) (H' : Hp), Kp p H H' → Pl H' p → 0 ≤ d → d < m → Q (.int d) H'
theorem ok_take {f : Addr} {fd : FuncData} {k : Nat} (F : Fun K "_law_take" "_law_take" s_law_take f fd) : FnOk P w K mg base CX0 (k + 1) f fd ["_law_pool_here", "_law_many"] (spTake K) := by
  refine F.ok sc_law_take (fun vs H Q E h => ?_) (fun cdv A outer s H vs Q E hr h => ?_)
  · obtain ⟨p, m, rfl, _⟩ := h
    rfl
  obtain ⟨p, m, rfl, ⟨a, b, e, ha, hb, hb2⟩, h1, h2, q⟩ := h
  refine ⟨_, (pss_cons (ps_if (pt_cmpR op_gt (pe_ix ix_list (pv 0) pe_int (fun _ _ => rfl)) pe_int (nomark _))
       (pss_cons (ps_set (i := 2) sc_law_take.nd rfl (.inl rfl) (pe_op op_mod (pe_ix ix_list (pv 0) pe_int (fun _ _ => rfl)) (pv 1)))
       (pss_cons (ps_asg (pe_op op_fdiv (pe_ix ix_list (pv 0) pe_int (fun _ _ => rfl)) (pv 1)) (pg_sub (pv 0) pe_int set_list))
       (pss_one (ps_ret (pv 2)))))
       pss_nil)
       (pss_cons (ps_asg (pe_op op_mod (pe_op op_add (pe_op op_mul (pe_ix ix_list (pv 0) pe_int (fun _ _ => rfl)) pe_int) pe_int) pe_int) (pg_sub (pv 0) pe_int set_list))
       (pss_one (ps_ret (pe_op op_mod (pe_op op_fdiv (pe_op op_mod (pe_op op_mul (pe_ix ix_list (pv 0) pe_int (fun _ _ => rfl)) (pe_ix ix_list (pv 0) pe_int (fun _ _ => rfl))) pe_int) pe_int) (pv 1)))))), ?_⟩
  refine ⟨_, rfl, p, _, 0, .int a, rfl, rfl, SqL.of e, rfl, _, _, rfl, rfl, _, rfl, ite2 (fun c => ?_) (fun c => ?_)⟩
  · have c' : 0 < a := of_decide_eq_true c
    refine ⟨_, rfl, p, _, 0, .int a, rfl, rfl, SqL.of e, rfl, _, rfl, _, _, rfl, rfl, (by show 0 < m; omega), ?_⟩
    refine ⟨_, rfl, p, _, 0, .int a, rfl, rfl, SqL.of e, rfl, _, rfl, _, _, rfl, rfl, (by show 0 < m ∧ m < 1073741824; omega), ?_⟩
    refine ⟨_, rfl, p, _, 0, 0, rfl, rfl, e, rfl, ?_⟩
    refine ⟨_, rfl, q _ _ (Kp.upd _ _ _) ⟨a / m, b, upd_same, Int.ediv_nonneg ha (by omega), hb, hb2⟩ (Int.emod_nonneg _ (by omega)) (Int.emod_lt_of_pos _ (by omega))⟩
  · refine ⟨_, rfl, p, _, 1, .int b, rfl, rfl, SqL.of e, rfl, _, _, rfl, rfl, .inr ⟨by omega, by omega⟩, _, _, rfl, rfl, _, _, rfl, rfl, (by show (0 : Int) < 2147483647; omega), ?_⟩
    refine ⟨_, rfl, p, _, 1, 1, rfl, rfl, e, rfl, ?_⟩
    have hc0 := Int.emod_nonneg (b * 48271 + 11) (show (2147483647 : Int) ≠ 0 by omega)
    have hc1 := Int.emod_lt_of_pos (b * 48271 + 11) (show (0 : Int) < 2147483647 by omega)
    generalize hC : (b * 48271 + 11) % 2147483647 = c1 at hc0 hc1
    refine ⟨_, rfl, p, _, 1, .int c1, rfl, rfl, SqL.of upd_same, (by rw [← hC]; rfl), _, rfl, p, _, 1, .int c1, rfl, rfl, SqL.of upd_same, (by rw [← hC]; rfl), ?_⟩
    refine ⟨_, _, rfl, rfl, .inr ⟨by omega, by omega⟩, _, _, rfl, rfl, (by show (0 : Int) < 2147483629; omega), _, _, rfl, rfl, (by show (0 : Int) < 64 ∧ (64 : Int) < 1073741824; omega), _, rfl, _, _, rfl, rfl, (by show 0 < m; omega), ?_⟩
    refine q _ _ (Kp.upd _ _ _) ⟨a, c1, ?_, ha, hc0, hc1⟩ (Int.emod_nonneg _ (by omega)) (Int.emod_lt_of_pos _ (by omega))
    rw [upd_same, ← hC]; rfl

/-! ### the pool of a cell -/
def spPool (K : PySem.W.Frag) : Sp := fun vs H Q _ => ∃ (a : Addr) (ns : List Int) (k : Int), vs = [.ref a, .int k] ∧ SqL K H a (ns.map V.int) ∧ ns.length ≤ 1000 ∧ 0 ≤ k ∧
  ∀ (p : Addr) (H' : Hp), H p = none → Same H H' → Pl H' p → Q (.ref p) H'
theorem ok_pool {f : Addr} {fd : FuncData} {k : Nat} (F : Fun K "_law_pool" "_law_pool" s_law_pool f fd) (m_len : mg "len" = none) (m_int : mg "int" = none) :
    FnOk P w K mg base CX0 (k + 1) f fd ["_law_script", "_law_k"] (spPool K) := by
  refine F.ok sc_law_pool (fun vs H Q E h => ?_) (fun cdv A outer s H vs Q E hr h => ?_)
  · obtain ⟨a, ns, k, rfl, _⟩ := h
    rfl
  obtain ⟨a, ns, k, rfl, hS, hl, hk, q⟩ := h
  refine ⟨_, (pss_cons (ps_set (i := 2) sc_law_pool.nd rfl (.inl rfl) pe_int)
       (C8.pss_cut (ps_if (pt_cmpR (op_neD hr.units) (pv 0) (pe_lst pa_nil) (nomark _))
       (pss_one (ps_set (i := 2) sc_law_pool.nd rfl (.inl rfl) (pe_ix ix_list (pv 0) (pe_op op_mod (pv 1) (pe_callB call_len_seq (by rfl) m_len (by decide +kernel) (pa_cons (pv 0) pa_nil))) (fun _ _ => rfl))))
       pss_nil)
       (C8.pss_cut (ps_if (pt_cmpR op_ge (pv 1) (pe_callB call_len_seq (by rfl) m_len (by decide +kernel) (pa_cons (pv 0) pa_nil)) (nomark _))
       (pss_one (ps_set (i := 2) sc_law_pool.nd rfl (.inl rfl) (pe_ix ix_list (pe_lst (pa_cons (pe_op op_mod (pv 2) pe_int) (pa_cons (pe_op op_fdivW (pv 2) (pe_op op_pow pe_int pe_int)) pa_nil))) (pe_callTy call_int1 (by rfl) m_int (by decide +kernel) (pa_cons (pe_cmpR op_ge (pv 2) (pe_op op_pow pe_int pe_int) (nomark _)) pa_nil)) (fun _ _ => rfl))))
       pss_nil)
       (pss_cons (ps_set (i := 3) sc_law_pool.nd rfl (.inl rfl) (pe_op op_mod (pe_op op_mul (pe_op op_add (pe_op op_add (pe_op op_mod (pv 2) pe_int) (pe_op op_mul pe_int (pv 1))) pe_int) pe_int) pe_int))
       (pss_one (ps_ret (pe_lst (pa_cons (pe_op op_mul (pv 2) (pe_callTy call_int1 (by rfl) m_int (by decide +kernel) (pa_cons (pe_cmpR op_ge (pv 2) (pe_op op_pow pe_int pe_int) (nomark _)) pa_nil))) (pa_cons (pv 3) pa_nil))))))))), ?_⟩
  have hlen : (ns.map V.int).length = ns.length := List.length_map _
  -- if script != []
  refine ⟨fun σ' H' => ∃ c : Int, σ' = [some (.ref a), some (.int k), some (.int c), none] ∧ Same H H', ?_, ?_⟩
  · refine ⟨_, rfl, (by show 0 ≤ sizeLine; decide), fun l hl0 => ?_⟩
    have s1 : Same H (upd H l (.lst [])) := same_new hl0
    refine ⟨.list (ns.map PyData.int), .list [], .lst (s1.seq hS) (dpInts ns), .lst (SqL.of upd_same) .nil, shInts ns, shNil, _, rfl, ?_⟩
    rw [eqvNil]
    refine ite2 (fun c => ?_) (fun c => ⟨0, rfl, s1⟩)
    have hn : ns ≠ [] := fun z => by subst z; exact absurd c (by decide)
    have hp : 0 < ns.length := List.length_pos_iff.mpr hn
    have hlt := Int.emod_lt_of_pos k (show (0 : Int) < (ns.length : Int) by omega)
    have hge := Int.emod_nonneg k (show (ns.length : Int) ≠ 0 by omega)
    obtain ⟨v, hv, _⟩ := atI_ints (ns := ns) hge hlt
    refine ⟨_, rfl, _, rfl, _, rfl, a, _, rfl, .inl (s1.seq hS), _, _, rfl, rfl, (by rw [hlen]; show (0 : Int) < (ns.length : Int); omega), a, _, _, .int v, rfl, rfl, s1.seq hS, ?_, ?_⟩
    · rw [hlen]; exact hv
    · exact ⟨_, rfl, s1⟩
  rintro _ H1 ⟨c, rfl, s1⟩
  -- if k >= len(script)
  refine ⟨fun σ' H' => ∃ c : Int, σ' = [some (.ref a), some (.int k), some (.int c), none] ∧ Same H H', ?_, ?_⟩
  · refine ⟨_, rfl, _, rfl, a, _, rfl, .inl (s1.seq hS), _, _, rfl, rfl, _, rfl, ite2 (fun z => ?_) (fun z => ⟨c, rfl, s1⟩)⟩
    refine ⟨_, rfl, _, _, rfl, rfl, (by show (0 : Int) < 1000003; omega), _, rfl, _, _, rfl, rfl, ⟨by omega, by omega, by decide⟩, _, _, rfl, rfl, wide_div (b := 64) (by decide) (by decide) (by decide) (by decide), (by show 2 ≤ sizeLine; decide), fun l hl0 => ?_⟩
    have s2 : Same H1 (upd H1 l _) := same_new (o := .lst [.int (c % 1000003), .int (c / 10 ^ 18)]) hl0
    refine ⟨_, rfl, _, _, rfl, rfl, ⟨by omega, by omega, by decide⟩, _, _, rfl, rfl, .inr ⟨_, rfl, ?_⟩⟩
    by_cases z : (10 : Int) ^ 36 ≤ c
    · refine ⟨l, _, 1, .int (c / 10 ^ 18), rfl, ?_, SqL.of upd_same, rfl, ⟨_, rfl, s1.trans s2⟩⟩
      have e : decide ((10 : Int) ^ (Int.toNat 36) ≤ c) = true := decide_eq_true z
      rw [e]; rfl
    · refine ⟨l, _, 0, .int (c % 1000003), rfl, ?_, SqL.of upd_same, rfl, ⟨_, rfl, s1.trans s2⟩⟩
      have e : decide ((10 : Int) ^ (Int.toNat 36) ≤ c) = false := decide_eq_false z
      rw [e]; rfl
  clear s1 c H1
  rintro _ H1 ⟨c, rfl, s1⟩
  -- the seed
  refine ⟨_, rfl, _, _, rfl, rfl, (by show (0 : Int) < 2147483629; omega), _, rfl, _, _, rfl, rfl, .inl ⟨by omega, by omega⟩, _, _, rfl, rfl, _, _, rfl, rfl, _, _, rfl, rfl, .inr ⟨by omega, by omega⟩, _, _, rfl, rfl, (by show (0 : Int) < 2147483647; omega), ?_⟩
  generalize hs : ((c % 2147483629 + 104729 * k + 11) * 48271) % 2147483647 = sd
  have hs0 : 0 ≤ sd := by rw [← hs]; exact Int.emod_nonneg _ (by omega)
  have hs1 : sd < 2147483647 := by rw [← hs]; exact Int.emod_lt_of_pos _ (by omega)
  refine ⟨_, rfl, _, rfl, _, _, rfl, rfl, ⟨by omega, by omega, by decide⟩, _, _, rfl, rfl, .inr ⟨_, rfl, _, _, rfl, rfl, .inr ?_, _, rfl, (by show 2 ≤ sizeLine; decide), fun p hp => ?_⟩⟩
  · split <;> exact ⟨by omega, by omega⟩
  · refine q p _ (s1.free hp) (s1.trans (same_new hp)) ⟨_, sd, (by rw [← hs]; exact upd_same), ?_, hs0, hs1⟩
    split
    · rename_i z
      have z' : (10 : Int) ^ (Int.toNat 18) ≤ c := of_decide_eq_true z
      have : (0 : Int) ≤ 10 ^ (Int.toNat 18) := by decide
      omega
    · omega

/-! ### a drawn clause -/
structure Cl (n : Nat) (cs : List Int) : Prop where
  up : cs.Pairwise fun a b => a.natAbs < b.natAbs
  all : ∀ c ∈ cs, c ≠ 0 ∧ c.natAbs ≤ n
theorem Cl.nil (n : Nat) : Cl n [] := ⟨List.Pairwise.nil, fun _ h => nomatch h⟩
theorem Cl.le {n m : Nat} {cs : List Int} (h : Cl n cs) (hm : n ≤ m) : Cl m cs := ⟨h.up, fun c hc => ⟨(h.all c hc).1, Nat.le_trans (h.all c hc).2 hm⟩⟩
theorem Cl.snoc {n : Nat} {cs : List Int} (h : Cl n cs) {c : Int} (hc : c.natAbs = n + 1) : Cl (n + 1) (cs ++ [c]) := by
  refine ⟨List.pairwise_append.mpr ⟨h.up, List.pairwise_singleton _ _, fun a ha b hb => ?_⟩, fun x hx => ?_⟩
  · rw [List.mem_singleton] at hb
    have := (h.all a ha).2
    subst hb; omega
  · rcases List.mem_append.mp hx with q | q
    · have := h.all x q
      exact ⟨this.1, by omega⟩
    · rw [List.mem_singleton] at q
      subst q
      exact ⟨fun z => by rw [z] at hc; simp at hc, by omega⟩
def spClause (K : PySem.W.Frag) : Sp := fun vs H Q _ => ∃ (p : Addr) (n most : Int), vs = [.ref p, .int n, .int most] ∧ Pl H p ∧ 0 ≤ n ∧ n ≤ 100 ∧
  ∀ (r : Addr) (cs : List Int) (H' : Hp), Kp p H H' → Pl H' p → H r = none → H' r = some (.tup (cs.map V.int)) → Cl n.toNat cs → (cs.length : Int) ≤ max most 0 → cs.length ≤ 100 → Q (.ref r) H'
theorem ok_clause {f : Addr} {fd : FuncData} {k : Nat} (F : Fun K "_law_clause" "_law_clause" s_law_clause f fd) (D_law_take : Df P w K mg base k "_law_take" ["_law_pool_here", "_law_many"] (spTake K))
    (m_len : mg "len" = none) (m_range : mg "range" = none) (m_tuple : mg "tuple" = none) : FnOk P w K mg base CX0 (k + 1) f fd ["_law_pool_here", "_law_things", "_law_most"] (spClause K) := by
  refine F.ok sc_law_clause (fun vs H Q E h => ?_) (fun cdv A outer s H vs Q E hr h => ?_)
  · obtain ⟨p, n, most, rfl, _⟩ := h
    rfl
  obtain ⟨p, n, most, rfl, hp, h0, h1, q⟩ := h
  refine ⟨_, (pss_cons (ps_set (i := 3) sc_law_clause.nd rfl (.inl rfl) (pe_lst pa_nil))
       (pss_cons (ps_for PassesOwn.never rfl (pi_range2 (by rfl) m_range (pa_cons pe_int (pa_cons (pe_op op_add (pv 1) pe_int) pa_nil))) (pg_name (i := 4) sc_law_clause.nd rfl (.inl rfl))
       (pss_one (ps_if (PW.pt (pw_and (pt_cmpR op_lt (pe_callB call_len_seq (by rfl) m_len (by decide +kernel) (pa_cons (pv 3) pa_nil)) (pv 2) (nomark _)) (pw_and1 (pt_cmpR op_eq (pe_df D_law_take hr (by rfl) (pa_cons (pv 0) (pa_cons pe_int pa_nil))) pe_int (nomark _)))))
       (pss_one (ps_expr (pe_bm PySem.F.plainAttrs_list PySem.F.slot_list_append PySem.F.type_list_append mt_append (pv 3) (pa_cons (pe_ix ix_list (pe_lst (pa_cons (pv 4) (pa_cons (pe_op op_sub pe_int (pv 4)) pa_nil))) (pe_df D_law_take hr (by rfl) (pa_cons (pv 0) (pa_cons pe_int pa_nil))) (fun _ _ => rfl)) pa_nil))))
       pss_nil)))
       (pss_one (ps_ret (pe_callTy call_tuple_of (by rfl) m_tuple (by decide +kernel) (pa_cons (pv 3) pa_nil)))))), ?_⟩
  refine ⟨(by show 0 ≤ sizeLine; decide), fun o no => ?_⟩
  have hpo : o ≠ p := fun z => hp.at (z ▸ no)
  refine ⟨_, rfl, _, _, rfl, rfl, _, _, rfl, ⟨by omega, by omega, by omega, by omega⟩, for_range (lo := 1) (n := (n + 1 - 1).toNat)
    (fun i σ' H' => ∃ (cs : List Int) (y : Option V), σ' = [some (.ref p), some (.int n), some (.int most), some (.ref o), y] ∧ Kp p H H' ∧ Pl H' p ∧ H' o = some (.lst (cs.map V.int)) ∧ Cl i cs ∧ (cs.length : Int) ≤ max most 0 ∧ cs.length ≤ i) ?_ ?_ ?_⟩
  · exact ⟨[], none, rfl, Kp.of (same_new no), hp.same (same_new no), upd_same, Cl.nil _, by simp; omega, by simp⟩
  · rintro i σ' H1 hi ⟨cs, y, rfl, kp, hp1, eo, cl, hm, hl⟩
    refine ⟨_, rfl, o, _, rfl, .inl (SqL.of eo), _, rfl, _, _, rfl, rfl, _, rfl, ite2 (fun c => ?_) (fun c => ?_)⟩
    · have c' : (((cs.map V.int).length : Nat) : Int) < most := of_decide_eq_true c
      rw [List.length_map] at c'
      refine ⟨_, rfl, p, 3, rfl, hp1, by omega, by omega, fun d H2 k2 hp2 _ _ => ?_⟩
      have eo2 := k2 _ _ hpo eo
      refine ⟨rfl, _, rfl, ite2 (fun c => ?_) (fun c => ?_)⟩
      · refine ⟨_, rfl, .inl ⟨rfl, _, SqL.of eo2⟩, ?_⟩
        refine ⟨_, rfl, _, rfl, _, _, rfl, rfl, (by show 2 ≤ sizeLine; decide), fun l nl => ?_⟩
        have s3 : Same H2 (upd H2 l (.lst [.int (1 + (i : Int)), .int (0 - (1 + (i : Int)))])) := same_new nl
        have hlp : l ≠ p := fun z => hp2.at (z ▸ nl)
        refine ⟨_, rfl, p, 2, rfl, hp2.same s3, by omega, by omega, fun d H3 k3 hp3 d0 d1 => ?_⟩
        have eo3 := k3 _ _ hpo (s3 _ _ eo2)
        have el3 := k3 _ _ hlp upd_same
        have fin : ∀ c : Int, c.natAbs = i + 1 → ∃ l xs y, V.ref o = V.ref l ∧ [V.int c] = [y] ∧ H3 l = some (.lst xs) ∧ xs.length < sizeLine ∧
            ∃ (cs : List Int) (y' : Option V), [some (V.ref p), some (.int n), some (.int most), some (.ref o), some (.int (1 + (i : Int)))] = [some (V.ref p), some (.int n), some (.int most), some (.ref o), y'] ∧
              Kp p H (upd H3 l (.lst (xs ++ [y]))) ∧ Pl (upd H3 l (.lst (xs ++ [y]))) p ∧ (upd H3 l (.lst (xs ++ [y]))) o = some (.lst (cs.map V.int)) ∧ Cl (i + 1) cs ∧ (cs.length : Int) ≤ max most 0 ∧ cs.length ≤ i + 1 := fun c hc => by
          refine ⟨o, _, _, rfl, rfl, eo3, ?_, cs ++ [c], _, rfl, ?_, ?_, ?_, cl.snoc hc, ?_, ?_⟩
          · rw [List.length_map]; exact small1000 (by omega)
          · intro b u nb hb
            rw [upd_ne (ne_of_none hb no)]
            exact k3 _ _ nb (s3 _ _ (k2 _ _ nb (kp _ _ nb hb)))
          · obtain ⟨a, b, e, r⟩ := hp3
            exact ⟨a, b, by rw [upd_ne hpo.symm]; exact e, r⟩
          · rw [upd_same, List.map_append]; rfl
          · rw [List.length_append]; simp; omega
          · rw [List.length_append]; simp; omega
        have dd : d = 0 ∨ d = 1 := by omega
        rcases dd with rfl | rfl
        · exact ⟨l, _, 0, .int (1 + (i : Int)), rfl, rfl, SqL.of el3, rfl, fin _ (by omega)⟩
        · exact ⟨l, _, 1, .int (0 - (1 + (i : Int))), rfl, rfl, SqL.of el3, rfl, fin _ (by omega)⟩
      · exact ⟨cs, _, rfl, kp.trans k2, hp2, eo2, cl.le (by omega), hm, by omega⟩
    · exact ⟨cs, _, rfl, kp, hp1, eo, cl.le (by omega), hm, by omega⟩
  · rintro σ' H1 ⟨cs, y, rfl, kp, hp1, eo, cl, hm, hl⟩
    refine ⟨_, rfl, o, _, rfl, .inl ⟨SqL.of eo, fun r nr => ?_⟩⟩
    have s2 : Same H1 (upd H1 r (.tup (cs.map V.int))) := same_new nr
    exact q r cs _ (kp.trans (Kp.of s2)) (hp1.same s2) (kp.freeP hp1 nr) upd_same (cl.le (by omega)) hm (by omega)

/-! ### all fillings -/
def spFills (K : PySem.W.Frag) : Sp := fun vs H Q _ => ∃ (n : Nat), vs = [.int n] ∧ n ≤ 9 ∧
  ∀ (r : Addr) (ts : List Addr) (H' : Hp), Same H H' → H r = none → H' r = some (.lst (ts.map V.ref)) → ts.length = 2 ^ n → (∀ j t, ts[j]? = some t → H' t = some (.tup ((rowB n j).map V.bl))) → Q (.ref r) H'
theorem ok_fills {f : Addr} {fd : FuncData} {k : Nat} (F : Fun K "_law_fillings" "_law_fillings" s_law_fillings f fd) (m_range : mg "range" = none) (m_tuple : mg "tuple" = none) :
    FnOk P w K mg base CX0 (k + 1) f fd ["_law_size"] (spFills K) := by
  refine F.ok sc_law_fillings (fun vs H Q E h => ?_) (fun cdv A outer s H vs Q E hr h => ?_)
  · obtain ⟨n, rfl, _⟩ := h
    rfl
  obtain ⟨n, rfl, hn, q⟩ := h
  refine ⟨_, (pss_one (ps_ret (pe_lc (own := [("_law_number", 2)]) (g := gName 2) (tt := tYes) (by rfl) sc_law_fillings.nd (pi_range1 (by rfl) m_range (pa_cons (pe_op op_shl pe_int (pv 0)) pa_nil)) (blkOk_by (by kernel_rfl)) (fun _ _ _ _ _ => (pg_name (i := 2) sc_law_fillings.nd rfl (.inr rfl))) (fun _ _ _ _ _ => pts_nil) (fun _ _ _ _ _ => (pe_callTy (call_tuple_of' (K := K) rfl) (by rfl) m_tuple (by decide +kernel) (pa_cons (pe_lc (own := [("_law_k", 1)]) (g := gName 1) (tt := tYes) (by rfl) sc_law_fillings.nd (pi_range1 (by rfl) m_range (pa_cons (pv 0) pa_nil)) (blkOk_by (by kernel_rfl)) (fun _ _ _ _ _ => (pg_name (i := 1) sc_law_fillings.nd rfl (.inl rfl))) (fun _ _ _ _ _ => pts_nil) (fun _ _ _ _ _ => (pe_cmpR op_eq (pe_op op_and (pe_op op_shr (pv 2) (pe_op op_sub (pe_op op_sub (pv 0) pe_int) (pv 1))) pe_int) pe_int (nomark _)))) pa_nil)))))), ?_⟩
  have e2 : (1 : Int) * 2 ^ ((n : Int)).toNat = ((2 ^ n : Nat) : Int) := by
    rw [Int.toNat_natCast]; simp
  have p9 : 2 ^ n ≤ 512 := Nat.le_trans (Nat.pow_le_pow_right (by decide) hn) (by decide)
  generalize hN : 2 ^ n = N at *
  refine ⟨_, rfl, _, _, rfl, rfl, ⟨by omega, by omega, by decide⟩, (N : Int), congrArg (fun z => [V.int z]) e2, by omega, by omega, fun D nD => lc_range (lo := 0) (n := ((N : Int)).toNat) (fun i H' => ∃ ts : List Addr, Same H H' ∧ H' D = some (.lst (ts.map V.ref)) ∧ ts.length = i ∧ ∀ j t, ts[j]? = some t → H' t = some (.tup ((rowB n j).map V.bl))) ?_ ?_ ?_⟩
  · exact ⟨[], same_new nD, upd_same, rfl, fun j t h => by simp at h⟩
  · rintro i H1 hi ⟨ts, s1, eD, hl, ht⟩
    refine ⟨rfl, _, rfl, _, rfl, by omega, by omega, fun D2 nD2 => lc_range (lo := 0) (n := ((n : Int)).toNat) (fun k H' => Same H1 H' ∧ H' D2 = some (.lst (((rowB n i).take k).map V.bl))) ?_ ?_ ?_⟩
    · exact ⟨same_new nD2, upd_same⟩
    · rintro k H2 hk ⟨s2, e2⟩
      have hk' : k < n := by rw [Int.toNat_natCast] at hk; exact hk
      refine ⟨rfl, _, rfl, _, rfl, _, _, rfl, rfl, _, rfl, _, _, rfl, rfl, _, _, rfl, rfl, (by show (0 : Int) ≤ (n : Int) - 1 - (0 + (k : Int)); omega), _, _, rfl, rfl, rfl, _, e2, ?_, ?_, ?_⟩
      · simp only [List.length_map, List.length_take]; exact small1000 (by omega)
      · exact fun b o hb => by rw [upd_ne (ne_of_none hb nD2)]; exact s2 _ _ hb
      · rw [upd_same, rowB_take hk', List.map_append]
        show some (HO.lst _) = some (HO.lst _)
        rw [Int.zero_add, Int.zero_add]
        rfl
    · rintro H2 ⟨s2, e2⟩
      have e3 : (rowB n i).take ((n : Int)).toNat = rowB n i := List.take_of_length_le (by unfold rowB; simp)
      rw [e3] at e2
      refine ⟨D2, _, rfl, .inl ⟨SqL.of e2, fun t nt => ?_⟩⟩
      have s3 : Same H2 (upd H2 t (.tup ((rowB n i).map V.bl))) := same_new nt
      have eD3 := s3 _ _ (s2 _ _ eD)
      have et : (upd H2 t (.tup ((rowB n i).map V.bl))) t = some (.tup ((rowB n i).map V.bl)) := upd_same
      generalize (upd H2 t (.tup ((rowB n i).map V.bl))) = H3 at *
      have keep : ∀ b xs, H3 b = some (.tup xs) → (upd H3 D (.lst (ts.map V.ref ++ [.ref t]))) b = some (.tup xs) := fun b xs hb => by rw [upd_ne (ne_of hb eD3 (by intro z; cases z))]; exact hb
      refine ⟨_, eD3, ?_, ts ++ [t], ?_, ?_, ?_, fun j u hu => ?_⟩
      · rw [List.length_map, hl]; rw [Int.toNat_natCast] at hi; exact small1000 (by omega)
      · exact fun b o hb => by rw [upd_ne (ne_of_none hb nD)]; exact s3 _ _ (s2 _ _ (s1 _ _ hb))
      · rw [upd_same, List.map_append]; rfl
      · rw [List.length_append, hl]; rfl
      · by_cases hj : j < ts.length
        · rw [List.getElem?_append_left hj] at hu
          exact keep _ _ (s3 _ _ (s2 _ _ (ht j u hu)))
        · rw [List.getElem?_append_right (by omega)] at hu
          have : j - ts.length = 0 := by
            cases q : j - ts.length with
            | zero => rfl
            | succ m => rw [q] at hu; simp at hu
          rw [this] at hu
          cases hu
          have : j = i := by omega
          subst this
          exact keep _ _ et
  · rintro H1 ⟨ts, s1, eD, hl, ht⟩
    rw [Int.toNat_natCast] at hl
    exact q D ts H1 s1 nD eD hl ht

/-! ### the law's own says, hold, sign -/
def spLSays (K : PySem.W.Frag) : Sp := fun vs H Q _ => ∃ (t : Addr) (bs : List Bool) (n : Int), vs = [.int n, .ref t] ∧ SqT K H t (bs.map V.bl) ∧ 1 ≤ n.natAbs ∧ n.natAbs ≤ bs.length ∧ Q (.bl (sayB bs n)) H
theorem ok_lsays {f : Addr} {fd : FuncData} {k : Nat} (F : Fun K "_law_says" "_law_says" s_law_says f fd) (m_abs : mg "abs" = none) : FnOk P w K mg base CX0 (k + 1) f fd ["_law_sign_here", "_law_filling"] (spLSays K) := by
  refine F.ok sc_law_says (fun vs H Q E h => ?_) (fun cdv A outer s H vs Q E hr h => ?_)
  · obtain ⟨t, bs, n, rfl, _⟩ := h
    rfl
  obtain ⟨t, bs, n, rfl, hS, h1, h2, q⟩ := h
  refine ⟨_, (pss_one (ps_ret (pe_cmpR op_eq (pe_ix ix_tup (pv 1) (pe_op op_sub (pe_callB call_abs (by rfl) m_abs (by decide +kernel) (pa_cons (pv 0) pa_nil)) pe_int) (fun _ _ => rfl)) (pe_cmpR op_gt (pv 0) pe_int (nomark _)) (nomark _)))), ?_⟩
  obtain ⟨b, hb, e⟩ := say_at h1 h2
  exact ⟨_, rfl, _, rfl, _, rfl, _, _, rfl, rfl, t, _, _, .bl b, rfl, rfl, hS, hb, _, rfl, _, _, rfl, rfl, rfl, by rw [say_eq, ← e]; exact q⟩
def spHold (K : PySem.W.Frag) : Sp := fun vs H Q _ => ∃ (a t : Addr) (cs : List Addr) (nss : List (List Int)) (bs : List Bool), vs = [.ref a, .ref t] ∧ SqL K H a (cs.map V.ref) ∧ SqT K H t (bs.map V.bl) ∧ TupsI K H cs nss ∧ nss.length ≤ 1000 ∧
  (∀ ns ∈ nss, ns.length ≤ 1000 ∧ ∀ n ∈ ns, 1 ≤ n.natAbs ∧ n.natAbs ≤ bs.length) ∧ ∀ H', Same H H' → Q (.bl (nss.all fun ns => ns.any (sayB bs))) H'
theorem ok_hold {f : Addr} {fd : FuncData} {k : Nat} (F : Fun K "_law_hold" "_law_hold" s_law_hold f fd) (D_law_says : Df P w K mg base k "_law_says" ["_law_sign_here", "_law_filling"] (spLSays K)) :
    FnOk P w K mg base CX0 (k + 1) f fd ["_law_clauses", "_law_filling"] (spHold K) := by
  refine F.ok sc_law_hold (fun vs H Q E h => ?_) (fun cdv A outer s H vs Q E hr h => ?_)
  · obtain ⟨a, t, cs, nss, bs, rfl, _⟩ := h
    rfl
  obtain ⟨a, t, cs, nss, bs, rfl, ha, ht, hc, hl, hn, q⟩ := h
  refine ⟨_, (pss_one (ps_ret (pe_cmpR (op_eqD hr.units) (pe_lc (own := [("_law_clause_here", 2)]) (g := gName 2) (by rfl) sc_law_hold.nd (pi_list (pv 0)) (blkOk_by (by kernel_rfl)) (fun _ _ _ _ _ => (pg_name (i := 2) sc_law_hold.nd rfl (.inl rfl))) (fun _ _ _ _ _ => (pts_one (pt_cmpR (op_eqD' (K := K) rfl hr.units) (pe_lc (own := [("_law_sign_here", 3)]) (g := gName 3) (by rfl) sc_law_hold.nd (pi_tup' (K := K) rfl (pv 2)) (blkOk_by (by kernel_rfl)) (fun _ _ _ _ _ => (pg_name (i := 3) sc_law_hold.nd rfl (.inl rfl))) (fun _ _ _ _ _ => (pts_one (pt_val (pe_df D_law_says hr (by rfl) (pa_cons (pv 3) (pa_cons (pv 1) pa_nil)))))) (fun _ _ _ _ _ => (pv 3))) (pe_lst pa_nil) (nomark _)))) (fun _ _ _ _ _ => (pv 2))) (pe_lst pa_nil) (nomark _)))), ?_⟩
  refine ⟨_, rfl, a, rfl, ⟨_, ha⟩, fun D nD => lc_list (xs := cs.map V.ref) (fun i H' => Same H H' ∧ ∃ (ds : List Addr) (mss : List (List Int)), H' D = some (.lst (ds.map V.ref)) ∧ TupsI K H' ds mss ∧ mss = (nss.take i).filter fun ns => !ns.any (sayB bs)) ?_ ?_ ?_ ?_⟩
  · exact ⟨same_new nD, [], [], upd_same, .nil, rfl⟩
  · exact fun i H' _ h => h.1.seq ha
  · rintro i x H1 ex ⟨s1, ds, mss, eD, hd, em⟩
    obtain ⟨c, ns, rfl, hin, hc1, htk⟩ := hc.at ex
    have hc2 := same_tup s1 hc1
    obtain ⟨ln, hb⟩ := hn ns hin
    refine ⟨rfl, _, rfl, c, rfl, ⟨_, hc2⟩, fun D2 nD2 => lc_tup (xs := ns.map V.int) (fun k H' => Same H1 H' ∧ H' D2 = some (.lst (((ns.take k).filter (sayB bs)).map V.int))) ⟨same_new nD2, upd_same⟩ (fun k H' _ h => same_tup h.1 hc2) ?_ ?_⟩
    · rintro k x H2 ex2 ⟨s2, e2⟩
      obtain ⟨n, rfl, hni, htk2⟩ := at_int ex2
      refine ⟨rfl, _, rfl, _, rfl, t, bs, n, rfl, same_tup s2 (same_tup s1 ht), (hb n hni).1, (hb n hni).2, _, rfl, ite2 (fun c => ?_) (fun c => ?_)⟩
      · refine ⟨_, rfl, _, e2, ?_, ?_, ?_⟩
        · rw [List.length_map]
          exact small1000 (Nat.le_trans (List.length_filter_le _ _) (by rw [List.length_take]; omega))
        · exact fun b o hb => by rw [upd_ne (ne_of_none hb nD2)]; exact s2 _ _ hb
        · rw [upd_same, htk2, List.filter_append, List.map_append]
          simp [List.filter_cons, c]
      · refine ⟨s2, ?_⟩
        rw [htk2, List.filter_append, List.map_append, e2]
        simp [List.filter_cons, c]
    · rintro H2 ⟨s2, e2⟩
      rw [List.length_map, List.take_length] at e2
      refine ⟨(by show 0 ≤ sizeLine; decide), fun l nl => ?_⟩
      have s3 : Same H2 (upd H2 l (.lst [])) := same_new nl
      refine ⟨.list ((ns.filter (sayB bs)).map PyData.int), .list [], .lst (SqL.of (s3 _ _ e2)) (dpInts _), .lst (SqL.of upd_same) .nil, shInts _, shNil, _, rfl, ?_⟩
      rw [eqvNil]
      have s13 : Same H1 (upd H2 l (.lst [])) := s2.trans s3
      generalize (upd H2 l (.lst [])) = H3 at *
      have key : (!ns.any (sayB bs)) = decide (ns.filter (sayB bs) = []) := by
        rw [Bool.eq_iff_iff]; simp
      refine ite2 (fun z => ?_) (fun z => ?_)
      · have eD3 := s13 _ _ eD
        refine ⟨_, rfl, _, eD3, ?_, ?_, ds ++ [c], mss ++ [ns], ?_, ?_, ?_⟩
        · rw [List.length_map, hd.len, em]
          exact small1000 (Nat.le_trans (List.length_filter_le _ _) (by rw [List.length_take]; omega))
        · exact fun b o hb => by rw [upd_ne (ne_of_none hb nD)]; exact s13 _ _ (s1 _ _ hb)
        · rw [upd_same, List.map_append]; rfl
        · exact ((hd.same s13).snoc (same_tup s13 hc2)).lst eD3
        · rw [htk, List.filter_append, ← em, List.filter_cons, key, z]; rfl
      · refine ⟨s1.trans s13, ds, mss, s13 _ _ eD, hd.same s13, ?_⟩
        rw [htk, List.filter_append, ← em, List.filter_cons, key, if_neg z]; simp
  · rintro H1 ⟨s1, ds, mss, eD, hd, em⟩
    rw [List.length_map, hc.len, List.take_length] at em
    refine ⟨(by show 0 ≤ sizeLine; decide), fun l nl => ?_⟩
    have s2 : Same H1 (upd H1 l (.lst [])) := same_new nl
    refine ⟨.list (mss.map fun (ns : List Int) => PyData.tuple (ns.map PyData.int)), .list [], .lst (SqL.of (s2 _ _ eD)) (hd.same s2).dp, .lst (SqL.of upd_same) .nil, shTups _, shNil, ?_⟩
    have key : PyData.eqv (.list (mss.map fun (ns : List Int) => PyData.tuple (ns.map PyData.int))) (.list []) = nss.all fun ns => ns.any (sayB bs) := by
      rw [eqvNilD, em, Bool.eq_iff_iff]; simp
    rw [key]
    exact q _ (s1.trans s2)

/-! ### meeting, met -/
def spMtg (K : PySem.W.Frag) : Sp := fun vs H Q _ => ∃ (a b : Addr) (x : V) (d : PyData) (one other : List Int), vs = [.ref a, .ref b, x] ∧ SqT K H a (one.map V.int) ∧ SqT K H b (other.map V.int) ∧ Dp K H x d ∧ one.length + other.length < 64 ∧ (∀ n ∈ one ++ other, n ≠ 0) ∧
  ∀ (v : V) (H' : Hp) (r : Option (List Int)), Same H H' → IsMet one other d r → OptT H r v H' → Q v H'
theorem ok_mtg {f : Addr} {fd : FuncData} {k : Nat} (F : Fun K "meeting" "meeting" s_meeting f fd) (D_is_whole : Df P w K mg base k "is_whole" ["thing"] (spWh K)) (D_clause_of : Df P w K mg base k "clause_of" ["signs"] (spClOf K)) (m_abs : mg "abs" = none) :
    FnOk P w K mg base CX0 (k + 1) f fd ["one", "other", "thing"] (spMtg K) := by
  refine F.ok sc_meeting (fun vs H Q E h => ?_) (fun cdv A outer s H vs Q E hr h => ?_)
  · obtain ⟨a, b, x, d, one, other, rfl, _⟩ := h
    rfl
  obtain ⟨a, b, x, d, one, other, rfl, ha, hb, hd, hl, h0, q⟩ := h
  refine ⟨_, (pss_cons (ps_if (PW.pt (pw_or (pt_not (pt_val (pe_df D_is_whole hr (by rfl) (pa_cons (pv 2) pa_nil)))) (pw_or (pt_cmpR op_lt (pv 2) pe_int (nomark _)) (pw_or (pt_cmpR op_notInI (pv 2) (pv 0) rfl) (pw_or1 (pt_cmpR op_notInI (pe_un un_neg (pv 2)) (pv 1) rfl))))))
       (pss_one (ps_ret pe_non))
       pss_nil)
       (pss_one (ps_ret (pe_df D_clause_of hr (by rfl) (pa_cons (pe_lc (own := [("sign", 3)]) (g := gName 3) (by rfl) sc_meeting.nd (pi_tup (pe_op op_catK (pv 0) (pv 1))) (blkOk_by (by kernel_rfl)) (fun _ _ _ _ _ => (pg_name (i := 3) sc_meeting.nd rfl (.inl rfl))) (fun _ _ _ _ _ => (pts_one (pt_cmpR op_ne (pe_callB call_abs (by rfl) m_abs (by decide +kernel) (pa_cons (pv 3) pa_nil)) (pv 2) (nomark _)))) (fun _ _ _ _ _ => (pv 3))) pa_nil))))), ?_⟩
  refine ⟨_, rfl, x, d, rfl, hd, _, rfl, ?_⟩
  have bad : (∀ t, d = .int t → 1 ≤ t → True → Mt one other t → Both (lft one other t)) → Q .non H := fun z => q _ _ none (Same.refl H) (.inl ⟨rfl, z⟩) (.inl ⟨rfl, rfl⟩)
  cases d with
  | int t =>
    cases hd
    refine iteF ⟨_, rfl, _, _, rfl, rfl, _, rfl, ite2 (fun c => ?_) (fun c => ?_)⟩
    · refine bad fun t' e h1 => ?_
      cases e
      have : t < 1 := of_decide_eq_true c
      omega
    have c1 : 1 ≤ t := by
      have : ¬ t < 1 := of_decide_eq_false (Bool.eq_false_iff.mpr c)
      omega
    have c' : 1 ≤ t ∧ True := ⟨c1, trivial⟩
    refine ⟨_, rfl, _, rfl, a, _, one, rfl, rfl, .inr ha, _, rfl, ite2 (fun z => ?_) (fun z => ?_)⟩
    · refine bad fun t' e _ _ m => ?_
      cases e
      have z' : ¬ t ∈ one := by simpa using z
      exact absurd m.1 z'
    have h1 : t ∈ one := by simpa using z
    refine ⟨_, rfl, _, rfl, _, rfl, b, _, other, rfl, rfl, .inr hb, _, rfl, ite2 (fun z => ?_) (fun z => ?_)⟩
    · refine bad fun t' e _ _ m => ?_
      cases e
      have z' : ¬ -t ∈ other := by simpa using z
      exact absurd m.2 z'
    have h2 : -t ∈ other := by simpa using z
    have hln : ((one ++ other).map V.int).length ≤ sizeLine := by rw [List.length_map, List.length_append]; exact small (by omega)
    refine ⟨_, rfl, _, rfl, a, b, _, _, rfl, rfl, ha, hb, by rw [List.map_append, List.length_append] at hln; exact hln, fun r H1 s1 hr1 => ?_⟩
    rw [← List.map_append] at hr1
    refine ⟨r, rfl, ⟨_, hr1⟩, fun D nD => lc_tup (xs := (one ++ other).map V.int) (fun i H' => Same H1 H' ∧ H' D = some (.lst ((((one ++ other).take i).filter fun n => !decide (ab n = t)).map V.int))) ⟨same_new nD, upd_same⟩ (fun i H' _ h => same_tup h.1 hr1) ?_ ?_⟩
    · rintro i x H2 ex ⟨s2, e2⟩
      obtain ⟨n, rfl, hi, htk⟩ := at_int ex
      have dd : decide (V.int (ab n) = V.int t) = decide (ab n = t) := dec_V _ _
      refine ⟨rfl, _, rfl, _, rfl, _, rfl, rfl, _, rfl, ite2 (fun c => ?_) (fun c => ?_)⟩
      · refine ⟨_, rfl, _, e2, ?_, ?_, ?_⟩
        · rw [List.length_map]
          exact small1000 (Nat.le_trans (List.length_filter_le _ _) (by rw [List.length_take, List.length_append]; omega))
        · exact fun b o hb => by rw [upd_ne (ne_of_none hb nD)]; exact s2 _ _ hb
        · have c' : (!decide (ab n = t)) = true := by rw [← dd]; exact c
          rw [upd_same, htk, List.filter_append, List.map_append, List.filter_cons, if_pos c']; rfl
      · have c' : ¬ (!decide (ab n = t)) = true := by rw [← dd]; exact c
        refine ⟨s2, ?_⟩
        rw [htk, List.filter_append, List.map_append, e2, List.filter_cons, if_neg c']; simp
    · rintro H2 ⟨s2, e2⟩
      rw [List.length_map, List.take_length] at e2
      have e3 : H2 D = some (.lst ((lft one other t).map V.int)) := e2
      have hll : (lft one other t).length < 64 := Nat.lt_of_le_of_lt (List.length_filter_le _ _) (by rw [List.length_append]; exact hl)
      refine ⟨D, lft one other t, rfl, .inl (SqL.of e3), hll, fun n hn => h0 n (List.mem_filter.mp hn).1, fun v H3 s3 r3 => ?_⟩
      have sA : Same H H3 := s1.trans (s2.trans s3)
      rcases r3 with ⟨rfl, bo⟩ | ⟨p, cs, rfl, np, ep, nb, cl⟩
      · exact q _ _ none sA (.inl ⟨rfl, fun t' e _ _ _ => by cases e; exact bo⟩) (.inl ⟨rfl, rfl⟩)
      · exact q _ _ (some cs) sA (.inr ⟨t, cs, rfl, c'.1, c'.2, rfl, ⟨h1, h2⟩, nb, cl⟩) (.inr ⟨p, cs, rfl, rfl, (s1.trans s2).free np, ep⟩)
  | bool b => exact bad fun t e => nomatch e
  | none => exact bad fun t e => nomatch e
  | str _ => exact bad fun t e => nomatch e
  | list _ => exact bad fun t e => nomatch e
  | tuple _ => exact bad fun t e => nomatch e
  | dict _ => exact bad fun t e => nomatch e
def spMet (C : Addr) (K : PySem.W.Frag) : Sp := fun vs H Q E => ∃ (a b : Addr) (x : V) (d : PyData) (one other : List Int), vs = [.ref a, .ref b, x] ∧ SqT K H a (one.map V.int) ∧ SqT K H b (other.map V.int) ∧ Dp K H x d ∧ one.length + other.length < 64 ∧ (∀ n ∈ one ++ other, n ≠ 0) ∧
  (∀ (p : Addr) (cs : List Int) (H' : Hp), Same H H' → IsMet one other d (some cs) → H p = none → H' p = some (.tup (cs.map V.int)) → Q (.ref p) H') ∧
  (∀ (H' : Hp) (dd : Addr), Same H H' → IsMet one other d none → H dd = none → H' dd = some (.xd [("thing", x)]) → E (.ref C) (some dd) H')
theorem ok_met {f C : Addr} {fd : FuncData} {k : Nat} (F : Fun K "met" "met" s_met f fd) (D_meeting : Df P w K mg base (k + 1) "meeting" ["one", "other", "thing"] (spMtg K)) (E_NoMeeting : Er1 P w K mg base k "NoMeeting" "thing" C) :
    FnOk P w K mg base (L2.CX P w) (k + 2) f fd ["one", "other", "thing"] (spMet C K) := by
  refine F.okX sc_met (fun vs H Q E h => ?_) (fun cdv A outer s H vs Q E hr h => ?_)
  · obtain ⟨a, b, x, d, one, other, rfl, _⟩ := h
    rfl
  obtain ⟨a, b, x, d, one, other, rfl, ha, hb, hd, hl, h0, q, qx⟩ := h
  refine ⟨_, (pss_cons (ps_set (i := 3) sc_met.nd rfl (.inl rfl) (pe_df D_meeting hr (by rfl) (pa_cons (pv 0) (pa_cons (pv 1) (pa_cons (pv 2) pa_nil)))))
       (pss_cons (ps_if (pt_cmpR op_isN (pv 3) pe_non (nomark _))
       (pss_one (ps_raise1 E_NoMeeting rfl hr (takes_of rfl rfl rfl rfl) (by rfl) (pa_cons (pv 2) pa_nil)))
       pss_nil)
       (pss_one (ps_ret (pv 3))))), ?_⟩
  refine ⟨_, rfl, _, rfl, _, rfl, a, b, x, d, one, other, rfl, ha, hb, hd, hl, h0, fun v H' r s1 im ot => ?_⟩
  rcases ot with ⟨rfl, rfl⟩ | ⟨p, cs, rfl, rfl, np, ep⟩
  · refine ⟨_, rfl, rfl, _, rfl, iteT ?_⟩
    exact ⟨_, rfl, _, rfl, fun dd nd => qx _ dd (s1.trans (same_new nd)) im (s1.free nd) upd_same⟩
  · exact ⟨_, rfl, rfl, _, rfl, iteF ⟨_, rfl, q p cs H' s1 im np ep⟩⟩

/-! ### the law's own meeting -/
def wholeB : PyData → Bool
  | .int _ => true
  | _ => false
def spWhole (K : PySem.W.Frag) : Sp := fun vs H Q _ => ∃ (x : V) (d : PyData), vs = [x] ∧ Dp K H x d ∧ Q (.bl (wholeB d)) H
theorem ok_whole {f : Addr} {fd : FuncData} {k : Nat} (F : Fun K "_law_whole" "_law_whole" s_law_whole f fd) (m_isinstance : mg "isinstance" = none) (m_int : mg "int" = none) (m_bool : mg "bool" = none) :
    FnOk P w K mg base CX0 (k + 1) f fd ["_law_thing"] (spWhole K) := by
  refine F.ok sc_law_whole (fun vs H Q E h => ?_) (fun cdv A outer s H vs Q E hr h => ?_)
  · obtain ⟨x, d, rfl, _⟩ := h
    rfl
  obtain ⟨x, d, rfl, hd, q⟩ := h
  refine ⟨_, (pss_one (ps_ret (pe_and (pe_callB call_isi (by rfl) m_isinstance (by decide +kernel) (pa_cons (pv 0) (pa_cons (pe_bltn (v := .ty "int") (by rfl) m_int (by decide +kernel) rfl) pa_nil))) (pe_one (pe_not (pe_callB call_isi (by rfl) m_isinstance (by decide +kernel) (pa_cons (pv 0) (pa_cons (pe_bltn (v := .ty "bool") (by rfl) m_bool (by decide +kernel) rfl) pa_nil)))))))), ?_⟩
  refine ⟨_, rfl, _, _, _, _, _, rfl, .ty _, dpTy hd, kit_ty (kit_int d), _, rfl, ?_⟩
  cases d with
  | int i => exact iteT ⟨_, rfl, _, _, _, _, _, rfl, .ty _, dpTy hd, kit_ty (kit_bool (.int i)), _, rfl, q⟩
  | bool b => exact iteT ⟨_, rfl, _, _, _, _, _, rfl, .ty _, dpTy hd, kit_ty (kit_bool (.bool b)), _, rfl, q⟩
  | none => exact iteF q
  | str _ => exact iteF q
  | list _ => exact iteF q
  | tuple _ => exact iteF q
  | dict _ => exact iteF q
def spLMeet (K : PySem.W.Frag) : Sp := fun vs H Q _ => ∃ (a b : Addr) (t : Int) (one other : List Int), vs = [.ref a, .ref b, .int t] ∧ SqT K H a (one.map V.int) ∧ SqT K H b (other.map V.int) ∧ 1 ≤ t ∧ one.length < 64 ∧ other.length < 64 ∧ Up one ∧ Up other ∧ (∀ n ∈ one ++ other, n ≠ 0 ∧ n.natAbs ≤ 60) ∧
  ∀ (v : V) (H' : Hp) (r : Option (List Int)), Same H H' → IsMet one other (.int t) r → OptT H r v H' → Q v H'
theorem ok_lmeet {f : Addr} {fd : FuncData} {k : Nat} (F : Fun K "_law_meet" "_law_meet" s_law_meet f fd) (m_abs : mg "abs" = none) (m_tuple : mg "tuple" = none) (m_sorted : mg "sorted" = none) :
    FnOk P w K mg base CX0 (k + 1) f fd ["_law_one", "_law_other", "_law_thing"] (spLMeet K) := by
  refine F.ok sc_law_meet (fun vs H Q E h => ?_) (fun cdv A outer s H vs Q E hr h => ?_)
  · obtain ⟨a, b, t, one, other, rfl, _⟩ := h
    rfl
  obtain ⟨a, b, t, one, other, rfl, ha, hb, ht, l1, l2, u1, u2, h0, q⟩ := h
  refine ⟨_, (pss_cons (ps_if (PW.pt (pw_or (pt_cmpR op_notInI (pv 2) (pv 0) rfl) (pw_or1 (pt_cmpR op_notInI (pe_op op_sub pe_int (pv 2)) (pv 1) rfl))))
       (pss_one (ps_ret pe_non))
       pss_nil)
       (pss_cons (ps_set (i := 3) sc_law_meet.nd rfl (.inr rfl) (pe_lc (own := [("_law_sign_here", 4)]) (g := gName 4) (by rfl) sc_law_meet.nd (pi_tup (pv 0)) (blkOk_by (by kernel_rfl)) (fun _ _ _ _ _ => (pg_name (i := 4) sc_law_meet.nd rfl (.inl rfl))) (fun _ _ _ _ _ => (pts_one (pt_cmpR op_ne (pv 4) (pv 2) (nomark _)))) (fun _ _ _ _ _ => (pv 4))))
       (pss_cons (ps_for PassesOwn.never rfl (pi_tup (pv 1)) (pg_name (i := 4) sc_law_meet.nd rfl (.inl rfl))
       (pss_one (ps_if (PW.pt (pw_and (pt_cmpR op_ne (pv 4) (pe_op op_sub pe_int (pv 2)) (nomark _)) (pw_and1 (pt_cmpR op_notInI (pv 4) (pv 3) rfl))))
       (pss_one (ps_expr (pe_bm PySem.F.plainAttrs_list PySem.F.slot_list_append PySem.F.type_list_append mt_append (pv 3) (pa_cons (pv 4) pa_nil))))
       pss_nil)))
       (pss_cons (ps_if (pt_cmpR (op_neD hr.units) (pe_lc (own := [("_law_sign_here", 4)]) (g := gName 4) (by rfl) sc_law_meet.nd (pi_list (pv 3)) (blkOk_by (by kernel_rfl)) (fun _ _ _ _ _ => (pg_name (i := 4) sc_law_meet.nd rfl (.inl rfl))) (fun _ _ _ _ _ => (pts_one (pt_cmpR (op_inI' (K := K) rfl) (pe_op op_sub pe_int (pv 4)) (pv 3) rfl))) (fun _ _ _ _ _ => (pv 4))) (pe_lst pa_nil) (nomark _))
       (pss_one (ps_ret pe_non))
       pss_nil)
       (pss_one (ps_ret (pe_callTy call_tuple_of (by rfl) m_tuple (by decide +kernel) (pa_cons (pe_lc (own := [("_law_at", 5), ("_law_sign_here", 4)]) (g := gTup K 2 (gCons (gName 5) (gCons (gName 4) gNil))) (tt := tYes) (by rfl) sc_law_meet.nd (pi_list (pe_callB cr_sortedPO (by rfl) m_sorted (by decide +kernel) (pa_cons (pe_lc (own := [("_law_sign_here", 4)]) (g := gName 4) (tt := tYes) (by rfl) sc_law_meet.nd (pi_list (pv 3)) (blkOk_by (by kernel_rfl)) (fun _ _ _ _ _ => (pg_name (i := 4) sc_law_meet.nd rfl (.inl rfl))) (fun _ _ _ _ _ => pts_nil) (fun _ _ _ _ _ => (pe_tup (pa_cons (pe_callB call_abs (by rfl) m_abs (by decide +kernel) (pa_cons (pv 4) pa_nil)) (pa_cons (pv 4) pa_nil))))) pa_nil))) (blkOk_by (by kernel_rfl)) (fun _ _ _ _ _ => (pg_tup' (K := K) rfl rfl (pgs_cons (pg_name (i := 5) sc_law_meet.nd rfl (.inl rfl)) (pgs_cons (pg_name (i := 4) sc_law_meet.nd rfl (.inl rfl)) pgs_nil)))) (fun _ _ _ _ _ => pts_nil) (fun _ _ _ _ _ => (pv 4))) pa_nil)))))))), ?_⟩
  have bad : ∀ H', Same H H' → (Mt one other t → Both (lft one other t)) → Q .non H' := fun H' s z => q _ _ none s (.inl ⟨rfl, fun t' e _ _ => by cases e; exact z⟩) (.inl ⟨rfl, rfl⟩)
  refine ⟨_, rfl, _, rfl, a, _, one, rfl, rfl, .inr ha, _, rfl, ite2 (fun z => ?_) (fun z => ?_)⟩
  · have z' : ¬ t ∈ one := by simpa using z
    exact bad H (Same.refl H) fun m => absurd m.1 z'
  have h1 : t ∈ one := by simpa using z
  refine ⟨_, rfl, _, _, rfl, rfl, _, rfl, b, _, other, rfl, rfl, .inr hb, _, rfl, ite2 (fun z => ?_) (fun z => ?_)⟩
  · have z' : ¬ 0 - t ∈ other := by simpa using z
    exact bad H (Same.refl H) fun m => absurd (by rw [Int.zero_sub]; exact m.2) z'
  have h2 : 0 - t ∈ other := by simpa using z
  have t60 : True := trivial
  have hmt : Mt one other t := ⟨h1, by rw [Int.zero_sub] at h2; exact h2⟩
  refine ⟨_, rfl, a, rfl, ⟨_, ha⟩, fun D nD => lc_tup (xs := one.map V.int) (fun i H' => Same H H' ∧ H' D = some (.lst (((one.take i).filter fun n => !decide (n = t)).map V.int))) ⟨same_new nD, upd_same⟩ (fun i H' _ h => same_tup h.1 ha) ?_ ?_⟩
  · rintro i x H2 ex ⟨s2, e2⟩
    obtain ⟨n, rfl, hi, htk⟩ := at_int ex
    have dd : decide (V.int n = V.int t) = decide (n = t) := dec_V _ _
    refine ⟨rfl, _, rfl, _, rfl, rfl, _, rfl, ite2 (fun c => ?_) (fun c => ?_)⟩
    · refine ⟨_, rfl, _, e2, ?_, ?_, ?_⟩
      · rw [List.length_map]
        exact small1000 (Nat.le_trans (List.length_filter_le _ _) (by rw [List.length_take]; omega))
      · exact fun b o hb => by rw [upd_ne (ne_of_none hb nD)]; exact s2 _ _ hb
      · have c' : (!decide (n = t)) = true := by rw [← dd]; exact c
        rw [upd_same, htk, List.filter_append, List.map_append, List.filter_cons, if_pos c']; rfl
    · have c' : ¬ (!decide (n = t)) = true := by rw [← dd]; exact c
      refine ⟨s2, ?_⟩
      rw [htk, List.filter_append, List.map_append, e2, List.filter_cons, if_neg c']; simp
  rintro H1 ⟨s1, e1⟩
  rw [List.length_map, List.take_length] at e1
  -- the other's signs
  refine ⟨_, rfl, b, rfl, ⟨_, same_tup s1 hb⟩, for_tup (xs := other.map V.int) (fun i σ' H' => ∃ (y4 y5 : Option V) (L : List Int), σ' = [some (.ref a), some (.ref b), some (.int t), some (.ref D), y4, y5] ∧ Same H H' ∧ H' D = some (.lst (L.map V.int)) ∧ L.Nodup ∧ (∀ m, m ∈ L ↔ (m ∈ one ∧ m ≠ t) ∨ (m ∈ other.take i ∧ m ≠ 0 - t)) ∧ L.length ≤ 64 + i) ?_ ?_ ?_ ?_⟩
  · refine ⟨_, _, one.filter fun n => !decide (n = t), rfl, s1, e1, (up_nd u1).filter _, fun m => ?_, Nat.le_trans (List.length_filter_le _ _) (by omega)⟩
    rw [List.mem_filter]; simp
  · rintro i σ' H' _ ⟨y4, y5, L, rfl, s2, _⟩
    exact same_tup s2 hb
  · rintro i x σ' H2 ex ⟨y4, y5, L, rfl, s2, e2, nd, mem, len⟩
    obtain ⟨n, rfl, hi, htk⟩ := at_int ex
    have hi64 : i < 64 := by
      have := (List.getElem?_eq_some_iff.mp ex).1
      rw [List.length_map] at this; omega
    have dd : decide (V.int n = V.int (0 - t)) = decide (n = 0 - t) := dec_V _ _
    refine ⟨_, rfl, _, rfl, _, _, rfl, rfl, rfl, _, rfl, ite2 (fun c => ?_) (fun c => ?_)⟩
    · have c1 : n ≠ 0 - t := by rw [dd] at c; simpa using c
      refine ⟨_, rfl, _, rfl, D, _, L, rfl, rfl, .inl (SqL.of e2), _, rfl, ite2 (fun z => ?_) (fun z => ?_)⟩
      · have z1 : ¬ n ∈ L := by simpa using z
        refine ⟨_, rfl, .inl ⟨rfl, _, SqL.of e2⟩, _, rfl, D, _, _, rfl, rfl, e2, ?_, _, _, L ++ [n], rfl, ?_, ?_, ?_, fun m => ?_, ?_⟩
        · rw [List.length_map]; exact small1000 (by omega)
        · exact fun b o hb => by rw [upd_ne (ne_of_none hb nD)]; exact s2 _ _ hb
        · rw [upd_same, List.map_append]; rfl
        · rw [List.nodup_append]
          exact ⟨nd, by simp, fun x hx y hy => by rw [List.mem_singleton] at hy; subst hy; exact fun e => z1 (e ▸ hx)⟩
        · rw [List.mem_append, List.mem_singleton, mem, htk, List.mem_append, List.mem_singleton]
          constructor
          · rintro ((h | h) | h)
            · exact .inl h
            · exact .inr ⟨.inl h.1, h.2⟩
            · exact .inr ⟨.inr h, by rw [h]; exact c1⟩
          · rintro (h | ⟨h | h, h'⟩)
            · exact .inl (.inl h)
            · exact .inl (.inr ⟨h, h'⟩)
            · exact .inr h
        · rw [List.length_append]; simp; omega
      · have z1 : n ∈ L := by simpa using z
        refine ⟨_, _, L, rfl, s2, e2, nd, fun m => ?_, by omega⟩
        rw [htk, List.mem_append, List.mem_singleton]
        constructor
        · intro h
          rcases (mem m).mp h with h | h
          · exact .inl h
          · exact .inr ⟨.inl h.1, h.2⟩
        · rintro (h | ⟨h | h, h'⟩)
          · exact (mem m).mpr (.inl h)
          · exact (mem m).mpr (.inr ⟨h, h'⟩)
          · rw [h]; exact z1
    · have c1 : n = 0 - t := by rw [dd] at c; simpa using c
      refine ⟨_, _, L, rfl, s2, e2, nd, fun m => ?_, by omega⟩
      rw [mem, htk, List.mem_append, List.mem_singleton]
      constructor
      · rintro (h | h)
        · exact .inl h
        · exact .inr ⟨.inl h.1, h.2⟩
      · rintro (h | ⟨h | h, h'⟩)
        · exact .inl h
        · exact .inr ⟨h, h'⟩
        · exact absurd (h.trans c1) h'
  rintro σ' H2 ⟨y4, y5, L, rfl, s2, e2, nd, mem, len⟩
  rw [List.length_map] at mem len
  rw [List.take_length] at mem
  have memL := met_left u1 u2 ht hmt mem
  -- both signs of a thing
  refine ⟨_, rfl, D, rfl, ⟨_, SqL.of e2⟩, fun D2 nD2 => lc_list (xs := L.map V.int) (fun i H' => Same H2 H' ∧ H' D2 = some (.lst (((L.take i).filter fun n => decide (0 - n ∈ L)).map V.int))) ⟨same_new nD2, upd_same⟩ (fun i H' _ h => SqL.of (h.1 _ _ e2)) ?_ ?_⟩
  · rintro i x H3 ex ⟨s3, e3⟩
    obtain ⟨n, rfl, hi, htk⟩ := at_int ex
    refine ⟨rfl, _, rfl, _, _, rfl, rfl, _, rfl, D, _, L, rfl, rfl, .inl (SqL.of (s3 _ _ e2)), _, rfl, ite2 (fun c => ?_) (fun c => ?_)⟩
    · refine ⟨_, rfl, _, e3, ?_, ?_, ?_⟩
      · rw [List.length_map]
        exact small1000 (Nat.le_trans (List.length_filter_le _ _) (by rw [List.length_take]; omega))
      · exact fun b o hb => by rw [upd_ne (ne_of_none hb nD2)]; exact s3 _ _ hb
      · have c' : decide (0 - n ∈ L) = true := c
        rw [upd_same, htk, List.filter_append, List.map_append, List.filter_cons, if_pos c']; rfl
    · have c' : ¬ decide (0 - n ∈ L) = true := c
      refine ⟨s3, ?_⟩
      rw [htk, List.filter_append, List.map_append, e3, List.filter_cons, if_neg c']; simp
  rintro H3 ⟨s3, e3⟩
  rw [List.length_map, List.take_length] at e3
  refine ⟨(by show 0 ≤ sizeLine; decide), fun l nl => ?_⟩
  have s4 : Same H3 (upd H3 l (.lst [])) := same_new nl
  refine ⟨.list ((L.filter fun n => decide (0 - n ∈ L)).map PyData.int), .list [], .lst (SqL.of (s4 _ _ e3)) (dpInts _), .lst (SqL.of upd_same) .nil, shInts _, shNil, _, rfl, ?_⟩
  rw [eqvNil]
  have e4 := s4 _ _ (s3 _ _ e2)
  have sA : Same H (upd H3 l (.lst [])) := s2.trans (s3.trans s4)
  generalize (upd H3 l (.lst [])) = HA at *
  refine ite2 (fun c => ?_) (fun c => ?_)
  · refine bad HA sA fun _ => (both_congr memL).mp ?_
    have c' : L.filter (fun n => decide (0 - n ∈ L)) ≠ [] := fun z => by rw [z] at c; exact absurd c (by decide)
    obtain ⟨n, hn⟩ := List.exists_mem_of_ne_nil _ c'
    rw [List.mem_filter] at hn
    have := of_decide_eq_true hn.2
    exact ⟨n, hn.1, by rw [Int.zero_sub] at this; exact this⟩
  have nb : ¬ Both L := by
    rintro ⟨n, h1, h2⟩
    apply c
    have : L.filter (fun n => decide (0 - n ∈ L)) ≠ [] := List.ne_nil_of_mem (List.mem_filter.mpr ⟨h1, decide_eq_true (by rw [Int.zero_sub]; exact h2)⟩)
    rw [decide_eq_false this]; rfl
  have dj : L.Pairwise fun a b => ab a ≠ ab b := by
    refine (nd.imp_of_mem ?_)
    intro x y hx hy hne e
    rw [ab_nat, ab_nat] at e
    rcases natAbs_eq (a := x) (b := y) (by omega) with z | z
    · exact hne z
    · exact nb ⟨y, hy, by rw [← z]; exact hx⟩
  exact srt_read (K := K) (m := 3) (i := 4) (j := 5) (D := D) (L := L) rfl (fun _ => rfl) (fun _ => rfl) (fun _ _ => rfl) (fun _ _ => rfl) e4 (by omega) dj fun r cs H' s r0 er cl =>
    q _ _ (some cs) (sA.trans s) (.inr ⟨t, cs, rfl, ht, t60, rfl, hmt, fun z => nb ((both_congr memL).mpr z), cl.congr memL⟩) (.inr ⟨r, cs, rfl, rfl, sA.free r0, er⟩)

end
end K03
namespace K03
open PySem PySem.Spec PyProof.Rows L2 KL
section
variable {P : Program} {w : World} {K : PySem.W.Frag} {mg : Str → Option Value} {base : Heap}
/-! ### what met tells, and what is due -/
def TRes (H : Hp) (r : Option (List Int)) (x : V) (l : Addr) (H' : Hp) : Prop := (r = none ∧ H' l = some (.lst [.str "no", x])) ∨ ∃ p cs, r = some cs ∧ H' l = some (.lst [.str "met", .ref p]) ∧ H p = none ∧ H' p = some (.tup (cs.map V.int))
def spTold (K : PySem.W.Frag) : Sp := fun vs H Q _ => ∃ (a b : Addr) (x : V) (d : PyData) (one other : List Int), vs = [.ref a, .ref b, x] ∧ SqT K H a (one.map V.int) ∧ SqT K H b (other.map V.int) ∧ Dp K H x d ∧ one.length + other.length < 64 ∧ (∀ n ∈ one ++ other, n ≠ 0) ∧
  ∀ (l : Addr) (H' : Hp) (r : Option (List Int)), Same H H' → IsMet one other d r → H l = none → TRes H r x l H' → Q (.ref l) H'
theorem ok_told {f C_NoMeeting C_KeptError C_NoRows C_NoClause : Addr} {fd : FuncData} {k : Nat} (F : Fun K "_law_told" "_law_told" s_law_told f fd) (D_met : Dx P w K mg base k "met" ["one", "other", "thing"] (spMet C_NoMeeting K))
    (g_KeptError : mg "KeptError" = some (.ref C_KeptError)) (g_NoMeeting : mg "NoMeeting" = some (.ref C_NoMeeting)) (g_NoRows : mg "NoRows" = some (.ref C_NoRows)) (g_NoClause : mg "NoClause" = some (.ref C_NoClause)) (m_isinstance : mg "isinstance" = none) (m_ValueError : mg "ValueError" = none)
    (x1 : PySem.W.exmOne K (.ref C_NoMeeting) (.ref C_KeptError) = some true) (i1 : PySem.W.kitOne K (.ref C_NoMeeting) (.ref C_NoMeeting) = some true) (i2 : PySem.W.kitAny K (.ref C_NoMeeting) [.ref C_NoClause, .ref C_NoRows] = some false)
    (i3 : PySem.W.kitOne K (.ref C_NoMeeting) (.type "ValueError") = some true) (T1 : ExcC K C_NoMeeting) (T2 : XfC K C_NoMeeting) (hno : PySem.W.findIn K (.ref C_NoMeeting) "thing" = some none) :
    FnOk P w K mg base CX0 (k + 1) f fd ["_law_one", "_law_other", "_law_thing"] (spTold K) := by
  refine F.ok sc_law_told (fun vs H Q E h => ?_) (fun cdv A outer s H vs Q E hr h => ?_)
  · obtain ⟨a, b, x, d, one, other, rfl, _⟩ := h
    rfl
  obtain ⟨a, b, x, d, one, other, rfl, ha, hb, hd, hl, h0, q⟩ := h
  refine ⟨_, (pss_cons (ps_set (i := 3) sc_law_told.nd rfl (.inl rfl) pe_non)
       (pss_cons (ps_set (i := 4) sc_law_told.nd rfl (.inl rfl) pe_non)
       (pss_cons (ps_try_keep (i := 5) rfl rfl rfl sc_law_told.nd rfl rfl ⟨by rfl, by decide, .inl g_KeptError⟩ L2.takes0
       (fun W pn xe tk _ => (pss_one (ps_set (i := 4) sc_law_told.nd rfl (.inl rfl) (pe_dx D_met hr (by rfl) (fun σ => passAt tk σ) (pa_cons (pv 0) (pa_cons (pv 1) (pa_cons (pv 2) pa_nil)))))))
       (fun a oe cls d pn hz hf => (pss_one (ps_set (i := 3) sc_law_told.nd rfl (.inl rfl) (pv 5)))))
       (pss_cons (ps_if (pt_cmpR op_isN (pv 3) pe_non (nomark _))
       (pss_one (ps_ret (pe_lst (pa_cons pe_str (pa_cons (pv 4) pa_nil)))))
       pss_nil)
       (pss_cons (ps_if (PW.pt (pw_or (pt_not (pt_val (pe_callB call_isX (by rfl) m_isinstance (by decide +kernel) (pa_cons (pv 3) (pa_cons (pe_glob (v := .ref C_NoMeeting) (by rfl) g_NoMeeting rfl) pa_nil))))) (pw_or (pt_val (pe_callB call_isXT (by rfl) m_isinstance (by decide +kernel) (pa_cons (pv 3) (pa_cons (pe_tup (pa_cons (pe_glob (v := .ref C_NoClause) (by rfl) g_NoClause rfl) (pa_cons (pe_glob (v := .ref C_NoRows) (by rfl) g_NoRows rfl) pa_nil))) pa_nil)))) (pw_or1 (pt_not (pt_val (pe_callB call_isX (by rfl) m_isinstance (by decide +kernel) (pa_cons (pv 3) (pa_cons (pe_bltn (v := .ty "ValueError") (by rfl) m_ValueError (by decide +kernel) rfl) pa_nil)))))))))
       (pss_one (ps_ret pe_str))
       pss_nil)
       (pss_one (ps_ret (pe_lst (pa_cons pe_str (pa_cons (pe_xk (pv 3)) pa_nil)))))))))), ?_⟩
  refine ⟨_, rfl, _, rfl, _, rfl, a, b, x, d, one, other, rfl, ha, hb, hd, hl, h0, fun p cs H1 s1 im np ep => ?_, fun H1 dd s1 im nd ed => ?_⟩
  · refine ⟨_, rfl, rfl, _, rfl, iteT ?_⟩
    refine ⟨_, rfl, (by show 2 ≤ sizeLine; decide), fun l nl => ?_⟩
    exact q l _ (some cs) (s1.trans (same_new nl)) im (s1.free nl) (.inr ⟨p, cs, rfl, upd_same, np, (same_new nl) _ _ ep⟩)
  · refine ⟨true, x1, fun _ e ne => ?_, fun z => nomatch z⟩
    have s2 : Same H1 (upd H1 e (XO e (.ref C_NoMeeting) (some dd))) := same_new ne
    have ee : (upd H1 e (XO e (.ref C_NoMeeting) (some dd))) e = some (XO e (.ref C_NoMeeting) (some dd)) := upd_same
    have ed2 := s2 _ _ ed
    have sA := s1.trans s2
    refine ⟨_, rfl, _, rfl, rfl, _, rfl, iteF ?_⟩
    generalize (upd H1 e (XO e (.ref C_NoMeeting) (some dd))) = H2 at *
    refine ⟨_, rfl, e, C_NoMeeting, some dd, _, _, true, rfl, ee, fun z hz => by cases hz; exact ⟨_, ed2⟩, .own _, T1, i1, _, rfl, iteF ?_⟩
    refine ⟨_, rfl, (by show 2 ≤ sizeLine; decide), fun tp ntp => ?_⟩
    have s3 : Same H2 (upd H2 tp (.tup [.ref C_NoClause, .ref C_NoRows])) := same_new ntp
    refine ⟨e, C_NoMeeting, some dd, tp, _, _, false, rfl, s3 _ _ ee, fun z hz => by cases hz; exact ⟨_, s3 _ _ ed2⟩, upd_same, .cons (.own _) (.cons (.own _) .nil), T1, i2, _, rfl, iteF ?_⟩
    refine ⟨_, rfl, e, C_NoMeeting, some dd, _, _, true, rfl, s3 _ _ ee, fun z hz => by cases hz; exact ⟨_, s3 _ _ ed2⟩, .ty _, T1, i3, _, rfl, iteF ?_⟩
    refine ⟨_, rfl, e, C_NoMeeting, dd, _, x, rfl, s3 _ _ ee, T2, hno, s3 _ _ ed2, rfl, (by show 2 ≤ sizeLine; decide), fun l nl => ?_⟩
    exact q l _ none (sA.trans (s3.trans (same_new nl))) im ((sA.trans s3).free nl) (.inl ⟨rfl, upd_same⟩)
def spDue (K : PySem.W.Frag) : Sp := fun vs H Q _ => ∃ (a b : Addr) (x : V) (d : PyData) (one other : List Int), vs = [.ref a, .ref b, x] ∧ SqT K H a (one.map V.int) ∧ SqT K H b (other.map V.int) ∧ Dp K H x d ∧ one.length < 64 ∧ other.length < 64 ∧ Up one ∧ Up other ∧ (∀ n ∈ one ++ other, n ≠ 0 ∧ n.natAbs ≤ 60) ∧
  ∀ (l : Addr) (H' : Hp) (r : Option (List Int)), Same H H' → IsMet one other d r → H l = none → TRes H r x l H' → Q (.ref l) H'
theorem ok_due {f : Addr} {fd : FuncData} {k : Nat} (F : Fun K "_law_due" "_law_due" s_law_due f fd) (D_law_whole : Df P w K mg base k "_law_whole" ["_law_thing"] (spWhole K)) (D_law_meet : Df P w K mg base k "_law_meet" ["_law_one", "_law_other", "_law_thing"] (spLMeet K)) :
    FnOk P w K mg base CX0 (k + 1) f fd ["_law_one", "_law_other", "_law_thing"] (spDue K) := by
  refine F.ok sc_law_due (fun vs H Q E h => ?_) (fun cdv A outer s H vs Q E hr h => ?_)
  · obtain ⟨a, b, x, d, one, other, rfl, _⟩ := h
    rfl
  obtain ⟨a, b, x, d, one, other, rfl, ha, hb, hd, l1, l2, u1, u2, h0, q⟩ := h
  refine ⟨_, (pss_cons (ps_if (PW.pt (pw_or (pt_not (pt_val (pe_df D_law_whole hr (by rfl) (pa_cons (pv 2) pa_nil)))) (pw_or (pt_cmpR op_lt (pv 2) pe_int (nomark _)) (pw_or1 (pt_cmpR op_isN (pe_df D_law_meet hr (by rfl) (pa_cons (pv 0) (pa_cons (pv 1) (pa_cons (pv 2) pa_nil)))) pe_non (nomark _))))))
       (pss_one (ps_ret (pe_lst (pa_cons pe_str (pa_cons (pv 2) pa_nil)))))
       pss_nil)
       (pss_one (ps_ret (pe_lst (pa_cons pe_str (pa_cons (pe_df D_law_meet hr (by rfl) (pa_cons (pv 0) (pa_cons (pv 1) (pa_cons (pv 2) pa_nil)))) pa_nil)))))), ?_⟩
  have no : ∀ H1, Same H H1 → IsMet one other d none → tRet (tLst (tCons (tC (V.str "no")) (tCons (tVar 2) tNil))) { nx := fun x H' => Q V.non H', rt := Q } (L2.start ["_law_one", "_law_other", "_law_thing"] [V.ref a, V.ref b, x]) H1 := fun H1 s1 im =>
    ⟨_, rfl, (by show 2 ≤ sizeLine; decide), fun l nl => q l _ none (s1.trans (same_new nl)) im (s1.free nl) (.inl ⟨rfl, upd_same⟩)⟩
  refine ⟨_, rfl, x, d, rfl, hd, _, rfl, ?_⟩
  cases d with
  | int t =>
    cases hd
    refine iteF ⟨_, rfl, _, _, rfl, rfl, _, rfl, ite2 (fun c => ?_) (fun c => ?_)⟩
    · have c' : t < 1 := of_decide_eq_true c
      exact no H (Same.refl H) (.inl ⟨rfl, fun t' e h => by cases e; omega⟩)
    have t1 : 1 ≤ t := by
      have : ¬ t < 1 := fun z => c (decide_eq_true z)
      omega
    refine ⟨_, rfl, _, rfl, _, rfl, a, b, t, one, other, rfl, ha, hb, t1, l1, l2, u1, u2, h0, fun v H1 r s1 im ot => ?_⟩
    rcases ot with ⟨rfl, rfl⟩ | ⟨p, cs, rfl, rfl, np, ep⟩
    · exact ⟨rfl, _, rfl, iteT (no H1 s1 im)⟩
    refine ⟨rfl, _, rfl, iteF ?_⟩
    refine ⟨_, rfl, _, rfl, _, rfl, a, b, t, one, other, rfl, same_tup s1 ha, same_tup s1 hb, t1, l1, l2, u1, u2, h0, fun v2 H2 r2 s2 im2 ot2 => ?_⟩
    obtain rfl := im.eq im2
    rcases ot2 with ⟨z, _⟩ | ⟨p2, cs2, e2, rfl, np2, ep2⟩
    · cases z
    cases e2
    refine ⟨(by show 2 ≤ sizeLine; decide), fun l nl => ?_⟩
    exact q l _ (some cs) (s1.trans (s2.trans (same_new nl))) im ((s1.trans s2).free nl) (.inr ⟨p2, cs, rfl, upd_same, s1.free np2, (same_new nl) _ _ ep2⟩)
  | bool b => exact iteT (no H (Same.refl H) (.inl ⟨rfl, fun t e => nomatch e⟩))
  | none => exact iteT (no H (Same.refl H) (.inl ⟨rfl, fun t e => nomatch e⟩))
  | str _ => exact iteT (no H (Same.refl H) (.inl ⟨rfl, fun t e => nomatch e⟩))
  | list _ => exact iteT (no H (Same.refl H) (.inl ⟨rfl, fun t e => nomatch e⟩))
  | tuple _ => exact iteT (no H (Same.refl H) (.inl ⟨rfl, fun t e => nomatch e⟩))
  | dict _ => exact iteT (no H (Same.refl H) (.inl ⟨rfl, fun t e => nomatch e⟩))

end
end K03
namespace KL
open PySem PySem.Spec PyProof.Rows L2
theorem eqvNilT (ds : List PyData) : PyData.eqv (.tuple ds) (.tuple []) = ds.isEmpty := by
  cases ds with
  | nil => simp [PyData.eqv, PyData.eqvAll]
  | cons d ds => simp [PyData.eqv, PyData.eqvAll]
theorem shTup (ns : List Int) : SeqAt.shaped (.tuple (ns.map PyData.int)) = true := by
  unfold SeqAt.shaped
  simp only [PyData.canLay0, cl_ints, PyData.depth, dp_ints, Bool.true_and]
  decide
theorem eqvT_refl (ns : List Int) : PyData.eqv (.tuple (ns.map PyData.int)) (.tuple (ns.map PyData.int)) = true := SeqAt.eqv_refl _ (SeqAt.canLay_of_shaped (shTup ns))
theorem up_len {ns : List Int} {N : Nat} (h : Up ns) (ha : ∀ n ∈ ns, n ≠ 0 ∧ n.natAbs ≤ N) : ns.length ≤ N := by
  have nd : (ns.map ab).Nodup := by
    refine List.pairwise_map.mpr (h.imp fun {a b} hab e => ?_)
    rw [ab_nat, ab_nat] at e; omega
  have := nd_len (ms := ns.map ab) (ns := (List.range N).map fun (i : Nat) => (i : Int) + 1) nd fun m hm => by
    obtain ⟨n, hn, rfl⟩ := List.mem_map.mp hm
    have := ha n hn
    refine List.mem_map.mpr ⟨n.natAbs - 1, List.mem_range.mpr (by omega), ?_⟩
    rw [ab_nat]; omega
  rw [List.length_map, List.length_map, List.length_range] at this
  exact this
theorem up_dj {ns : List Int} (h : Up ns) : ns.Pairwise fun a b => ab a ≠ ab b := h.imp fun {a b} hab e => by rw [ab_nat, ab_nat] at e; omega
/-- where both hold, what they meet in holds -/
theorem met_says {one other cs : List Int} {t : Int} {bs : List Bool} (u1 : Up one) (u2 : Up other) (im : IsMet one other (.int t) (some cs)) (h1 : one.any (sayB bs) = true) (h2 : other.any (sayB bs) = true) : cs.any (sayB bs) = true := by
  rcases im with ⟨z, _⟩ | ⟨t', cs', et, h, _, e, m, nb, cl⟩
  · cases z
  cases et; cases e
  obtain ⟨x, hx, sx⟩ := List.any_eq_true.mp h1
  obtain ⟨y, hy, sy⟩ := List.any_eq_true.mp h2
  refine List.any_eq_true.mpr ?_
  by_cases hxt : ab x = t
  · have ex : x = t := up_eq u1 hx m.1 (by rw [ab_nat] at hxt; omega)
    have hyt : ab y ≠ t := fun z => by
      have ey : y = -t := up_eq u2 hy m.2 (by rw [ab_nat] at z; omega)
      rw [ex] at sx
      rw [ey] at sy
      unfold sayB at sx sy
      rw [Int.natAbs_neg] at sy
      have a1 := beq_iff_eq.mp sx
      have a2 := beq_iff_eq.mp sy
      rw [a1] at a2
      rw [decide_eq_true (show 0 < t by omega), decide_eq_false (show ¬ 0 < -t by omega)] at a2
      cases a2
    exact ⟨y, (cl.mem y).mpr (mem_lft.mpr ⟨.inr hy, hyt⟩), sy⟩
  · exact ⟨x, (cl.mem x).mpr (mem_lft.mpr ⟨.inl hx, hxt⟩), sx⟩
theorem IsMet.all {one other cs : List Int} {d : PyData} (im : IsMet one other d (some cs)) : Up cs ∧ ∀ n ∈ cs, n ∈ one ∨ n ∈ other := by
  rcases im with ⟨z, _⟩ | ⟨t', cs', et, h, _, e, m, nb, cl⟩
  · cases z
  cases e
  exact ⟨cl.up, fun n hn => (mem_lft.mp ((cl.mem n).mp hn)).1⟩
theorem Fine.strNo : Fine 10 0 (.str (Str.ofString "no")) := ⟨rfl, by decide +kernel, by decide +kernel, by decide +kernel, by decide +kernel⟩
theorem Fine.strMet : Fine 10 0 (.str (Str.ofString "met")) := ⟨rfl, by decide +kernel, by decide +kernel, by decide +kernel, by decide +kernel⟩
end KL
namespace K03
open PySem PySem.Spec PyProof.Rows L2 KL
section
variable {P : Program} {w : World} {K : PySem.W.Frag} {mg : Str → Option Value} {base : Heap}
def resD (r : Option (List Int)) (d : PyData) : PyData := match r with
  | none => .list [.str "no", d]
  | some cs => .list [.str "met", .tuple (cs.map PyData.int)]
theorem TRes.dp {H H' : Hp} {r : Option (List Int)} {x : V} {d : PyData} {l : Addr} (h : TRes H r x l H') (hd : Dp K H' x d) : Dp K H' (.ref l) (resD r d) := by
  rcases h with ⟨rfl, e⟩ | ⟨p, cs, rfl, e, np, ep⟩
  · exact .lst (SqL.of e) (.cons (.str _) (.cons hd .nil))
  · exact .lst (SqL.of e) (.cons (.str _) (.cons (.tup (SqT.of ep) (dpInts cs)) .nil))
theorem resD_fine {r : Option (List Int)} {d : PyData} (hd : Fine 200 1 d) (hr : ∀ cs, r = some cs → cs.length ≤ 64 ∧ ∀ n ∈ cs, n.natAbs < 2 ^ 110) : Fine 20000 3 (resD r d) := by
  cases r with
  | none => exact (Fine.list (n := 200) (m := 1) (l := 2) (fun z hz => by
      rcases List.mem_cons.mp hz with e | e
      · rw [e]; exact Fine.strNo.le (by omega) (by omega)
      · rw [List.mem_singleton] at e; rw [e]; exact hd) (by simp)).le (by omega) (by omega)
  | some cs =>
    obtain ⟨h1, h2⟩ := hr cs rfl
    exact (Fine.list (n := 8000) (m := 1) (l := 2) (fun z hz => by
      rcases List.mem_cons.mp hz with e | e
      · rw [e]; exact Fine.strMet.le (by omega) (by omega)
      · rw [List.mem_singleton] at e; rw [e]
        exact (Fine.tuple (n := 110) (m := 0) (l := 64) (fineInts (B := 0) h2) (by rw [List.length_map]; exact h1)).le (by omega) (by omega)) (by simp)).le (by omega) (by omega)
def spLaw (K : PySem.W.Frag) : Sp := fun vs H Q _ => ∃ (a : Addr) (ns : List Int), vs = [.ref a] ∧ SqL K H a (ns.map V.int) ∧ ns.length ≤ 63 ∧ ∀ H', Q (.bl true) H'
theorem ok_law {f C : Addr} {fd : FuncData} {k : Nat} (F : Fun K "law" "law" s_law f fd)
    (D_law_pool : Df P w K mg base k "_law_pool" ["_law_script", "_law_k"] (spPool K)) (D_law_take : Df P w K mg base k "_law_take" ["_law_pool_here", "_law_many"] (spTake K))
    (D_law_clause : Df P w K mg base k "_law_clause" ["_law_pool_here", "_law_things", "_law_most"] (spClause K)) (D_law_told : Df P w K mg base k "_law_told" ["_law_one", "_law_other", "_law_thing"] (spTold K))
    (D_law_due : Df P w K mg base k "_law_due" ["_law_one", "_law_other", "_law_thing"] (spDue K)) (D_met : Dx P w K mg base k "met" ["one", "other", "thing"] (spMet C K))
    (D_law_hold : Df P w K mg base k "_law_hold" ["_law_clauses", "_law_filling"] (spHold K)) (D_law_fillings : Df P w K mg base k "_law_fillings" ["_law_size"] (spFills K))
    (m_len : mg "len" = none) (m_range : mg "range" = none) (m_max : mg "max" = none) (m_min : mg "min" = none) (m_repr : mg "repr" = none) (m_tuple : mg "tuple" = none) (m_list : mg "list" = none) (m_abs : mg "abs" = none) (m_sorted : mg "sorted" = none) :
    GFn P w K mg base CX0 (k + 1) f fd ["_law_script"] (spLaw K) := by
  refine gfn0 F sc_law (fun vs H Q E h => ?_) (fun cdv A gu outer s H vs Q E hr h => ?_)
  · obtain ⟨a, ns, rfl, _⟩ := h
    rfl
  obtain ⟨a, ns, rfl, hS, hl, q⟩ := h
  refine ⟨_, (pss_cons (ps_for PassesOwn.never rfl (pi_range1 (by rfl) m_range (pa_cons (pe_callB (call_max2 rfl) (by rfl) m_max (by decide +kernel) (pa_cons pe_int (pa_cons (pe_callB (call_min2 rfl) (by rfl) m_min (by decide +kernel) (pa_cons pe_int (pa_cons (pe_callB call_len_seq (by rfl) m_len (by decide +kernel) (pa_cons (pv 0) pa_nil)) pa_nil))) pa_nil))) pa_nil)) (pg_name (i := 1) sc_law.nd rfl (.inl rfl))
       (pss_cons (ps_set (i := 2) sc_law.nd rfl (.inl rfl) (pe_df D_law_pool hr (by rfl) (pa_cons (pv 0) (pa_cons (pv 1) pa_nil))))
       (pss_cons (ps_set (i := 3) sc_law.nd rfl (.inr rfl) (pe_df D_law_clause hr (by rfl) (pa_cons (pv 2) (pa_cons pe_int (pa_cons pe_int pa_nil)))))
       (pss_cons (ps_set (i := 4) sc_law.nd rfl (.inl rfl) (pe_df D_law_clause hr (by rfl) (pa_cons (pv 2) (pa_cons pe_int (pa_cons pe_int pa_nil)))))
       (C8.pss_cut (ps_if (PW.pt (pw_and (pt_cmpR (op_neD hr.units) (pv 3) (pe_tup pa_nil) (nomark _)) (pw_and1 (pt_cmpR op_gt (pe_df D_law_take hr (by rfl) (pa_cons (pv 2) (pa_cons pe_int pa_nil))) pe_int (nomark _)))))
       (pss_cons (ps_set (i := 5) sc_law.nd rfl (.inr rfl) (pe_ix ix_tup (pv 3) (pe_df D_law_take hr (by rfl) (pa_cons (pv 2) (pa_cons (pe_callB call_len_seq (by rfl) m_len (by decide +kernel) (pa_cons (pv 3) pa_nil)) pa_nil))) (fun _ _ => rfl)))
       (pss_cons (ps_set (i := 6) sc_law.nd rfl (.inl rfl) (pe_op op_cat (pe_lc (own := [("_law_sign_here", 7)]) (g := gName 7) (by rfl) sc_law.nd (pi_tup (pv 4)) (blkOk_by (by kernel_rfl)) (fun _ _ _ _ _ => (pg_name (i := 7) sc_law.nd rfl (.inl rfl))) (fun _ _ _ _ _ => (pts_one (pt_cmpR op_ne (pe_callB call_abs (by rfl) m_abs (by decide +kernel) (pa_cons (pv 7) pa_nil)) (pe_callB call_abs (by rfl) m_abs (by decide +kernel) (pa_cons (pv 5) pa_nil)) (nomark _)))) (fun _ _ _ _ _ => (pv 7))) (pe_lst (pa_cons (pe_op op_sub pe_int (pv 5)) pa_nil))))
       (C8.pss_cut (ps_if (pt_cmpR op_eq (pe_df D_law_take hr (by rfl) (pa_cons (pv 2) (pa_cons pe_int pa_nil))) pe_int (nomark _))
       (pss_one (ps_setLc (i := 6) (own := [("_law_sign_here", 7)]) (g := gName 7) rfl sc_law.nd rfl rfl (sw_true rfl rfl rfl (by decide +kernel)) (pi_list (pv 6)) (blkOk_by (by kernel_rfl)) (fun _ _ _ _ _ => (pg_name (i := 7) sc_law.nd rfl (.inl rfl))) (fun _ _ _ _ _ => (pts_one (PW.pt (pw_or (pt_cmpR (op_notInI' (K := K) rfl) (pe_op op_sub pe_int (pv 7)) (pv 3) rfl) (pw_or1 (pt_cmpR op_eq (pv 7) (pe_op op_sub pe_int (pv 5)) (nomark _))))))) (fun _ _ _ _ _ => (pv 7))))
       pss_nil)
       (pss_one (ps_set (i := 4) sc_law.nd rfl (.inl rfl) (pe_callTy call_tuple_of (by rfl) m_tuple (by decide +kernel) (pa_cons (pe_lc (own := [("_law_place", 8), ("_law_sign_here", 7)]) (g := gTup K 2 (gCons (gName 8) (gCons (gName 7) gNil))) (tt := tYes) (by rfl) sc_law.nd (pi_list (pe_callB cr_sortedPO (by rfl) m_sorted (by decide +kernel) (pa_cons (pe_lc (own := [("_law_sign_here", 7)]) (g := gName 7) (tt := tYes) (by rfl) sc_law.nd (pi_list (pv 6)) (blkOk_by (by kernel_rfl)) (fun _ _ _ _ _ => (pg_name (i := 7) sc_law.nd rfl (.inl rfl))) (fun _ _ _ _ _ => pts_nil) (fun _ _ _ _ _ => (pe_tup (pa_cons (pe_callB call_abs (by rfl) m_abs (by decide +kernel) (pa_cons (pv 7) pa_nil)) (pa_cons (pv 7) pa_nil))))) pa_nil))) (blkOk_by (by kernel_rfl)) (fun _ _ _ _ _ => (pg_tup' (K := K) rfl rfl (pgs_cons (pg_name (i := 8) sc_law.nd rfl (.inl rfl)) (pgs_cons (pg_name (i := 7) sc_law.nd rfl (.inl rfl)) pgs_nil)))) (fun _ _ _ _ _ => pts_nil) (fun _ _ _ _ _ => (pv 7))) pa_nil)))))))
       pss_nil)
       (pss_cons (ps_for PassesOwn.never rfl (pi_list (pe_op op_cat (pe_listRg rfl (by rfl) m_list (prg_2 (by rfl) m_range (pe_un un_neg pe_int) pe_int)) (pe_lst (pa_cons pe_non (pa_cons pe_bl (pa_cons pe_str (pa_cons (pe_tup (pa_cons pe_int pa_nil)) (pa_cons (pe_op op_pow pe_int pe_int) (pa_cons pe_int pa_nil))))))))) (pg_name (i := 9) sc_law.nd rfl (.inl rfl))
       (pss_one (ps_for PassesOwn.never rfl (pi_list (pe_lst (pa_cons (pe_tup (pa_cons (pv 3) (pa_cons (pv 4) pa_nil))) (pa_cons (pe_tup (pa_cons (pv 4) (pa_cons (pv 3) pa_nil))) pa_nil)))) (pg_name (i := 10) sc_law.nd rfl (.inl rfl))
       (pss_one (ps_if (pt_cmpR op_ne (pe_callB (call_rep gu hr.units) (by rfl) m_repr (by decide +kernel) (pa_cons (pe_df D_law_told hr (by rfl) (pa_cons (pe_ix ix_tup (pv 10) pe_int (fun _ _ => rfl)) (pa_cons (pe_ix ix_tup (pv 10) pe_int (fun _ _ => rfl)) (pa_cons (pv 9) pa_nil)))) pa_nil)) (pe_callB (call_rep gu hr.units) (by rfl) m_repr (by decide +kernel) (pa_cons (pe_df D_law_due hr (by rfl) (pa_cons (pe_ix ix_tup (pv 10) pe_int (fun _ _ => rfl)) (pa_cons (pe_ix ix_tup (pv 10) pe_int (fun _ _ => rfl)) (pa_cons (pv 9) pa_nil)))) pa_nil)) (nomark _))
       (pss_one (ps_ret pe_bl))
       pss_nil)))))
       (pss_one (ps_for PassesOwn.never rfl (pi_range2 (by rfl) m_range (pa_cons pe_int (pa_cons pe_int pa_nil))) (pg_name (i := 9) sc_law.nd rfl (.inl rfl))
       (pss_cons (ps_set (i := 11) sc_law.nd rfl (.inl rfl) (pe_df D_law_told hr (by rfl) (pa_cons (pv 3) (pa_cons (pv 4) (pa_cons (pv 9) pa_nil)))))
       (pss_one (ps_if (pt_cmpR op_eq (pe_ix ix_list (pv 11) pe_int (fun _ _ => rfl)) pe_str (nomark _))
       (pss_one (ps_for PassesOwn.never rfl (pi_list (pe_stepL (by decide) (pe_df D_law_fillings hr (by rfl) (pa_cons pe_int pa_nil)) (pe_df D_law_take hr (by rfl) (pa_cons (pv 2) (pa_cons pe_int pa_nil))))) (pg_name (i := 12) sc_law.nd rfl (.inl rfl))
       (pss_one (ps_if (PW.pt (pw_and (pt_val (pe_df D_law_hold hr (by rfl) (pa_cons (pe_lst (pa_cons (pv 3) (pa_cons (pv 4) pa_nil))) (pa_cons (pv 12) pa_nil)))) (pw_and1 (pt_not (pt_val (pe_df D_law_hold hr (by rfl) (pa_cons (pe_lst (pa_cons (pe_ix ix_list (pv 11) pe_int (fun _ _ => rfl)) pa_nil)) (pa_cons (pv 12) pa_nil))))))))
       (pss_one (ps_ret pe_bl))
       pss_nil))))
       pss_nil)))))))))))
       (pss_cons (ps_if (PW.pt (pw_or (pt_cmpR (op_neD hr.units) (pe_dx0 D_met hr (by rfl) (pa_cons (pe_tup (pa_cons pe_int (pa_cons pe_int pa_nil))) (pa_cons (pe_tup (pa_cons (pe_un un_neg pe_int) (pa_cons pe_int pa_nil))) (pa_cons pe_int pa_nil)))) (pe_tup (pa_cons pe_int (pa_cons pe_int pa_nil))) (nomark _)) (pw_or1 (pt_cmpR (op_neD hr.units) (pe_dx0 D_met hr (by rfl) (pa_cons (pe_tup (pa_cons (pe_un un_neg pe_int) (pa_cons pe_int pa_nil))) (pa_cons (pe_tup (pa_cons (pe_un un_neg pe_int) pa_nil)) (pa_cons pe_int pa_nil)))) (pe_tup (pa_cons (pe_un un_neg pe_int) pa_nil)) (nomark _)))))
       (pss_one (ps_ret pe_bl))
       pss_nil)
       (pss_one (ps_ret (pe_cmpR (op_eqD hr.units) (pe_dx0 D_met hr (by rfl) (pa_cons (pe_tup (pa_cons pe_int pa_nil)) (pa_cons (pe_tup (pa_cons (pe_un un_neg pe_int) pa_nil)) (pa_cons pe_int pa_nil)))) (pe_tup pa_nil) (nomark _)))))), ?_⟩
  have hlen : (ns.map V.int).length = ns.length := List.length_map _
  refine ⟨_, rfl, a, _, rfl, .inl hS, _, _, rfl, _, _, rfl, _, rfl, ?_, ?_, for_range (lo := 0) (fun i σ' H' => ∃ y1 y2 y3 y4 y5 y6 y7 y8 y9 y10 y11 y12, σ' = [some (.ref a), y1, y2, y3, y4, y5, y6, y7, y8, y9, y10, y11, y12] ∧ Same H H') ?_ ?_ ?_⟩
  · rw [hlen]; split <;> (split <;> omega)
  · rw [hlen]; split <;> (split <;> omega)
  · exact ⟨_, _, _, _, _, _, _, _, _, _, _, _, rfl, Same.refl H⟩
  · rintro i σ' H1 hi ⟨y1, y2, y3, y4, y5, y6, y7, y8, y9, y10, y11, y12, rfl, s1⟩
    refine ⟨_, rfl, _, rfl, a, ns, _, rfl, s1.seq hS, by omega, by omega, fun p H2 np s2 hp2 => ?_⟩
    refine ⟨_, rfl, p, 9, 6, rfl, hp2, by omega, by omega, fun c1 cs1 H3 k3 hp3 n1 e1 cl1 m1 l1 => ?_⟩
    have h1p : c1 ≠ p := fun z => hp2.at (z ▸ n1)
    refine ⟨_, rfl, p, 9, 6, rfl, hp3, by omega, by omega, fun c2 cs2 H4 k4 hp4 n2 e2 cl2 m2 l2 => ?_⟩
    have h2p : c2 ≠ p := fun z => hp3.at (z ▸ n2)
    have e14 := k4 _ _ h1p e1
    have k24 : Kp p H2 H4 := k3.trans k4
    have cl1' : Cl 9 cs1 := cl1
    have cl2' : Cl 9 cs2 := cl2
    clear k3 k4 hp3 n1 n2 e1 cl1 cl2
    refine ⟨fun σ' H' => ∃ (c2 : Addr) (cs2 : List Int) (y5 y6 y7 y8 y9 y10 y11 y12 : Option V), σ' = [some (.ref a), some (.int (0 + (i : Int))), some (.ref p), some (.ref c1), some (.ref c2), y5, y6, y7, y8, y9, y10, y11, y12] ∧ Kp p H2 H' ∧ Pl H' p ∧ H' c1 = some (.tup (cs1.map V.int)) ∧ H' c2 = some (.tup (cs2.map V.int)) ∧ Cl 9 cs2 ∧ c2 ≠ p, ?_, ?_⟩
    · have skip : ∀ (H5 : Hp) (y5 y6 y7 y8 y9 y10 y11 y12 : Option V), Kp p H4 H5 → Pl H5 p → ∃ (c2' : Addr) (cs2 : List Int) (y5' y6' y7' y8' y9' y10' y11' y12' : Option V), [some (V.ref a), some (.int (0 + (i : Int))), some (.ref p), some (.ref c1), some (.ref c2), y5, y6, y7, y8, y9, y10, y11, y12] = [some (V.ref a), some (.int (0 + (i : Int))), some (.ref p), some (.ref c1), some (.ref c2'), y5', y6', y7', y8', y9', y10', y11', y12'] ∧
          Kp p H2 H5 ∧ Pl H5 p ∧ H5 c1 = some (.tup (cs1.map V.int)) ∧ H5 c2' = some (.tup (cs2.map V.int)) ∧ Cl 9 cs2 ∧ c2' ≠ p := fun H5 _ _ _ _ _ _ _ _ k5 hp5 =>
        ⟨c2, cs2, _, _, _, _, _, _, _, _, rfl, k24.trans k5, hp5, k5 _ _ h1p e14, k5 _ _ h2p e2, cl2', h2p⟩
      refine ⟨_, rfl, (by show 0 ≤ sizeLine; decide), fun l0 nl0 => ?_⟩
      have s0 : Same H4 (upd H4 l0 (.tup [])) := same_new nl0
      refine ⟨.tuple (cs1.map PyData.int), .tuple [], .tup (SqT.of (s0 _ _ e14)) (dpInts _), .tup (SqT.of upd_same) .nil, shTup cs1, shTup [], _, rfl, ?_⟩
      rw [eqvNilT]
      have hp0 := hp4.same s0
      generalize (upd H4 l0 (.tup [])) = H5 at *
      refine ite2 (fun z => ?_) (fun _ => skip H5 _ _ _ _ _ _ _ _ (Kp.of s0) hp0)
      have ne1 : cs1 ≠ [] := fun e => by rw [e] at z; exact absurd z (by decide)
      have pos1 : 0 < cs1.length := List.length_pos_iff.mpr ne1
      refine ⟨_, rfl, p, 3, rfl, hp0, by omega, by omega, fun d H6 k6 hp6 d0 d1 => ⟨_, _, rfl, rfl, _, rfl, ite2 (fun _ => ?_) (fun _ => skip H6 _ _ _ _ _ _ _ _ ((Kp.of s0).trans k6) hp6)⟩⟩
      have k46 : Kp p H4 H6 := (Kp.of s0).trans k6
      refine ⟨_, rfl, _, rfl, _, rfl, c1, _, rfl, .inr (SqT.of (k46 _ _ h1p e14)), p, _, rfl, hp6, ?_, ?_, fun d7 H7 k7 hp7 d70 d71 => ?_⟩
      · rw [List.length_map]; omega
      · rw [List.length_map]; omega
      have k47 : Kp p H4 H7 := k46.trans k7
      obtain ⟨at', ha1, ha2⟩ := atI_ints (ns := cs1) d70 (by rw [List.length_map] at d71; exact d71)
      have atm : at' ∈ cs1 := List.mem_of_getElem? ha2
      have at9 := cl1'.all at' atm
      refine ⟨c1, _, d7, .int at', rfl, rfl, SqT.of (k47 _ _ h1p e14), ha1, ?_⟩
      have e27 := k47 _ _ h2p e2
      refine ⟨_, rfl, c2, rfl, ⟨_, SqT.of e27⟩, fun D nD => lc_tup (xs := cs2.map V.int) (fun i H' => Same H7 H' ∧ H' D = some (.lst (((cs2.take i).filter fun n => !decide (ab n = ab at')).map V.int))) ⟨same_new nD, upd_same⟩ (fun i H' _ h => SqT.of (h.1 _ _ e27)) ?_ ?_⟩
      · rintro i x H8 ex ⟨s8, e8⟩
        obtain ⟨n, rfl, hi, htk⟩ := at_int ex
        have dd : decide (V.int (ab n) = V.int (ab at')) = decide (ab n = ab at') := dec_V _ _
        refine ⟨rfl, _, rfl, _, rfl, _, rfl, _, rfl, rfl, _, rfl, ite2 (fun c => ?_) (fun c => ?_)⟩
        · refine ⟨_, rfl, _, e8, ?_, ?_, ?_⟩
          · rw [List.length_map]
            exact small1000 (Nat.le_trans (List.length_filter_le _ _) (by rw [List.length_take]; omega))
          · exact fun b o hb => by rw [upd_ne (ne_of_none hb nD)]; exact s8 _ _ hb
          · have c' : (!decide (ab n = ab at')) = true := by rw [← dd]; exact c
            rw [upd_same, htk, List.filter_append, List.map_append, List.filter_cons, if_pos c']; rfl
        · have c' : ¬ (!decide (ab n = ab at')) = true := by rw [← dd]; exact c
          refine ⟨s8, ?_⟩
          rw [htk, List.filter_append, List.map_append, e8, List.filter_cons, if_neg c']; simp
      rintro H8 ⟨s8, e8⟩
      rw [List.length_map, List.take_length] at e8
      refine ⟨_, rfl, _, _, rfl, rfl, (by show 1 ≤ sizeLine; decide), fun l nl => ?_⟩
      have s9 : Same H8 (upd H8 l (.lst [.int (0 - at')])) := same_new nl
      have lf : (cs2.filter fun n => !decide (ab n = ab at')).length ≤ cs2.length := List.length_filter_le _ _
      refine ⟨D, l, _, _, rfl, rfl, s9 _ _ e8, upd_same, ?_, fun b nb => ?_⟩
      · rw [List.length_map]; exact small (by simp; omega)
      generalize hL : (cs2.filter fun n => !decide (ab n = ab at')) ++ [0 - at'] = L at *
      have eb : (upd (upd H8 l (.lst [.int (0 - at')])) b (.lst ((cs2.filter fun n => !decide (ab n = ab at')).map V.int ++ [.int (0 - at')]))) b = some (.lst (L.map V.int)) := by
        rw [upd_same, ← hL, List.map_append]; rfl
      have s7b : Same H7 (upd (upd H8 l (.lst [.int (0 - at')])) b (.lst ((cs2.filter fun n => !decide (ab n = ab at')).map V.int ++ [.int (0 - at')]))) := s8.trans (s9.trans (same_new nb))
      generalize (upd (upd H8 l (.lst [.int (0 - at')])) b (.lst ((cs2.filter fun n => !decide (ab n = ab at')).map V.int ++ [.int (0 - at')]))) = H9 at *
      have djL : L.Pairwise fun a b => ab a ≠ ab b := by
        rw [← hL, List.pairwise_append]
        refine ⟨(up_dj cl2'.up).filter _, List.pairwise_singleton _ _, fun x hx y hy => ?_⟩
        rw [List.mem_singleton] at hy
        have := (List.mem_filter.mp hx).2
        have hne : ab x ≠ ab at' := by simpa using this
        rw [hy]
        rw [ab_nat, ab_nat] at hne ⊢
        rw [show (0 - at').natAbs = at'.natAbs by omega]
        exact hne
      have memL : ∀ n ∈ L, n ≠ 0 ∧ n.natAbs ≤ 9 := fun n hn => by
        rw [← hL] at hn
        rcases List.mem_append.mp hn with h | h
        · exact cl2'.all n (List.mem_filter.mp h).1
        · rw [List.mem_singleton] at h; rw [h]; exact ⟨by omega, by omega⟩
      have lenL : L.length ≤ 200 := by rw [← hL, List.length_append]; simp; omega
      have k49 : Kp p H4 H9 := k47.trans (Kp.of s7b)
      have hp9 := hp7.same s7b
      have hbp : b ≠ p := fun z => by
        obtain ⟨x, y, e, _⟩ := hp9
        have := eb
        rw [z, e] at this
        have := hp7.at
        exact this ((s8.trans s9).free (z ▸ nb))
      clear hL lf s9 nl e8 s8 nD e27 ha1 ha2 d70 d71 k7 k6 hp6 hp7 s0 hp0 z nb
      -- some left out
      refine ⟨fun σ' H' => ∃ (b : Addr) (L' : List Int) (y7 y8 y9 y10 y11 y12 : Option V), σ' = [some (.ref a), some (.int (0 + (i : Int))), some (.ref p), some (.ref c1), some (.ref c2), some (.int at'), some (.ref b), y7, y8, y9, y10, y11, y12] ∧ Kp p H4 H' ∧ Pl H' p ∧ H' b = some (.lst (L'.map V.int)) ∧ L'.Sublist L, ?_, ?_⟩
      · refine ⟨_, rfl, p, 2, rfl, hp9, by omega, by omega, fun d2 HA kA hpA d20 d21 => ⟨rfl, _, rfl, ite2 (fun _ => ?_) (fun _ => ?_)⟩⟩
        · have ebA := kA _ _ hbp eb
          have e1A := kA _ _ h1p (k49 _ _ h1p e14)
          refine ⟨_, rfl, b, rfl, ⟨_, SqL.of ebA⟩, fun D2 nD2 => lc_list (xs := L.map V.int) (fun j H' => Same HA H' ∧ ∃ L' : List Int, H' D2 = some (.lst (L'.map V.int)) ∧ L'.Sublist (L.take j)) ⟨same_new nD2, [], upd_same, List.Sublist.refl _⟩ (fun j H' _ h => SqL.of (h.1 _ _ ebA)) ?_ ?_⟩
          · rintro j x HB ex ⟨sB, L', eB, sub⟩
            obtain ⟨n, rfl, hn, htk⟩ := at_int ex
            have yes : ∃ acc, HB D2 = some (.lst acc) ∧ acc.length < sizeLine ∧ Same HA (upd HB D2 (.lst (acc ++ [V.int n]))) ∧ ∃ L' : List Int, (upd HB D2 (.lst (acc ++ [V.int n]))) D2 = some (.lst (L'.map V.int)) ∧ L'.Sublist (L.take (j + 1)) := by
              refine ⟨_, eB, ?_, ?_, L' ++ [n], ?_, ?_⟩
              · rw [List.length_map]
                exact small1000 (Nat.le_trans sub.length_le (by rw [List.length_take]; omega))
              · exact fun b o hb => by rw [upd_ne (ne_of_none hb nD2)]; exact sB _ _ hb
              · rw [upd_same, List.map_append]; rfl
              · rw [htk]; exact sub.append (List.Sublist.refl _)
            have no : Same HA HB ∧ ∃ L' : List Int, HB D2 = some (.lst (L'.map V.int)) ∧ L'.Sublist (L.take (j + 1)) := ⟨sB, L', eB, by rw [htk]; exact sub.trans (List.sublist_append_left _ _)⟩
            refine ⟨rfl, _, rfl, _, _, rfl, rfl, _, rfl, c1, _, cs1, rfl, rfl, .inr (SqT.of (sB _ _ e1A)), _, rfl, ite2 (fun c => ?_) (fun c => ?_)⟩
            · exact iteT ⟨_, rfl, yes⟩
            · exact ⟨_, rfl, _, rfl, _, _, rfl, rfl, rfl, _, rfl, ite2 (fun _ => ⟨_, rfl, yes⟩) (fun _ => no)⟩
          · rintro HB ⟨sB, L', eB, sub⟩
            rw [List.length_map, List.take_length] at sub
            exact ⟨D2, L', _, _, _, _, _, _, rfl, k49.trans (kA.trans (Kp.of sB)), hpA.same sB, eB, sub⟩
        · exact ⟨b, L, _, _, _, _, _, _, rfl, k49.trans kA, hpA, kA _ _ hbp eb, List.Sublist.refl _⟩
      · rintro σ' HA ⟨b, L', y7, y8, y9, y10, y11, y12, rfl, kA, hpA, ebA, sub⟩
        refine srt_read (K := K) (m := 6) (i := 7) (j := 8) (D := b) (L := L') rfl (fun _ => rfl) (fun _ => rfl) (fun _ _ => rfl) (fun _ _ => rfl) ebA (Nat.le_trans sub.length_le (by omega)) (djL.sublist sub) fun r cs HB sB r0 er cl => ?_
        refine ⟨r, cs, _, _, _, _, _, _, _, _, rfl, k24.trans (kA.trans (Kp.of sB)), hpA.same sB, sB _ _ (kA _ _ h1p e14), er, ⟨cl.up, fun n hn => memL n (sub.subset ((cl.mem n).mp hn))⟩, fun z => hpA.at (z ▸ r0)⟩
    · rintro σ' H5 ⟨c2, cs2, y5, y6, y7, y8, y9, y10, y11, y12, rfl, k5, hp5, e15, e25, cl2, h2p⟩
      have s15 : Same H1 H5 := same_kp s2 np k5
      have len1 := up_len cl1'.up cl1'.all
      have len2 := up_len cl2.up cl2.all
      -- the things
      refine ⟨_, rfl, _, _, rfl, rfl, ⟨by omega, by omega, by omega, by omega, by decide⟩, fun r nr => ?_⟩
      have s6 : Same H5 (upd H5 r (.lst (rgV (-2) 11))) := same_new nr
      have er : (upd H5 r (.lst (rgV (-2) 11))) r = some (.lst (rgV (-2) 11)) := upd_same
      refine ⟨(by show 1 ≤ sizeLine; decide), fun t nt => ?_⟩
      generalize (upd H5 r (.lst (rgV (-2) 11))) = H6 at *
      have s7 : Same H6 (upd H6 t (.tup [.int 1])) := same_new nt
      have et : (upd H6 t (.tup [.int 1])) t = some (.tup [.int 1]) := upd_same
      refine ⟨_, _, rfl, rfl, ⟨by omega, by omega, by decide⟩, (by show 6 ≤ sizeLine; decide), fun l nl => ?_⟩
      generalize (upd H6 t (.tup [.int 1])) = H7 at *
      have s8 : Same H7 (upd H7 l (.lst [.non, .bl true, .str (Str.ofString "1"), .ref t, .int (10 ^ (Int.toNat 30)), .int 61])) := same_new nl
      refine ⟨r, l, _, _, rfl, rfl, s8 _ _ (s7 _ _ er), upd_same, ?_, fun L nL => ?_⟩
      · rw [rgV_length]; exact small (show (11 - -2 : Int).toNat + 6 ≤ 1000 by decide)
      generalize (upd H7 l (.lst [.non, .bl true, .str (Str.ofString "1"), .ref t, .int (10 ^ (Int.toNat 30)), .int 61])) = H8 at *
      have s9 : Same H8 (upd H8 L (.lst (rgV (-2) 11 ++ [.non, .bl true, .str (Str.ofString "1"), .ref t, .int (10 ^ (Int.toNat 30)), .int 61]))) := same_new nL
      have eL : (upd H8 L (.lst (rgV (-2) 11 ++ [.non, .bl true, .str (Str.ofString "1"), .ref t, .int (10 ^ (Int.toNat 30)), .int 61]))) L = some (.lst (rgV (-2) 11 ++ [.non, .bl true, .str (Str.ofString "1"), .ref t, .int (10 ^ (Int.toNat 30)), .int 61])) := upd_same
      generalize (upd H8 L (.lst (rgV (-2) 11 ++ [.non, .bl true, .str (Str.ofString "1"), .ref t, .int (10 ^ (Int.toNat 30)), .int 61]))) = H9 at *
      have s59 : Same H5 H9 := s6.trans (s7.trans (s8.trans s9))
      have et9 := s9 _ _ (s8 _ _ et)
      have e19 := s59 _ _ e15
      have e29 := s59 _ _ e25
      have hp9 := hp5.same s59
      have items : ∀ x ∈ rgV (-2) 11 ++ [V.non, .bl true, .str (Str.ofString "1"), .ref t, .int (10 ^ (Int.toNat 30)), .int 61], It K H9 x := fun x hx => by
        rcases List.mem_append.mp hx with h | h
        · unfold rgV at h
          obtain ⟨j, hj, rfl⟩ := List.mem_map.mp h
          have := List.mem_range.mp hj
          exact It.int _ (Nat.lt_of_le_of_lt (show _ ≤ 20 by omega) (by decide))
        · simp only [List.mem_cons, List.not_mem_nil, or_false] at h
          rcases h with rfl | rfl | rfl | rfl | rfl | rfl
          · exact ⟨_, .non, Fine.none⟩
          · exact ⟨_, .bl _, Fine.bool _⟩
          · exact ⟨_, .str _, Fine.str1.le (by omega) (by omega)⟩
          · refine ⟨.tuple [.int 1], .tup (SqT.of et9) (.cons (.int 1) .nil), ?_⟩
            exact (Fine.tuple (n := 110) (m := 0) (l := 1) (fun z hz => by rw [List.mem_singleton] at hz; subst hz; exact Fine.int 1 (by decide)) (by simp)).le (by omega) (by omega)
          · exact It.int _ (by decide)
          · exact It.int _ (by decide)
      clear s6 s7 s8 s9 er et nr nt nl nL
      refine ⟨L, rfl, ⟨_, SqL.of eL⟩, for_list (xs := rgV (-2) 11 ++ [V.non, .bl true, .str (Str.ofString "1"), .ref t, .int (10 ^ (Int.toNat 30)), .int 61]) (fun j σ' H' => ∃ y9 y10 y11 y12 : Option V, σ' = [some (.ref a), some (.int (0 + (i : Int))), some (.ref p), some (.ref c1), some (.ref c2), y5, y6, y7, y8, y9, y10, y11, y12] ∧ Same H9 H') ?_ ?_ ?_ ?_⟩
      · exact ⟨_, _, _, _, rfl, Same.refl _⟩
      · rintro j σ' H' _ ⟨_, _, _, _, _, sX⟩
        exact SqL.of (sX _ _ eL)
      · rintro j x σ' HA ex ⟨y9, y10, y11, y12, rfl, sA⟩
        obtain ⟨d, hd, fd⟩ := (items x (List.mem_of_getElem? ex)).same sA
        have e1A := sA _ _ e19
        have e2A := sA _ _ e29
        refine ⟨_, rfl, _, rfl, (by show 2 ≤ sizeLine; decide), fun t1 nt1 => ?_⟩
        have sB : Same HA (upd HA t1 (.tup [.ref c1, .ref c2])) := same_new nt1
        have et1 : (upd HA t1 (.tup [.ref c1, .ref c2])) t1 = some (.tup [.ref c1, .ref c2]) := upd_same
        refine ⟨_, rfl, _, rfl, (by show 2 ≤ sizeLine; decide), fun t2 nt2 => ?_⟩
        generalize (upd HA t1 (.tup [.ref c1, .ref c2])) = HB at *
        have sC : Same HB (upd HB t2 (.tup [.ref c2, .ref c1])) := same_new nt2
        have et2 : (upd HB t2 (.tup [.ref c2, .ref c1])) t2 = some (.tup [.ref c2, .ref c1]) := upd_same
        refine ⟨(by show 2 ≤ sizeLine; decide), fun l nl => ?_⟩
        generalize (upd HB t2 (.tup [.ref c2, .ref c1])) = HC at *
        have sD : Same HC (upd HC l (.lst [.ref t1, .ref t2])) := same_new nl
        have el : (upd HC l (.lst [.ref t1, .ref t2])) l = some (.lst [.ref t1, .ref t2]) := upd_same
        generalize (upd HC l (.lst [.ref t1, .ref t2])) = HD at *
        have sAD : Same HA HD := sB.trans (sC.trans sD)
        have pairs : ∀ z ∈ [V.ref t1, .ref t2], ∃ (tt u v : Addr) (us vs : List Int), z = .ref tt ∧ HD tt = some (.tup [.ref u, .ref v]) ∧ HD u = some (.tup (us.map V.int)) ∧ HD v = some (.tup (vs.map V.int)) ∧ Cl 9 us ∧ Cl 9 vs := fun z hz => by
          simp only [List.mem_cons, List.not_mem_nil, or_false] at hz
          rcases hz with rfl | rfl
          · exact ⟨t1, c1, c2, cs1, cs2, rfl, sD _ _ (sC _ _ et1), sAD _ _ e1A, sAD _ _ e2A, cl1', cl2⟩
          · exact ⟨t2, c2, c1, cs2, cs1, rfl, sD _ _ et2, sAD _ _ e2A, sAD _ _ e1A, cl2, cl1'⟩
        have hdD := dpSame hd sAD
        refine ⟨l, rfl, ⟨_, SqL.of el⟩, for_list (xs := [V.ref t1, .ref t2]) (fun j σ' H' => ∃ y10 : Option V, σ' = [some (.ref a), some (.int (0 + (i : Int))), some (.ref p), some (.ref c1), some (.ref c2), y5, y6, y7, y8, some x, y10, y11, y12] ∧ Same HD H') ?_ ?_ ?_ ?_⟩
        · exact ⟨_, rfl, Same.refl _⟩
        · rintro j σ' H' _ ⟨_, _, sX⟩
          exact SqL.of (sX _ _ el)
        · rintro j z σ' HE ez ⟨y10, rfl, sE⟩
          obtain ⟨tt, u, v, us, vs, rfl, ett, eu, ev, clu, clv⟩ := pairs z (List.mem_of_getElem? ez)
          have lu := up_len clu.up clu.all
          have lv := up_len clv.up clv.all
          have all60 : ∀ n ∈ us ++ vs, n ≠ 0 ∧ n.natAbs ≤ 9 := fun n hn => by
            rcases List.mem_append.mp hn with h | h
            · exact clu.all n h
            · exact clv.all n h
          have fine : ∀ r, IsMet us vs d r → Fine 20000 3 (resD r d) := fun r im => resD_fine fd fun cs e => by
            subst e
            obtain ⟨up, mem⟩ := im.all
            have a9 : ∀ n ∈ cs, n ≠ 0 ∧ n.natAbs ≤ 9 := fun n hn => all60 n (List.mem_append.mpr (mem n hn))
            exact ⟨Nat.le_trans (up_len up a9) (by omega), fun n hn => Nat.lt_of_le_of_lt (a9 n hn).2 (by decide)⟩
          refine ⟨_, rfl, tt, _, 0, .ref u, rfl, rfl, SqT.of (sE _ _ ett), rfl, _, rfl, tt, _, 1, .ref v, rfl, rfl, SqT.of (sE _ _ ett), rfl, _, rfl, u, v, x, d, us, vs, rfl, SqT.of (sE _ _ eu), SqT.of (sE _ _ ev), dpSame hdD sE, by omega, fun n hn => (all60 n hn).1, fun l1 HF r1 sF im1 nl1 tr1 => ?_⟩
          have f1 := fine r1 im1
          refine ⟨_, _, rfl, tr1.dp (dpSame (dpSame hdD sE) sF), f1.sh, Nat.le_trans f1.dp (by omega), f1.len (by omega), ?_⟩
          have sF' := sE.trans sF
          refine ⟨_, rfl, tt, _, 0, .ref u, rfl, rfl, SqT.of (sF' _ _ ett), rfl, _, rfl, tt, _, 1, .ref v, rfl, rfl, SqT.of (sF' _ _ ett), rfl, _, rfl, u, v, x, d, us, vs, rfl, SqT.of (sF' _ _ eu), SqT.of (sF' _ _ ev), dpSame hdD sF', by omega, by omega, clu.up, clv.up, fun n hn => ⟨(all60 n hn).1, by have := (all60 n hn).2; omega⟩, fun l2 HG r2 sG im2 nl2 tr2 => ?_⟩
          obtain rfl := im1.eq im2
          exact ⟨_, _, rfl, tr2.dp (dpSame (dpSame hdD sF') sG), f1.sh, Nat.le_trans f1.dp (by omega), f1.len (by omega), rfl, _, rfl, ne_self ⟨_, rfl, sF'.trans sG⟩⟩
        · rintro σ' HE ⟨y10, rfl, sE⟩
          exact ⟨_, _, _, _, rfl, sA.trans (sAD.trans sE)⟩
      rintro σ' HA ⟨y9, y10, y11, y12, rfl, sA⟩
      have hpA := hp9.same sA
      have e1A := sA _ _ e19
      have e2A := sA _ _ e29
      have s1A : Same H1 HA := s15.trans (s59.trans sA)
      clear sA items eL et9 s59 hp9 e19 e29 e15 e25 hp5 k5 s15
      -- where both hold
      refine ⟨_, _, rfl, ⟨by omega, by omega, by omega, by omega⟩, for_range (lo := 1) (n := (10 - 1 : Int).toNat) (fun j σ' H' => ∃ y9 y10 y11 y12 : Option V, σ' = [some (.ref a), some (.int (0 + (i : Int))), some (.ref p), some (.ref c1), some (.ref c2), y5, y6, y7, y8, y9, y10, y11, y12] ∧ Kp p HA H' ∧ Pl H' p) ?_ ?_ ?_⟩
      · exact ⟨_, _, _, _, rfl, Kp.refl _ _, hpA⟩
      · rintro j σ' HB hj ⟨y9, y10, y11, y12, rfl, kB, hpB⟩
        have e1B := kB _ _ h1p e1A
        have e2B := kB _ _ h2p e2A
        have all9 : ∀ n ∈ cs1 ++ cs2, n ≠ 0 ∧ n.natAbs ≤ 9 := fun n hn => by
          rcases List.mem_append.mp hn with h | h
          · exact cl1'.all n h
          · exact cl2.all n h
        refine ⟨_, rfl, _, rfl, _, rfl, c1, c2, _, .int (1 + (j : Int)), cs1, cs2, rfl, SqT.of e1B, SqT.of e2B, .int _, by omega, fun n hn => (all9 n hn).1, fun l HC r sC im nl tr => ?_⟩
        have hpC := hpB.same sC
        have kC : Kp p HA HC := kB.trans (Kp.of sC)
        have hlp : l ≠ p := fun z => hpB.at (z ▸ nl)
        have e1C := sC _ _ e1B
        have e2C := sC _ _ e2B
        rcases tr with ⟨rfl, el⟩ | ⟨pp, cs, rfl, el, npp, epp⟩
        · exact ⟨_, rfl, l, _, 0, .str (Str.ofString "no"), rfl, rfl, SqL.of el, rfl, rfl, _, rfl, ite2 (fun z => absurd z (by decide)) (fun _ => ⟨_, _, _, _, rfl, kC, hpC⟩)⟩
        refine ⟨_, rfl, l, _, 0, .str (Str.ofString "met"), rfl, rfl, SqL.of el, rfl, rfl, _, rfl, ite2 (fun _ => ?_) (fun _ => ⟨_, _, _, _, rfl, kC, hpC⟩)⟩
        have hppp : pp ≠ p := fun z => hpB.at (z ▸ npp)
        obtain ⟨upc, memc⟩ := im.all
        have allc : ∀ n ∈ cs, n ≠ 0 ∧ n.natAbs ≤ 9 := fun n hn => all9 n (List.mem_append.mpr (memc n hn))
        refine ⟨9, rfl, by omega, fun rr ts HD sD nrr err lts hts => ?_⟩
        have hpD := hpC.same sD
        have hrp : rr ≠ p := fun z => hpC.at (z ▸ nrr)
        refine ⟨_, rfl, p, 7, rfl, hpD, by omega, by omega, fun dd HE kE hpE d0 d1 => ?_⟩
        refine ⟨rr, _, dd, rfl, rfl, SqL.of (kE _ _ hrp err), fun ys l2 hys lys nl2 => ?_⟩
        have sF : Same HE (upd HE l2 (.lst ys)) := same_new nl2
        have el2 : (upd HE l2 (.lst ys)) l2 = some (.lst ys) := upd_same
        generalize (upd HE l2 (.lst ys)) = HF at *
        have kF : Kp p HC HF := (Kp.of sD).trans (kE.trans (Kp.of sF))
        have e1F := kF _ _ h1p e1C
        have e2F := kF _ _ h2p e2C
        have elF := kF _ _ hlp el
        have epF := kF _ _ hppp epp
        have hpF := hpE.same sF
        have fills : ∀ y ∈ ys, ∃ (tf : Addr) (bs : List Bool), y = .ref tf ∧ HF tf = some (.tup (bs.map V.bl)) ∧ bs.length = 9 := fun y hy => by
          obtain ⟨tf, htf, rfl⟩ := List.mem_map.mp (hys y hy)
          obtain ⟨jj, hjj⟩ := List.mem_iff_getElem?.mp htf
          have e := hts jj tf hjj
          have ne : tf ≠ p := fun z => by
            obtain ⟨x, y, ez, _⟩ := hpD
            rw [z, ez] at e; cases e
          exact ⟨tf, rowB 9 jj, rfl, sF _ _ (kE _ _ ne e), rowB_len 9 jj⟩
        refine ⟨l2, rfl, ⟨_, SqL.of el2⟩, for_list (xs := ys) (fun j2 σ' H' => ∃ y12 : Option V, σ' = [some (.ref a), some (.int (0 + (i : Int))), some (.ref p), some (.ref c1), some (.ref c2), y5, y6, y7, y8, some (.int (1 + (j : Int))), y10, some (.ref l), y12] ∧ Same HF H') ?_ ?_ ?_ ?_⟩
        · exact ⟨_, rfl, Same.refl _⟩
        · rintro j2 σ' H' _ ⟨_, _, sX⟩
          exact SqL.of (sX _ _ el2)
        · rintro j2 y σ' HG ey ⟨y12, rfl, sG⟩
          obtain ⟨tf, bs, rfl, etf, lbs⟩ := fills y (List.mem_of_getElem? ey)
          refine ⟨_, rfl, _, rfl, (by show 2 ≤ sizeLine; decide), fun lc nlc => ?_⟩
          have sH : Same HG (upd HG lc (.lst [.ref c1, .ref c2])) := same_new nlc
          have sFH := sG.trans sH
          have elc : (upd HG lc (.lst [.ref c1, .ref c2])) lc = some (.lst [.ref c1, .ref c2]) := upd_same
          generalize (upd HG lc (.lst [.ref c1, .ref c2])) = HH at *
          refine ⟨_, rfl, lc, tf, [c1, c2], [cs1, cs2], bs, rfl, SqL.of elc, SqT.of (sFH _ _ etf), .cons (SqT.of (sFH _ _ e1F)) (.cons (SqT.of (sFH _ _ e2F)) .nil), by simp, fun ns hns => ?_, fun HI sI => ?_⟩
          · simp only [List.mem_cons, List.not_mem_nil, or_false] at hns
            rcases hns with rfl | rfl
            · exact ⟨by omega, fun n hn => by have := cl1'.all n hn; omega⟩
            · exact ⟨by omega, fun n hn => by have := cl2.all n hn; omega⟩
          refine ⟨_, rfl, ite2 (fun z => ?_) (fun _ => ⟨_, rfl, sFH.trans sI⟩)⟩
          have zz : cs1.any (sayB bs) = true ∧ cs2.any (sayB bs) = true := by simpa using z
          have sFI := sFH.trans sI
          refine ⟨_, rfl, l, _, 1, .ref pp, rfl, rfl, SqL.of (sFI _ _ elF), rfl, (by show 1 ≤ sizeLine; decide), fun lc2 nlc2 => ?_⟩
          have sJ : Same HI (upd HI lc2 (.lst [.ref pp])) := same_new nlc2
          have sFJ := sFI.trans sJ
          have elc2 : (upd HI lc2 (.lst [.ref pp])) lc2 = some (.lst [.ref pp]) := upd_same
          generalize (upd HI lc2 (.lst [.ref pp])) = HJ at *
          refine ⟨_, rfl, lc2, tf, [pp], [cs], bs, rfl, SqL.of elc2, SqT.of (sFJ _ _ etf), .cons (SqT.of (sFJ _ _ epF)) .nil, by simp, fun ns hns => ?_, fun HK sK => ?_⟩
          · rw [List.mem_singleton] at hns; subst hns
            exact ⟨Nat.le_trans (up_len upc allc) (by omega), fun n hn => by have := allc n hn; omega⟩
          have yes : ([cs].all fun ns => ns.any (sayB bs)) = true := by
            simp only [List.all_cons, List.all_nil, Bool.and_true]
            exact met_says cl1'.up cl2.up im zz.1 zz.2
          rw [yes]
          exact ⟨_, rfl, iteF ⟨_, rfl, sFJ.trans sK⟩⟩
        · rintro σ' HG ⟨y12, rfl, sG⟩
          exact ⟨_, _, _, _, rfl, kC.trans (kF.trans (Kp.of sG)), hpF.same sG⟩
      · rintro σ' HB ⟨y9, y10, y11, y12, rfl, kB, hpB⟩
        exact ⟨_, _, _, _, _, _, _, _, _, _, _, _, rfl, s1.trans (same_kp s1A np kB)⟩
  · rintro σ' H1 ⟨y1, y2, y3, y4, y5, y6, y7, y8, y9, y10, y11, y12, rfl, s1⟩
    have i1 : IsMet [10, 20] [-20, 60] (.int 20) (some [10, 60]) := .inr ⟨20, [10, 60], rfl, by decide, by decide, rfl, ⟨by decide, by decide⟩, by unfold Both; decide, ⟨by decide, fun m => by rw [show lft [10, 20] [-20, 60] 20 = [10, 60] by decide]⟩⟩
    have i2 : IsMet [-59, 60] [-60] (.int 60) (some [-59]) := .inr ⟨60, [-59], rfl, by decide, by decide, rfl, ⟨by decide, by decide⟩, by unfold Both; decide, ⟨by decide, fun m => by rw [show lft [-59, 60] [-60] 60 = [-59] by decide]⟩⟩
    have i3 : IsMet [1] [-1] (.int 1) (some []) := .inr ⟨1, [], rfl, by decide, by decide, rfl, ⟨by decide, by decide⟩, by unfold Both; decide, ⟨by decide, fun m => by rw [show lft [1] [-1] 1 = [] by decide]⟩⟩
    refine ⟨(by show 2 ≤ sizeLine; decide), fun t1 nt1 => ⟨_, rfl, (by show 2 ≤ sizeLine; decide), fun t2 nt2 => ?_⟩⟩
    refine ⟨t1, t2, _, .int 20, [10, 20], [-20, 60], rfl, SqT.of ((same_new nt2) _ _ upd_same), SqT.of upd_same, .int 20, by decide, by decide, fun pp cs H2 s2 im np ep => ?_, fun H2 dd s2 im => nomatch i1.eq im⟩
    cases i1.eq im
    refine ⟨(by show 2 ≤ sizeLine; decide), fun t3 nt3 => ?_⟩
    refine ⟨.tuple ([10, 60].map PyData.int), .tuple ([10, 60].map PyData.int), .tup (SqT.of ((same_new nt3) _ _ ep)) (dpInts _), .tup (SqT.of upd_same) (dpInts [10, 60]), shTup _, shTup _, _, rfl, ?_⟩
    rw [eqvT_refl]
    refine iteF ?_
    refine ⟨_, rfl, (by show 2 ≤ sizeLine; decide), fun t4 nt4 => ⟨_, rfl, (by show 1 ≤ sizeLine; decide), fun t5 nt5 => ?_⟩⟩
    refine ⟨t4, t5, _, .int 60, [-59, 60], [-60], rfl, SqT.of ((same_new nt5) _ _ upd_same), SqT.of upd_same, .int 60, by decide, by decide, fun pp2 cs2 H3 s3 im2 np2 ep2 => ?_, fun H2 dd s2 im => nomatch i2.eq im⟩
    cases i2.eq im2
    refine ⟨_, rfl, (by show 1 ≤ sizeLine; decide), fun t6 nt6 => ?_⟩
    refine ⟨.tuple ([-59].map PyData.int), .tuple ([-59].map PyData.int), .tup (SqT.of ((same_new nt6) _ _ ep2)) (dpInts _), .tup (SqT.of upd_same) (dpInts [-59]), shTup _, shTup _, _, rfl, ?_⟩
    rw [eqvT_refl]
    refine iteF ?_
    refine ⟨(by show 1 ≤ sizeLine; decide), fun t7 nt7 => ⟨_, rfl, (by show 1 ≤ sizeLine; decide), fun t8 nt8 => ?_⟩⟩
    refine ⟨t7, t8, _, .int 1, [1], [-1], rfl, SqT.of ((same_new nt8) _ _ upd_same), SqT.of upd_same, .int 1, by decide, by decide, fun pp3 cs3 H4 s4 im3 np3 ep3 => ?_, fun H2 dd s2 im => nomatch i3.eq im⟩
    cases i3.eq im3
    refine ⟨(by show 0 ≤ sizeLine; decide), fun t9 nt9 => ?_⟩
    refine ⟨.tuple [], .tuple [], .tup (SqT.of ((same_new nt9) _ _ ep3)) .nil, .tup (SqT.of upd_same) .nil, shTup [], shTup [], ?_⟩
    rw [show PyData.eqv (.tuple []) (.tuple []) = true from eqvT_refl []]
    exact q _

end
end K03
namespace KL
open PySem PySem.Spec PyProof.Rows L2
section
variable {P : Program} {w : World} {K : PySem.W.Frag} {mg : Str → Option Value} {base : Heap} {x qual : Str} {st : Stmt} {C fI cc cda N : Addr} {nm q : Str} {bs bm sub : List Value} {sn : List Str} {ab' : Bool} {col : Option Bool} {dd od cdd cld an : Option Addr} {k0 k1 k2 k3 k5 : Option Value}
  {oc ccl cl dV kV doc pm ct : Value} {osl ccs csl : Array (Option Value)} {vs : Array Value} {file : Str} {tf : Tok}
/-- all of it, from what the written part says -/
theorem sup_mk (gx : mg x = some (.ref C)) (o : K.lookup C = some (excClassObj nm q C N bs bm true sn sub ab' col dd k0 k1 k2 k3 k5 "ValueError.__new__")) (rv : PySem.HandSPX.refsVE bm = true)
    (sa : PySem.W.findIn K (.ref C) "__setattr__" = some (some (.builtin "object.__setattr__"))) (exC : PySem.W.subIn K (.ref C) (.type "BaseException") = some true) (tyC : PySem.W.typeIn K (.ref C) = some (.type "type")) (kC : PySem.W.keepIn K (.ref C) = true)
    (ini : PySem.W.findIn K (.ref C) "__init__" = some (some (.ref fI))) (lf : K.lookup fI = some ⟨oc, od, .func (PySem.W.fnX "__init__" qual (defArgs st) (defBody st) (defScope st) [("__class__", cc)] dV kV doc pm an (.ref cda) ct), osl⟩)
    (cd : PySem.W.codeIn K (.ref cda) qual = true) (lc : K.lookup cda = some ⟨ccl, cdd, .fields vs, ccs⟩) (v2 : vs[2]? = some (.str file tf)) (pf : ((P.main.file : Str) == file) = true) (le : K.lookup cc = some ⟨cl, cld, .cell (some (.ref C)), csl⟩)
    (sup : mg "super" = none) (top : (P.main.scope.names.lookup ("super" : Str)).isSome = false) (opq : PySem.W.nsIn K cStatics "thirdparty.any" = some none) (al : PySem.W.ks_superIn K C C "__init__" = some (some (.builtin "ValueError.__init__"))) (mr : PySem.W.mroIn K C (.ref C) = some true)
    (sv : PySem.W.subIn K (.ref C) (.type "ValueError") = some true) (tI : PySem.W.typeIn K (.ref fI) = some (.type "function")) (par : ((defArgs st).posonlyargs ++ (defArgs st).args).head?.map (·.arg) = some "self") :
    SupC K P mg C fI cc cda qual st (PySem.W.fnX "__init__" qual (defArgs st) (defBody st) (defScope st) [("__class__", cc)] dV kV doc pm an (.ref cda) ct) :=
  ⟨⟨⟨_, _, _, _, _, _, _, _, _, _, _, _, _, _, _, o, rv⟩, sa, exC, tyC, kC⟩, ⟨_, _, _, _, _, _, _, _, _, rfl, lf⟩, cd, ⟨_, _, _, _, _, _, lc, v2, pf⟩, ⟨_, _, _, le⟩, sup, top, opq, al, mr, sv, ini, tI, par⟩
theorem er1_mk {f : Str} {fd : FuncData} (gx : mg x = some (.ref C)) (T : SupC K P mg C fI cc cda qual st fd) (F : FnOk P w K mg base CX0 1 fI fd ["self", f] (spI1 C f)) (hb : Binds K fd ["self", f] []) : Er1 P w K mg base 1 x f C :=
  ⟨T.oex, ⟨fI, fd, _, T.ini, T.tyI, F, hb⟩, gx⟩
end
end KL
namespace K03
open PySem PySem.Spec PyProof.Rows L2 KL
abbrev s_NoMeeting___init__ : Stmt := inClass (topS 2) 0
theorem si_NoMeeting : NdefX.NScope ["self", "thing", "__class__"] ["self", "thing"] ["__class__"] (defScope s_NoMeeting___init__) := NdefX.nscope_by (by decide +kernel)
theorem all_mk {l : PySem.W.OpenLaw} {w : World} {K : PySem.W.Frag} {h : Heap} {mg : Str → Option Value} {fa : Addr} (X : K.In h) (G : h.Ns mainGlobals mg) (hfa : mg "law" = some (.ref fa))
    {f_is_whole : Addr} {od_is_whole an_is_whole : Option Addr} {sl_is_whole : Array (Option Value)} {oc_is_whole kV_is_whole dc_is_whole pm_is_whole cd_is_whole ct_is_whole : Value}
    (a_is_whole : PySem.W.nsIn K mainGlobals "is_whole" = some (some (.ref f_is_whole)))
    (l_is_whole : K.lookup f_is_whole = some ⟨oc_is_whole, od_is_whole, .func (PySem.W.fnOf "is_whole" "is_whole" (defArgs s_is_whole) (defBody s_is_whole) (defScope s_is_whole) .none kV_is_whole dc_is_whole pm_is_whole an_is_whole cd_is_whole ct_is_whole), sl_is_whole⟩)
    (c_is_whole : PySem.W.codeIn K cd_is_whole "is_whole" = true) (k_is_whole : PySem.W.keepIn K (.ref f_is_whole) = true)
    {f_clause_of : Addr} {od_clause_of an_clause_of : Option Addr} {sl_clause_of : Array (Option Value)} {oc_clause_of kV_clause_of dc_clause_of pm_clause_of cd_clause_of ct_clause_of : Value}
    (a_clause_of : PySem.W.nsIn K mainGlobals "clause_of" = some (some (.ref f_clause_of)))
    (l_clause_of : K.lookup f_clause_of = some ⟨oc_clause_of, od_clause_of, .func (PySem.W.fnOf "clause_of" "clause_of" (defArgs s_clause_of) (defBody s_clause_of) (defScope s_clause_of) .none kV_clause_of dc_clause_of pm_clause_of an_clause_of cd_clause_of ct_clause_of), sl_clause_of⟩)
    (c_clause_of : PySem.W.codeIn K cd_clause_of "clause_of" = true) (k_clause_of : PySem.W.keepIn K (.ref f_clause_of) = true)
    {f_meeting : Addr} {od_meeting an_meeting : Option Addr} {sl_meeting : Array (Option Value)} {oc_meeting kV_meeting dc_meeting pm_meeting cd_meeting ct_meeting : Value}
    (a_meeting : PySem.W.nsIn K mainGlobals "meeting" = some (some (.ref f_meeting)))
    (l_meeting : K.lookup f_meeting = some ⟨oc_meeting, od_meeting, .func (PySem.W.fnOf "meeting" "meeting" (defArgs s_meeting) (defBody s_meeting) (defScope s_meeting) .none kV_meeting dc_meeting pm_meeting an_meeting cd_meeting ct_meeting), sl_meeting⟩)
    (c_meeting : PySem.W.codeIn K cd_meeting "meeting" = true) (k_meeting : PySem.W.keepIn K (.ref f_meeting) = true)
    {f_met : Addr} {od_met an_met : Option Addr} {sl_met : Array (Option Value)} {oc_met kV_met dc_met pm_met cd_met ct_met : Value}
    (a_met : PySem.W.nsIn K mainGlobals "met" = some (some (.ref f_met)))
    (l_met : K.lookup f_met = some ⟨oc_met, od_met, .func (PySem.W.fnOf "met" "met" (defArgs s_met) (defBody s_met) (defScope s_met) .none kV_met dc_met pm_met an_met cd_met ct_met), sl_met⟩)
    (c_met : PySem.W.codeIn K cd_met "met" = true) (k_met : PySem.W.keepIn K (.ref f_met) = true)
    {f_law_pool : Addr} {od_law_pool an_law_pool : Option Addr} {sl_law_pool : Array (Option Value)} {oc_law_pool kV_law_pool dc_law_pool pm_law_pool cd_law_pool ct_law_pool : Value}
    (a_law_pool : PySem.W.nsIn K mainGlobals "_law_pool" = some (some (.ref f_law_pool)))
    (l_law_pool : K.lookup f_law_pool = some ⟨oc_law_pool, od_law_pool, .func (PySem.W.fnOf "_law_pool" "_law_pool" (defArgs s_law_pool) (defBody s_law_pool) (defScope s_law_pool) .none kV_law_pool dc_law_pool pm_law_pool an_law_pool cd_law_pool ct_law_pool), sl_law_pool⟩)
    (c_law_pool : PySem.W.codeIn K cd_law_pool "_law_pool" = true) (k_law_pool : PySem.W.keepIn K (.ref f_law_pool) = true)
    {f_law_take : Addr} {od_law_take an_law_take : Option Addr} {sl_law_take : Array (Option Value)} {oc_law_take kV_law_take dc_law_take pm_law_take cd_law_take ct_law_take : Value}
    (a_law_take : PySem.W.nsIn K mainGlobals "_law_take" = some (some (.ref f_law_take)))
    (l_law_take : K.lookup f_law_take = some ⟨oc_law_take, od_law_take, .func (PySem.W.fnOf "_law_take" "_law_take" (defArgs s_law_take) (defBody s_law_take) (defScope s_law_take) .none kV_law_take dc_law_take pm_law_take an_law_take cd_law_take ct_law_take), sl_law_take⟩)
    (c_law_take : PySem.W.codeIn K cd_law_take "_law_take" = true) (k_law_take : PySem.W.keepIn K (.ref f_law_take) = true)
    {f_law_whole : Addr} {od_law_whole an_law_whole : Option Addr} {sl_law_whole : Array (Option Value)} {oc_law_whole kV_law_whole dc_law_whole pm_law_whole cd_law_whole ct_law_whole : Value}
    (a_law_whole : PySem.W.nsIn K mainGlobals "_law_whole" = some (some (.ref f_law_whole)))
    (l_law_whole : K.lookup f_law_whole = some ⟨oc_law_whole, od_law_whole, .func (PySem.W.fnOf "_law_whole" "_law_whole" (defArgs s_law_whole) (defBody s_law_whole) (defScope s_law_whole) .none kV_law_whole dc_law_whole pm_law_whole an_law_whole cd_law_whole ct_law_whole), sl_law_whole⟩)
    (c_law_whole : PySem.W.codeIn K cd_law_whole "_law_whole" = true) (k_law_whole : PySem.W.keepIn K (.ref f_law_whole) = true)
    {f_law_fillings : Addr} {od_law_fillings an_law_fillings : Option Addr} {sl_law_fillings : Array (Option Value)} {oc_law_fillings kV_law_fillings dc_law_fillings pm_law_fillings cd_law_fillings ct_law_fillings : Value}
    (a_law_fillings : PySem.W.nsIn K mainGlobals "_law_fillings" = some (some (.ref f_law_fillings)))
    (l_law_fillings : K.lookup f_law_fillings = some ⟨oc_law_fillings, od_law_fillings, .func (PySem.W.fnOf "_law_fillings" "_law_fillings" (defArgs s_law_fillings) (defBody s_law_fillings) (defScope s_law_fillings) .none kV_law_fillings dc_law_fillings pm_law_fillings an_law_fillings cd_law_fillings ct_law_fillings), sl_law_fillings⟩)
    (c_law_fillings : PySem.W.codeIn K cd_law_fillings "_law_fillings" = true) (k_law_fillings : PySem.W.keepIn K (.ref f_law_fillings) = true)
    {f_law_says : Addr} {od_law_says an_law_says : Option Addr} {sl_law_says : Array (Option Value)} {oc_law_says kV_law_says dc_law_says pm_law_says cd_law_says ct_law_says : Value}
    (a_law_says : PySem.W.nsIn K mainGlobals "_law_says" = some (some (.ref f_law_says)))
    (l_law_says : K.lookup f_law_says = some ⟨oc_law_says, od_law_says, .func (PySem.W.fnOf "_law_says" "_law_says" (defArgs s_law_says) (defBody s_law_says) (defScope s_law_says) .none kV_law_says dc_law_says pm_law_says an_law_says cd_law_says ct_law_says), sl_law_says⟩)
    (c_law_says : PySem.W.codeIn K cd_law_says "_law_says" = true) (k_law_says : PySem.W.keepIn K (.ref f_law_says) = true)
    {f_law_hold : Addr} {od_law_hold an_law_hold : Option Addr} {sl_law_hold : Array (Option Value)} {oc_law_hold kV_law_hold dc_law_hold pm_law_hold cd_law_hold ct_law_hold : Value}
    (a_law_hold : PySem.W.nsIn K mainGlobals "_law_hold" = some (some (.ref f_law_hold)))
    (l_law_hold : K.lookup f_law_hold = some ⟨oc_law_hold, od_law_hold, .func (PySem.W.fnOf "_law_hold" "_law_hold" (defArgs s_law_hold) (defBody s_law_hold) (defScope s_law_hold) .none kV_law_hold dc_law_hold pm_law_hold an_law_hold cd_law_hold ct_law_hold), sl_law_hold⟩)
    (c_law_hold : PySem.W.codeIn K cd_law_hold "_law_hold" = true) (k_law_hold : PySem.W.keepIn K (.ref f_law_hold) = true)
    {f_law_clause : Addr} {od_law_clause an_law_clause : Option Addr} {sl_law_clause : Array (Option Value)} {oc_law_clause kV_law_clause dc_law_clause pm_law_clause cd_law_clause ct_law_clause : Value}
    (a_law_clause : PySem.W.nsIn K mainGlobals "_law_clause" = some (some (.ref f_law_clause)))
    (l_law_clause : K.lookup f_law_clause = some ⟨oc_law_clause, od_law_clause, .func (PySem.W.fnOf "_law_clause" "_law_clause" (defArgs s_law_clause) (defBody s_law_clause) (defScope s_law_clause) .none kV_law_clause dc_law_clause pm_law_clause an_law_clause cd_law_clause ct_law_clause), sl_law_clause⟩)
    (c_law_clause : PySem.W.codeIn K cd_law_clause "_law_clause" = true) (k_law_clause : PySem.W.keepIn K (.ref f_law_clause) = true)
    {f_law_meet : Addr} {od_law_meet an_law_meet : Option Addr} {sl_law_meet : Array (Option Value)} {oc_law_meet kV_law_meet dc_law_meet pm_law_meet cd_law_meet ct_law_meet : Value}
    (a_law_meet : PySem.W.nsIn K mainGlobals "_law_meet" = some (some (.ref f_law_meet)))
    (l_law_meet : K.lookup f_law_meet = some ⟨oc_law_meet, od_law_meet, .func (PySem.W.fnOf "_law_meet" "_law_meet" (defArgs s_law_meet) (defBody s_law_meet) (defScope s_law_meet) .none kV_law_meet dc_law_meet pm_law_meet an_law_meet cd_law_meet ct_law_meet), sl_law_meet⟩)
    (c_law_meet : PySem.W.codeIn K cd_law_meet "_law_meet" = true) (k_law_meet : PySem.W.keepIn K (.ref f_law_meet) = true)
    {f_law_told : Addr} {od_law_told an_law_told : Option Addr} {sl_law_told : Array (Option Value)} {oc_law_told kV_law_told dc_law_told pm_law_told cd_law_told ct_law_told : Value}
    (a_law_told : PySem.W.nsIn K mainGlobals "_law_told" = some (some (.ref f_law_told)))
    (l_law_told : K.lookup f_law_told = some ⟨oc_law_told, od_law_told, .func (PySem.W.fnOf "_law_told" "_law_told" (defArgs s_law_told) (defBody s_law_told) (defScope s_law_told) .none kV_law_told dc_law_told pm_law_told an_law_told cd_law_told ct_law_told), sl_law_told⟩)
    (c_law_told : PySem.W.codeIn K cd_law_told "_law_told" = true) (k_law_told : PySem.W.keepIn K (.ref f_law_told) = true)
    {f_law_due : Addr} {od_law_due an_law_due : Option Addr} {sl_law_due : Array (Option Value)} {oc_law_due kV_law_due dc_law_due pm_law_due cd_law_due ct_law_due : Value}
    (a_law_due : PySem.W.nsIn K mainGlobals "_law_due" = some (some (.ref f_law_due)))
    (l_law_due : K.lookup f_law_due = some ⟨oc_law_due, od_law_due, .func (PySem.W.fnOf "_law_due" "_law_due" (defArgs s_law_due) (defBody s_law_due) (defScope s_law_due) .none kV_law_due dc_law_due pm_law_due an_law_due cd_law_due ct_law_due), sl_law_due⟩)
    (c_law_due : PySem.W.codeIn K cd_law_due "_law_due" = true) (k_law_due : PySem.W.keepIn K (.ref f_law_due) = true)
    {f_law : Addr} {od_law an_law : Option Addr} {sl_law : Array (Option Value)} {oc_law kV_law dc_law pm_law cd_law ct_law : Value}
    (a_law : PySem.W.nsIn K mainGlobals "law" = some (some (.ref f_law)))
    (l_law : K.lookup f_law = some ⟨oc_law, od_law, .func (PySem.W.fnOf "law" "law" (defArgs s_law) (defBody s_law) (defScope s_law) .none kV_law dc_law pm_law an_law cd_law ct_law), sl_law⟩)
    (c_law : PySem.W.codeIn K cd_law "law" = true) (k_law : PySem.W.keepIn K (.ref f_law) = true)
    (z_len : PySem.W.nsIn K mainGlobals "len" = some none)
    (z_range : PySem.W.nsIn K mainGlobals "range" = some none)
    (z_max : PySem.W.nsIn K mainGlobals "max" = some none)
    (z_min : PySem.W.nsIn K mainGlobals "min" = some none)
    (z_repr : PySem.W.nsIn K mainGlobals "repr" = some none)
    (z_isinstance : PySem.W.nsIn K mainGlobals "isinstance" = some none)
    (z_int : PySem.W.nsIn K mainGlobals "int" = some none)
    (z_bool : PySem.W.nsIn K mainGlobals "bool" = some none)
    (z_tuple : PySem.W.nsIn K mainGlobals "tuple" = some none)
    (z_list : PySem.W.nsIn K mainGlobals "list" = some none)
    (z_abs : PySem.W.nsIn K mainGlobals "abs" = some none)
    (z_sorted : PySem.W.nsIn K mainGlobals "sorted" = some none)
    (z_super : PySem.W.nsIn K mainGlobals "super" = some none)
    (z_ValueError : PySem.W.nsIn K mainGlobals "ValueError" = some none)
    {C_KeptError : Addr} (a_KeptError : PySem.W.nsIn K mainGlobals "KeptError" = some (some (.ref C_KeptError)))
    {C_NoMeeting : Addr} (a_NoMeeting : PySem.W.nsIn K mainGlobals "NoMeeting" = some (some (.ref C_NoMeeting)))
    {C_NoRows : Addr} (a_NoRows : PySem.W.nsIn K mainGlobals "NoRows" = some (some (.ref C_NoRows)))
    {C_NoClause : Addr} (a_NoClause : PySem.W.nsIn K mainGlobals "NoClause" = some (some (.ref C_NoClause)))
    {fI_NoMeeting cc_NoMeeting cda_NoMeeting N_NoMeeting : Addr} {nm_NoMeeting q_NoMeeting fl_NoMeeting : Str} {bs_NoMeeting bm_NoMeeting sub_NoMeeting : List Value} {sn_NoMeeting : List Str} {ab_NoMeeting : Bool} {col_NoMeeting : Option Bool} {dd_NoMeeting od_NoMeeting cdd_NoMeeting cld_NoMeeting an_NoMeeting : Option Addr} {k0_NoMeeting k1_NoMeeting k2_NoMeeting k3_NoMeeting k5_NoMeeting : Option Value} {oc_NoMeeting ccl_NoMeeting cl_NoMeeting kV_NoMeeting dc_NoMeeting pm_NoMeeting ct_NoMeeting : Value} {osl_NoMeeting ccs_NoMeeting csl_NoMeeting : Array (Option Value)} {vs_NoMeeting : Array Value} {tf_NoMeeting : Tok}
    (o_NoMeeting : K.lookup C_NoMeeting = some (excClassObj nm_NoMeeting q_NoMeeting C_NoMeeting N_NoMeeting bs_NoMeeting bm_NoMeeting true sn_NoMeeting sub_NoMeeting ab_NoMeeting col_NoMeeting dd_NoMeeting k0_NoMeeting k1_NoMeeting k2_NoMeeting k3_NoMeeting k5_NoMeeting "ValueError.__new__"))
    (rv_NoMeeting : PySem.HandSPX.refsVE bm_NoMeeting = true)
    (sa_NoMeeting : PySem.W.findIn K (.ref C_NoMeeting) "__setattr__" = some (some (.builtin "object.__setattr__")))
    (ex_NoMeeting : PySem.W.subIn K (.ref C_NoMeeting) (.type "BaseException") = some true)
    (ty_NoMeeting : PySem.W.typeIn K (.ref C_NoMeeting) = some (.type "type"))
    (kC_NoMeeting : PySem.W.keepIn K (.ref C_NoMeeting) = true)
    (in_NoMeeting : PySem.W.findIn K (.ref C_NoMeeting) "__init__" = some (some (.ref fI_NoMeeting)))
    (lf_NoMeeting : K.lookup fI_NoMeeting = some ⟨oc_NoMeeting, od_NoMeeting, .func (PySem.W.fnX "__init__" "NoMeeting.__init__" (defArgs s_NoMeeting___init__) (defBody s_NoMeeting___init__) (defScope s_NoMeeting___init__) [("__class__", cc_NoMeeting)] .none kV_NoMeeting dc_NoMeeting pm_NoMeeting an_NoMeeting (.ref cda_NoMeeting) ct_NoMeeting), osl_NoMeeting⟩)
    (cd_NoMeeting : PySem.W.codeIn K (.ref cda_NoMeeting) "NoMeeting.__init__" = true)
    (lc_NoMeeting : K.lookup cda_NoMeeting = some ⟨ccl_NoMeeting, cdd_NoMeeting, .fields vs_NoMeeting, ccs_NoMeeting⟩)
    (v2_NoMeeting : vs_NoMeeting[2]? = some (.str fl_NoMeeting tf_NoMeeting))
    (pf_NoMeeting : ((l.prog.main.file : Str) == fl_NoMeeting) = true)
    (le_NoMeeting : K.lookup cc_NoMeeting = some ⟨cl_NoMeeting, cld_NoMeeting, .cell (some (.ref C_NoMeeting)), csl_NoMeeting⟩)
    (al_NoMeeting : PySem.W.ks_superIn K C_NoMeeting C_NoMeeting "__init__" = some (some (.builtin "ValueError.__init__")))
    (mr_NoMeeting : PySem.W.mroIn K C_NoMeeting (.ref C_NoMeeting) = some true)
    (sv_NoMeeting : PySem.W.subIn K (.ref C_NoMeeting) (.type "ValueError") = some true)
    (tI_NoMeeting : PySem.W.typeIn K (.ref fI_NoMeeting) = some (.type "function"))
    (tp_super : (l.prog.main.scope.names.lookup ("super" : Str)).isSome = false) (opq : PySem.W.nsIn K cStatics "thirdparty.any" = some none)
    (fn_NoMeeting_thing : PySem.W.findIn K (.ref C_NoMeeting) "thing" = some none)
    (hg_NoMeeting : PySem.W.findIn K (.ref C_NoMeeting) "__getattribute__" = some (some (.builtin "BaseException.__getattribute__")))
    (hk_NoMeeting : PySem.W.findIn K (.ref C_NoMeeting) "__getattr__" = some none)
    (hs_NoMeeting : PySem.W.subIn K (.ref C_NoMeeting) (.type "BaseException") = some true)
    (hd_NoMeeting : PySem.W.hasDictIn K C_NoMeeting = true)
    (ha_NoMeeting : PySem.W.findIn K (.ref C_NoMeeting) "__class__" = some (some (.builtin "object.__class__")))
    (hn_NoMeeting : PySem.W.specialIn K (.builtin "object.__class__") "__get__" = some (some (.builtin "getset_descriptor.__get__")))
    (ht_NoMeeting : PySem.W.takesIn K (.builtin "object.__class__") = some true)
    (hm_NoMeeting : PySem.W.mroIn K C_NoMeeting (.type "object") = some true)
    (x106 : PySem.W.exmOne K (.ref C_NoMeeting) (.ref C_KeptError) = some true)
    (x107 : PySem.W.kitOne K (.ref C_NoMeeting) (.ref C_NoMeeting) = some true)
    (x108 : PySem.W.kitAny K (.ref C_NoMeeting) [.ref C_NoClause, .ref C_NoRows] = some false)
    (x109 : PySem.W.kitOne K (.ref C_NoMeeting) (.type "ValueError") = some true) :
    ∃ fd : FuncData, (∀ (s : Shared) (v : Value), BindsTo s fd ⟨[v], []⟩ [("_law_script", v)]) ∧ ∀ base : Heap, K.In base → base.Ns mainGlobals mg → GFn l.prog w K mg base CX0 6 fa fd ["_law_script"] (spLaw K) := by
  have e := hfa.symm.trans (PySem.W.mg_of X G a_law)
  cases e
  have F_law := fun_mk (st := s_law) l_law c_law k_law
  refine ⟨PySem.W.fnOf "law" "law" (defArgs s_law) (defBody s_law) (defScope s_law) .none kV_law dc_law pm_law an_law cd_law ct_law, fun s v => .of_eq rfl, fun base _ _ => ?_⟩
  have ml {x : Str} {v : Value} (q : PySem.W.nsIn K mainGlobals x = some (some v)) : mg x = some v := PySem.W.mg_of X G q
  have mn {x : Str} (q : PySem.W.nsIn K mainGlobals x = some none) : mg x = none := PySem.W.mg_none_of X G q
  have T_NoMeeting := sup_mk (P := l.prog) (x := "NoMeeting") (ml a_NoMeeting) o_NoMeeting rv_NoMeeting sa_NoMeeting ex_NoMeeting ty_NoMeeting kC_NoMeeting in_NoMeeting lf_NoMeeting cd_NoMeeting lc_NoMeeting v2_NoMeeting pf_NoMeeting le_NoMeeting (mn z_super) tp_super opq al_NoMeeting mr_NoMeeting sv_NoMeeting tI_NoMeeting rfl
  have G_NoMeeting : FnOk l.prog w K mg base CX0 1 fI_NoMeeting _ ["self", "thing"] (spI1 C_NoMeeting "thing") := ok_init1 T_NoMeeting si_NoMeeting rfl rfl (fun _ => rfl) (fun _ _ => rfl) fn_NoMeeting_thing (by decide) (by decide)
  have E_NoMeeting : Er1 l.prog w K mg base 1 "NoMeeting" "thing" C_NoMeeting := er1_mk (ml a_NoMeeting) T_NoMeeting G_NoMeeting (.all fun us hl => match us, hl with | [_, _], _ => rfl)
  have F_is_whole := fun_mk (st := s_is_whole) l_is_whole c_is_whole k_is_whole
  have D_is_whole : Df l.prog w K mg base 2 "is_whole" _ (spWh K) := ⟨_, _, ok_wh F_is_whole (mn z_isinstance) (mn z_int) (mn z_bool), k_is_whole, F_is_whole.binds fun _ _ _ _ _ _ us hl => match us, hl with | [_], _ => rfl, ml a_is_whole⟩
  have F_clause_of := fun_mk (st := s_clause_of) l_clause_of c_clause_of k_clause_of
  have D_clause_of : Df l.prog w K mg base 2 "clause_of" _ (spClOf K) := ⟨_, _, ok_clof F_clause_of (mn z_abs) (mn z_tuple) (mn z_sorted), k_clause_of, F_clause_of.binds fun _ _ _ _ _ _ us hl => match us, hl with | [_], _ => rfl, ml a_clause_of⟩
  have F_meeting := fun_mk (st := s_meeting) l_meeting c_meeting k_meeting
  have D_meeting : Df l.prog w K mg base 3 "meeting" _ (spMtg K) := ⟨_, _, ok_mtg F_meeting (D_is_whole.mono (by decide)) D_clause_of (mn z_abs), k_meeting, F_meeting.binds fun _ _ _ _ _ _ us hl => match us, hl with | [_, _, _], _ => rfl, ml a_meeting⟩
  have F_met := fun_mk (st := s_met) l_met c_met k_met
  have D_met : Dx l.prog w K mg base 4 "met" _ (spMet C_NoMeeting K) := ⟨_, _, ok_met F_met (D_meeting.mono (by decide)) (E_NoMeeting.mono (by decide)), k_met, F_met.binds fun _ _ _ _ _ _ us hl => match us, hl with | [_, _, _], _ => rfl, ml a_met⟩
  have F_law_pool := fun_mk (st := s_law_pool) l_law_pool c_law_pool k_law_pool
  have D_law_pool : Df l.prog w K mg base 2 "_law_pool" _ (spPool K) := ⟨_, _, ok_pool F_law_pool (mn z_len) (mn z_int), k_law_pool, F_law_pool.binds fun _ _ _ _ _ _ us hl => match us, hl with | [_, _], _ => rfl, ml a_law_pool⟩
  have F_law_take := fun_mk (st := s_law_take) l_law_take c_law_take k_law_take
  have D_law_take : Df l.prog w K mg base 2 "_law_take" _ (spTake K) := ⟨_, _, ok_take F_law_take , k_law_take, F_law_take.binds fun _ _ _ _ _ _ us hl => match us, hl with | [_, _], _ => rfl, ml a_law_take⟩
  have F_law_whole := fun_mk (st := s_law_whole) l_law_whole c_law_whole k_law_whole
  have D_law_whole : Df l.prog w K mg base 2 "_law_whole" _ (spWhole K) := ⟨_, _, ok_whole F_law_whole (mn z_isinstance) (mn z_int) (mn z_bool), k_law_whole, F_law_whole.binds fun _ _ _ _ _ _ us hl => match us, hl with | [_], _ => rfl, ml a_law_whole⟩
  have F_law_fillings := fun_mk (st := s_law_fillings) l_law_fillings c_law_fillings k_law_fillings
  have D_law_fillings : Df l.prog w K mg base 2 "_law_fillings" _ (spFills K) := ⟨_, _, ok_fills F_law_fillings (mn z_range) (mn z_tuple), k_law_fillings, F_law_fillings.binds fun _ _ _ _ _ _ us hl => match us, hl with | [_], _ => rfl, ml a_law_fillings⟩
  have F_law_says := fun_mk (st := s_law_says) l_law_says c_law_says k_law_says
  have D_law_says : Df l.prog w K mg base 2 "_law_says" _ (spLSays K) := ⟨_, _, ok_lsays F_law_says (mn z_abs), k_law_says, F_law_says.binds fun _ _ _ _ _ _ us hl => match us, hl with | [_, _], _ => rfl, ml a_law_says⟩
  have F_law_hold := fun_mk (st := s_law_hold) l_law_hold c_law_hold k_law_hold
  have D_law_hold : Df l.prog w K mg base 3 "_law_hold" _ (spHold K) := ⟨_, _, ok_hold F_law_hold D_law_says, k_law_hold, F_law_hold.binds fun _ _ _ _ _ _ us hl => match us, hl with | [_, _], _ => rfl, ml a_law_hold⟩
  have F_law_clause := fun_mk (st := s_law_clause) l_law_clause c_law_clause k_law_clause
  have D_law_clause : Df l.prog w K mg base 3 "_law_clause" _ (spClause K) := ⟨_, _, ok_clause F_law_clause D_law_take (mn z_len) (mn z_range) (mn z_tuple), k_law_clause, F_law_clause.binds fun _ _ _ _ _ _ us hl => match us, hl with | [_, _, _], _ => rfl, ml a_law_clause⟩
  have F_law_meet := fun_mk (st := s_law_meet) l_law_meet c_law_meet k_law_meet
  have D_law_meet : Df l.prog w K mg base 2 "_law_meet" _ (spLMeet K) := ⟨_, _, ok_lmeet F_law_meet (mn z_abs) (mn z_tuple) (mn z_sorted), k_law_meet, F_law_meet.binds fun _ _ _ _ _ _ us hl => match us, hl with | [_, _, _], _ => rfl, ml a_law_meet⟩
  have F_law_due := fun_mk (st := s_law_due) l_law_due c_law_due k_law_due
  have D_law_due : Df l.prog w K mg base 3 "_law_due" _ (spDue K) := ⟨_, _, ok_due F_law_due D_law_whole D_law_meet, k_law_due, F_law_due.binds fun _ _ _ _ _ _ us hl => match us, hl with | [_, _, _], _ => rfl, ml a_law_due⟩
  have T1 : L2.ExcC K C_NoMeeting := ⟨hg_NoMeeting, hk_NoMeeting, hs_NoMeeting, hd_NoMeeting, ha_NoMeeting, hn_NoMeeting, ht_NoMeeting, hm_NoMeeting⟩
  have T2 : XfC K C_NoMeeting := ⟨hg_NoMeeting, hk_NoMeeting, hs_NoMeeting, hd_NoMeeting⟩
  have F_law_told := fun_mk (st := s_law_told) l_law_told c_law_told k_law_told
  have D_law_told : Df l.prog w K mg base 5 "_law_told" _ (spTold K) := ⟨_, _, ok_told F_law_told D_met (ml a_KeptError) (ml a_NoMeeting) (ml a_NoRows) (ml a_NoClause) (mn z_isinstance) (mn z_ValueError) x106 x107 x108 x109 T1 T2 fn_NoMeeting_thing, k_law_told, F_law_told.binds fun _ _ _ _ _ _ us hl => match us, hl with | [_, _, _], _ => rfl, ml a_law_told⟩
  exact ok_law F_law (D_law_pool.mono (by decide)) (D_law_take.mono (by decide)) (D_law_clause.mono (by decide)) D_law_told (D_law_due.mono (by decide)) (D_met.mono (by decide)) (D_law_hold.mono (by decide)) (D_law_fillings.mono (by decide))
    (mn z_len) (mn z_range) (mn z_max) (mn z_min) (mn z_repr) (mn z_tuple) (mn z_list) (mn z_abs) (mn z_sorted)

end K03
open PySem PySem.W PyProof.Rows
set_option maxHeartbeats 0 in
theorem PySem.Challenge.cw_keptclauses_k03_clauses_meet_holds : PySem.Challenge.rw_keptclauses_k03_clauses_meet.Holds := by
  w_on; o_law; k_head; (case hw => w_witness2)
  k_fill
  refine KL.walk_g (l := PySem.Challenge.rw_keptclauses_k03_clauses_meet) (n := 63) (k := 6) (x := "_law_script") (sp := K03.spLaw) rfl (by decide) rfl ⟨rfl, by decide, by decide⟩ (fun w h Y => PySem.W.kIn_of Y) ?F (fun _ _ a ns hl _ hS => ⟨a, ns, rfl, hS, hl, fun _ => rfl⟩)
  case F =>
    intro w mg fa h KX G hmg
    refine' K03.all_mk KX G hmg ?a_is_whole ?l_is_whole ?c_is_whole ?k_is_whole ?a_clause_of ?l_clause_of ?c_clause_of ?k_clause_of ?a_meeting ?l_meeting ?c_meeting ?k_meeting ?a_met ?l_met ?c_met ?k_met ?a_law_pool ?l_law_pool ?c_law_pool ?k_law_pool ?a_law_take ?l_law_take ?c_law_take ?k_law_take ?a_law_whole ?l_law_whole ?c_law_whole ?k_law_whole ?a_law_fillings ?l_law_fillings ?c_law_fillings ?k_law_fillings ?a_law_says ?l_law_says ?c_law_says ?k_law_says ?a_law_hold ?l_law_hold ?c_law_hold ?k_law_hold ?a_law_clause ?l_law_clause ?c_law_clause ?k_law_clause ?a_law_meet ?l_law_meet ?c_law_meet ?k_law_meet ?a_law_told ?l_law_told ?c_law_told ?k_law_told ?a_law_due ?l_law_due ?c_law_due ?k_law_due ?a_law ?l_law ?c_law ?k_law ?z_len ?z_range ?z_max ?z_min ?z_repr ?z_isinstance ?z_int ?z_bool ?z_tuple ?z_list ?z_abs ?z_sorted ?z_super ?z_ValueError ?a_KeptError ?a_NoMeeting ?a_NoRows ?a_NoClause ?o_NoMeeting ?rv_NoMeeting ?sa_NoMeeting ?ex_NoMeeting ?ty_NoMeeting ?kC_NoMeeting ?in_NoMeeting ?lf_NoMeeting ?cd_NoMeeting ?lc_NoMeeting ?v2_NoMeeting ?pf_NoMeeting ?le_NoMeeting ?al_NoMeeting ?mr_NoMeeting ?sv_NoMeeting ?tI_NoMeeting ?tp_super ?opq ?fn_NoMeeting_thing ?hg_NoMeeting ?hk_NoMeeting ?hs_NoMeeting ?hd_NoMeeting ?ha_NoMeeting ?hn_NoMeeting ?ht_NoMeeting ?hm_NoMeeting ?x106 ?x107 ?x108 ?x109
    (case a_is_whole => k_is); (case l_is_whole => k_is); (case c_is_whole => k_is); (case k_is_whole => k_is); (case a_clause_of => k_is); (case l_clause_of => k_is); (case c_clause_of => k_is); (case k_clause_of => k_is); (case a_meeting => k_is); (case l_meeting => k_is); (case c_meeting => k_is); (case k_meeting => k_is); (case a_met => k_is); (case l_met => k_is); (case c_met => k_is); (case k_met => k_is); (case a_law_pool => k_is); (case l_law_pool => k_is); (case c_law_pool => k_is); (case k_law_pool => k_is); (case a_law_take => k_is); (case l_law_take => k_is); (case c_law_take => k_is); (case k_law_take => k_is); (case a_law_whole => k_is); (case l_law_whole => k_is); (case c_law_whole => k_is); (case k_law_whole => k_is); (case a_law_fillings => k_is); (case l_law_fillings => k_is); (case c_law_fillings => k_is); (case k_law_fillings => k_is); (case a_law_says => k_is); (case l_law_says => k_is); (case c_law_says => k_is); (case k_law_says => k_is); (case a_law_hold => k_is); (case l_law_hold => k_is); (case c_law_hold => k_is); (case k_law_hold => k_is); (case a_law_clause => k_is); (case l_law_clause => k_is); (case c_law_clause => k_is); (case k_law_clause => k_is); (case a_law_meet => k_is); (case l_law_meet => k_is); (case c_law_meet => k_is); (case k_law_meet => k_is); (case a_law_told => k_is); (case l_law_told => k_is); (case c_law_told => k_is); (case k_law_told => k_is); (case a_law_due => k_is); (case l_law_due => k_is); (case c_law_due => k_is); (case k_law_due => k_is); (case a_law => k_is); (case l_law => k_is); (case c_law => k_is); (case k_law => k_is); (case z_len => k_is); (case z_range => k_is); (case z_max => k_is); (case z_min => k_is); (case z_repr => k_is); (case z_isinstance => k_is); (case z_int => k_is); (case z_bool => k_is); (case z_tuple => k_is); (case z_list => k_is); (case z_abs => k_is); (case z_sorted => k_is); (case z_super => k_is); (case z_ValueError => k_is); (case a_KeptError => k_is); (case a_NoMeeting => k_is); (case a_NoRows => k_is); (case a_NoClause => k_is); (case o_NoMeeting => k_is); (case rv_NoMeeting => exact rfl); (case sa_NoMeeting => k_is); (case ex_NoMeeting => k_is); (case ty_NoMeeting => k_is); (case kC_NoMeeting => k_is); (case in_NoMeeting => k_is); (case lf_NoMeeting => k_is); (case cd_NoMeeting => k_is); (case lc_NoMeeting => k_is); (case v2_NoMeeting => exact rfl); (case pf_NoMeeting => decide +kernel); (case le_NoMeeting => k_is); (case al_NoMeeting => kernel_rfl); (case mr_NoMeeting => k_is); (case sv_NoMeeting => k_is); (case tI_NoMeeting => k_is); (case tp_super => exact rfl); (case opq => k_is); (case fn_NoMeeting_thing => k_is); (case hg_NoMeeting => k_is); (case hk_NoMeeting => k_is); (case hs_NoMeeting => k_is); (case hd_NoMeeting => k_is); (case ha_NoMeeting => k_is); (case hn_NoMeeting => k_is); (case ht_NoMeeting => k_is); (case hm_NoMeeting => k_is); (case x106 => kernel_rfl); (case x107 => kernel_rfl); (case x108 => kernel_rfl); (case x109 => kernel_rfl)
