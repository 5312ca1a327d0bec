import PyProof.Rows.All
import Wide.All
import OpenK.AllK
import Wide.FinOn
import PyProof.ReprRoads
import PyProof.ReprLen
import KE.KRevSl
import HandS.Base
import HandS.Call
import HandS.List
import HandS.Words
import HandS.Ends
import HandS.WordsList
import HandS.ForMost
import HandS.Wide
import HandS.IsInst
import HandS.TupAny
import HandS.Defaults
import HandS.Codes
import HandS.SetKeys
import HandS.More
import HandS.Style
import KE.KExcSuper
import HandS.Exc
import HandS.ExcSuper
import HandS.ExcInit
import HandS.Nested
import HandS.TryOnly
import HandS.WordsExc
import HandS.ExcIs
import HandS.ExcField
import HandS.ExcOwn
import KE.KExcIs
import HandS.SortRule
import HandS.Conv
import HandS.Iter
import HandS.Walk
import KE.GoesNew
import KE.GoesEnumKw
import HandS.Strs
import HandS.Star
import HandS.MakeKwOnly
import HandS.CallLocal
import HandS.NoneIn
import HandS.Deep
import HandS.TupMul
import HandS.TupSets
import PyProof.InstNe
import HandS.OwnEq
import HandS.SetFor
import PyProof.ExcBaseAll.ValueError
import PyProof.Rows.ReprOcc
import PyProof.ExcBaseAll.ArithmeticError
import PySem.Challenge.RW_keptclauses_k21_no_runs
set_option Elab.async false
set_option linter.all false
set_option maxRecDepth 100000
set_option maxHeartbeats 4000000
namespace KL
open PySem PySem.Spec PyProof.Rows L2
section
variable {prog : Program} {w : World} {A : Around} {E : Value → Shared → Prop} {s : Shared}
/-! a tuple read backwards: t[::-1] -/
theorem adj_back (n : Nat) : Builtin.Slice.sliceAdjust none none (-1) (n : Int) = ((n : Int) - 1, -1) := by
  unfold Builtin.Slice.sliceAdjust
  simp
theorem plc_back (n : Nat) : Builtin.Slice.slicePlaces ((n : Int) - 1) (-1) (-1) = n := by
  unfold Builtin.Slice.slicePlaces
  have h1 : ¬ ((-1 : Int) > 0) := by omega
  simp only [h1, if_false]
  split
  · simp
  · omega
theorem fm_map {α β : Type} {f : α → Option β} {g : α → β} : ∀ l : List α, (∀ k ∈ l, f k = some (g k)) → l.filterMap f = l.map g
  | [], _ => rfl
  | x :: l, h => by
    rw [List.filterMap_cons, h x List.mem_cons_self, fm_map l fun k hk => h k (List.mem_cons_of_mem _ hk)]
    rfl
theorem pick_back (xs : List Value) : ((List.range xs.length).filterMap fun (k : Nat) => xs.toArray[((xs.length : Int) - 1 + (k : Int) * -1).toNat]?) = xs.reverse := by
  have e := fm_map (f := fun (k : Nat) => xs.toArray[((xs.length : Int) - 1 + (k : Int) * -1).toNat]?) (g := fun k => (xs[xs.length - 1 - k]?).getD .none) (List.range xs.length) fun k hk => by
    have hk' := List.mem_range.mp hk
    have ei : ((xs.length : Int) - 1 + (k : Int) * -1).toNat = xs.length - 1 - k := by omega
    show xs.toArray[((xs.length : Int) - 1 + (k : Int) * -1).toNat]? = _
    rw [ei, List.getElem?_toArray]
    have hb : xs.length - 1 - k < xs.length := by omega
    rw [List.getElem?_eq_getElem hb]
    rfl
  rw [e]
  apply List.ext_getElem?
  intro i
  rw [List.getElem?_map]
  by_cases hi : i < xs.length
  · rw [List.getElem?_range hi, List.getElem?_reverse hi]
    show some ((xs[xs.length - 1 - i]?).getD .none) = _
    rw [List.getElem?_eq_getElem (show xs.length - 1 - i < xs.length by omega)]
    rfl
  · rw [List.getElem?_eq_none (by simpa using hi), List.getElem?_eq_none (by simpa using hi)]
    rfl
theorem app_back {sl : Addr} {vk : Value} {n : Nat} {Q : Int × Int × Nat → Shared → Prop} (hs : s.heap.IsSliceOf sl .none .none vk) (pk : IsPart vk (some (-1)))
    (h : Q ((n : Int) - 1, -1, n) s) : wpAny (model prog w) A (Builtin.Slice.sliceApplied (.ref sl) (pure (n : Int))) Q E s := by
  obtain ⟨o, ho, hc, hd⟩ := id hs
  unfold Builtin.Slice.sliceApplied Builtin.Slice.sliceFields
  refine wpAny_bind (wpAny_bind (wpAny_field ho hd (x := .none) rfl (wpAny_bind (wpAny_field ho hd (x := .none) rfl
    (wpAny_bind (wpAny_field ho hd (x := vk) rfl (wpAny_pure ?_)))))))
  cases pk with
  | int i t =>
    refine wpAny_bind (slicePart_int ?_)
    show wpAny _ _ (if ((-1 : Int) == 0) = true then _ else _) _ _ s
    rw [if_neg (by decide)]
    refine wpAny_bind (slicePart_none (wpAny_bind (slicePart_none (wpAny_bind (wpAny_pure ?_)))))
    show wpAny _ _ (match Builtin.Slice.sliceAdjust none none (-1) (n : Int) with | (lo, hi) => pure (lo, (-1 : Int), Builtin.Slice.slicePlaces lo hi (-1))) _ _ s
    rw [adj_back n]
    show wpAny _ _ (pure ((n : Int) - 1, (-1 : Int), Builtin.Slice.slicePlaces ((n : Int) - 1) (-1) (-1))) _ _ s
    rw [plc_back]
    exact wpAny_pure h
theorem tup_back {t sl : Addr} {its : List Value} {vk : Value} {Q : Value → Shared → Prop} (ht : IsTup s.heap t its.toArray) (hs : s.heap.IsSliceOf sl .none .none vk) (pk : IsPart vk (some (-1)))
    (h : Q (.ref s.heap.objs.size) { s with heap := s.heap.push { cls := .type "tuple", data := .seq its.reverse.toArray } })
    (hz : its.length ≤ sizeLine) : wpAny (model prog w) A (getItem (.ref t) (.ref sl)) Q E s := by
  have hok : sizeOk (.seq its.reverse.toArray) := by
    show its.reverse.toArray.size ≤ sizeLine
    rw [List.size_toArray, List.length_reverse]
    exact hz
  obtain ⟨o, ho, hc, hd⟩ := id hs
  have hT : s.TypeIs (.ref sl) "slice" := ⟨o, ho, hc⟩
  unfold getItem
  try with_reducible refine wpAny_holding ?_
  first | refine wpAny_bind (wpAny_pure ?_) | skip
  refine wpAny_bind (wpAny_sequenceKey ht.typeIs (by decide) ?_)
  refine wpAny_bind (wpAny_callSpecial?_slot (name := Str.ofString "__getitem__") ht.typeIs slot_tuple_getitem (wpAny_call_entry slot_tuple_getitem ht.typeIs entry_tuple_getitem ?_ (args_tuple_getitem _ _)))
  show wpAny _ _ (Builtin.Tuple.tupleItemsOf (.ref t) >>= _) _ _ s
  refine wpAny_bind (tupleItemsOf_ ht ?_)
  refine wpAny_bind (wpAny_typeOf hT ?_)
  rw [if_pos (by decide)]
  rw [List.size_toArray]
  refine wpAny_bind (app_back hs pk ?_)
  have hno : ¬ ((((its.length : Int) - 1) == 0 && (-1 : Int) == 1 && its.length == its.length) = true) := by simp
  show wpAny _ _ (if (((its.length : Int) - 1) == 0 && (-1 : Int) == 1 && its.length == its.length) = true then _ else _) _ _ s
  rw [if_neg hno, pick_back its]
  first
    | exact wpAny_bind (m := Builtin.Tuple.tupleExact _) (wpAny_newObj_type (wpAny_pure ⟨_, rfl, wpAny_pure h⟩) hok)
    | exact wpAny_bind (m := Builtin.Tuple.tupleExact _) (wpAny_newObj_type (wpAny_bind (wpAny_pure (wpAny_pure ⟨_, rfl, wpAny_pure h⟩))) hok)
    | exact wpAny_bind (wpAny_bind (m := Builtin.Tuple.tupleExact _) (wpAny_newObj_type (wpAny_pure (wpAny_pure ⟨_, rfl, wpAny_pure h⟩)) hok))
    | exact wpAny_bind (wpAny_bind (m := Builtin.Tuple.tupleExact _) (wpAny_newObj_type (wpAny_pure ⟨_, rfl, wpAny_pure h⟩) hok))
end
section
variable {X : Cx}
def tRevT (K : PySem.W.Frag) (te : TE) : TE := fun σ H Q => te σ H fun x H1 => ∃ a xs, x = .ref a ∧ SqT K H1 a xs ∧ ∀ p, H1 p = none → Q (.ref p) (upd H1 p (.tup xs.reverse))
theorem pe_revT {e : Expr} {te : TE} {k : Nat} {p1 p2 p3 pos : Pos} (he : PE X e te) :
    PE X (.Subscript e (.Slice none none (some (.UnaryOp .USub (.Constant (.int 1) k p1) p2)) p3) pos) (tRevT X.K te) := by
  refine ⟨fun pins s σ H Q I h => ?_⟩
  refine Subscript_ (thn (he.run pins s σ H _ I h) fun v s1 ⟨x, H1, I1, r1, a, xs, ex, hx, q⟩ => ?_)
  subst ex
  cases r1
  have pm : PO X (some (.UnaryOp .USub (.Constant (.int 1) k p1) p2)) (tPart (tUn (rU fun i => .int (-i)) (tC (.int 1)))) := po_some (pe_un un_neg pe_int)
  refine wpAny_Slice (thn (po_none.run pins s1 σ H1 (fun o G => o = none ∧ G = H1) I1 ⟨rfl, rfl⟩) fun vl s2 ⟨l, G2, I2, pl, el, e2⟩ => ?_)
  subst el e2
  refine thn (po_none.run pins s2 σ G2 (fun o G => o = none ∧ G = G2) I2 ⟨rfl, rfl⟩) fun vu s3 ⟨u, G3, I3, pu, eu, e3⟩ => ?_
  subst eu e3
  refine thn (pm.run pins s3 σ G3 (fun o G => o = some (-1) ∧ G = G3) I3 ⟨1, rfl, -1, rfl, rfl, rfl⟩) fun vs s4 ⟨o, G4, I4, ps, eo, e4⟩ => ?_
  subst eo e4
  cases pl
  cases pu
  have I5 : Inv X pins σ G4 { s4 with heap := s4.heap.push { cls := .type "slice", data := .fields #[.none, .none, vs] } } := I4.kept (t' := s4.toks) fun b ob q => Heap.get?_push_of_some _ q
  obtain ⟨its, r, ht, hz⟩ := I5.tuple hx
  have hlen := r.length
  show wpAny (model X.prog X.w) X.A (subscriptTail e (.Slice none none (some (.UnaryOp .USub (.Constant (.int 1) k p1) p2)) p3) (.ref a) (.ref s4.heap.objs.size)) (EP X pins σ Q) X.xe
    { s4 with heap := s4.heap.push { cls := .type "slice", data := .fields #[.none, .none, vs] } }
  refine tail_any (ops := [.ref a, .ref s4.heap.objs.size]) ht.typeIs slot_tuple_getitem.lookup ?_ (by with_unfolding_all rfl)
  refine tup_back ht (Heap.IsSliceOf.new _ .none .none vs) ps ?_ (by omega)
  refine ⟨.ref _, _, I5.laid (t' := s4.toks) (o := .tup xs.reverse) (fun b ob q => Heap.get?_push_of_some _ q) (Nat.le_refl _) ?_, rfl, q _ (I5.hok.fresh (Nat.le_refl _))⟩
  exact ⟨by rw [List.length_reverse]; exact hz, _, r.reverse, _, Heap.get?_push_size _ rfl, rfl, 0, rfl⟩
/-! repr of data -/
def rRep (K : PySem.W.Frag) : List V → Hp → VK → Prop := fun xs H Q => ∃ x d, xs = [x] ∧ Dp K H x d ∧ d.showable = true ∧ d.depth ≤ 60 ∧ d.shown.length ≤ sizeLine ∧ Q (.str d.shown) H
mutual
theorem noDict {K : PySem.W.Frag} {H : Hp} : ∀ (d : PyData) (x : V), Dp K H x d → d.hasDict = false
  | .none, _, _ | .bool _, _, _ | .int _, _, _ | .str _, _, _ => by unfold PyData.hasDict; rfl
  | .list ds, _, h => by
    cases h with
    | lst _ a => unfold PyData.hasDict; exact noDicts ds _ a
  | .tuple ds, _, h => by
    cases h with
    | tup _ a => unfold PyData.hasDict; exact noDicts ds _ a
  | .dict _, _, h => by cases h
theorem noDicts {K : PySem.W.Frag} {H : Hp} : ∀ (ds : List PyData) (xs : List V), DpAll K H xs ds → PyData.hasDictAll ds = false
  | [], _, _ => by unfold PyData.hasDictAll; rfl
  | d :: ds, _, h => by
    cases h with
    | cons h1 h2 => unfold PyData.hasDictAll; rw [noDict d _ h1, noDicts ds _ h2]; rfl
end
theorem call_rep (hg : X.A.guards = some []) (hu : X.A.units + 64 < cLine) : CallR X (.builtin "repr") (rRep X.K) := by
  intro pins s σ H xs us Q I r h
  obtain ⟨x, d, rfl, hd, hs, hdp, hz, q⟩ := h
  obtain ⟨u, rfl, ru⟩ := vals1 r
  obtain ⟨as, hr⟩ := Dp.reads I d x u hd ru
  have nd := noDict d x hd
  cases hd with
  | non =>
    cases (show u = Value.none from ru)
    exact PySem.P.repr_of_none ⟨.str _, H, I.tok _, ⟨_, rfl⟩, q⟩
  | bl b =>
    cases (show u = Value.bool b from ru)
    exact PySem.P.repr_of_bool ⟨.str _, H, I.tok _, ⟨_, rfl⟩, q⟩
  | int i =>
    obtain ⟨t, rfl⟩ := ru
    exact PySem.P.repr_of_int (of_decide_eq_true hs) ⟨.str _, H, I.tok _, ⟨_, rfl⟩, q⟩
  | str y =>
    obtain ⟨t, rfl⟩ := ru
    exact PySem.P.repr_of_str ⟨.str _, H, I.tok _, ⟨_, rfl⟩, q⟩ hz
  | lst _ _ =>
    cases (show u = Value.ref _ from ru)
    exact repr_of_reads' hr hs (fun z => absurd z (by rw [nd]; exact Bool.false_ne_true)) hg (by omega) (fun _ _ e => e)
      (fun h' t tk k => ⟨.str _, H, I.kept (t' := tk) k, ⟨t, rfl⟩, q⟩) hz
  | tup _ _ =>
    cases (show u = Value.ref _ from ru)
    exact repr_of_reads' hr hs (fun z => absurd z (by rw [nd]; exact Bool.false_ne_true)) hg (by omega) (fun _ _ e => e)
      (fun h' t tk k => ⟨.str _, H, I.kept (t' := tk) k, ⟨t, rfl⟩, q⟩) hz
end
end KL
namespace KL
open PySem PySem.Spec PyProof.Rows L2
/-- a def's promise where nothing is being shown by repr around it -/
structure GFn (P : Program) (w : World) (K : PySem.W.Frag) (mg : Str → Option Value) (base : Heap) (CX : CXT) (k : Nat) (f : Addr) (fd : FuncData) (ps : List Str) (sp : Sp) : Prop where
  len : ∀ vs H Q E, sp vs H Q E → vs.length = ps.length
  go : ∀ (A : Around), A.guards = some [] → Room k A → ∀ (outer : List Env) (s : Shared) (H : Hp) (args : Args) (us : List Value) (vs : List V) (Q : VK) (E : XK),
    Env0 P w K mg base A outer s H → BindsTo s fd args (ps.zip us) → Vals vs us → sp vs H Q E → codeAny (model P w) A (.call (.ref f) args) (CR CX outer P w H s Q E) s
section
variable {P : Program} {w : World} {K : PySem.W.Frag} {mg : Str → Option Value} {base : Heap} {CX : CXT} {k : Nat} {f : Addr} {fd : FuncData} {ps : List Str} {sp : Sp}
theorem GFn.of (F : FnOk P w K mg base CX k f fd ps sp) : GFn P w K mg base CX k f fd ps sp :=
  ⟨F.len, fun A _ hr outer s H args us vs Q E e b r h => F.run A outer s H args us vs Q E hr e b r h⟩
/-- a def of the text by its body -/
theorem gfn {x qual : Str} {st : Stmt} {N : List Str} (F : Fun K x qual st f fd) (S : FnScope N ps (defScope st)) (len : ∀ vs H Q E, sp vs H Q E → vs.length = ps.length)
    (body : ∀ (cdv : Value) (A : Around), A.guards = some [] → ∀ (outer : List Env) (s : Shared) (H : Hp) (vs : List V) (Q : VK) (E : XK), Room k (A.deeper (envOfC qual (defScope st) s.heap.objs.size f cdv)) → sp vs H Q E →
      ∃ t, PSs (cxOf CX P w K mg base N qual (defScope st) f cdv A outer s H E) (defBody st) t ∧ t { nx := fun _ G => Q .non G, rt := Q } (start N vs) H) :
    GFn P w K mg base CX (k + 1) f fd ps sp := by
  obtain ⟨oc, od, kV, doc, pm, an, cdv, ct, osl, rfl, lk, hcd⟩ := F.ex
  refine ⟨len, fun A hg hr outer s H args us vs Q E e0 hb r hsp => ?_⟩
  have hl := len _ _ _ _ hsp
  have up : ∀ b o, base.get? b = some o → s.heap.get? b = some o := fun b o e => (e0.bs b o e).1
  have KX : K.In s.heap := e0.mod.kin.keeps up
  have lim : s.heap.NoLimit := e0.mod.nolimit.keeps up
  have kinds : ∀ y ∈ ps.zip us, (defScope st).names.lookup y.1 = some .local ∨
      ((defScope st).names.lookup y.1 = some .cell ∧ ((cellsFrom (s.heap.objs.size + 1) (defScope st).names []).lookup y.1).isSome = true) := by
    rintro ⟨n, v⟩ hy
    cases S.par n (List.of_mem_zip hy).1 with
    | inl q => exact .inl q
    | inr q => exact .inr ⟨q, PySem.W.cellsFrom_some _ _ _ (.inl q)⟩
  refine codeAny_call_function hr.depth (KX _ _ lk) rfl S.co S.gen rfl (PySem.W.codeRec_of KX hcd) (hb _ _ _ _ ?_)
  refine wpAny_newFunctionEnv_cells S.kind kinds fun env he s1 x => ?_
  subst he
  refine ⟨lim.keeps x.toInCall.keep, codeAny_func ?_⟩
  obtain ⟨t, ht, hq⟩ := body cdv A hg outer s H vs Q E (hr.deeper _) hsp
  have I := inv_start (CX := CX) (E := E) S hr.hd e0 hl r x
  refine wpAny_mono (ht.run [] s1 (start N vs) H _ I hq) (fun fl s' hs => ?_) fun e s' hs => hs
  have ends : ∀ {σ' : L2.St} {H' : Hp} {v : V} {u : Value}, Inv (cxOf CX P w K mg base N qual (defScope st) f cdv A outer s H E) [] σ' H' s' → RelV v u → Q v H' → CE outer P w H s Q u s' :=
    fun J rv q => ⟨_, _, J.os, J.bare, J.base, J.hok, rv, q⟩
  match fl, hs with
  | .ret u, ⟨v, σ', H', J, rv, q⟩ => exact ends J rv q
  | .next, ⟨σ', H', J, q⟩ => exact ends (v := V.non) (u := Value.none) J rfl q
  | .brk, ⟨_, _, _, q⟩ => exact False.elim q
  | .cont, ⟨_, _, _, q⟩ => exact False.elim q
/-- no exception leaves it -/
theorem gfn0 {x qual : Str} {st : Stmt} {N : List Str} (F : Fun K x qual st f fd) (S : FnScope N ps (defScope st)) (len : ∀ vs H Q E, sp vs H Q E → vs.length = ps.length)
    (body : ∀ (cdv : Value) (A : Around), A.guards = some [] → ∀ (outer : List Env) (s : Shared) (H : Hp) (vs : List V) (Q : VK) (E : XK), Room k (A.deeper (envOfC qual (defScope st) s.heap.objs.size f cdv)) → sp vs H Q E →
      ∃ t, PSs (cxOf CX0 P w K mg base N qual (defScope st) f cdv A outer s H E).nox (defBody st) t ∧ t { nx := fun _ G => Q .non G, rt := Q } (start N vs) H) :
    GFn P w K mg base CX0 (k + 1) f fd ps sp :=
  gfn F S len fun cdv A hg outer s H vs Q E hr h => let ⟨t, h1, h2⟩ := body cdv A hg outer s H vs Q E hr h; ⟨t, h1.nox, h2⟩
end
section
variable {X : Cx} {CX : CXT} {k : Nat} {f : Addr} {fd : FuncData} {ps : List Str} {sp : Sp} {E : XK} {ds : List Value} {dvs : List V}
theorem run_g {pins : List (Addr × Obj)} {σ : L2.St} {H : Hp} {s : Shared} {Q : VK} {us : List Value} {vs : List V} (F : GFn X.prog X.w X.K X.mg X.base CX k f fd ps sp) (hg : X.A.guards = some []) (hr : Room k X.A)
    (hb : Binds X.K fd ps ds) (hd : Vals dvs ds) (hx : Passes CX X E) (I : Inv X pins σ H s) (r : Vals vs us) (h : sp (vs ++ dvs) H Q E) : wpAny (model X.prog X.w) X.A (call (.ref f) us) (EP X pins σ Q) X.xe s := by
  have r2 : Vals (vs ++ dvs) (us ++ ds) := r.append hd
  have hl : (us ++ ds).length = ps.length := r2.length ▸ F.len _ _ _ _ h
  refine wpAny_call (codeAny_mono (F.go X.A hg hr X.stack s H ⟨us, []⟩ (us ++ ds) (vs ++ dvs) Q E I.env0 (hb s us I.kIn hl) r2 h) ?_)
  intro r s' hq
  match r, hq with
  | .error e, hq => exact hx pins σ H s e s' I hq
  | .ok (.ret u), hq => exact I.after hq
  | .ok .next, hq | .ok .brk, hq | .ok .cont, hq => exact False.elim hq
theorem pe_callG {x : Str} {p pos : Pos} {e : Expr} {es : List Expr} {t : TA} (F : GFn X.prog X.w X.K X.mg X.base CX k f fd ps sp) (gu : X.A.guards = some []) (hr : Room k X.A) (hg : Gl X x) (hm : X.mg x = some (.ref f))
    (hk : PySem.W.keepIn X.K (.ref f) = true) (hb : Binds X.K fd ps ds) (hd : Vals dvs ds) (hx : Passes CX X E) (ha : PA X (e :: es) t) (hdb : (x == ("__debug__" : Str)) = false := by decide)
    (he : starEach (e :: es) X.env = (false, eval e X.env) :: starEach es X.env := by rfl) (hpl : (backTo pos (starEach es X.env)).any (·.1) = false := by rfl) :
    PE X (.Call (.Name x p) (e :: es) [] pos) (tCall sp dvs E t) :=
  ⟨fun pins s σ H Q I h => wpAny_Call_Name_kw (ld_glob I hg hm (PySem.W.callWith_K (h₀ := X.base) I.ok.mod.kin hk
    (thn (ha.run pos pins s σ H _ I h) fun us s1 ⟨vs, H1, I1, r, q⟩ => ⟨I1.kIn, run_g F gu hr hb hd hx I1 r q⟩) he hpl) hdb)⟩
end
/-- from the law's promise to the call of the law -/
theorem law_g {P : Program} {w : World} {K : PySem.W.Frag} {mg mb : Str → Option Value} {CX : CXT} {k : Nat} {fa a : Addr} {fd : FuncData} {x : Str} {sp : Sp} {s₁ : Shared} {vs : List Value} {ns : List Int}
    (KX : K.In s₁.heap) (hns : s₁.heap.Ns mainGlobals mg) (hb : s₁.heap.Ns builtinsNs mb) (hbb : ∀ x : Str, x ≠ "__name__" → mb x = bootBuiltins x) (hlim : s₁.heap.NoLimit) (hg : s₁.gens = #[])
    (ha : s₁.heap.get? a = some { cls := .type "list", data := .seq vs.toArray }) (hi : IntsAre vs ns) (hl : ns.length ≤ sizeLine) (hr : Room k callerA)
    (F : ∀ base : Heap, K.In base → base.Ns mainGlobals mg → GFn P w K mg base CX k fa fd [x] sp) (hbind : ∀ (s : Shared) (u : Value), BindsTo s fd ⟨[u], []⟩ [(x, u)])
    (hsp : ∀ H : Hp, Only H → SqL K H a (ns.map V.int) → sp [.ref a] H (fun v _ => v = .bl true) fun _ _ _ => False)
    (hCX : ∀ H e s', CX [] H s₁ (fun _ _ _ => False) e s' → False) :
    codeAny (model P w) callerA (.call (.ref fa) ⟨[.ref a], []⟩) (fun r s' => r = .ok (.ret (.bool true)) ∧ OldK s₁.heap s'.heap ∧ s'.os = s₁.os ∧ AllBare s'.gens) s₁ := by
  have rv := vals_ints hi
  have lenV := hi.length
  suffices core : ∀ H : Hp, Only H → SqL K H a (ns.map V.int) → HOk P w H s₁.heap → (∀ b, H b ≠ none → b = a) → (H a ≠ none → K.lookup a = none) →
      codeAny (model P w) callerA (.call (.ref fa) ⟨[.ref a], []⟩) (fun r s' => r = .ok (.ret (.bool true)) ∧ OldK s₁.heap s'.heap ∧ s'.os = s₁.os ∧ AllBare s'.gens) s₁ by
    cases hk : K.lookup a with
    | some o =>
      have e := KX a o hk
      rw [ha] at e
      cases e
      exact core (fun _ => none) (fun _ => .inl rfl) (.inr ⟨_, vs.toArray, _, hk, rfl, rfl, rfl, by rw [List.size_toArray, lenV]; exact hl, by simpa using rv⟩) (fun b u z => nomatch (show (none : Option HO) = some u from z)) (fun b z => absurd rfl z) fun z => absurd rfl z
    | none =>
      let o : Obj := { cls := .type "list", data := .seq vs.toArray }
      refine core (fun b => if b = a then some (.frz o (.lst (ns.map V.int))) else none) (fun b => ?_) (.inl (.inr ⟨o, if_pos rfl⟩)) (fun b u z => ?_) (fun b z => ?_) fun _ => hk
      · by_cases q : b = a
        · exact .inr ⟨_, _, if_pos q⟩
        · exact .inl (if_neg q)
      · by_cases q : b = a
        · have z2 := (if_pos q).symm.trans z
          cases z2
          subst q
          exact ⟨ha, by rw [List.length_map]; exact hl, vs, _, rv, ha⟩
        · have z2 := (if_neg q).symm.trans z
          cases z2
      · by_cases q : b = a
        · exact q
        · exact absurd (if_neg q) z
  intro H hO hS hok hA hK
  have at_a : ∀ {b : Addr} {u : HO}, H b = some u → b = a := fun {b u} q => hA b (by rw [q]; exact fun z => nomatch z)
  have noA : ∀ {b : Addr} {o : Obj} {es : Array DictEntry} {ep : Nat}, s₁.heap.get? b = some o → o.data = .dict es ep → H b = none := fun {b o es ep} e d => by
    match q : H b with
    | none => rfl
    | some u =>
      obtain rfl := at_a q
      rw [ha] at e; cases e
      exact nomatch (show Data.seq vs.toArray _ = Data.dict es ep from d)
  have nsK : ∀ {b : Addr} {m : Str → Option Value}, s₁.heap.Ns b m → (hidT s₁.heap H).Ns b m := fun ⟨o, es, ep, e, d, r⟩ => ⟨o, es, ep, hidT_get e (noA e d), d, r⟩
  have hKb : K.In (hidT s₁.heap H) := fun b o e => hidT_get (KX b o e) (by
    match q : H b with
    | none => rfl
    | some u =>
      obtain rfl := at_a q
      rw [hK (by rw [q]; exact fun z => nomatch z)] at e; cases e)
  have hM : Mod K mg (hidT s₁.heap H) := ⟨hKb, nsK hns, ⟨mb, nsK hb, hbb⟩, let ⟨mc, h1, h2⟩ := hlim; ⟨mc, nsK h1, h2⟩⟩
  have none_in : ∀ b : Addr, b ∉ frs [] := fun b z => nomatch (show b ∈ ([] : List Addr) from z)
  have e0 : Env0 P w K mg (hidT s₁.heap H) callerA [] s₁ H := ⟨rfl, hM, fun b o e => of_hidT e, Nat.le_of_eq (hidT_size _ _), trivial, fun b z => absurd z (none_in b), hok, .of_eq hg⟩
  have run := (F _ hKb (nsK hns)).go callerA rfl hr [] s₁ H ⟨[.ref a], []⟩ [.ref a] [.ref a] _ _ e0 (hbind s₁ (.ref a)) (.cons rfl .nil) (hsp H hO hS)
  refine codeAny_mono run fun r s' h => ?_
  match r, h with
  | .error e, h => exact (hCX H e s' h).elim
  | .ok .next, h | .ok .brk, h | .ok .cont, h => exact False.elim h
  | .ok (.ret u), ⟨v, H', os, bare, un, hok', r', q⟩ =>
    have q1 : v = .bl true := q
    subst q1
    obtain rfl : u = Value.bool true := r'
    refine ⟨rfl, OldK.of_keep fun b o e => ?_, os, bare⟩
    match q : H b with
    | none => exact un.keep b o e q (none_in b) (fun z => nomatch z)
    | some u =>
      rcases hO b with z | ⟨ob, xs, z⟩
      · rw [q] at z; cases z
      · have z2 := un.frzs b ob _ z
        obtain ⟨e1, _⟩ := hok b _ z
        obtain ⟨e2, _⟩ := hok' b _ z2
        rw [e] at e1; cases e1
        exact e2
theorem walk_g {l : PySem.W.OpenLaw} {n k : Nat} {q : Program} {loose : List Str} {XP : (Str → Option Value) → Heap → Prop} {YP : World → Heap → Prop} {d : DefRec} {K : Params → PySem.W.Frag} {sp : PySem.W.Frag → Sp} {x : Str}
    (hn : l.most = some n) (hn2 : n ≤ sizeLine) (hdf : d.params.defaults = []) (hr : Room k callerA) (hY : ∀ (w : World) (h : Heap), YP w h → (K w.params).In h)
    (F : ∀ (w : World) (mg : Str → Option Value) (fa : Addr) (h : Heap), (K w.params).In h → h.Ns mainGlobals mg → mg d.name = some (.ref fa) →
      ∃ fd : FuncData, (∀ (s : Shared) (u : Value), BindsTo s fd ⟨[u], []⟩ [(x, u)]) ∧ ∀ base : Heap, (K w.params).In base → base.Ns mainGlobals mg → GFn l.prog w (K w.params) mg base CX0 k fa fd [x] (sp (K w.params)))
    (hsp : ∀ (K : PySem.W.Frag) (H : Hp) (a : Addr) (ns : List Int), ns.length ≤ n → Only H → SqL K H a (ns.map V.int) → sp K [.ref a] H (fun v _ => v = .bl true) fun _ _ _ => False) :
    PySem.W.WalkO q loose XP YP l.row.toRowW d [] (fun f vs => PySem.call f vs) := by
  refine Att.attach_call hn hdf fun w s₀ s₁ mg mb fa o pm cd doc a vs ns G Y ho hd hcd hmg hobj hints hlen hg => ?_
  have KX := hY w _ Y
  obtain ⟨fd, hb, hF⟩ := F w mg fa _ KX G.T.g hmg
  exact law_g KX G.T.g G.T.b G.T.builtins G.T.nolimit hg hobj hints (Nat.le_trans hlen hn2) hr hF hb (fun H hO hS => hsp _ H a ns hlen hO hS) fun _ _ _ z => z
end KL
namespace KL
open PySem PySem.Spec PyProof.Rows L2
/-- a def of the text, by its name, that keeps a promise and lets no error out -/
def Df (P : Program) (w : World) (K : PySem.W.Frag) (mg : Str → Option Value) (base : Heap) (k : Nat) (x : Str) (ps : List Str) (sp : Sp) : Prop :=
  ∃ (f : Addr) (fd : FuncData), FnOk P w K mg base CX0 k f fd ps sp ∧ PySem.W.keepIn K (.ref f) = true ∧ Binds K fd ps [] ∧ mg x = some (.ref f)
theorem pe_df {X : Cx} {k : Nat} {ps : List Str} {sp : Sp} {x : Str} {p pos : Pos} {e : Expr} {es : List Expr} {t : TA} (D : Df X.prog X.w X.K X.mg X.base k x ps sp) (hr : Room k X.A) (hg : Gl X x) (ha : PA X (e :: es) t)
    (hdb : (x == ("__debug__" : Str)) = false := by decide) (he : starEach (e :: es) X.env = (false, eval e X.env) :: starEach es X.env := by rfl) (hpl : (backTo pos (starEach es X.env)).any (·.1) = false := by rfl) :
    PE X (.Call (.Name x p) (e :: es) [] pos) (tCall sp [] E0 t) := by
  obtain ⟨f, fd, F, kp, b, m⟩ := D
  exact pe_call F hr hg m kp b .nil L2.pass0 ha hdb he hpl
theorem Df.mono {P : Program} {w : World} {K : PySem.W.Frag} {mg : Str → Option Value} {base : Heap} {j k : Nat} {x : Str} {ps : List Str} {sp : Sp} (D : Df P w K mg base j x ps sp) (h : j ≤ k) : Df P w K mg base k x ps sp :=
  let ⟨f, fd, F, r⟩ := D; ⟨f, fd, F.mono h, r⟩
/-! what a draw of the pool leaves -/
def Pl (H : Hp) (p : Addr) : Prop := ∃ a b : Int, H p = some (.lst [.int a, .int b]) ∧ 0 ≤ a ∧ 0 ≤ b ∧ b < 2147483647
/-- all but what stands at p is as it was -/
def Kp (p : Addr) (H H' : Hp) : Prop := ∀ b o, b ≠ p → H b = some o → H' b = some o
theorem Kp.refl (p : Addr) (H : Hp) : Kp p H H := fun _ _ _ h => h
theorem Kp.trans {p : Addr} {H H1 H2 : Hp} (a : Kp p H H1) (b : Kp p H1 H2) : Kp p H H2 := fun c o n h => b c o n (a c o n h)
theorem Kp.of {p : Addr} {H H' : Hp} (s : Same H H') : Kp p H H' := fun b o _ h => s b o h
theorem Kp.upd (p : Addr) (H : Hp) (o : HO) : Kp p H (upd H p o) := fun b u n h => by rw [upd_ne n]; exact h
theorem Pl.same {H H' : Hp} {p : Addr} (h : Pl H p) (s : Same H H') : Pl H' p := let ⟨a, b, e, r⟩ := h; ⟨a, b, s _ _ e, r⟩
theorem same_new {H : Hp} {p : Addr} {o : HO} (h : H p = none) : Same H (upd H p o) := fun b u q => by rw [upd_ne (ne_of_none q h)]; exact q
theorem Kp.free {p : Addr} {H H' : Hp} (k : Kp p H H') {l : Addr} (n : l ≠ p) (h : H' l = none) : H l = none := by
  cases q : H l with
  | none => rfl
  | some o => rw [k l o n q] at h; cases h
theorem Pl.at {H : Hp} {p : Addr} (h : Pl H p) : H p ≠ none := by
  obtain ⟨a, b, e, _⟩ := h
  rw [e]; exact fun z => nomatch z
theorem Kp.freeP {p : Addr} {H H' : Hp} (k : Kp p H H') (h0 : Pl H' p) {l : Addr} (h : H' l = none) : H l = none :=
  k.free (fun e => h0.at (e ▸ h)) h
/-- a tuple is never the pool -/
theorem Kp.tup {K : PySem.W.Frag} {p a : Addr} {H H' : Hp} {xs : List V} (k : Kp p H H') (hp : Pl H p) (h : SqT K H a xs) : SqT K H' a xs := by
  obtain ⟨x, y, e, _⟩ := hp
  rcases h with (h | ⟨o, h⟩) | h
  · exact .inl (.inl (k _ _ (ne_of h e (by intro z; cases z)) h))
  · exact .inl (.inr ⟨o, k _ _ (ne_of h e (by intro z; cases z)) h⟩)
  · exact .inr h
theorem same_tup {K : PySem.W.Frag} {a : Addr} {H H' : Hp} {xs : List V} (s : Same H H') (h : SqT K H a xs) : SqT K H' a xs := by
  rcases h with (h | ⟨o, h⟩) | h
  · exact .inl (.inl (s _ _ h))
  · exact .inl (.inr ⟨o, s _ _ h⟩)
  · exact .inr h
theorem small {n : Nat} (h : n ≤ 1000) : n ≤ sizeLine := Nat.le_of_lt (small1000 h)
end KL
namespace KL
open PySem PySem.Spec PyProof.Rows L2
/-! ### data that can be shown -/
structure Fine (n m : Nat) (d : PyData) : Prop where
  sh : d.showable = true
  ls : d.leavesShort 128 = true
  cl : d.canLay0 = true
  wt : d.weight ≤ n
  dp : d.depth ≤ m
theorem Fine.le {n m n' m' : Nat} {d : PyData} (h : Fine n m d) (hn : n ≤ n') (hm : m ≤ m') : Fine n' m' d := ⟨h.sh, h.ls, h.cl, Nat.le_trans h.wt hn, Nat.le_trans h.dp hm⟩
theorem Fine.none {n m : Nat} : Fine n m .none := ⟨rfl, rfl, rfl, by simp only [PyData.weight]; omega, by simp only [PyData.depth]; omega⟩
theorem Fine.bool {n m : Nat} (b : Bool) : Fine n m (.bool b) := ⟨rfl, rfl, rfl, by simp only [PyData.weight]; omega, by simp only [PyData.depth]; omega⟩
theorem log_lt {i : Int} (h : i.natAbs < 2 ^ 110) : i.natAbs.log2 < 110 := by
  by_cases h0 : i.natAbs = 0
  · rw [h0]; decide
  · exact (Nat.log2_lt h0).mpr h
theorem Fine.int {m : Nat} (i : Int) (h : i.natAbs < 2 ^ 110) : Fine 110 m (.int i) := by
  have hl := log_lt h
  refine ⟨?_, ?_, ?_, ?_, by simp only [PyData.depth]; omega⟩
  · simp only [PyData.showable, decide_eq_true_eq]; omega
  · simp only [PyData.leavesShort, PyData.shown]
    refine decide_eq_true ?_
    have := int_text_length_le (k := 110) (by decide) hl
    show (Str.ofString (toString i)).length ≤ 128
    rw [PySem.ofString_length]
    omega
  · simp only [PyData.canLay0]
  · simp only [PyData.weight]; split <;> omega
structure FineAll (n m : Nat) (ds : List PyData) : Prop where
  all : ∀ d ∈ ds, Fine n m d
theorem FineAll.sh {n m : Nat} : ∀ {ds : List PyData}, FineAll n m ds → PyData.showableAll ds = true
  | [], _ => by simp only [PyData.showableAll]
  | d :: ds, h => by
    simp only [PyData.showableAll, (h.all d List.mem_cons_self).sh, Bool.true_and]
    exact FineAll.sh ⟨fun x hx => h.all x (List.mem_cons_of_mem _ hx)⟩
theorem FineAll.ls {n m : Nat} : ∀ {ds : List PyData}, FineAll n m ds → PyData.leavesShortAll 128 ds = true
  | [], _ => by simp only [PyData.leavesShortAll]
  | d :: ds, h => by
    simp only [PyData.leavesShortAll, (h.all d List.mem_cons_self).ls, Bool.true_and]
    exact FineAll.ls ⟨fun x hx => h.all x (List.mem_cons_of_mem _ hx)⟩
theorem FineAll.cl {n m : Nat} : ∀ {ds : List PyData}, FineAll n m ds → PyData.canLayAll0 ds = true
  | [], _ => by simp only [PyData.canLayAll0]
  | d :: ds, h => by
    simp only [PyData.canLayAll0, (h.all d List.mem_cons_self).cl, Bool.true_and]
    exact FineAll.cl ⟨fun x hx => h.all x (List.mem_cons_of_mem _ hx)⟩
theorem FineAll.wt {n m : Nat} : ∀ {ds : List PyData}, FineAll n m ds → PyData.weightAll ds ≤ ds.length * (n + 1)
  | [], _ => by simp only [PyData.weightAll]; omega
  | d :: ds, h => by
    simp only [PyData.weightAll, List.length_cons]
    have h1 := (h.all d List.mem_cons_self).wt
    have h2 := FineAll.wt (ds := ds) ⟨fun x hx => h.all x (List.mem_cons_of_mem _ hx)⟩
    rw [Nat.add_mul]; omega
theorem FineAll.dp {n m : Nat} : ∀ {ds : List PyData}, FineAll n m ds → PyData.depthAll ds ≤ m
  | [], _ => by simp only [PyData.depthAll]; omega
  | d :: ds, h => by
    simp only [PyData.depthAll]
    have h1 := (h.all d List.mem_cons_self).dp
    have h2 := FineAll.dp (ds := ds) ⟨fun x hx => h.all x (List.mem_cons_of_mem _ hx)⟩
    omega
theorem Fine.tuple {n m l : Nat} {ds : List PyData} (h : ∀ d ∈ ds, Fine n m d) (hl : ds.length ≤ l) : Fine (l * (n + 1)) (m + 1) (.tuple ds) := by
  have a : FineAll n m ds := ⟨h⟩
  refine ⟨by simp only [PyData.showable]; exact a.sh, by simp only [PyData.leavesShort]; exact a.ls, by simp only [PyData.canLay0]; exact a.cl, ?_, ?_⟩
  · simp only [PyData.weight]; exact Nat.le_trans a.wt (Nat.mul_le_mul_right _ hl)
  · simp only [PyData.depth]; exact Nat.succ_le_succ a.dp
theorem Fine.list {n m l : Nat} {ds : List PyData} (h : ∀ d ∈ ds, Fine n m d) (hl : ds.length ≤ l) : Fine (l * (n + 1)) (m + 1) (.list ds) := by
  have a : FineAll n m ds := ⟨h⟩
  refine ⟨by simp only [PyData.showable]; exact a.sh, by simp only [PyData.leavesShort]; exact a.ls, by simp only [PyData.canLay0]; exact a.cl, ?_, ?_⟩
  · simp only [PyData.weight]; exact Nat.le_trans a.wt (Nat.mul_le_mul_right _ hl)
  · simp only [PyData.depth]; exact Nat.succ_le_succ a.dp
theorem Fine.len {n m : Nat} {d : PyData} (h : Fine n m d) (hn : n ≤ 100000) : d.shown.length ≤ sizeLine := by
  have e := PyData.shown_le 128 (by decide) d h.ls
  have e2 : (128 + 2) * d.weight ≤ (128 + 2) * 100000 := Nat.mul_le_mul_left _ (Nat.le_trans h.wt hn)
  rw [sizeLine_eq]; omega
theorem Fine.shaped {n m : Nat} {d : PyData} (h : Fine n m d) (hm : m ≤ 60) : SeqAt.shaped d = true := by
  unfold SeqAt.shaped
  rw [h.cl, Bool.true_and]
  exact decide_eq_true (Nat.le_trans h.dp (by omega))
/-- what repr asks, of fine data -/
theorem rep_of {K : PySem.W.Frag} {H : Hp} {x : V} {d : PyData} {Q : VK} {n m : Nat} (h : Dp K H x d) (f : Fine n m d) (hn : n ≤ 100000) (hm : m ≤ 60) (q : Q (.str d.shown) H) : rRep K [x] H Q :=
  ⟨x, d, rfl, h, f.sh, Nat.le_trans f.dp hm, f.len hn, q⟩
theorem rep_bool {K : PySem.W.Frag} {H : Hp} {b : Bool} {Q : VK} (q : Q (.str (PyData.bool b).shown) H) : rRep K [.bl b] H Q := rep_of (n := 0) (m := 0) (.bl b) (Fine.bool b) (by omega) (by omega) q
/-! ### kinds -/
def tyD : PyData → String
  | .none => "NoneType"
  | .bool _ => "bool"
  | .int _ => "int"
  | .str _ => "str"
  | .list _ => "list"
  | .tuple _ => "tuple"
  | .dict _ => "dict"
theorem dpTy {K : PySem.W.Frag} {H : Hp} {x : V} {d : PyData} (h : Dp K H x d) : TyX K H x (.type (tyD d)) := by
  cases h with
  | non => exact .base .non
  | bl b => exact .base (.bl b)
  | int i => exact .base (.int i)
  | str y => exact .base (.str y)
  | lst s _ =>
    rcases s with (e | ⟨o, e⟩) | ⟨o, its, n, e, c, _⟩
    · exact .base (.lst e)
    · exact .base (.frz e)
    · exact .kList e c
  | tup s _ =>
    rcases s with (e | ⟨o, e⟩) | ⟨o, its, n, e, c, _⟩
    · exact .base (.tup e)
    · exact .fTuple e
    · exact .kTuple e c
/-- isinstance(x, T) over data -/
def isiD (d : PyData) (T : String) : Bool := match kitB (tyD d) T with
  | some b => b
  | none => false
theorem kit_int (d : PyData) : kitB (tyD d) "int" = some (match d with | .int _ | .bool _ => true | _ => false) := by cases d <;> (simp only [tyD]; decide +kernel)
theorem kit_bool (d : PyData) : kitB (tyD d) "bool" = some (match d with | .bool _ => true | _ => false) := by cases d <;> (simp only [tyD]; decide +kernel)
theorem kit_tuple (d : PyData) : kitB (tyD d) "tuple" = some (match d with | .tuple _ => true | _ => false) := by cases d <;> (simp only [tyD]; decide +kernel)
theorem kit_list (d : PyData) : kitB (tyD d) "list" = some (match d with | .list _ => true | _ => false) := by cases d <;> (simp only [tyD]; decide +kernel)
theorem kit_str (d : PyData) : kitB (tyD d) "str" = some (match d with | .str _ => true | _ => false) := by cases d <;> (simp only [tyD]; decide +kernel)
theorem isi_of {K : PySem.W.Frag} {H : Hp} {x : V} {d : PyData} {T : String} {b : Bool} {Q : VK} (h : Dp K H x d) (k : kitB (tyD d) T = some b) (q : Q (.bl b) H) : rIsi K [x, .ty T] H Q :=
  ⟨x, .ty T, .type (tyD d), .type T, b, rfl, .ty T, dpTy h, kit_ty k, q⟩
theorem atI_at {α : Type} {xs : List α} {i : Int} (h0 : 0 ≤ i) (h : i < (xs.length : Int)) : ∃ v, atI xs i = some v ∧ xs[i.toNat]? = some v := by
  have hi : i.toNat < xs.length := by omega
  refine ⟨xs[i.toNat], ?_, List.getElem?_eq_getElem hi⟩
  have q := atI_nat (List.getElem?_eq_getElem hi)
  rw [show ((i.toNat : Nat) : Int) = i by omega] at q
  exact q
theorem atI_ints {ns : List Int} {i : Int} (h0 : 0 ≤ i) (h : i < (ns.length : Int)) : ∃ v, atI (ns.map V.int) i = some (.int v) ∧ ns[i.toNat]? = some v := by
  obtain ⟨v, h1, h2⟩ := atI_at (xs := ns.map V.int) h0 (by rw [List.length_map]; exact h)
  rw [List.getElem?_map] at h2
  cases e : ns[i.toNat]? with
  | none => rw [e] at h2; cases h2
  | some u => rw [e] at h2; cases h2; exact ⟨u, h1, rfl⟩
/-! ### ints as data -/
theorem dpInts {K : PySem.W.Frag} {H : Hp} : ∀ ns : List Int, DpAll K H (ns.map V.int) (ns.map PyData.int)
  | [] => .nil
  | n :: ns => .cons (.int n) (dpInts ns)
theorem fineInts {B : Nat} {ns : List Int} (h : ∀ n ∈ ns, n.natAbs < 2 ^ 110) : ∀ d ∈ ns.map PyData.int, Fine 110 0 d := fun d hd => by
  obtain ⟨n, hn, rfl⟩ := List.mem_map.mp hd
  exact Fine.int n (h n hn)
theorem shInts (ns : List Int) : SeqAt.shaped (.list (ns.map PyData.int)) = true := by
  have h1 : ∀ ns : List Int, PyData.canLayAll0 (ns.map PyData.int) = true := fun ns => by
    induction ns with
    | nil => simp only [List.map_nil, PyData.canLayAll0]
    | cons n ns ih => simp only [List.map_cons, PyData.canLayAll0, PyData.canLay0, ih, Bool.true_and]
  have h2 : ∀ ns : List Int, PyData.depthAll (ns.map PyData.int) = 0 := fun ns => by
    induction ns with
    | nil => simp only [List.map_nil, PyData.depthAll]
    | cons n ns ih => simp only [List.map_cons, PyData.depthAll, PyData.depth, ih, Nat.max_self]
  unfold SeqAt.shaped
  simp only [PyData.canLay0, h1, PyData.depth, h2, Bool.true_and]
  decide
theorem shNil : SeqAt.shaped (.list []) = true := shInts []
theorem eqvNil (ns : List Int) : PyData.eqv (.list (ns.map PyData.int)) (.list []) = decide (ns = []) := by
  cases ns with
  | nil => simp [PyData.eqv, PyData.eqvAll]
  | cons n ns => simp [PyData.eqv, PyData.eqvAll]
mutual
theorem dpMv {K : PySem.W.Frag} {H H' : Hp} (tl : ∀ a xs, SqL K H a xs → SqL K H' a xs) (tt : ∀ a xs, SqT K H a xs → SqT K H' a xs) : ∀ (d : PyData) {x : V}, Dp K H x d → Dp K H' x d
  | .none, _, h => by cases h; exact .non
  | .bool b, _, h => by cases h; exact .bl b
  | .int i, _, h => by cases h; exact .int i
  | .str y, _, h => by cases h; exact .str y
  | .list ds, _, h => by
    cases h with
    | lst s a => exact .lst (tl _ _ s) (dpMvs tl tt ds a)
  | .tuple ds, _, h => by
    cases h with
    | tup s a => exact .tup (tt _ _ s) (dpMvs tl tt ds a)
  | .dict _, _, h => by cases h
theorem dpMvs {K : PySem.W.Frag} {H H' : Hp} (tl : ∀ a xs, SqL K H a xs → SqL K H' a xs) (tt : ∀ a xs, SqT K H a xs → SqT K H' a xs) : ∀ (ds : List PyData) {xs : List V}, DpAll K H xs ds → DpAll K H' xs ds
  | [], _, h => by cases h; exact .nil
  | d :: ds, _, h => by
    cases h with
    | cons h1 h2 => exact .cons (dpMv tl tt d h1) (dpMvs tl tt ds h2)
end
theorem dpSame {K : PySem.W.Frag} {H H' : Hp} {x : V} {d : PyData} (h : Dp K H x d) (s : Same H H') : Dp K H' x d := dpMv (fun _ _ q => s.seq q) (fun _ _ q => same_tup s q) d h
end KL
namespace KL
open PySem PySem.Spec PyProof.Rows L2
/-! ### what is told apart from the pool -/
def hid (p : Addr) (H : Hp) : Hp := fun b => if b = p then none else H b
theorem hid_same (p : Addr) (H : Hp) : Same (hid p H) H := fun b o h => by
  unfold hid at h
  split at h
  · cases h
  · exact h
theorem Kp.hid {p : Addr} {H H' : Hp} (k : Kp p H H') : Same (hid p H) (hid p H') := fun b o h => by
  unfold KL.hid at h ⊢
  split at h
  · cases h
  · rename_i n; rw [if_neg n]; exact k b o n h
theorem hid_of {p b : Addr} {H : Hp} {o : HO} (n : b ≠ p) (h : H b = some o) : hid p H b = some o := by unfold hid; rw [if_neg n]; exact h
theorem hidT {K : PySem.W.Frag} {p a : Addr} {H : Hp} {xs : List V} (hp : Pl H p) (h : SqT K H a xs) : SqT K (hid p H) a xs := by
  obtain ⟨x, y, e, _⟩ := hp
  rcases h with (h | ⟨o, h⟩) | h
  · exact .inl (.inl (hid_of (ne_of h e (by intro z; cases z)) h))
  · exact .inl (.inr ⟨o, hid_of (ne_of h e (by intro z; cases z)) h⟩)
  · exact .inr h
theorem unhidT {K : PySem.W.Frag} {p a : Addr} {H : Hp} {xs : List V} (h : SqT K (hid p H) a xs) : SqT K H a xs := same_tup (hid_same p H) h
section
variable {X : Cx}
/-- t + u, whichever object it is -/
def rCatK (K : PySem.W.Frag) : R2 := fun x y H Q => ∃ a b xs ys, x = .ref a ∧ y = .ref b ∧ SqT K H a xs ∧ SqT K H b ys ∧ xs.length + ys.length ≤ sizeLine ∧ ∀ r H', Same H H' → SqT K H' r (xs ++ ys) → Q (.ref r) H'
theorem op_catK : OpR X (binaryOp .Add) (rCatK X.K) := by
  intro pins s σ H x y v u Q I rx ry h
  obtain ⟨a, b, xs, ys, rfl, rfl, ha, hb, hz, q⟩ := h
  refine op_catA pins s σ H _ _ v u Q I rx ry ⟨a, b, xs, ys, rfl, rfl, ha, hb, hz, fun e => ?_, fun _ e => ?_, fun _ _ p hp => q p _ (same_new hp) (SqT.of upd_same)⟩
  · subst e; exact q b H (Same.refl H) hb
  · subst e; exact q a H (Same.refl H) (by rw [List.append_nil]; exact ha)
theorem cut_whole {xs : List V} {lo hi : Option Int} (h : HT.sIx xs.length 0 lo = 0 ∧ HT.sIx xs.length xs.length hi = xs.length) : cutV xs lo hi = xs := by
  unfold cutV
  rw [h.1, h.2]
  simp
theorem cut_sub {xs : List V} {lo hi : Option Int} : (∀ v ∈ cutV xs lo hi, v ∈ xs) ∧ (cutV xs lo hi).length ≤ xs.length := by
  unfold cutV
  refine ⟨fun v hv => List.mem_of_mem_drop (List.mem_of_mem_take hv), ?_⟩
  rw [List.length_take, List.length_drop]
  omega
/-- t[lo:hi], whichever object it is -/
def rSlK (K : PySem.W.Frag) : V → Option Int → Option Int → Hp → VK → Prop := fun x lo hi H Q => ∃ a xs, x = .ref a ∧ SqT K H a xs ∧ ∀ r H', Same H H' → SqT K H' r (cutV xs lo hi) → Q (.ref r) H'
theorem sl_tupK : SlR X (rSlK X.K) := by
  intro pins s σ H x v vl vu lo hi sl Q I rx hs pl pu h
  obtain ⟨a, xs, rfl, hx, q⟩ := h
  exact sl_tupA pins s σ H _ v vl vu lo hi sl Q I rx hs pl pu ⟨a, xs, rfl, hx, fun w => q a H (Same.refl H) (by rw [cut_whole w]; exact hx), fun _ p hp => q p _ (same_new hp) (SqT.of upd_same)⟩
end
theorem Fine.str1 : Fine 10 0 (.str (Str.ofString "1")) := ⟨rfl, by decide +kernel, by decide +kernel, by decide +kernel, by decide +kernel⟩
/-- an item that can be shown -/
def It (K : PySem.W.Frag) (H : Hp) (v : V) : Prop := ∃ d, Dp K H v d ∧ Fine 200 1 d
theorem It.same {K : PySem.W.Frag} {H H' : Hp} {v : V} (h : It K H v) (s : Same H H') : It K H' v := let ⟨d, h1, h2⟩ := h; ⟨d, dpSame h1 s, h2⟩
theorem It.int {K : PySem.W.Frag} {H : Hp} (i : Int) (h : i.natAbs < 2 ^ 110) : It K H (.int i) := ⟨_, .int i, (Fine.int (m := 0) i h).le (by omega) (by omega)⟩
theorem its_all {K : PySem.W.Frag} {H : Hp} : ∀ {xs : List V}, (∀ v ∈ xs, It K H v) → ∃ ds, DpAll K H xs ds ∧ ds.length = xs.length ∧ ∀ d ∈ ds, Fine 200 1 d
  | [], _ => ⟨[], .nil, rfl, fun _ h => nomatch h⟩
  | x :: xs, h => by
    obtain ⟨d, h1, h2⟩ := h x List.mem_cons_self
    obtain ⟨ds, h3, h4, h5⟩ := its_all (xs := xs) fun v hv => h v (List.mem_cons_of_mem _ hv)
    exact ⟨d :: ds, .cons h1 h3, by rw [List.length_cons, List.length_cons, h4], fun z hz => by
      rcases List.mem_cons.mp hz with e | e
      · rw [e]; exact h2
      · exact h5 z e⟩
/-- data that can be shown -/
def Dat (K : PySem.W.Frag) (H : Hp) (x : V) : Prop := ∃ d, Dp K H x d ∧ Fine 100000 3 d
theorem Dat.same {K : PySem.W.Frag} {H H' : Hp} {v : V} (h : Dat K H v) (s : Same H H') : Dat K H' v := let ⟨d, h1, h2⟩ := h; ⟨d, dpSame h1 s, h2⟩
theorem dat_tup {K : PySem.W.Frag} {H : Hp} {a : Addr} {xs : List V} (h : SqT K H a xs) (hi : ∀ v ∈ xs, It K H v) (hl : xs.length ≤ 400) : Dat K H (.ref a) := by
  obtain ⟨ds, h1, h2, h3⟩ := its_all hi
  exact ⟨_, .tup h h1, (Fine.tuple h3 (l := 400) (by omega)).le (by omega) (by omega)⟩
theorem dat_lst {K : PySem.W.Frag} {H : Hp} {a : Addr} {xs : List V} (h : SqL K H a xs) (hi : ∀ v ∈ xs, It K H v) (hl : xs.length ≤ 400) : Dat K H (.ref a) := by
  obtain ⟨ds, h1, h2, h3⟩ := its_all hi
  exact ⟨_, .lst h h1, (Fine.list h3 (l := 400) (by omega)).le (by omega) (by omega)⟩
end KL
namespace KL
open PySem PySem.Spec PyProof.Rows L2
/-- a def of the text, whatever its defaults -/
def Fb (K : PySem.W.Frag) (x qual : Str) (st : Stmt) (f : Addr) (fd : FuncData) : Prop :=
  ∃ (oc : Value) (od : Option Addr) (dV kV doc pm : Value) (an : Option Addr) (cdv ct : Value) (osl : Array (Option Value)),
    fd = PySem.W.fnOf x qual (defArgs st) (defBody st) (defScope st) dV kV doc pm an cdv ct ∧ K.lookup f = some ⟨oc, od, .func fd, osl⟩ ∧ PySem.W.codeIn K cdv qual = true
section
variable {P : Program} {w : World} {K : PySem.W.Frag} {mg : Str → Option Value} {base : Heap} {x qual : Str} {st : Stmt} {f : Addr} {fd : FuncData}
theorem Fb.ok {N ps : List Str} {k : Nat} {sp : Sp} (F : Fb K x qual st f fd) (S : FnScope N ps (defScope st)) (len : ∀ vs H Q E, sp vs H Q E → vs.length = ps.length)
    (body : ∀ (cdv : Value) (A : Around) (outer : List Env) (s : Shared) (H : Hp) (vs : List V) (Q : VK) (E : XK), Room k (A.deeper (envOfC qual (defScope st) s.heap.objs.size f cdv)) → sp vs H Q E →
      ∃ t, PSs (cxOf CX0 P w K mg base N qual (defScope st) f cdv A outer s H E).nox (defBody st) t ∧ t { nx := fun _ G => Q .non G, rt := Q } (start N vs) H) : FnOk P w K mg base CX0 (k + 1) f fd ps sp := by
  obtain ⟨oc, od, dV, kV, doc, pm, an, cdv, ct, osl, rfl, lk, hcd⟩ := F
  exact fn_of lk hcd S len fun A outer s H vs Q E hr h => let ⟨t, h1, h2⟩ := body cdv A outer s H vs Q E hr h; ⟨t, h1.nox, h2⟩
theorem Fb.of (F : Fun K x qual st f fd) : Fb K x qual st f fd := let ⟨oc, od, kV, doc, pm, an, cdv, ct, osl, h⟩ := F.ex; ⟨oc, od, .none, kV, doc, pm, an, cdv, ct, osl, h⟩
end
/-- a def called with its last defaults left out -/
def Dfd (P : Program) (w : World) (K : PySem.W.Frag) (mg : Str → Option Value) (base : Heap) (k : Nat) (x : Str) (ps : List Str) (sp : Sp) (dvs : List V) : Prop :=
  ∃ (f : Addr) (fd : FuncData) (ds : List Value), FnOk P w K mg base CX0 k f fd ps sp ∧ PySem.W.keepIn K (.ref f) = true ∧ Binds K fd ps ds ∧ Vals dvs ds ∧ mg x = some (.ref f)
theorem pe_dfd {X : Cx} {k : Nat} {ps : List Str} {sp : Sp} {dvs : List V} {x : Str} {p pos : Pos} {e : Expr} {es : List Expr} {t : TA} (D : Dfd X.prog X.w X.K X.mg X.base k x ps sp dvs) (hr : Room k X.A) (hg : Gl X x) (ha : PA X (e :: es) t)
    (hdb : (x == ("__debug__" : Str)) = false := by decide) (he : starEach (e :: es) X.env = (false, eval e X.env) :: starEach es X.env := by rfl) (hpl : (backTo pos (starEach es X.env)).any (·.1) = false := by rfl) :
    PE X (.Call (.Name x p) (e :: es) [] pos) (tCall sp dvs E0 t) := by
  obtain ⟨f, fd, ds, F, kp, b, r, m⟩ := D
  exact pe_call F hr hg m kp b r L2.pass0 ha hdb he hpl
theorem Dfd.mono {P : Program} {w : World} {K : PySem.W.Frag} {mg : Str → Option Value} {base : Heap} {j k : Nat} {x : Str} {ps : List Str} {sp : Sp} {dvs : List V} (D : Dfd P w K mg base j x ps sp dvs) (h : j ≤ k) : Dfd P w K mg base k x ps sp dvs :=
  let ⟨f, fd, ds, F, r⟩ := D; ⟨f, fd, ds, F.mono h, r⟩
theorem same_kp {p : Addr} {H H1 H2 : Hp} (s : Same H H1) (n : H p = none) (k : Kp p H1 H2) : Same H H2 := fun b o h => k b o (ne_of_none h n) (s b o h)
theorem ne_self {A B : Prop} {x : V} (h : B) : if (!decide (x = x)) = true then A else B := by rw [decide_eq_true rfl]; exact iteF h
end KL
namespace KL
open PySem PySem.Spec PyProof.Rows L2
section
variable {X : Cx}
theorem eqV_int (i j : Int) : eqV (.int i) (.int j) = decide (i = j) := by
  show (i == j) = decide (i = j)
  exact Bool.eq_iff_iff.mpr (by rw [beq_iff_eq, decide_eq_true_eq])
theorem inV_ints (n : Int) : ∀ ns : List Int, inV (.int n) (ns.map V.int) = decide (n ∈ ns)
  | [] => by simp [inV]
  | m :: ns => by
    have ih := inV_ints n ns
    unfold inV at ih ⊢
    rw [List.map_cons, List.any_cons, ih, eqV_int]
    by_cases h : m = n
    · subst h; simp
    · have h' : ¬ n = m := fun e => h e.symm
      simp [h, h']
theorem flat_ints : ∀ ns : List Int, (ns.map V.int).all flatV = true
  | [] => rfl
  | _ :: ns => by rw [List.map_cons, List.all_cons, flat_ints ns]; rfl
/-- n in ns, ints -/
def rInI (K : PySem.W.Frag) (neg : Bool) : R2 := fun x y H Q => ∃ (p : Addr) (n : Int) (ns : List Int), x = .int n ∧ y = .ref p ∧ (SqL K H p (ns.map V.int) ∨ SqT K H p (ns.map V.int)) ∧ Q (.bl (if neg then !decide (n ∈ ns) else decide (n ∈ ns))) H
theorem op_inI : OpR X (compareOp .In) (rInI X.K false) := by
  intro pins s σ H x y v u Q I rx ry h
  obtain ⟨p, n, ns, rfl, rfl, hq, q⟩ := h
  exact op_in_seq pins s σ H _ _ v u Q I rx ry ⟨p, ns.map V.int, rfl, hq, rfl, flat_ints ns, by rw [inV_ints]; exact q⟩
theorem op_notInI : OpR X (compareOp .NotIn) (rInI X.K true) := by
  intro pins s σ H x y v u Q I rx ry h
  obtain ⟨p, n, ns, rfl, rfl, hq, q⟩ := h
  exact op_notIn_seq pins s σ H _ _ v u Q I rx ry ⟨p, ns.map V.int, rfl, hq, rfl, flat_ints ns, by rw [inV_ints]; exact q⟩
theorem pi_or {tg l : Expr} {w1 w2 : TI} (h1 : PI X tg l w1) (h2 : PI X tg l w2) : PI X tg l (fun σ H R => w1 σ H R ∨ w2 σ H R) :=
  ⟨fun pins s σ H R I h => h.elim (fun h => h1.run pins s σ H R I h) (fun h => h2.run pins s σ H R I h)⟩
theorem pi_seq {tg l : Expr} {tl : TE} (hl : PE X l tl) : PI X tg l (fun σ H R => iList X.K tl σ H R ∨ iTup X.K tl σ H R) := pi_or (pi_list hl) (pi_tup hl)
end
/-! ### ints by their things -/
abbrev ab (n : Int) : Int := if n < 0 then -n else n
theorem ab_nat (n : Int) : ab n = (n.natAbs : Int) := by unfold ab; split <;> omega
theorem natAbs_eq {a b : Int} (h : a.natAbs = b.natAbs) : a = b ∨ a = -b := by omega
/-- rising lists of the same ints are the same -/
theorem rising_eq : ∀ {xs ys : List Int}, xs.Pairwise (fun a b => a.natAbs < b.natAbs) → ys.Pairwise (fun a b => a.natAbs < b.natAbs) → (∀ m, m ∈ xs ↔ m ∈ ys) → xs = ys
  | [], [], _, _, _ => rfl
  | [], y :: ys, _, _, h => absurd ((h y).mpr List.mem_cons_self) (by simp)
  | x :: xs, [], _, _, h => absurd ((h x).mp List.mem_cons_self) (by simp)
  | x :: xs, y :: ys, hx, hy, h => by
    rw [List.pairwise_cons] at hx hy
    have e : x = y := by
      have h1 := (h x).mp List.mem_cons_self
      have h2 := (h y).mpr List.mem_cons_self
      rcases List.mem_cons.mp h1 with e | e
      · exact e
      rcases List.mem_cons.mp h2 with e' | e'
      · exact e'.symm
      have a := hy.1 x e
      have b := hx.1 y e'
      omega
    subst e
    rw [rising_eq hx.2 hy.2 fun m => ?_]
    have hm := h m
    rw [List.mem_cons, List.mem_cons] at hm
    constructor
    · intro z
      rcases hm.mp (.inr z) with e | e
      · subst e; exact absurd (hx.1 m z) (by omega)
      · exact e
    · intro z
      rcases hm.mpr (.inr z) with e | e
      · subst e; exact absurd (hy.1 m z) (by omega)
      · exact e
/-- the clause of signs: rising, each once -/
structure ClOf (ns cs : List Int) : Prop where
  up : cs.Pairwise fun a b => a.natAbs < b.natAbs
  mem : ∀ m, m ∈ cs ↔ m ∈ ns
theorem ClOf.eq {ns cs ds : List Int} (h : ClOf ns cs) (h' : ClOf ns ds) : cs = ds := rising_eq h.up h'.up fun m => (h.mem m).trans (h'.mem m).symm
/-- signs that say both of a thing -/
def Both (ns : List Int) : Prop := ∃ n ∈ ns, -n ∈ ns
/-! the dict of signs by their things -/
def kvOf (ms : List Int) : List (Key × V) := ms.map fun m => (Sum.inl (ab m), V.int m)
theorem kvOf_get {ms : List Int} {k : Int} {v : V} (h : valV (kvOf ms) (.inl k) = some v) : ∃ m ∈ ms, ab m = k ∧ v = .int m := by
  induction ms with
  | nil => rw [show kvOf [] = [] from rfl, valV_nil] at h; cases h
  | cons m ms ih =>
    by_cases e : ab m = k
    · rw [show kvOf (m :: ms) = (Sum.inl (ab m), V.int m) :: kvOf ms from rfl, valV_pos (congrArg Sum.inl e)] at h
      cases h
      exact ⟨m, List.mem_cons_self, e, rfl⟩
    · rw [show kvOf (m :: ms) = (Sum.inl (ab m), V.int m) :: kvOf ms from rfl, valV_neg (fun z => e (Sum.inl.inj z))] at h
      obtain ⟨x, hx, r⟩ := ih h
      exact ⟨x, List.mem_cons_of_mem _ hx, r⟩
theorem kvOf_none {ms : List Int} {k : Int} (h : valV (kvOf ms) (.inl k) = none) : ∀ m ∈ ms, ab m ≠ k := by
  induction ms with
  | nil => intro m hm; cases hm
  | cons x ms ih =>
    by_cases e : ab x = k
    · rw [show kvOf (x :: ms) = (Sum.inl (ab x), V.int x) :: kvOf ms from rfl, valV_pos (congrArg Sum.inl e)] at h
      cases h
    · rw [show kvOf (x :: ms) = (Sum.inl (ab x), V.int x) :: kvOf ms from rfl, valV_neg (fun z => e (Sum.inl.inj z))] at h
      intro m hm
      rcases List.mem_cons.mp hm with z | z
      · rw [z]; exact e
      · exact ih h m z
theorem kvOf_put {ms : List Int} {n : Int} (h : ∀ m ∈ ms, ab m ≠ ab n) : putK (kvOf ms) (.inl (ab n)) (.int n) = kvOf (ms ++ [n]) := by
  unfold putK
  rw [if_neg ?_]
  · unfold kvOf; rw [List.map_append]; rfl
  · intro z
    obtain ⟨p, hp, e⟩ := List.any_eq_true.mp z
    obtain ⟨m, hm, rfl⟩ := List.mem_map.mp hp
    exact h m hm (Sum.inl.inj (of_decide_eq_true e))
theorem find_ab {ms : List Int} (hd : ms.Pairwise fun a b => ab a ≠ ab b) {m : Int} (hm : m ∈ ms) : (ms.find? fun x => decide (ab x = ab m)) = some m := by
  induction ms with
  | nil => cases hm
  | cons x ms ih =>
    rw [List.pairwise_cons] at hd
    rw [List.find?_cons]
    rcases List.mem_cons.mp hm with e | e
    · subst e; simp
    · rw [decide_eq_false (hd.1 m e)]
      exact ih hd.2 e
theorem ab_inj {ms : List Int} (hd : ms.Pairwise fun a b => ab a ≠ ab b) {x m : Int} (hx : x ∈ ms) (hm : m ∈ ms) (e : ab x = ab m) : x = m := by
  have h1 := find_ab hd hm
  have h2 := find_ab hd hx
  rw [e, h1] at h2
  exact (Option.some.inj h2).symm
theorem kvOf_some {ms : List Int} (hd : ms.Pairwise fun a b => ab a ≠ ab b) : ∀ m ∈ ms, valV (kvOf ms) (.inl (ab m)) = some (.int m) := by
  intro m hm
  cases e : valV (kvOf ms) (.inl (ab m)) with
  | none => exact absurd rfl (kvOf_none e m hm)
  | some v =>
    obtain ⟨x, hx, e1, rfl⟩ := kvOf_get e
    rw [ab_inj hd hx hm e1]
theorem kvOf_keys (ms : List Int) : (kvOf ms).map (·.1) = (ms.map ab).map Sum.inl := by
  unfold kvOf
  rw [List.map_map, List.map_map]
  rfl
/-- the signs by the sorted things -/
def byKeys (ms : List Int) (ys : List Int) : List Int := ys.map fun y => (ms.find? fun m => decide (ab m = y)).getD 0
theorem byKeys_ok {ms ys : List Int} (hd : ms.Pairwise fun a b => ab a ≠ ab b) (hp : ys.Perm (ms.map ab)) (hs : ys.Pairwise (· ≤ ·)) : ClOf ms (byKeys ms ys) := by
  have nd : ys.Nodup := hp.nodup_iff.mpr ((List.pairwise_map.mpr hd))
  have each : ∀ y ∈ ys, ∃ m ∈ ms, ab m = y ∧ (ms.find? fun x => decide (ab x = y)).getD 0 = m := fun y hy => by
    obtain ⟨m, hm, e⟩ := List.mem_map.mp (hp.mem_iff.mp hy)
    subst e
    exact ⟨m, hm, rfl, by rw [find_ab hd hm]; rfl⟩
  refine ⟨?_, fun m => ⟨fun h => ?_, fun h => ?_⟩⟩
  · unfold byKeys
    rw [List.pairwise_map]
    have st : ys.Pairwise (fun a b => a ≤ b ∧ a ≠ b) := hs.and nd
    refine List.Pairwise.imp_of_mem (fun {a b} ha hb h => ?_) st
    obtain ⟨m1, _, e1, f1⟩ := each a ha
    obtain ⟨m2, _, e2, f2⟩ := each b hb
    rw [f1, f2]
    rw [ab_nat] at e1 e2
    omega
  · obtain ⟨y, hy, rfl⟩ := List.mem_map.mp h
    obtain ⟨m, hm, _, f⟩ := each y hy
    rw [f]; exact hm
  · refine List.mem_map.mpr ⟨ab m, hp.mem_iff.mpr (List.mem_map.mpr ⟨m, h, rfl⟩), ?_⟩
    rw [find_ab hd h]; rfl
end KL
namespace KL
open PySem PySem.Spec PyProof.Rows L2
def sayB (bs : List Bool) (n : Int) : Bool := (bs.getD (n.natAbs - 1) false) == decide (0 < n)
theorem say_at {bs : List Bool} {n : Int} (h1 : 1 ≤ n.natAbs) (h2 : n.natAbs ≤ bs.length) : ∃ b, atI (bs.map V.bl) (ab n - 1) = some (.bl b) ∧ sayB bs n = (b == decide (0 < n)) := by
  obtain ⟨v, h3, h4⟩ := atI_at (xs := bs.map V.bl) (i := ab n - 1) (by rw [ab_nat]; omega) (by rw [ab_nat, List.length_map]; omega)
  have e : (ab n - 1).toNat = n.natAbs - 1 := by rw [ab_nat]; omega
  rw [e, List.getElem?_map] at h4
  cases q : bs[n.natAbs - 1]? with
  | none => rw [q] at h4; cases h4
  | some b =>
    rw [q] at h4; cases h4
    refine ⟨b, h3, ?_⟩
    unfold sayB
    rw [List.getD_eq_getElem?_getD, q]; rfl
theorem say_eq (b c : Bool) : decide (V.bl b = V.bl c) = (b == c) := by cases b <;> cases c <;> rfl
theorem at_int {ns : List Int} {i : Nat} {x : V} (h : (ns.map V.int)[i]? = some x) : ∃ n, x = .int n ∧ n ∈ ns ∧ ns.take (i + 1) = ns.take i ++ [n] := by
  rw [List.getElem?_map] at h
  cases q : ns[i]? with
  | none => rw [q] at h; cases h
  | some n =>
    rw [q] at h; cases h
    refine ⟨n, rfl, List.mem_of_getElem? q, ?_⟩
    rw [List.take_add_one, q]; rfl
/-- the loop of clause_of -/
def CofW (ns : List Int) (H : Hp) (a d : Addr) (i : Nat) (σ : L2.St) (H1 : Hp) : Prop :=
  ∃ (y2 y3 : Option V) (ms : List Int), σ = [some (.ref a), some (.ref d), y2, y3] ∧ Same H H1 ∧ H1 d = some (.dK (kvOf ms)) ∧ ms.Pairwise (fun a b => ab a ≠ ab b) ∧ ∀ m, m ∈ ms ↔ m ∈ ns.take i
theorem CofW.same {ns : List Int} {H : Hp} {a d : Addr} {i : Nat} {σ : L2.St} {H1 : Hp} (h : CofW ns H a d i σ H1) : Same H H1 := let ⟨_, _, _, _, s, _⟩ := h; s
theorem nd_len : ∀ {ms ns : List Int}, ms.Nodup → (∀ m ∈ ms, m ∈ ns) → ms.length ≤ ns.length
  | [], _, _, _ => Nat.zero_le _
  | m :: ms, ns, hd, h => by
    rw [List.nodup_cons] at hd
    have h1 := h m List.mem_cons_self
    have ih := nd_len (ms := ms) (ns := ns.erase m) hd.2 fun x hx => (List.mem_erase_of_ne (fun e : x = m => hd.1 (by rw [← e]; exact hx))).mpr (h x (List.mem_cons_of_mem _ hx))
    rw [List.length_erase_of_mem h1] at ih
    have := List.length_pos_of_mem h1
    rw [List.length_cons]; omega
theorem dj_len {ms ns : List Int} (dj : ms.Pairwise fun a b => ab a ≠ ab b) (h : ∀ m ∈ ms, m ∈ ns) : ms.length ≤ ns.length := by
  have nd : ms.Nodup := dj.imp fun h e => h (by rw [e])
  exact nd_len nd h
end KL
namespace KL
open PySem PySem.Spec PyProof.Rows L2
/-! rules with the written part named, for use within a comprehension -/
section
variable {X : Cx} {K : PySem.W.Frag}
theorem op_inI' (e : X.K = K) : OpR X (compareOp .In) (rInI K false) := e ▸ op_inI
theorem op_notInI' (e : X.K = K) : OpR X (compareOp .NotIn) (rInI K true) := e ▸ op_notInI
theorem ix_tup' (e : X.K = K) : IxR X (rIxT K) := e ▸ ix_tup
theorem ix_list' (e : X.K = K) : IxR X (rIxL K) := e ▸ ix_list
theorem op_eqD' (e : X.K = K) (hu : X.A.units + 64 < cLine) : OpR X (compareOp .Eq) (rEqD K) := e ▸ op_eqD hu
theorem op_neD' (e : X.K = K) (hu : X.A.units + 64 < cLine) : OpR X (compareOp .NotEq) (rNeD K) := e ▸ op_neD hu
theorem op_catK' (e : X.K = K) : OpR X (binaryOp .Add) (rCatK K) := e ▸ op_catK
theorem sl_tupK' (e : X.K = K) : SlR X (rSlK K) := e ▸ sl_tupK
theorem sl_list' (e : X.K = K) : SlR X (fun x lo hi H Q => ∃ a xs, x = .ref a ∧ SqL K H a xs ∧ ∀ p, H p = none → Q (.ref p) (upd H p (.lst (cutV xs lo hi)))) := e ▸ sl_list
theorem call_len_seq' (e : X.K = K) : CallR X (.builtin "len") (fun xs H Q => ∃ p ys, xs = [.ref p] ∧ (SqL K H p ys ∨ SqT K H p ys) ∧ Q (.int ys.length) H) := e ▸ call_len_seq
theorem call_tuple_of' (e : X.K = K) : CallR X (.type "tuple") (fun xs H Q => ∃ p ys, xs = [.ref p] ∧ ((SqL K H p ys ∧ ∀ l, H l = none → Q (.ref l) (upd H l (.tup ys))) ∨ (SqT K H p ys ∧ Q (.ref p) H))) := e ▸ call_tuple_of
theorem call_list_of' (e : X.K = K) : CallR X (.type "list") (fun xs H Q => ∃ p ys, xs = [.ref p] ∧ (SqL K H p ys ∨ SqT K H p ys) ∧ ∀ l, H l = none → Q (.ref l) (upd H l (.lst ys))) := e ▸ call_list_of
theorem call_isi' (e : X.K = K) : CallR X (.builtin "isinstance") (rIsi K) := e ▸ call_isi
theorem call_rep' (e : X.K = K) (hg : X.A.guards = some []) (hu : X.A.units + 64 < cLine) : CallR X (.builtin "repr") (rRep K) := e ▸ call_rep hg hu
theorem cr_any' (e : X.K = K) (hc : X.calm = true) : CallR X (.builtin "any") (rAny K) := e ▸ cr_any hc
theorem cr_all' (e : X.K = K) (hc : X.calm = true) : CallR X (.builtin "all") (rAll K) := e ▸ cr_all hc
theorem pi_tup' {tg l : Expr} {tl : TE} (e : X.K = K) (hl : PE X l tl) : PI X tg l (iTup K tl) := e ▸ pi_tup hl
theorem pi_list' {tg l : Expr} {tl : TE} (e : X.K = K) (hl : PE X l tl) : PI X tg l (iList K tl) := e ▸ pi_list hl
theorem pi_seq' {tg l : Expr} {tl : TE} (e : X.K = K) (hl : PE X l tl) : PI X tg l (fun σ H R => iList K tl σ H R ∨ iTup K tl σ H R) := e ▸ pi_seq hl
theorem pe_revT' {x : Expr} {te : TE} {k : Nat} {p1 p2 p3 pos : Pos} (e : X.K = K) (he : PE X x te) : PE X (.Subscript x (.Slice none none (some (.UnaryOp .USub (.Constant (.int 1) k p1) p2)) p3) pos) (tRevT K te) := e ▸ pe_revT he
end
end KL
namespace KL
open PySem PySem.Spec PyProof.Rows L2
/-- a row of the table of fillings -/
def rowB (n m : Nat) : List Bool := (List.range n).map fun (k : Nat) => decide (V.int (Builtin.bitAnd ((m : Int) / 2 ^ ((n : Int) - 1 - (k : Int)).toNat) 1) = V.int 1)
theorem rowB_len (n m : Nat) : (rowB n m).length = n := by unfold rowB; simp
theorem rowB_take {n m k : Nat} (h : k < n) : (rowB n m).take (k + 1) = (rowB n m).take k ++ [decide (V.int (Builtin.bitAnd ((m : Int) / 2 ^ ((n : Int) - 1 - (k : Int)).toNat) 1) = V.int 1)] := by
  have e : (rowB n m)[k]? = some (decide (V.int (Builtin.bitAnd ((m : Int) / 2 ^ ((n : Int) - 1 - (k : Int)).toNat) 1) = V.int 1)) := by
    unfold rowB
    rw [List.getElem?_map, List.getElem?_range h]; rfl
  rw [List.take_add_one, e]; rfl
/-- tuples of ints, one by one -/
inductive TupsI (K : PySem.W.Frag) (H : Hp) : List Addr → List (List Int) → Prop
  | nil : TupsI K H [] []
  | cons {c : Addr} {cs : List Addr} {ns : List Int} {nss : List (List Int)} : SqT K H c (ns.map V.int) → TupsI K H cs nss → TupsI K H (c :: cs) (ns :: nss)
theorem TupsI.len {K : PySem.W.Frag} {H : Hp} : ∀ {cs : List Addr} {nss : List (List Int)}, TupsI K H cs nss → cs.length = nss.length
  | _, _, .nil => rfl
  | _, _, .cons _ t => by rw [List.length_cons, List.length_cons, t.len]
theorem TupsI.mv {K : PySem.W.Frag} {H H' : Hp} (m : ∀ a xs, SqT K H a xs → SqT K H' a xs) : ∀ {cs : List Addr} {nss : List (List Int)}, TupsI K H cs nss → TupsI K H' cs nss
  | _, _, .nil => .nil
  | _, _, .cons h t => .cons (m _ _ h) (t.mv m)
theorem TupsI.same {K : PySem.W.Frag} {H H' : Hp} {cs : List Addr} {nss : List (List Int)} (h : TupsI K H cs nss) (s : Same H H') : TupsI K H' cs nss := h.mv fun _ _ q => same_tup s q
theorem TupsI.lst {K : PySem.W.Frag} {H : Hp} {D : Addr} {xs ys : List V} {cs : List Addr} {nss : List (List Int)} (h : TupsI K H cs nss) (e : H D = some (.lst xs)) : TupsI K (upd H D (.lst ys)) cs nss := h.mv fun a zs q => by
  rcases q with (q | ⟨o, q⟩) | q
  · exact .inl (.inl (by rw [upd_ne (ne_of q e (by intro z; cases z))]; exact q))
  · exact .inl (.inr ⟨o, by rw [upd_ne (ne_of q e (by intro z; cases z))]; exact q⟩)
  · exact .inr q
theorem TupsI.snoc {K : PySem.W.Frag} {H : Hp} {c : Addr} {ns : List Int} (hc : SqT K H c (ns.map V.int)) : ∀ {cs : List Addr} {nss : List (List Int)}, TupsI K H cs nss → TupsI K H (cs ++ [c]) (nss ++ [ns])
  | _, _, .nil => .cons hc .nil
  | _, _, .cons h t => .cons h (TupsI.snoc hc t)
theorem TupsI.at {K : PySem.W.Frag} {H : Hp} : ∀ {cs : List Addr} {nss : List (List Int)} {i : Nat} {x : V}, TupsI K H cs nss → (cs.map V.ref)[i]? = some x →
    ∃ c ns, x = .ref c ∧ ns ∈ nss ∧ SqT K H c (ns.map V.int) ∧ nss.take (i + 1) = nss.take i ++ [ns]
  | _, _, _, _, .nil, e => by simp at e
  | _, _, 0, _, .cons h _, e => by
    rw [List.map_cons] at e
    cases e
    exact ⟨_, _, rfl, List.mem_cons_self, h, by simp⟩
  | _, _, i + 1, x, .cons _ t, e => by
    obtain ⟨c, ns, h1, h2, h3, h4⟩ := t.at (i := i) (x := x) (by simpa using e)
    exact ⟨c, ns, h1, List.mem_cons_of_mem _ h2, h3, by rw [List.take_succ_cons, h4]; rfl⟩
theorem TupsI.dp {K : PySem.W.Frag} {H : Hp} : ∀ {cs : List Addr} {nss : List (List Int)}, TupsI K H cs nss → DpAll K H (cs.map V.ref) (nss.map fun ns => .tuple (ns.map PyData.int))
  | _, _, .nil => .nil
  | _, _, .cons h t => .cons (.tup h (dpInts _)) t.dp
theorem cl_ints : ∀ ns : List Int, PyData.canLayAll0 (ns.map PyData.int) = true
  | [] => by simp only [List.map_nil, PyData.canLayAll0]
  | _ :: ns => by simp only [List.map_cons, PyData.canLayAll0, PyData.canLay0, cl_ints ns, Bool.true_and]
theorem dp_ints : ∀ ns : List Int, PyData.depthAll (ns.map PyData.int) = 0
  | [] => by simp only [List.map_nil, PyData.depthAll]
  | _ :: ns => by simp only [List.map_cons, PyData.depthAll, PyData.depth, dp_ints ns, Nat.max_self]
theorem shTups (nss : List (List Int)) : SeqAt.shaped (.list (nss.map fun ns => .tuple (ns.map PyData.int))) = true := by
  have h1 : ∀ nss : List (List Int), PyData.canLayAll0 (nss.map fun ns => .tuple (ns.map PyData.int)) = true := fun nss => by
    induction nss with
    | nil => simp only [List.map_nil, PyData.canLayAll0]
    | cons n ns ih => simp only [List.map_cons, PyData.canLayAll0, PyData.canLay0, ih, cl_ints, Bool.true_and]
  have h2 : ∀ nss : List (List Int), PyData.depthAll (nss.map fun ns => .tuple (ns.map PyData.int)) ≤ 1 := fun nss => by
    induction nss with
    | nil => simp only [List.map_nil, PyData.depthAll]; omega
    | cons n ns ih => simp only [List.map_cons, PyData.depthAll, PyData.depth, dp_ints]; omega
  unfold SeqAt.shaped
  simp only [PyData.canLay0, h1, PyData.depth, Bool.true_and]
  exact decide_eq_true (by have := h2 nss; omega)
theorem eqvNilD (ds : List PyData) : PyData.eqv (.list ds) (.list []) = ds.isEmpty := by
  cases ds with
  | nil => simp [PyData.eqv, PyData.eqvAll]
  | cons d ds => simp [PyData.eqv, PyData.eqvAll]
end KL
namespace KL
open PySem PySem.Spec PyProof.Rows L2
/-- what the clause of signs is: None, or a new tuple -/
def CRes (H : Hp) (ns : List Int) (v : V) (H' : Hp) : Prop := (v = .non ∧ Both ns) ∨ ∃ (r : Addr) (cs : List Int), v = .ref r ∧ H r = none ∧ H' r = some (.tup (cs.map V.int)) ∧ ¬ Both ns ∧ ClOf ns cs
def IsRes (ns : List Int) (d : PyData) : Prop := (d = .none ∧ Both ns) ∨ ∃ cs : List Int, d = .tuple (cs.map PyData.int) ∧ ¬ Both ns ∧ ClOf ns cs
theorem IsRes.eq {ns : List Int} {d e : PyData} (h : IsRes ns d) (h' : IsRes ns e) : d = e := by
  rcases h with ⟨rfl, b⟩ | ⟨cs, rfl, nb, c⟩ <;> rcases h' with ⟨rfl, b'⟩ | ⟨ds, rfl, nb', c'⟩
  · rfl
  · exact absurd b nb'
  · exact absurd b' nb
  · rw [c.eq c']
theorem ClOf.len {ns cs : List Int} (h : ClOf ns cs) : cs.length ≤ ns.length :=
  nd_len (h.up.imp fun h e => by rw [e] at h; exact Nat.lt_irrefl _ h) fun m hm => (h.mem m).mp hm
theorem IsRes.fine {ns : List Int} {d : PyData} (h : IsRes ns d) (hb : ∀ n ∈ ns, n.natAbs < 2 ^ 110) (hl : ns.length ≤ 400) : Fine 100000 3 d := by
  rcases h with ⟨rfl, _⟩ | ⟨cs, rfl, _, c⟩
  · exact Fine.none
  · exact (Fine.tuple (n := 110) (m := 0) (l := 400) (fineInts (B := 0) fun n hn => hb n ((c.mem n).mp hn)) (by rw [List.length_map]; exact Nat.le_trans c.len hl)).le (by omega) (by omega)
theorem CRes.dat {K : PySem.W.Frag} {H H' : Hp} {ns : List Int} {v : V} (h : CRes H ns v H') : ∃ d, Dp K H' v d ∧ IsRes ns d := by
  rcases h with ⟨rfl, b⟩ | ⟨r, cs, rfl, _, e, nb, c⟩
  · exact ⟨_, .non, .inl ⟨rfl, b⟩⟩
  · exact ⟨_, .tup (SqT.of e) (dpInts cs), .inr ⟨cs, rfl, nb, c⟩⟩
def cutI (ns : List Int) (lo hi : Option Int) : List Int := (ns.drop (HT.sIx ns.length 0 lo)).take (HT.sIx ns.length ns.length hi - HT.sIx ns.length 0 lo)
theorem cut_ints (ns : List Int) (lo hi : Option Int) : cutV (ns.map V.int) lo hi = (cutI ns lo hi).map V.int := by
  unfold cutV cutI
  rw [List.length_map, List.map_take, List.map_drop]
theorem cutI_sub {ns : List Int} {lo hi : Option Int} : (∀ v ∈ cutI ns lo hi, v ∈ ns) ∧ (cutI ns lo hi).length ≤ ns.length := by
  unfold cutI
  refine ⟨fun v hv => List.mem_of_mem_drop (List.mem_of_mem_take hv), ?_⟩
  rw [List.length_take, List.length_drop]; omega
theorem cutI_cl {n : Nat} {ns : List Int} {lo hi : Option Int} (h : ns.Pairwise fun a b => a.natAbs < b.natAbs) : (cutI ns lo hi).Pairwise fun a b => a.natAbs < b.natAbs :=
  (h.sublist (List.drop_sublist _ _)).sublist (List.take_sublist _ _)
theorem all_key (os cs : List Int) : decide ((os.filter fun n => !decide (n ∈ cs)) = []) = os.all fun n => decide (n ∈ cs) := by
  rw [Bool.eq_iff_iff]; simp
end KL
namespace KL
open PySem PySem.Spec PyProof.Rows L2
/-- an own class over ValueError whose __init__ begins with super().__init__(a text) -/
structure SupC (K : PySem.W.Frag) (P : Program) (mg : Str → Option Value) (C fI cc cda : Addr) (qual : Str) (st : Stmt) (fd : FuncData) : Prop where
  oex : OexC K C
  fn : ∃ (oc : Value) (od : Option Addr) (dV kV doc pm : Value) (an : Option Addr) (ct : Value) (osl : Array (Option Value)),
    fd = PySem.W.fnX "__init__" qual (defArgs st) (defBody st) (defScope st) [("__class__", cc)] dV kV doc pm an (.ref cda) ct ∧ K.lookup fI = some ⟨oc, od, .func fd, osl⟩
  code : PySem.W.codeIn K (.ref cda) qual = true
  file : ∃ (ccl : Value) (cdd : Option Addr) (vs : Array Value) (ccs : Array (Option Value)) (file : Str) (tf : Tok), K.lookup cda = some ⟨ccl, cdd, .fields vs, ccs⟩ ∧ vs[2]? = some (.str file tf) ∧ ((P.main.file : Str) == file) = true
  cell : ∃ (cl : Value) (cld : Option Addr) (csl : Array (Option Value)), K.lookup cc = some ⟨cl, cld, .cell (some (.ref C)), csl⟩
  sup : mg "super" = none
  top : (P.main.scope.names.lookup ("super" : Str)).isSome = false
  opq : PySem.W.nsIn K cStatics "thirdparty.any" = some none
  along : PySem.W.ks_superIn K C C "__init__" = some (some (.builtin "ValueError.__init__"))
  mro : PySem.W.mroIn K C (.ref C) = some true
  subV : PySem.W.subIn K (.ref C) (.type "ValueError") = some true
  ini : PySem.W.findIn K (.ref C) "__init__" = some (some (.ref fI))
  tyI : PySem.W.typeIn K (.ref fI) = some (.type "function")
  par : ((defArgs st).posonlyargs ++ (defArgs st).args).head?.map (·.arg) = some "self"
section
variable {X : Cx} {pins : List (Addr × Obj)} {σ : L2.St} {H : Hp} {s : Shared} {a C fI cc cda : Addr} {qual : Str} {st : Stmt} {fd : FuncData}
theorem call_mw {prog : Program} {w : World} {A : Around} {E : Value → Shared → Prop} {h : Heap} {g : Array GenState} {d : Drawn} {t : Nat} {os : OsState} {nm q : Str} {C N : Addr} {bs bm : List Value} {hdct : Bool} {sn : List Str} {sub : List Value} {ab : Bool} {col : Option Bool}
    {dd : Option Addr} {k0 k1 k2 k3 k5 : Option Value} {u e t0 : Addr} {rest : List Value} {Q : Value → Shared → Prop} (hC : h.get? C = some (excClassObj nm q C N bs bm hdct sn sub ab col dd k0 k1 k2 k3 k5 "ValueError.__new__"))
    (he : h.get? e = some (HandSPX.excO C t0)) (hu : h.get? u = some (PySem.W.kxs_mw "ValueError.__init__" e)) (hrest : rest.length ≤ sizeLine)
    (hq : ∀ h' t1, (∀ b o, b ≠ e → h.get? b = some o → h'.get? b = some o) → h'.get? e = some (HandSPX.excO C t1) → Q .none ⟨h', g, d, t, os⟩) : wpAny (model prog w) A (call (.ref u) rest) Q E ⟨h, g, d, t, os⟩ := by
  refine wpAny_call (codeAny_of_tree ?_)
  show wpAny _ A.in1 (callAny (.ref u) ⟨rest, []⟩) _ _ _
  simp only [callAny]
  refine wpAny_bind (wpAny_load hu ?_)
  simp only [PySem.W.kxs_mw, show (Value.type "method-wrapper" == Value.type "method" || Value.type "method-wrapper" == Value.type "builtin_function_or_method" || Value.type "method-wrapper" == Value.type "method-wrapper") = true by decide, if_true]
  refine PySem.W.KFB.if_so (by decide) ?_
  refine wpAny_bind (ESX.check_bound F.excBase_ValueError hC he rfl ?_)
  refine wpAny_bind (wpAny_pure (wpAny_pure ?_))
  refine ⟨Code.quiet_builtin _ (by decide +kernel), codeAny_builtin F.excBase_ValueError.initEntry ?_⟩
  rw [Around.under_plainId F.excBase_ValueError.init.plain _]
  wp_walk
  refine hq _ h.objs.size (fun b o hb ho => ?_) ?_
  · rw [Heap.get?_update_other _ _ (Ne.symm hb)]
    exact Heap.get?_push_of_some _ ho
  · rw [Heap.get?_update_self _ (Heap.get?_push_of_some _ he) rfl]
    rfl
theorem sup_call {pl : Sem Bool} {body : List Stmt} {txt : Str} {j : Nat} {p0 p1 p2 p3 p4 : Pos} {Q : Shared → Prop} {E : Value → Shared → Prop} (T : SupC X.K X.prog X.mg C fI cc cda qual st fd) (I : Inv X pins σ H s) (ea : H a = some (exo a C none))
    (hN : X.N[0]? = some ("self" : Str)) (hσ : σ[0]? = some (some (.ref a))) (hka : X.env.kindOf "self" = some .local) (hks : X.env.kindOf "super" = some .globalImplicit) (hkc : X.env.kindOf "__class__" = some .free)
    (hcl : X.env.cells.lookup ("__class__" : Str) = some cc) (hfu : X.env.func = some fI) (hco : X.env.code = .ref cda)
    (he : eval (.Call (.Attribute (.Call (.Name "super" p0) [] [] p1) "__init__" p2) [.Constant (.str txt) j p3] [] p4) X.env = (do
      let ov ← attributeBase (.Call (.Name "super" p0) [] [] p1) "__init__" X.env (eval (.Call (.Name "super" p0) [] [] p1) X.env)
      standAt p2.atName
      let (f, first) ← holding [ov] (getMethod ov "__init__" pl)
      callWith p4 f first (backTo p4 (starEach [.Constant (.str txt) j p3] X.env)) []))
    (h : ∀ s', Inv X pins σ H s' → Q s') : _root_.PySem.wpAt (model X.prog X.w) X.A (.func body X.env) (eval (.Call (.Attribute (.Call (.Name "super" p0) [] [] p1) "__init__" p2) [.Constant (.str txt) j p3] [] p4) X.env) (fun _ s' => Q s') E s := by
  have KX := I.kIn
  have hk : X.env.scope.kind = .function := I.ok.kind
  obtain ⟨oc, od, dV, kV, doc, pm, an, ct, osl, rfl, lf⟩ := T.fn
  obtain ⟨ccl, cdd, vs, ccs, file, tf, lc, hvs, hfile⟩ := T.file
  obtain ⟨cl, cld, csl, lcc⟩ := T.cell
  obtain ⟨nm, q, N, bs, bm, sn, sub, ab, col, dd, k0, k1, k2, k3, k5, hC, hbm⟩ := T.oex.cls
  obtain ⟨t1, hx⟩ := exo_at I.hok ea
  obtain ⟨ar, har, earg⟩ : ∃ ar : Arg, ((defArgs st).posonlyargs ++ (defArgs st).args).head? = some ar ∧ ar.arg = ("self" : Str) := by
    have := T.par
    cases q : ((defArgs st).posonlyargs ++ (defArgs st).args).head? with
    | none => rw [q] at this; cases this
    | some ar => rw [q] at this; exact ⟨ar, rfl, Option.some.inj this⟩
  have hcdC : ∃ cd, PySem.W.clsIn X.K C = some cd := by
    unfold PySem.W.clsIn
    rw [hC]
    exact ⟨_, rfl⟩
  obtain ⟨cd, hcd⟩ := hcdC
  obtain ⟨mb, hbn, hbb⟩ := I.mod.blt
  obtain ⟨m, hn, hl⟩ := id I.loc
  obtain ⟨u0, ru, look⟩ := hl 0 _ _ hN hσ (.inl hka)
  obtain rfl : u0 = Value.ref a := ru
  have hv : m ("self" : Str) = some (.ref a) := by
    rcases look with l | ⟨z, _⟩
    · exact l.2
    · rw [hka] at z; rcases z with z | z <;> cases z
  refine PySem.ks_wpAt_MethodCall (pl := pl) ?_ he
  refine PySem.ks_wpAt_super_base hks hkc (by decide) hfu (KX _ _ lf) rfl har hco (KX _ _ lc) rfl hvs hfile T.top ?_
  refine PySem.W.ks_loadName_global hk hks ?_
  obtain ⟨hh, g, d, t, os⟩ := s
  have aneC : a ≠ C := fun z => by
    have := (I.bs C _ (I.ok.mod.kin C _ hC)).2
    rw [← z, ea] at this; cases this
  refine Calls.loadGlobal_builtin (by rw [I.ok.glob]; exact I.mod.glob.keeps I.bk) T.sup (by rw [I.ok.blt]; exact hbn.keeps I.bk) ((hbb _ (by decide)).trans (show bootBuiltins "super" = some (.type "super") by decide +kernel)) ⟨rfl, ?_⟩
  refine wpAny_loadName_free hk hkc hcl ⟨_, KX _ _ lcc, rfl⟩ ?_
  rw [earg]
  refine wpAny_loadName_local hk hka hn hv ?_
  refine PySem.ks_wpAny_isType_cls (KX _ _ hC) rfl ⟨rfl, ?_⟩
  refine PySem.ks_wpAny_call_super (KX _ _ hC) rfl hx rfl (fun c e => by cases e) (PySem.W.looks_mroIn KX T.mro) (fun h' e k => ?_)
  have I1 : Inv X pins σ H ⟨h', g, d, t, os⟩ := I.kept (t' := t) k
  have hx1 := k _ _ hx
  have IA : PySem.W.InstAt h' a { cls := .ref C, dict := none, data := .fields #[.ref t1, .none, .none, .none, .bool false, .none] } C none := ⟨hx1, rfl, rfl, trivial⟩
  have al : PySem.W.alongIn X.K "__init__" ((cd.mro.dropWhile (· != .ref C)).drop 1) = some (some (.builtin "ValueError.__init__")) := by
    have := T.along
    unfold PySem.W.ks_superIn at this
    rw [hcd] at this
    exact this
  refine PySem.W.kxs_getMethod PySem.W.kxs_ValueError e (PySem.W.looks_opaque I1.kIn T.opq) (l₀ := cd.mro) (fun A Q E s k q => wpAny_bind ((PySem.W.looks_clsIn I1.kIn hcd) A _ E s k (wpAny_pure q))) rfl I1.kIn al (IA.type.andThen (PySem.W.looks_subIn I1.kIn T.subV)) aneC (by decide) ?_
  have up : ∀ b o, h'.get? b = some o → (h'.push (PySem.W.kxs_mw "ValueError.__init__" a)).get? b = some o := fun b o e => Heap.get?_push_of_some _ e
  have hu : (h'.push (PySem.W.kxs_mw "ValueError.__init__" a)).get? h'.objs.size = some (PySem.W.kxs_mw "ValueError.__init__" a) := Heap.get?_push_at rfl rfl
  refine PySem.W.kxs_callWith (i := "ValueError.__init__") (x := a) rfl (Calls.evalArgs_plain ?_)
  refine Calls.spliced_cons (Calls.Constant_str (k := j) (pos := p3) (Calls.spliced_nil ⟨hu, ?_⟩))
  have I2 : Inv X pins σ H ⟨h'.push (PySem.W.kxs_mw "ValueError.__init__" a), g, d, t + 1 + 1, os⟩ := I1.kept (t' := t + 1 + 1) up
  refine call_mw (I2.kIn _ _ hC) (up _ _ hx1) hu (by show 1 ≤ sizeLine; decide) fun h'' t2 kk hx2 => ?_
  have J := I2.write (t' := t + 1 + 1) (x := a) (e := a) (o := exo a C none) (by rw [ea]; exact True.intro) (.inl rfl) kk ⟨_, hx2⟩ (exo_ok hx2)
  have eu : upd H a (exo a C none) = H := by
    funext b
    by_cases hb : b = a
    · rw [hb, upd_same, ea]
    · rw [upd_ne hb]
  rw [eu] at J
  exact h _ J
/-- the def __init__, by what stands behind its first statement -/
theorem init_of {P : Program} {w : World} {K : PySem.W.Frag} {mg : Str → Option Value} {base : Heap} {k : Nat} {ps N : List Str} {sp : Sp} {rest : List Stmt} {txt : Str} {j : Nat} {p0 p1 p2 p3 p4 p5 : Pos} (T : SupC K P mg C fI cc cda qual st fd)
    (S : NdefX.NScope N ps ["__class__"] (defScope st)) (hps : ps.head? = some ("self" : Str)) (hb : defBody st = .Expr (.Call (.Attribute (.Call (.Name "super" p0) [] [] p1) "__init__" p2) [.Constant (.str txt) j p3] [] p4) p5 :: rest)
    (hsup : (defScope st).names.lookup ("super" : Str) = some .globalImplicit) {pl : Env → Sem Bool}
    (he : ∀ env : Env, eval (.Call (.Attribute (.Call (.Name "super" p0) [] [] p1) "__init__" p2) [.Constant (.str txt) j p3] [] p4) env = (do
      let ov ← attributeBase (.Call (.Name "super" p0) [] [] p1) "__init__" env (eval (.Call (.Name "super" p0) [] [] p1) env)
      standAt p2.atName
      let (f, first) ← holding [ov] (getMethod ov "__init__" (pl env))
      callWith p4 f first (backTo p4 (starEach [.Constant (.str txt) j p3] env)) []))
    (len : ∀ vs H Q E, sp vs H Q E → vs.length = ps.length) (self : ∀ vs H Q E, sp vs H Q E → ∃ a, vs.head? = some (.ref a) ∧ H a = some (exo a C none))
    (hbody : ∀ (A : Around) (outer : List Env) (s : Shared) (H : Hp) (vs : List V) (Q : VK) (E : XK), Room k (A.deeper (NdefX.envF ⟨"__init__", qual, defArgs st, defBody st, defScope st, [("__class__", cc)], cda⟩ fI s.heap.objs.size)) → sp vs H Q E →
      ∃ t, PSs (NdefX.ncx CX0 P w K mg base N ⟨"__init__", qual, defArgs st, defBody st, defScope st, [("__class__", cc)], cda⟩ fI A outer s H E) rest t ∧ t { nx := fun _ H' => Q .non H', rt := Q } (NdefX.startF N vs [some (.ref C)]) H) :
    FnOk P w K mg base CX0 (k + 1) fI fd ps sp := by
  have T0 := T
  obtain ⟨oc, od, dV, kV, doc, pm, an, ct, osl, efd, lf⟩ := T.fn
  subst efd
  obtain ⟨cl, cld, csl, lcc⟩ := T.cell
  refine ⟨len, fun A outer s H args us vs Q E hr e0 hbd r hsp => ?_⟩
  have hl := len _ _ _ _ hsp
  have bk : ∀ b o, base.get? b = some o → s.heap.get? b = some o := fun b o e => (e0.bs b o e).1
  have KX : K.In s.heap := e0.mod.kin.keeps bk
  have lim : s.heap.NoLimit := e0.mod.nolimit.keeps bk
  obtain ⟨a, ha, ea⟩ := self _ _ _ _ hsp
  have CA : NdefX.CellsAt [("__class__", cc)] ["__class__"] [some (.ref C)] s.heap H := by
    have hc : H cc = none ∧ s.heap.IsCell cc (some (.ref C)) := ⟨(e0.bs _ _ (e0.mod.kin _ _ lcc)).2, _, KX _ _ lcc, rfl⟩
    have one : ∀ (y : Str) (c : Addr), ([(("__class__" : Str), cc)] : List (Str × Addr)).lookup y = some c → y = "__class__" ∧ c = cc := fun y c e => by
      rw [List.lookup_cons] at e
      split at e
      · rename_i z; cases e; exact ⟨beq_iff_eq.mp z, rfl⟩
      · cases e
    refine ⟨rfl, fun y c e => ?_, fun x y c e1 e2 => by rw [(one _ _ e1).1, (one _ _ e2).1], fun i y hy => ?_⟩
    · obtain ⟨_, rfl⟩ := one y c e
      exact ⟨hc.1, _, hc.2⟩
    · match i, hy with
      | 0, hy =>
        cases hy
        exact ⟨cc, by rw [List.lookup_cons]; simp, fun v hv => by cases hv; exact ⟨_, rfl, hc.2⟩⟩
  refine PySem.ks_codeAny_call_defAt (body := defBody st) (binds := ps.zip us) hr.depth (KX _ _ lf) rfl lim (PySem.W.codeRec_of KX T.code) rfl hbd S.nocell (fun ⟨n, _⟩ hy => S.par n (List.of_mem_zip hy).1) (fun h₁ hns kp => ?_) S.co S.gen S.kind
  have I : Inv (NdefX.ncx CX0 P w K mg base N ⟨"__init__", qual, defArgs st, defBody st, defScope st, [("__class__", cc)], cda⟩ fI A outer s H E) [] (NdefX.startF N vs [some (.ref C)]) H { s with heap := h₁, toks := s.toks + (ps.zip us).length } :=
    NdefX.inv_startN (F := ⟨"__init__", qual, defArgs st, defBody st, defScope st, [("__class__", cc)], cda⟩) S hr.hd e0 hl r CA hns kp
  obtain ⟨t, ht, hq⟩ := hbody A outer s H vs Q E (hr.deeper _) hsp
  have hN0 : N[0]? = some ("self" : Str) := by
    have e : (N.take (ps.length + 1))[0]? = (ps ++ [("__class__" : Str)])[0]? := congrArg (·[0]?) S.pre
    rw [List.getElem?_take_of_lt (by omega)] at e
    rw [e]
    cases ps with
    | nil => cases hps
    | cons p ps => cases hps; rfl
  have hself : ("self" : Str) ∈ ps := by
    cases ps with
    | nil => cases hps
    | cons p ps => cases hps; exact List.mem_cons_self
  have hv0 : (NdefX.startF N vs [some (.ref C)])[0]? = some (some (.ref a)) := by
    cases vs with
    | nil => cases ha
    | cons v vs => cases ha; rfl
  rw [hb] at *
  refine PySem.ks_wpAt_execs_cons (PySem.ks_wpAt_Expr_any ?_ (by show ((defScope st).kind == ScopeKind.module && _) = false; rw [S.kind]; rfl) (by rfl))
  refine sup_call (X := NdefX.ncx CX0 P w K mg base N ⟨"__init__", qual, defArgs st, _, defScope st, [("__class__", cc)], cda⟩ fI A outer s H E) T0 I ea hN0 hv0 (S.par _ hself) hsup (S.frk _ (by simp)) (show ([(("__class__" : Str), cc)] : List (Str × Addr)).lookup ("__class__" : Str) = some cc by rw [List.lookup_cons]; simp) rfl rfl (he _) (fun s' J => ?_)
  refine wpAt_of_wpAny (wpAny_mono (ht.run [] s' _ H _ J hq) (fun fl s'' hs => ?_) fun e s'' hs => hs)
  match fl, hs with
  | .ret u, ⟨v, σ', H', J, rv, q⟩ => exact ⟨v, H', J.os, J.bare, J.base, J.hok, rv, q⟩
  | .next, ⟨σ', H', J, q⟩ => exact ⟨V.non, H', J.os, J.bare, J.base, J.hok, rfl, q⟩
  | .brk, ⟨_, _, _, q⟩ => exact False.elim q
  | .cont, ⟨_, _, _, q⟩ => exact False.elim q
end
end KL
namespace KL
open PySem PySem.Spec PyProof.Rows L2
/-- a caught error that is kept: at a, of the class cls, its dict d -/
def XO (a : Addr) (cls : Value) (d : Option Addr) : HO := .ext fun h => ∃ (oe : Obj) (vs : Array Value), h.get? a = some oe ∧ Zc cls d oe ∧ oe.data = .fields vs
theorem XO_ok {P : Program} {w : World} {H : Hp} {h : Heap} {a : Addr} {cls : Value} {d : Option Addr} {oe : Obj} {vs : Array Value} (e : h.get? a = some oe) (z : Zc cls d oe) (q : oe.data = .fields vs) : ObjOk P w H h a (XO a cls d) :=
  ⟨⟨oe, vs, e, z, q⟩, ⟨oe, e⟩, fun _ _ ⟨o, v, e1, z1, q1⟩ k => ⟨o, v, k _ e1, z1, q1⟩⟩
theorem XO_at {P : Program} {w : World} {H : Hp} {h : Heap} {a : Addr} {cls : Value} {d : Option Addr} (hok : HOk P w H h) (e : H a = some (XO a cls d)) : ∃ (oe : Obj) (vs : Array Value), h.get? a = some oe ∧ Zc cls d oe ∧ oe.data = .fields vs := (hok a _ e).1
/-- an object that stands there and is not tracked yet may be tracked -/
theorem track {X : Cx} {pins : List (Addr × Obj)} {σ : L2.St} {H : Hp} {s : Shared} {a : Addr} {cls : Value} {d : Option Addr} {oe : Obj} {vs : Array Value} (I : Inv X pins σ H s) (na : H a = none) (n0 : X.s_0.heap.get? a = none) (nL : a ≠ X.env.locals)
    (nC : ∀ x c, X.env.cells.lookup x = some c → c ≠ a) (nP : ∀ p ∈ X.pn ++ pins, p.1 ≠ a) (e : s.heap.get? a = some oe) (z : Zc cls d oe) (q : oe.data = .fields vs) : Inv X pins σ (upd H a (XO a cls d)) s := by
  have ne : ∀ {b : Addr} {o : HO}, H b = some o → b ≠ a := fun hb z => by rw [z, na] at hb; cases hb
  refine ⟨I.ok, I.os, I.bare, ⟨I.base.keep, I.base.slot, fun b o h1 h2 h3 => ?_, I.base.there, fun b xs h1 => ?_, fun b o u h1 => ?_, fun b ps h1 => ?_⟩, I.loc, I.cell, ?_, fun x c hx => ?_, fun p hp => ?_, fun b o hb => ?_, I.len⟩
  · rw [upd_ne (fun y => by rw [y, n0] at h1; cases h1)]; exact I.base.free b o h1 h2 h3
  · have := I.base.tups b xs h1; rw [upd_ne (ne this)]; exact this
  · have := I.base.frzs b o u h1; rw [upd_ne (ne this)]; exact this
  · obtain ⟨m, hm⟩ := I.base.tbls b ps h1; exact ⟨m, by rw [upd_ne (ne hm)]; exact hm⟩
  · rw [upd_ne (Ne.symm nL)]; exact I.free
  · rw [upd_ne (nC x c hx)]; exact I.freeC x c hx
  · obtain ⟨p1, p2, p3, p4, p5⟩ := I.pin p hp
    exact ⟨p1, by rw [upd_ne (nP p hp)]; exact p2, p3, p4, p5⟩
  · by_cases hba : b = a
    · subst hba
      rw [upd_same] at hb; cases hb
      exact XO_ok e z q
    · rw [upd_ne hba] at hb
      exact (I.hok b o hb).stay (fun _ _ _ y => y) (fun c y => by rw [upd_ne (ne y)]; exact y) fun c xs y => by rw [upd_ne (ne y)]; exact y
/-- what 'except x as n' asks where the error outlives the suite: it is tracked behind it -/
def wKeep (K : PySem.W.Frag) (c : Value) (i : Nat) (ts : Addr → Value → Option Addr → TS) (Wo : WX) (D : Ends) : WX := fun cls d σ H => ∃ b, PySem.W.exmOne K cls c = some b ∧
  (b = true → ∀ a, H a = none → ts a cls d { nx := fun σ1 H1 => D.nx (σ1.set i none) (upd H1 a (XO a cls d)), rt := fun v H1 => D.rt v (upd H1 a (XO a cls d)), bk := fun σ1 H1 => D.bk (σ1.set i none) (upd H1 a (XO a cls d)), ct := fun σ1 H1 => D.ct (σ1.set i none) (upd H1 a (XO a cls d)) } (σ.set i (some (.ref a))) H) ∧ (b = false → Wo cls d σ H)
section
variable {X : Cx} {x n : Str} {c : Value} {i : Nat} {bd su : List Stmt} {st : Stmt} {q0 q1 q2 : Pos} {tb : WX → TS} {ts : Addr → Value → Option Addr → TS} {Wo : WX}
theorem ps_try_keep (hstk : X.stack = X.env :: X.outer) (hfrm : X.env.frame = some X.env.locals) (hex : X.ex = []) (hnd : X.N.Nodup) (hix : X.N[i]? = some n) (hloc : X.env.kindOf n = some .local) (hcls : Names X x c) (tk : Takes X Wo)
    (hbd : ∀ (W : WX) (pn : List (Addr × Obj)) (xe : Value → Shared → Prop), Takes (X.tr pn xe) W → PassesOwn (model X.prog X.w) X.A X.env xe → PSs (X.tr pn xe) bd (tb W))
    (hst : ∀ (a : Addr) (oe : Obj) (cls : Value) (d : Option Addr) (pn : List (Addr × Obj)), Zc cls d oe → (∃ vs, oe.data = .fields vs) → PSs (X.suite a ((a, oe) :: pn)) (st :: su) (ts a cls d)) :
    PS X (.Try bd [.ExceptHandler (some (.Name x q0)) (some n) (st :: su) q1] [] [] q2) (fun D σ H => tb (wKeep X.K c i ts Wo D) D σ H) := by
  refine ⟨fun pins s σ H D I hgo => ?_⟩
  have okX := I.ok
  have hA : X.A.frames = some (X.env :: X.outer) := by rw [okX.frames, hstk]
  refine wpAny_Try_except ?_
  refine wpAny_mono ((hbd (wKeep X.K c i ts Wo D) (X.pn ++ pins) (fun er r1 => wpAny (model X.prog X.w) X.A (noteFrame er X.env) (fun _ r2 => wpAny (model X.prog X.w) X.A (setFlight er none)
    (fun _ r3 => wpAny (model X.prog X.w) X.A (handleBy er X.env [.ExceptHandler (some (.Name x q0)) (some n) (st :: su) q1]) (SP X pins D) X.xe r3) X.xe r2) X.xe r1) (fun u s' air => ?_) PassesOwn.looking).run [] s σ H D (I.toTry _) hgo) (fun f r1 hr1 => ?_) (fun _ _ z => z)
  · obtain ⟨a, B, sI, pin1, σ1, H1, cls, d, rfl, Jt, nb, up, sky, na, os, ag, b, hb, hy, hn⟩ := air
    have J : Inv X pins σ1 H1 sI := Jt.ofTry okX
    have sk1 : Sky B (X.env :: X.outer) a (Zc cls d) X.env.locals s'.heap := by rw [← hstk]; exact sky
    have Ba : B.get? a = none := by
      rcases sk1 with z | z | z
      · exact z.2.1
      · exact z.2.1
      · exact z.2.1
    show wpAny (model X.prog X.w) X.A (noteFrame (.ref a) X.env) _ _ _
    refine Sky.land Zc.steady hA hfrm sk1 fun g3 F3 u3 => ?_
    have J3 : Inv X pins σ1 H1 { s' with heap := g3 } := J.landed nb F3.1 (up.trans u3) os ag
    obtain ⟨o3, v3, e3, z3, d3⟩ := F3.there
    have nfr : a ∉ frs (X.env :: X.outer) := fun hm => by
      obtain ⟨_, o4, e4, k4⟩ := F3.2.2.1.mem hm
      rw [e3] at e4; cases e4
      exact k4 _ d3
    have nL : a ≠ X.env.locals := fun z => nfr (List.mem_filterMap.mpr ⟨X.env, List.mem_cons_self, by rw [hfrm, z]⟩)
    have nF : a ∉ X.fs := fun hm => by
      obtain ⟨e, he, q⟩ := List.mem_filterMap.mp hm
      exact nfr (List.mem_filterMap.mpr ⟨e, List.mem_cons_of_mem _ he, q⟩)
    have aI : sI.heap.get? a = none := by
      cases hq : sI.heap.get? a with
      | none => rfl
      | some o => have := nb a o hq (by rw [hstk]; exact nfr); rw [Ba] at this; cases this
    have a0 : X.s_0.heap.get? a = none := by
      cases hq : X.s_0.heap.get? a with
      | none => rfl
      | some o => obtain ⟨o', z⟩ := J.base.there a o hq (by rw [hex]; exact List.not_mem_nil); rw [aI] at z; cases z
    have aC : ∀ y cc, X.env.cells.lookup y = some cc → cc ≠ a := fun y cc hc z => by
      obtain ⟨v, o, z1, _⟩ := J.cell y cc hc
      rw [z, aI] at z1; cases z1
    have aP : ∀ p ∈ X.pn ++ pins, p.1 ≠ a := fun p hp z => by
      have := (J.pin p hp).1; rw [z, aI] at this; cases this
    have S3 := J3.suite e3 d3 na nL nF
    refine wpAny_handleBy_cons (codeAny_handlers_test ?_) (by intro q; cases q)
    have LT : PySem.W.Looks (model X.prog X.w) g3 (typeOf (.ref a)) cls := fun A Q E s k q => wpAny_typeOf_ref (k _ _ e3) (by rw [z3.1]; exact q)
    have LM := PySem.W.exm_one (M := model X.prog X.w) (J3.kIn) LT hb
    have ask : ∀ {Q : Value → Shared → Prop} {E : Value → Shared → Prop}, Q c { s' with heap := g3 } → wpAny (model X.prog X.w) (X.A.mark (some (.ref a))) (eval (.Name x q0) X.env) Q E { s' with heap := g3 } := fun {Q E} q => by
      obtain ⟨hg, hdb, hm | ⟨hm, hv, hnn⟩⟩ := hcls
      · exact ld_glob (X := X.suite a ((a, o3) :: (X.pn ++ pins))) S3 hg hm q hdb
      · exact ld_blt (X := X.suite a ((a, o3) :: (X.pn ++ pins))) S3 hg hm hv q hnn hdb
    refine ask (LM.here ?_)
    cases b with
    | true =>
      refine codeAny_handlers_suite_as ?_
      refine HandSPX.lands_againZ F3 fun g4 F4 u4 => ?_
      have J4 : Inv X pins σ1 H1 { s' with heap := g4 } := J.landed nb F4.1 ((up.trans u3).trans u4) os ag
      obtain ⟨o4, v4, e4, z4, d4⟩ := F4.there
      have S4 := J4.suite e4 d4 na nL nF
      refine store_ok (X := X.suite a ((a, o4) :: (X.pn ++ pins))) (v := .ref a) S4 hnd hix (.inl hloc) rfl (fun s5 S5 => ?_) (.inr hloc)
      refine wpAny_mono ((hst a o4 cls d (X.pn ++ pins) z4 ⟨_, d4⟩).run [] s5 _ H1 _ S5 (hy rfl a na)) (fun f s6 hs6 => ?_) (fun _ _ z => False.elim z)
      have go : ∀ {σ6 : L2.St} {H6 : Hp} {Q : Shared → Prop}, Inv (X.suite a ((a, o4) :: (X.pn ++ pins))) [] σ6 H6 s6 → (∀ s7, Inv X pins (σ6.set i none) (upd H6 a (XO a cls d)) s7 → Q s7) →
          wpAny (model X.prog X.w) X.A (do bindName X.env n .none; unbindBehindTheSuite X.env n q1) (fun _ s7 => Q s7) X.xe s6 := fun {σ6 H6 Q} S6 hq => by
        obtain ⟨k1, k2, _⟩ := S6.pin (a, o4) (List.mem_append_left _ List.mem_cons_self)
        exact gone_ok (track (S6.unsuite okX) k2 a0 nL aC aP k1 z4 d4) hnd hix hloc hq
      cases f with
      | next =>
        obtain ⟨σ6, H6, S6, q6⟩ := hs6
        exact go S6 fun s7 J7 => ⟨_, _, J7, q6⟩
      | brk =>
        obtain ⟨σ6, H6, S6, q6⟩ := hs6
        exact go S6 fun s7 J7 => ⟨_, _, J7, q6⟩
      | cont =>
        obtain ⟨σ6, H6, S6, q6⟩ := hs6
        exact go S6 fun s7 J7 => ⟨_, _, J7, q6⟩
      | ret u =>
        obtain ⟨w6, σ6, H6, S6, r6, q6⟩ := hs6
        exact go S6 fun s7 J7 => ⟨_, _, _, J7, r6, q6⟩
    | false =>
      show wpAny _ X.A (handleBy (.ref a) X.env []) _ _ _
      refine wpAny_handleBy_nil ?_
      obtain ⟨f1, f2, f3, oe, vs, T, oT, tt, he, hz, hd, h1, hr⟩ := id F3
      unfold PySem.passOn
      refine wpAny_bind (wpAny_field he hd h1 ?_)
      rw [if_neg (show ¬ ((Value.ref T == Value.none) = true) from by simp)]
      have fin : wpAny (model X.prog X.w) X.A (setFlight (.ref a) X.env.frame) (fun _ s4 => wpAny (model X.prog X.w) X.A (throw (.ref a) : Sem Flow) (SP X pins D) X.xe s4) X.xe { s' with heap := g3 } := by
        rw [hfrm]
        refine HandSPX.setFlight_upZ F3 fun g4 k4 u4 => wpAny_throw (tk _ _ ?_)
        exact ⟨a, B, sI, pins, σ1, H1, cls, d, rfl, J, nb, (up.trans u3).trans u4, .inr (.inr (by rw [hstk]; exact k4)), na, os, ag, hn rfl⟩
      first
        | exact wpAny_bind (wpAny_pure (wpAny_bind fin))
        | exact wpAny_bind fin
  · cases f with
    | next =>
      obtain ⟨σ1, H1, J1, q⟩ := hr1
      exact wpAny_execs_nil ⟨σ1, H1, J1.ofTry okX, q⟩
    | brk =>
      obtain ⟨σ1, H1, J1, q⟩ := hr1
      exact ⟨σ1, H1, J1.ofTry okX, q⟩
    | cont =>
      obtain ⟨σ1, H1, J1, q⟩ := hr1
      exact ⟨σ1, H1, J1.ofTry okX, q⟩
    | ret u =>
      obtain ⟨v, σ1, H1, J1, r, q⟩ := hr1
      exact ⟨v, σ1, H1, J1.ofTry okX, r, q⟩
end
/-- isinstance of a kept error: one class, a tuple of classes -/
def rIsX (K : PySem.W.Frag) : List V → Hp → VK → Prop := fun xs H Q => ∃ (a D : Addr) (d : Option Addr) (c : V) (u : Value) (b : Bool), xs = [.ref a, c] ∧ H a = some (XO a (.ref D) d) ∧ (∀ dd, d = some dd → ∃ fs, H dd = some (.xd fs)) ∧ ClsV c u ∧ ExcC K D ∧ PySem.W.kitOne K (.ref D) u = some b ∧ Q (.bl b) H
def rIsXT (K : PySem.W.Frag) : List V → Hp → VK → Prop := fun xs H Q => ∃ (a D : Addr) (d : Option Addr) (tp : Addr) (cs : List V) (us : List Value) (b : Bool), xs = [.ref a, .ref tp] ∧ H a = some (XO a (.ref D) d) ∧ (∀ dd, d = some dd → ∃ fs, H dd = some (.xd fs)) ∧ H tp = some (.tup cs) ∧ Paired ClsV cs us ∧ ExcC K D ∧ PySem.W.kitAny K (.ref D) us = some b ∧ Q (.bl b) H
section
variable {X : Cx}
theorem instX {pins : List (Addr × Obj)} {σ : L2.St} {H : Hp} {s : Shared} {a D : Addr} {d : Option Addr} (I : Inv X pins σ H s) (e : H a = some (XO a (.ref D) d)) (hd : ∀ dd, d = some dd → ∃ fs, H dd = some (.xd fs)) :
    ∃ oe od, PySem.W.InstAt s.heap a oe D od := by
  obtain ⟨oe, vs, e1, z, q⟩ := XO_at I.hok e
  have nc : PySem.W.notCls oe := by unfold PySem.W.notCls; rw [q] <;> rfl
  cases d with
  | none => exact ⟨oe, none, e1, z.1, nc, by rw [z.2]; exact True.intro⟩
  | some dd =>
    obtain ⟨fs, ed⟩ := hd dd rfl
    obtain ⟨mA, hns, hr⟩ := (show ObjOk X.prog X.w H s.heap dd (.xd fs) from I.hok dd _ ed)
    obtain ⟨od, ho, hl⟩ := lookIn_ns hns
    exact ⟨oe, some od, e1, z.1, nc, by rw [z.2]; exact ho⟩
theorem call_isX : CallR X (.builtin "isinstance") (rIsX X.K) := by
  intro pins s σ H xs us Q I r h
  obtain ⟨a, D, d, c, u, b, rfl, ea, hd, k, T, e, q⟩ := h
  obtain ⟨u1, u2, rfl, r1, r2⟩ := vals2 r
  cases (show u1 = Value.ref a from r1)
  have e2 := k.eq r2
  subst e2
  obtain ⟨oe, od, J⟩ := instX I ea hd
  exact PySem.W.kia_one (PySem.W.kitx_exc (by obtain ⟨cd, hc, _⟩ := PySem.W.any_some T.hd; rw [hc]; rfl) T.hg T.hk T.hs T.ha T.hn T.ht T.hm) I.kIn J e (fun z => nomatch z) fun tk => ⟨.bl b, H, I.tok tk, rfl, q⟩
theorem call_isXT : CallR X (.builtin "isinstance") (rIsXT X.K) := by
  intro pins s σ H xs us Q I r h
  obtain ⟨a, D, d, tp, cs, ws, b, rfl, ea, hd, hT, k, T, e, q⟩ := h
  obtain ⟨u1, u2, rfl, r1, r2⟩ := vals2 r
  cases (show u1 = Value.ref a from r1)
  cases (show u2 = Value.ref tp from r2)
  obtain ⟨oe, od, J⟩ := instX I ea hd
  obtain ⟨_, its, rv, o, h1, h2, n, h3⟩ := (show ObjOk X.prog X.w H s.heap tp (.tup cs) from I.hok tp _ hT)
  have e3 := ClsV.all k rv
  subst e3
  obtain ⟨oc, od', dt, sl⟩ := o
  simp only at h2 h3
  subst h2 h3
  exact PySem.W.kia_tup (PySem.W.kitx_exc (by obtain ⟨cd, hc, _⟩ := PySem.W.any_some T.hd; rw [hc]; rfl) T.hg T.hk T.hs T.ha T.hn T.ht T.hm) I.kIn J h1 e (fun z => nomatch z) fun tk => ⟨.bl b, H, I.tok tk, rfl, q⟩
/-- the field of a kept error -/
def tXk (K : PySem.W.Frag) (f : Str) (te : TE) : TE := fun σ H Q => te σ H fun x H1 => ∃ (a C dd : Addr) (fs : List (Str × V)) (v : V), x = .ref a ∧ H1 a = some (XO a (.ref C) (some dd)) ∧ XfC K C ∧ PySem.W.findIn K (.ref C) f = some none ∧ H1 dd = some (.xd fs) ∧ fs.lookup f = some v ∧ Q v H1
theorem pe_xk {e : Expr} {te : TE} {pos : Pos} {f : Str} (he : PE X e te) (hb : attributeBase e f X.env (eval e X.env) = eval e X.env := by rfl) : PE X (.Attribute e f pos) (tXk X.K f te) := by
  refine ⟨fun pins s σ H Q I h => ?_⟩
  refine attr_of hb (thn (he.run pins s σ H _ I h) fun u s1 hh => ?_)
  obtain ⟨x, H1, I1, rx, a, C, dd, fs, v, ex, ea, T, hno, ed, l, q⟩ := hh
  subst ex
  obtain rfl : u = Value.ref a := rx
  obtain ⟨oe, vs, e1, z, hd⟩ := XO_at I1.hok ea
  obtain ⟨mA, hns, hr⟩ := (show ObjOk X.prog X.w H1 s1.heap dd (.xd fs) from I1.hok dd _ ed)
  obtain ⟨od, ho, hl⟩ := lookIn_ns hns
  obtain ⟨u, hu, ru⟩ := RelO.some_of (v := v) (o := mA f) (by rw [← l]; exact hr f)
  have J : PySem.W.InstAt s1.heap a oe C (some od) := ⟨e1, z.1, by unfold PySem.W.notCls; rw [hd] <;> rfl, by rw [z.2]; exact ho⟩
  exact HandSPX.exc_get I1.kIn J T.ga T.gg T.exC (PySem.W.findObj_own T.hdC hno rfl (by rw [hl, hu])) (handed_of ru) ⟨v, H1, I1.tok _, ru, q⟩
end
end KL
namespace KL
open PySem PySem.Spec PyProof.Rows L2
/-- what __init__ with one field promises -/
def spI1 (C : Addr) (f : Str) : Sp := fun vs H Q _ => ∃ (a : Addr) (v : V), vs = [.ref a, v] ∧ H a = some (exo a C none) ∧ ∀ dx, H dx = none → dx ≠ a → Q .non (upd (upd H dx (exd dx [(f, v)])) a (exo a C (some dx)))
section
variable {P : Program} {w : World} {K : PySem.W.Frag} {mg : Str → Option Value} {base : Heap} {C fI cc cda : Addr} {qual : Str} {st : Stmt} {fd : FuncData} {k : Nat}
theorem ok_init1 {f txt : Str} {j : Nat} {p0 p1 p2 p3 p4 p5 q0 q1 q2 q3 : Pos} (T : SupC K P mg C fI cc cda qual st fd) (S : NdefX.NScope ["self", f, "__class__"] ["self", f] ["__class__"] (defScope st))
    (hb : defBody st = [.Expr (.Call (.Attribute (.Call (.Name "super" p0) [] [] p1) "__init__" p2) [.Constant (.str txt) j p3] [] p4) p5, .Assign [.Attribute (.Name "self" q0) f q1] (.Name f q2) q3])
    (hsup : (defScope st).names.lookup ("super" : Str) = some .globalImplicit) {pl : Env → Sem Bool}
    (he : ∀ env : Env, eval (.Call (.Attribute (.Call (.Name "super" p0) [] [] p1) "__init__" p2) [.Constant (.str txt) j p3] [] p4) env = (do
      let ov ← attributeBase (.Call (.Name "super" p0) [] [] p1) "__init__" env (eval (.Call (.Name "super" p0) [] [] p1) env)
      standAt p2.atName
      let (g, first) ← holding [ov] (getMethod ov "__init__" (pl env))
      callWith p4 g first (backTo p4 (starEach [.Constant (.str txt) j p3] env)) []))
    (hs : ∀ env line, swapsWith (.Name f q2) (some (.Attribute (.Name "self" q0) f q1)) line env = pure false) (hno : PySem.W.findIn K (.ref C) f = some none) (hd : (f == ("__debug__" : Str)) = false) (hcd : (f == ("__classdict__" : Str)) = false) :
    FnOk P w K mg base CX0 (k + 1) fI fd ["self", f] (spI1 C f) := by
  refine init_of T S rfl hb hsup he (fun vs H Q E h => ?_) (fun vs H Q E h => ?_) (fun A outer s H vs Q E hr h => ?_)
  · obtain ⟨a, v, rfl, _⟩ := h; rfl
  · obtain ⟨a, v, rfl, e, _⟩ := h; exact ⟨a, rfl, e⟩
  · obtain ⟨a, v, rfl, e, q⟩ := h
    refine ⟨_, pss_one (ps_ost (pe_var (i := 0) rfl (.inl (S.par _ (by simp))) (by decide) (by decide)) (pe_var (i := 1) rfl (.inl (S.par _ (by simp))) hd hcd) (hs _ _)), ?_⟩
    exact ⟨_, rfl, _, rfl, a, C, rfl, T.oex, hno, .inl ⟨e, fun dx n ne => q dx n ne⟩⟩
end
/-- X(e), X's __init__ keeping one field -/
def tMk1 (C : Addr) (f : Str) (ta : TA) : L2.St → Hp → XK → Prop := fun σ H Q => ta σ H fun vs H1 => ∃ v, vs = [v] ∧ ∀ d, H1 d = none → Q (.ref C) (some d) (upd H1 d (.xd [(f, v)]))
section
variable {X : Cx} {x f : Str} {e : Expr} {ta : TA} {p pos : Pos} {C fI : Addr} {k : Nat} {fd : FuncData} {ps : List Str}
theorem pmk_sup1 (T : OexC X.K C) (iC : PySem.W.findIn X.K (.ref C) "__init__" = some (some (.ref fI))) (tI : PySem.W.typeIn X.K (.ref fI) = some (.type "function"))
    (F1 : FnOk X.prog X.w X.K X.mg X.base CX0 k fI fd ps (spI1 C f)) (hr : Room (k + 1) X.A) (hb : Binds X.K fd ps []) (hg : Gl X x) (hm : X.mg x = some (.ref C)) (ha : PA X [e] ta)
    (hdb : (x == ("__debug__" : Str)) = false := by decide) (he : starEach [e] X.env = (false, eval e X.env) :: starEach [] X.env := by rfl) (hpl : (backTo pos (starEach [] X.env)).any (·.1) = false := by rfl) :
    PMk X (.Call (.Name x p) [e] [] pos) (tMk1 C f ta) := by
  intro pins s σ H Q I h
  have ha' : PA X [e] (fun σ H Q => ∃ Q0, ta σ H Q0 ∧ ∀ vs H', Q0 vs H' → Q vs H') :=
    ⟨fun pos pins s σ H Q I ⟨Q0, h, m⟩ => wpAny_mono (ha.run pos pins s σ H Q0 I h) (fun us s1 ⟨vs, H1, I1, r, q⟩ => ⟨vs, H1, I1, r, m _ _ q⟩) (fun _ _ z => z)⟩
  refine pmk_oex T iC tI F1 hr hb (dvs := []) .nil (fun _ _ _ _ _ _ _ z => z.elim) hg hm ha' hdb he hpl pins s σ H Q I ?_
  refine ⟨_, h, fun vs H1 hh => ?_⟩
  obtain ⟨v, rfl, q⟩ := hh
  refine ⟨by show 1 ≤ 1000; omega, fun a na => ⟨a, v, rfl, upd_same, fun dx n ne => ⟨rfl, dx, [(f, v)], upd_same, ?_, ?_, ?_⟩⟩⟩
  · rw [upd_ne ne, upd_same]
  · rw [upd_ne ne] at n; exact n
  · rw [upd_ne ne] at n
    have : upd (del (upd (upd (upd H1 a (exo a C none)) dx (exd dx [(f, v)])) a (exo a C (some dx))) a) dx (.xd [(f, v)]) = upd H1 dx (.xd [(f, v)]) := by
      funext b
      by_cases h1 : b = dx
      · subst h1; rw [upd_same, upd_same]
      · rw [upd_ne h1, upd_ne h1]
        by_cases h2 : b = a
        · subst h2; rw [del_same, na]
        · rw [del_ne h2, upd_ne h2, upd_ne h1, upd_ne h2]
    rw [this]; exact q dx n
end
/-- an own error class with one field, as a def may raise it -/
structure Er1 (P : Program) (w : World) (K : PySem.W.Frag) (mg : Str → Option Value) (base : Heap) (k : Nat) (x f : Str) (C : Addr) : Prop where
  T : OexC K C
  fn : ∃ (fI : Addr) (fd : FuncData) (ps : List Str), PySem.W.findIn K (.ref C) "__init__" = some (some (.ref fI)) ∧ PySem.W.typeIn K (.ref fI) = some (.type "function") ∧ FnOk P w K mg base CX0 k fI fd ps (spI1 C f) ∧ Binds K fd ps []
  gl : mg x = some (.ref C)
theorem Er1.mono {P : Program} {w : World} {K : PySem.W.Frag} {mg : Str → Option Value} {base : Heap} {j k : Nat} {x f : Str} {C : Addr} (e : Er1 P w K mg base j x f C) (h : j ≤ k) : Er1 P w K mg base k x f C :=
  let ⟨fI, fd, ps, a, b, c, d⟩ := e.fn; ⟨e.T, ⟨fI, fd, ps, a, b, c.mono h, d⟩, e.gl⟩
theorem ps_raise1 {X : Cx} {W : WX} {x f : Str} {e : Expr} {ta : TA} {p pos pos2 : Pos} {C : Addr} {k : Nat} (E : Er1 X.prog X.w X.K X.mg X.base k x f C) (hc : X.calm = true) (hr : Room (k + 1) X.A) (tk : Takes X W) (hg : Gl X x) (ha : PA X [e] ta)
    (hdb : (x == ("__debug__" : Str)) = false := by decide) (he : starEach [e] X.env = (false, eval e X.env) :: starEach [] X.env := by rfl) (hpl : (backTo pos (starEach [] X.env)).any (·.1) = false := by rfl) :
    PS X (.Raise (some (.Call (.Name x p) [e] [] pos)) none pos2) (fun _ σ H => tMk1 C f ta σ H fun cls d H' => W cls d σ H') :=
  let ⟨_, _, _, iC, tI, F1, hb⟩ := E.fn
  ps_raise hc tk (pmk_sup1 E.T iC tI F1 hr hb hg E.gl ha hdb he hpl)
/-- a def that may raise -/
def Dx (P : Program) (w : World) (K : PySem.W.Frag) (mg : Str → Option Value) (base : Heap) (k : Nat) (x : Str) (ps : List Str) (sp : Sp) : Prop :=
  ∃ (f : Addr) (fd : FuncData), FnOk P w K mg base (L2.CX P w) k f fd ps sp ∧ PySem.W.keepIn K (.ref f) = true ∧ Binds K fd ps [] ∧ mg x = some (.ref f)
theorem Dx.mono {P : Program} {w : World} {K : PySem.W.Frag} {mg : Str → Option Value} {base : Heap} {j k : Nat} {x : Str} {ps : List Str} {sp : Sp} (D : Dx P w K mg base j x ps sp) (h : j ≤ k) : Dx P w K mg base k x ps sp :=
  let ⟨f, fd, F, kk, b, g⟩ := D; ⟨f, fd, F.mono h, kk, b, g⟩
theorem pe_dx {X : Cx} {k : Nat} {ps : List Str} {sp : Sp} {E : L2.St → XK} {x : Str} {p pos : Pos} {e : Expr} {es : List Expr} {t : TA} (D : Dx X.prog X.w X.K X.mg X.base k x ps sp) (hr : Room k X.A) (hg : Gl X x) (hx : ∀ σ, PassesAt (L2.CX X.prog X.w) X σ (E σ)) (ha : PA X (e :: es) t)
    (hdb : (x == ("__debug__" : Str)) = false := by decide) (he : starEach (e :: es) X.env = (false, eval e X.env) :: starEach es X.env := by rfl) (hpl : (backTo pos (starEach es X.env)).any (·.1) = false := by rfl) :
    PE X (.Call (.Name x p) (e :: es) [] pos) (tCallS sp E t) :=
  let ⟨_, _, F, kk, b, g⟩ := D
  pe_callS F hr hg g kk b hx ha hdb he hpl
/-- called where it does not raise -/
theorem pass0 {X : Cx} (σ : L2.St) : PassesAt (L2.CX X.prog X.w) X σ ((fun _ _ _ _ => False : L2.St → XK) σ) := fun _ _ _ _ _ _ ⟨_, _, _, _, _, _, _, _, _, _, _, _, z⟩ => z.elim

theorem pe_dx0 {X : Cx} {k : Nat} {ps : List Str} {sp : Sp} {x : Str} {p pos : Pos} {e : Expr} {es : List Expr} {t : TA} (D : Dx X.prog X.w X.K X.mg X.base k x ps sp) (hr : Room k X.A) (hg : Gl X x) (ha : PA X (e :: es) t)
    (hdb : (x == ("__debug__" : Str)) = false := by decide) (he : starEach (e :: es) X.env = (false, eval e X.env) :: starEach es X.env := by rfl) (hpl : (backTo pos (starEach es X.env)).any (·.1) = false := by rfl) :
    PE X (.Call (.Name x p) (e :: es) [] pos) (tCallS sp (fun _ _ _ _ => False) t) := pe_dx D hr hg pass0 ha hdb he hpl
/-! ### a list, each k-th from a place on -/
theorem vals_pick {xs : List V} {its : List Value} (r : Vals xs its) : ∀ l : List Nat, Vals (l.filterMap (xs[·]?)) (l.filterMap (its.toArray[·]?))
  | [] => .nil
  | i :: l => by
    rw [List.filterMap_cons, List.filterMap_cons]
    cases hx : xs[i]? with
    | none =>
      have : its.toArray[i]? = none := by
        rw [List.getElem?_toArray, List.getElem?_eq_none_iff, ← r.length]; exact List.getElem?_eq_none_iff.mp hx
      rw [this]; exact vals_pick r l
    | some v =>
      obtain ⟨u, hu, ru⟩ := r.get hx
      rw [show its.toArray[i]? = some u by rw [List.getElem?_toArray]; exact hu]
      exact .cons ru (vals_pick r l)
def tStepL (K : PySem.W.Frag) (te tl : TE) : TE := fun σ H Q => te σ H fun x H1 => tl σ H1 fun y H2 => ∃ a xs n, x = .ref a ∧ y = .int n ∧ SqL K H2 a xs ∧ ∀ ys p, (∀ v ∈ ys, v ∈ xs) → ys.length ≤ xs.length → H2 p = none → Q (.ref p) (upd H2 p (.lst ys))
theorem pe_stepL {X : Cx} {e lo : Expr} {te tl : TE} {c : Int} {k : Nat} {p1 p3 pos : Pos} (hc0 : c ≠ 0) (he : PE X e te) (hlo : PE X lo tl) : PE X (.Subscript e (.Slice (some lo) none (some (.Constant (.int c) k p1)) p3) pos) (tStepL X.K te tl) := by
  refine ⟨fun pins s σ H Q I h => ?_⟩
  refine Subscript_ (thn (he.run pins s σ H _ I h) fun v s1 ⟨x, H1, I1, r1, h1⟩ => ?_)
  have pm : PO X (some (.Constant (.int c) k p1)) (tPart (tC (.int c))) := po_some pe_int
  have pl : PO X (some lo) (tPart fun σ H Q => ∃ Q0, tl σ H Q0 ∧ ∀ v H', Q0 v H' → Q v H') := po_some ⟨fun pins s σ H Q I ⟨Q0, h, m⟩ => wpAny_mono (hlo.run pins s σ H Q0 I h) (fun u s1 ⟨v, H1, I1, r, q⟩ => ⟨v, H1, I1, r, m _ _ q⟩) (fun _ _ z => z)⟩
  refine wpAny_Slice (thn (pl.run pins s1 σ H1 (fun o G => ∃ n, o = some n ∧ ∃ a xs, x = .ref a ∧ SqL X.K G a xs ∧ ∀ ys p, (∀ v ∈ ys, v ∈ xs) → ys.length ≤ xs.length → G p = none → Q (.ref p) (upd G p (.lst ys))) I1 ⟨_, h1, ?_⟩) fun vl s2 ⟨l, G2, I2, pl, n, el, a, xs, ex, hx, q⟩ => ?_)
  · rintro v H' ⟨a, xs, n, rfl, rfl, hx, q⟩
    exact ⟨n, rfl, n, rfl, a, xs, rfl, hx, q⟩
  subst el ex
  cases r1
  refine thn (po_none.run pins s2 σ G2 (fun o G => o = none ∧ G = G2) I2 ⟨rfl, rfl⟩) fun vu s3 ⟨u, G3, I3, pu, eu, e3⟩ => ?_
  subst eu e3
  refine thn (pm.run pins s3 σ G3 (fun o G => o = some c ∧ G = G3) I3 ⟨c, rfl, rfl, rfl⟩) fun vs s4 ⟨o, G4, I4, ps, eo, e4⟩ => ?_
  subst eo e4
  have I5 : Inv X pins σ G4 { s4 with heap := s4.heap.push { cls := .type "slice", data := .fields #[vl, vu, vs] } } := I4.kept (t' := s4.toks) fun b ob q => Heap.get?_push_of_some _ q
  obtain ⟨its, r, ht, hz⟩ := I5.list hx
  have hlen := r.length
  show wpAny (model X.prog X.w) X.A (subscriptTail e (.Slice (some lo) none (some (.Constant (.int c) k p1)) p3) (.ref a) (.ref s4.heap.objs.size)) (EP X pins σ Q) X.xe
    { s4 with heap := s4.heap.push { cls := .type "slice", data := .fields #[vl, vu, vs] } }
  refine tail_any (ops := [.ref a, .ref s4.heap.objs.size]) ht.isList.typeIs slot_list_getitem.lookup ?_ (by with_unfolding_all rfl)
  refine wpAny_getItem_list_slice ht.isList (Heap.IsSliceOf.new _ vl vu vs) pl pu ps (fun z => hc0 (Option.some.inj z)) ?_ (by rw [List.size_toArray]; omega)
  have rp := vals_pick r (sliceRange (sliceBounds (some n) none (some c) its.toArray.size).1 (sliceBounds (some n) none (some c) its.toArray.size).2.1 (sliceBounds (some n) none (some c) its.toArray.size).2.2)
  have hl := slicePick_size_le its.toArray (some n) none (some c)
  unfold slicePick at hl ⊢
  generalize sliceRange (sliceBounds (some n) none (some c) its.toArray.size).1 (sliceBounds (some n) none (some c) its.toArray.size).2.1 (sliceBounds (some n) none (some c) its.toArray.size).2.2 = rg at *
  rw [List.size_toArray, List.size_toArray, ← rp.length, ← hlen] at hl
  refine ⟨.ref _, _, I5.laid (t' := s4.toks) (o := .lst (rg.filterMap (xs[·]?))) (fun b ob q => Heap.get?_push_of_some _ q) (Nat.le_refl _) ?_, rfl, q _ _ (fun v hv => ?_) hl (I5.hok.fresh (Nat.le_refl _))⟩
  · exact ⟨Nat.le_trans hl hz, _, 0, rp, Heap.get?_push_size _ rfl⟩
  · obtain ⟨i, _, hi⟩ := List.mem_filterMap.mp hv
    exact List.mem_of_getElem? hi
end KL
namespace KL
open PySem PySem.Spec PyProof.Rows L2
theorem dec_V (a b : Int) : decide (V.int a = V.int b) = decide (a = b) := by rw [Bool.eq_iff_iff]; simp
theorem pg_tup' {X : Cx} {K : PySem.W.Frag} {es : List Expr} {k : Nat} {pos : Pos} {t : TGs} {n : Nat} (e : X.K = K) (hc : X.calm = true) (h : PGs X es t) (hn : (assignEach es X.env).length = n := by rfl) (hst : (assignEach es X.env).findIdx? (·.1) = none := by rfl) :
    PG X (.Tuple es k pos) (gTup K n t) := e ▸ pg_tup hc h hn hst
/-! ### what two clauses meet in -/
def lft (one other : List Int) (t : Int) : List Int := (one ++ other).filter fun s => !decide (ab s = t)
def Mt (one other : List Int) (t : Int) : Prop := t ∈ one ∧ -t ∈ other
abbrev Up (ns : List Int) : Prop := ns.Pairwise fun a b => a.natAbs < b.natAbs
/-- what two clauses meet in by d, or none -/
def IsMet (one other : List Int) (d : PyData) (r : Option (List Int)) : Prop :=
  (r = none ∧ ∀ t, d = .int t → 1 ≤ t → True → Mt one other t → Both (lft one other t)) ∨ ∃ t cs, d = .int t ∧ 1 ≤ t ∧ True ∧ r = some cs ∧ Mt one other t ∧ ¬ Both (lft one other t) ∧ ClOf (lft one other t) cs
theorem IsMet.eq {one other : List Int} {d : PyData} {r r' : Option (List Int)} (h : IsMet one other d r) (h' : IsMet one other d r') : r = r' := by
  rcases h with ⟨e, h⟩ | ⟨t, cs, ed, h1, h2, e, m, b, c⟩ <;> rcases h' with ⟨e', h'⟩ | ⟨t', cs', ed', h1', h2', e', m', b', c'⟩
  · rw [e, e']
  · exact absurd (h t' ed' h1' h2' m') b'
  · exact absurd (h' t ed h1 h2 m) b
  · rw [ed] at ed'; cases ed'
    rw [e, e', c.eq c']
/-- a new tuple of ints, or None -/
def OptT (H : Hp) (r : Option (List Int)) (v : V) (H' : Hp) : Prop := (r = none ∧ v = .non) ∨ ∃ p cs, r = some cs ∧ v = .ref p ∧ H p = none ∧ H' p = some (.tup (cs.map V.int))
theorem mem_lft {one other : List Int} {t m : Int} : m ∈ lft one other t ↔ (m ∈ one ∨ m ∈ other) ∧ ab m ≠ t := by
  unfold lft
  rw [List.mem_filter, List.mem_append]
  simp
theorem up_eq {ns : List Int} (h : Up ns) {a b : Int} (ha : a ∈ ns) (hb : b ∈ ns) (e : a.natAbs = b.natAbs) : a = b := by
  induction ns with
  | nil => cases ha
  | cons x ns ih =>
    have h := List.pairwise_cons.mp h
    rcases List.mem_cons.mp ha with rfl | ha' <;> rcases List.mem_cons.mp hb with rfl | hb'
    · rfl
    · exact absurd (h.1 b hb') (by omega)
    · exact absurd (h.1 a ha') (by omega)
    · exact ih h.2 ha' hb'
theorem up_nd {ns : List Int} (h : Up ns) : ns.Nodup := h.imp fun hab e => by rw [e] at hab; omega
/-- the clauses' own meeting, as the law puts it together -/
theorem met_left {one other L : List Int} {t : Int} (u1 : Up one) (u2 : Up other) (ht : 1 ≤ t) (m : Mt one other t) (hL : ∀ m, m ∈ L ↔ (m ∈ one ∧ m ≠ t) ∨ (m ∈ other ∧ m ≠ 0 - t)) : ∀ m, m ∈ L ↔ m ∈ lft one other t := by
  intro x
  rw [hL, mem_lft]
  constructor
  · rintro (⟨h, n⟩ | ⟨h, n⟩)
    · refine ⟨.inl h, fun e => n ?_⟩
      exact up_eq u1 h m.1 (by rw [ab_nat] at e; omega)
    · refine ⟨.inr h, fun e => n ?_⟩
      have := up_eq u2 h m.2 (by rw [ab_nat] at e; omega)
      omega
  · rintro ⟨h | h, n⟩
    · exact .inl ⟨h, fun e => n (by rw [e, ab_nat]; omega)⟩
    · exact .inr ⟨h, fun e => n (by rw [e, ab_nat]; omega)⟩
theorem both_congr {ns ms : List Int} (h : ∀ m, m ∈ ns ↔ m ∈ ms) : Both ns ↔ Both ms :=
  ⟨fun ⟨n, a, b⟩ => ⟨n, (h _).mp a, (h _).mp b⟩, fun ⟨n, a, b⟩ => ⟨n, (h _).mpr a, (h _).mpr b⟩⟩
theorem ClOf.congr {ns ms cs : List Int} (h : ∀ m, m ∈ ns ↔ m ∈ ms) (c : ClOf ns cs) : ClOf ms cs := ⟨c.up, fun m => (c.mem m).trans (h m)⟩
/-- pairs (abs s, s), sorted: the second ones rise -/
theorem srt_up {xs ys : List V} {ns : List Int} {k : V → Int × Int} (hk : xs.map k = ns.map fun n => (ab n, n)) (nd : ns.Pairwise fun a b => ab a ≠ ab b) (hs : SrtO.Srtd (ltP k) ys) (hb : SrtO.Stb (ltP k) ys xs) : ClOf ns (ys.map fun y => (k y).2) := by
  have hp := hb.perm
  have e : (ys.map k).Perm (ns.map fun n => (ab n, n)) := by rw [← hk]; exact hp.map k
  have e2 : (ys.map fun y => (k y).2).Perm ns := by
    have := e.map Prod.snd
    rw [List.map_map, List.map_map] at this
    have i : (Prod.snd ∘ fun n : Int => (ab n, n)) = id := rfl
    rw [i, List.map_id] at this
    exact this
  refine ⟨?_, fun m => e2.mem_iff⟩
  have kk : ∀ y ∈ ys, (k y).1 = ab (k y).2 := fun y hy => by
    have : k y ∈ ns.map fun n => (ab n, n) := e.mem_iff.mp (List.mem_map_of_mem hy)
    obtain ⟨n, _, hn⟩ := List.mem_map.mp this
    rw [← hn]
  have nd2 : (ys.map fun y => (k y).2).Pairwise fun a b => ab a ≠ ab b := (e2.pairwise_iff (fun h => Ne.symm h)).mpr nd
  rw [List.pairwise_map] at nd2 ⊢
  refine (hs.and nd2).imp_of_mem ?_
  rintro a b ha hb' ⟨h1, h2⟩
  have h1' := SrtO.lexB_no.mp (show SrtO.lexB (k b) (k a) = false by simpa using h1)
  have ka := kk a ha
  have kb := kk b hb'
  rw [ab_nat] at ka kb
  rw [ab_nat, ab_nat] at h2
  omega
end KL
namespace KL
open PySem PySem.Spec PyProof.Rows L2
/-! ### tuple([s for at, s in sorted([(abs(s), s) for s in L])]) -/
inductive Prs (H : Hp) : List Addr → List Int → Prop
  | nil : Prs H [] []
  | cons {t : Addr} {n : Int} {ts : List Addr} {ns : List Int} (h : H t = some (.tup [.int (ab n), .int n])) (r : Prs H ts ns) : Prs H (t :: ts) (n :: ns)
theorem Prs.mv {H H' : Hp} (m : ∀ a xs, H a = some (.tup xs) → H' a = some (.tup xs)) : ∀ {ts : List Addr} {ns : List Int}, Prs H ts ns → Prs H' ts ns
  | _, _, .nil => .nil
  | _, _, .cons h r => .cons (m _ _ h) (r.mv m)
theorem Prs.snoc {H : Hp} {t : Addr} {n : Int} (h : H t = some (.tup [.int (ab n), .int n])) : ∀ {ts : List Addr} {ns : List Int}, Prs H ts ns → Prs H (ts ++ [t]) (ns ++ [n])
  | _, _, .nil => .cons h .nil
  | _, _, .cons h' r => .cons h' (r.snoc h)
def pairK (H : Hp) (x : V) : Int × Int := match x with
  | .ref t => match H t with
    | some (.tup [.int a, .int b]) => (a, b)
    | _ => (0, 0)
  | _ => (0, 0)
theorem pairK_of {H : Hp} {t : Addr} {a b : Int} (h : H t = some (.tup [.int a, .int b])) : pairK H (.ref t) = (a, b) := by
  unfold pairK
  simp only [h]
theorem Prs.keys {H : Hp} : ∀ {ts : List Addr} {ns : List Int}, Prs H ts ns → (ts.map V.ref).map (pairK H) = ns.map fun n => (ab n, n)
  | _, _, .nil => rfl
  | _, _, .cons h r => by rw [List.map_cons, List.map_cons, List.map_cons, r.keys, pairK_of h]
theorem Prs.at {H : Hp} : ∀ {ts : List Addr} {ns : List Int} {x : V}, Prs H ts ns → x ∈ ts.map V.ref → ∃ t, x = V.ref t ∧ H t = some (.tup [.int (pairK H x).1, .int (pairK H x).2])
  | _, _, _, .nil, h => nomatch h
  | _, _, _, .cons h r, hx => by
    rw [List.map_cons] at hx
    rcases List.mem_cons.mp hx with e | e
    · rw [e]; exact ⟨_, rfl, by rw [pairK_of h]; exact h⟩
    · exact r.at e
theorem Prs.len {H : Hp} : ∀ {ts : List Addr} {ns : List Int}, Prs H ts ns → ts.length = ns.length
  | _, _, .nil => rfl
  | _, _, .cons _ r => by rw [List.length_cons, List.length_cons, r.len]
abbrev tSrt (K : PySem.W.Frag) (m i j : Nat) : TE := tCB (fun xs H Q => ∃ p ys, xs = [V.ref p] ∧ ((SqL K H p ys ∧ ∀ l, H l = none → Q (V.ref l) (upd H l (.tup ys))) ∨ (SqT K H p ys ∧ Q (V.ref p) H)))
  (tCons (tLc (iList K (tCB (rSortedPO K) (tCons (tLc (iList K (tVar m)) (gName i) tYes (tTup (tCons (tCB (fun xs H Q => ∃ i, xs = [V.int i] ∧ Q (V.int (if i < 0 then -i else i)) H) (tCons (tVar i) tNil)) (tCons (tVar i) tNil))) [i]) tNil)))
    (gTup K 2 (gCons (gName j) (gCons (gName i) gNil))) tYes (tVar i) [j, i]) tNil)
theorem srt_read {K : PySem.W.Frag} {m i j : Nat} {σ : L2.St} {H : Hp} {Q : VK} {D : Addr} {L : List Int} (hm : σ[m]? = some (some (.ref D))) (hi1 : ∀ v, wipe ((wipe σ [i]).set i (some v)) [i] = wipe σ [i]) (hi2 : ∀ v : V, ((wipe σ [i]).set i (some v))[i]? = some (some v))
    (hj1 : ∀ u v, wipe (((wipe σ [j, i]).set j (some u)).set i (some v)) [j, i] = wipe σ [j, i]) (hj2 : ∀ u v : V, (((wipe σ [j, i]).set j (some u)).set i (some v))[i]? = some (some v)) (e : H D = some (.lst (L.map V.int))) (hl : L.length ≤ 1000) (dj : L.Pairwise fun a b => ab a ≠ ab b)
    (q : ∀ (r : Addr) (cs : List Int) (H' : Hp), Same H H' → H r = none → H' r = some (.tup (cs.map V.int)) → ClOf L cs → Q (.ref r) H') : tSrt K m i j σ H Q := by
  refine ⟨_, hm, D, rfl, ⟨_, SqL.of e⟩, fun D1 nD1 => lc_list (xs := L.map V.int) (fun k H' => ∃ ts : List Addr, Same H H' ∧ H' D1 = some (.lst (ts.map V.ref)) ∧ Prs H' ts (L.take k)) ⟨[], same_new nD1, upd_same, .nil⟩ (fun k H' _ ⟨ts, s1, _⟩ => SqL.of (s1 _ _ e)) ?_ ?_⟩
  · rintro k x H1 ex ⟨ts, s1, e1, pr⟩
    obtain ⟨n, rfl, hn, htk⟩ := at_int ex
    have hk : k < 1000 := by
      have := (List.getElem?_eq_some_iff.mp ex).1
      rw [List.length_map] at this; omega
    refine ⟨hi1 _, ?_⟩
    refine ⟨_, hi2 _, n, rfl, _, hi2 _, (by show 2 ≤ sizeLine; decide), fun t nt => ?_⟩
    have s2 : Same H1 (upd H1 t (.tup [.int (ab n), .int n])) := same_new nt
    have et : (upd H1 t (.tup [.int (ab n), .int n])) t = some (.tup [.int (ab n), .int n]) := upd_same
    have eD := s2 _ _ e1
    have pr2 := pr.mv (H' := upd H1 t (.tup [.int (ab n), .int n])) fun a xs h => s2 _ _ h
    change ∃ acc, (upd H1 t (.tup [.int (ab n), .int n])) D1 = some (.lst acc) ∧ _
    generalize (upd H1 t (.tup [.int (ab n), .int n])) = H2 at *
    refine ⟨_, eD, ?_, ts ++ [t], ?_, ?_, ?_⟩
    · rw [List.length_map, pr.len, List.length_take]; exact small1000 (by omega)
    · exact fun b o hb => by rw [upd_ne (ne_of_none hb nD1)]; exact s2 _ _ (s1 _ _ hb)
    · rw [upd_same, List.map_append]; rfl
    · rw [htk]
      exact (pr2.snoc et).mv fun a xs h => by rw [upd_ne (ne_of h eD (by intro z; cases z))]; exact h
  rintro H1 ⟨ts, s1, e1, pr⟩
  rw [List.length_map, List.take_length] at pr
  refine ⟨D1, _, pairK H1, rfl, SqL.of e1, fun x hx => pr.at hx, fun ys p hs hb np => ?_⟩
  have s2 : Same H1 (upd H1 p (.lst ys)) := same_new np
  have ep : (upd H1 p (.lst ys)) p = some (.lst ys) := upd_same
  have hys : ∀ y ∈ ys, ∃ t, y = V.ref t ∧ (upd H1 p (.lst ys)) t = some (.tup [.int (pairK H1 y).1, .int (pairK H1 y).2]) := fun y hy => by
    obtain ⟨t, e1, e2⟩ := pr.at (hb.perm.mem_iff.mp hy)
    exact ⟨t, e1, s2 _ _ e2⟩
  have cl := srt_up pr.keys dj hs hb
  have lys : ys.length ≤ 1000 := by rw [hb.len, List.length_map, pr.len]; exact hl
  generalize (upd H1 p (.lst ys)) = H2 at *
  refine ⟨p, rfl, ⟨_, SqL.of ep⟩, fun D3 nD3 => lc_list (xs := ys) (fun k H' => Same H2 H' ∧ H' D3 = some (.lst (((ys.take k).map fun y => (pairK H1 y).2).map V.int))) ⟨same_new nD3, upd_same⟩ (fun k H' _ h => SqL.of (h.1 _ _ ep)) ?_ ?_⟩
  · rintro k x H3 ex ⟨s3, e3⟩
    obtain ⟨t, rfl, et⟩ := hys x (List.mem_of_getElem? ex)
    have hk : k < 1000 := by
      have := (List.getElem?_eq_some_iff.mp ex).1
      omega
    refine ⟨t, _, rfl, SqT.of (s3 _ _ et), rfl, _, _, rfl, _, _, rfl, rfl, hj1 _ _, _, hj2 _ _, _, e3, ?_, ?_, ?_⟩
    · rw [List.length_map, List.length_map, List.length_take]; exact small1000 (by omega)
    · exact fun b o hb => by rw [upd_ne (ne_of_none hb nD3)]; exact s3 _ _ hb
    · rw [upd_same, List.take_add_one, ex, List.map_append, List.map_append]; rfl
  rintro H3 ⟨s3, e3⟩
  rw [List.take_length] at e3
  exact ⟨D3, _, rfl, .inl ⟨SqL.of e3, fun r nr => q r _ _ (s1.trans (s2.trans (s3.trans (same_new nr)))) ((s1.trans (s2.trans s3)).free nr) upd_same cl⟩⟩
end KL
namespace KL
open PySem PySem.Spec PyProof.Rows L2
theorem eqvNilT (ds : List PyData) : PyData.eqv (.tuple ds) (.tuple []) = ds.isEmpty := by
  cases ds with
  | nil => simp [PyData.eqv, PyData.eqvAll]
  | cons d ds => simp [PyData.eqv, PyData.eqvAll]
theorem shTup (ns : List Int) : SeqAt.shaped (.tuple (ns.map PyData.int)) = true := by
  unfold SeqAt.shaped
  simp only [PyData.canLay0, cl_ints, PyData.depth, dp_ints, Bool.true_and]
  decide
theorem eqvT_refl (ns : List Int) : PyData.eqv (.tuple (ns.map PyData.int)) (.tuple (ns.map PyData.int)) = true := SeqAt.eqv_refl _ (SeqAt.canLay_of_shaped (shTup ns))
theorem up_len {ns : List Int} {N : Nat} (h : Up ns) (ha : ∀ n ∈ ns, n ≠ 0 ∧ n.natAbs ≤ N) : ns.length ≤ N := by
  have nd : (ns.map ab).Nodup := by
    refine List.pairwise_map.mpr (h.imp fun {a b} hab e => ?_)
    rw [ab_nat, ab_nat] at e; omega
  have := nd_len (ms := ns.map ab) (ns := (List.range N).map fun (i : Nat) => (i : Int) + 1) nd fun m hm => by
    obtain ⟨n, hn, rfl⟩ := List.mem_map.mp hm
    have := ha n hn
    refine List.mem_map.mpr ⟨n.natAbs - 1, List.mem_range.mpr (by omega), ?_⟩
    rw [ab_nat]; omega
  rw [List.length_map, List.length_map, List.length_range] at this
  exact this
theorem up_dj {ns : List Int} (h : Up ns) : ns.Pairwise fun a b => ab a ≠ ab b := h.imp fun {a b} hab e => by rw [ab_nat, ab_nat] at e; omega
/-- where both hold, what they meet in holds -/
theorem met_says {one other cs : List Int} {t : Int} {bs : List Bool} (u1 : Up one) (u2 : Up other) (im : IsMet one other (.int t) (some cs)) (h1 : one.any (sayB bs) = true) (h2 : other.any (sayB bs) = true) : cs.any (sayB bs) = true := by
  rcases im with ⟨z, _⟩ | ⟨t', cs', et, h, _, e, m, nb, cl⟩
  · cases z
  cases et; cases e
  obtain ⟨x, hx, sx⟩ := List.any_eq_true.mp h1
  obtain ⟨y, hy, sy⟩ := List.any_eq_true.mp h2
  refine List.any_eq_true.mpr ?_
  by_cases hxt : ab x = t
  · have ex : x = t := up_eq u1 hx m.1 (by rw [ab_nat] at hxt; omega)
    have hyt : ab y ≠ t := fun z => by
      have ey : y = -t := up_eq u2 hy m.2 (by rw [ab_nat] at z; omega)
      rw [ex] at sx
      rw [ey] at sy
      unfold sayB at sx sy
      rw [Int.natAbs_neg] at sy
      have a1 := beq_iff_eq.mp sx
      have a2 := beq_iff_eq.mp sy
      rw [a1] at a2
      rw [decide_eq_true (show 0 < t by omega), decide_eq_false (show ¬ 0 < -t by omega)] at a2
      cases a2
    exact ⟨y, (cl.mem y).mpr (mem_lft.mpr ⟨.inr hy, hyt⟩), sy⟩
  · exact ⟨x, (cl.mem x).mpr (mem_lft.mpr ⟨.inl hx, hxt⟩), sx⟩
theorem IsMet.all {one other cs : List Int} {d : PyData} (im : IsMet one other d (some cs)) : Up cs ∧ ∀ n ∈ cs, n ∈ one ∨ n ∈ other := by
  rcases im with ⟨z, _⟩ | ⟨t', cs', et, h, _, e, m, nb, cl⟩
  · cases z
  cases e
  exact ⟨cl.up, fun n hn => (mem_lft.mp ((cl.mem n).mp hn)).1⟩
theorem Fine.strNo : Fine 10 0 (.str (Str.ofString "no")) := ⟨rfl, by decide +kernel, by decide +kernel, by decide +kernel, by decide +kernel⟩
theorem Fine.strMet : Fine 10 0 (.str (Str.ofString "met")) := ⟨rfl, by decide +kernel, by decide +kernel, by decide +kernel, by decide +kernel⟩
end KL
namespace KL
open PySem PySem.Spec PyProof.Rows L2
section
variable {P : Program} {w : World} {K : PySem.W.Frag} {mg : Str → Option Value} {base : Heap} {x qual : Str} {st : Stmt} {C fI cc cda N : Addr} {nm q : Str} {bs bm sub : List Value} {sn : List Str} {ab' : Bool} {col : Option Bool} {dd od cdd cld an : Option Addr} {k0 k1 k2 k3 k5 : Option Value}
  {oc ccl cl dV kV doc pm ct : Value} {osl ccs csl : Array (Option Value)} {vs : Array Value} {file : Str} {tf : Tok}
/-- all of it, from what the written part says -/
theorem sup_mk (gx : mg x = some (.ref C)) (o : K.lookup C = some (excClassObj nm q C N bs bm true sn sub ab' col dd k0 k1 k2 k3 k5 "ValueError.__new__")) (rv : PySem.HandSPX.refsVE bm = true)
    (sa : PySem.W.findIn K (.ref C) "__setattr__" = some (some (.builtin "object.__setattr__"))) (exC : PySem.W.subIn K (.ref C) (.type "BaseException") = some true) (tyC : PySem.W.typeIn K (.ref C) = some (.type "type")) (kC : PySem.W.keepIn K (.ref C) = true)
    (ini : PySem.W.findIn K (.ref C) "__init__" = some (some (.ref fI))) (lf : K.lookup fI = some ⟨oc, od, .func (PySem.W.fnX "__init__" qual (defArgs st) (defBody st) (defScope st) [("__class__", cc)] dV kV doc pm an (.ref cda) ct), osl⟩)
    (cd : PySem.W.codeIn K (.ref cda) qual = true) (lc : K.lookup cda = some ⟨ccl, cdd, .fields vs, ccs⟩) (v2 : vs[2]? = some (.str file tf)) (pf : ((P.main.file : Str) == file) = true) (le : K.lookup cc = some ⟨cl, cld, .cell (some (.ref C)), csl⟩)
    (sup : mg "super" = none) (top : (P.main.scope.names.lookup ("super" : Str)).isSome = false) (opq : PySem.W.nsIn K cStatics "thirdparty.any" = some none) (al : PySem.W.ks_superIn K C C "__init__" = some (some (.builtin "ValueError.__init__"))) (mr : PySem.W.mroIn K C (.ref C) = some true)
    (sv : PySem.W.subIn K (.ref C) (.type "ValueError") = some true) (tI : PySem.W.typeIn K (.ref fI) = some (.type "function")) (par : ((defArgs st).posonlyargs ++ (defArgs st).args).head?.map (·.arg) = some "self") :
    SupC K P mg C fI cc cda qual st (PySem.W.fnX "__init__" qual (defArgs st) (defBody st) (defScope st) [("__class__", cc)] dV kV doc pm an (.ref cda) ct) :=
  ⟨⟨⟨_, _, _, _, _, _, _, _, _, _, _, _, _, _, _, o, rv⟩, sa, exC, tyC, kC⟩, ⟨_, _, _, _, _, _, _, _, _, rfl, lf⟩, cd, ⟨_, _, _, _, _, _, lc, v2, pf⟩, ⟨_, _, _, le⟩, sup, top, opq, al, mr, sv, ini, tI, par⟩
theorem er1_mk {f : Str} {fd : FuncData} (gx : mg x = some (.ref C)) (T : SupC K P mg C fI cc cda qual st fd) (F : FnOk P w K mg base CX0 1 fI fd ["self", f] (spI1 C f)) (hb : Binds K fd ["self", f] []) : Er1 P w K mg base 1 x f C :=
  ⟨T.oex, ⟨fI, fd, _, T.ini, T.tyI, F, hb⟩, gx⟩
end
end KL
namespace KL
open PySem PySem.Spec PyProof.Rows L2
/-! ### rows, as data -/
theorem lay_mem : ∀ {ds : List PyData}, PyData.canLayAll0 ds = true → ∀ d ∈ ds, d.canLay0 = true
  | [], _, _, hd => nomatch hd
  | x :: xs, h, d, hd => by
    rw [PyData.canLayAll0, Bool.and_eq_true] at h
    rcases List.mem_cons.mp hd with e | e
    · rw [e]; exact h.1
    · exact lay_mem h.2 d e
theorem depth_mem : ∀ {ds : List PyData}, ∀ d ∈ ds, d.depth ≤ PyData.depthAll ds
  | [], _, hd => nomatch hd
  | x :: xs, d, hd => by
    rw [PyData.depthAll]
    rcases List.mem_cons.mp hd with e | e
    · rw [e]; omega
    · have := depth_mem d e; omega
theorem sh_list {ds : List PyData} (h : SeqAt.shaped (.list ds) = true) : ∀ d ∈ ds, SeqAt.shaped d = true := fun d hd => by
  have h1 := SeqAt.canLay_of_shaped h
  have h2 := SeqAt.depth_of_shaped h
  rw [PyData.canLay0] at h1
  rw [PyData.depth] at h2
  unfold SeqAt.shaped
  rw [lay_mem h1 d hd]
  exact decide_eq_true (by have := depth_mem d hd; omega)
theorem sh_tup {ds : List PyData} (h : SeqAt.shaped (.tuple ds) = true) : ∀ d ∈ ds, SeqAt.shaped d = true := fun d hd => by
  have h1 := SeqAt.canLay_of_shaped h
  have h2 := SeqAt.depth_of_shaped h
  rw [PyData.canLay0] at h1
  rw [PyData.depth] at h2
  unfold SeqAt.shaped
  rw [lay_mem h1 d hd]
  exact decide_eq_true (by have := depth_mem d hd; omega)
theorem eqv_str (d : PyData) (x : Str) : PyData.eqv d (.str x) = true ↔ d = .str x := by
  cases d <;> simp [PyData.eqv]
noncomputable def mtF (one other : List Int) (e : PyData) : Option (List Int) := Classical.epsilon (IsMet one other e)
theorem mtF_is {one other : List Int} {e : PyData} {r : Option (List Int)} (h : IsMet one other e r) : mtF one other e = r :=
  IsMet.eq (Classical.epsilon_spec (p := IsMet one other e) ⟨r, h⟩) h
def C30 (ns : List Int) : Prop := Up ns ∧ ∀ n ∈ ns, n ≠ 0 ∧ n.natAbs ≤ 30
theorem C30.len {ns : List Int} (h : C30 ns) : ns.length ≤ 30 := up_len h.1 h.2
theorem C30.met {one other cs : List Int} {e : PyData} (h1 : C30 one) (h2 : C30 other) (im : IsMet one other e (some cs)) : C30 cs :=
  ⟨im.all.1, fun n hn => (im.all.2 n hn).elim (h1.2 n) (h2.2 n)⟩
theorem C30.app {one other : List Int} (h1 : C30 one) (h2 : C30 other) : ∀ n ∈ one ++ other, n ≠ 0 ∧ n.natAbs ≤ 60 := fun n hn => by
  rcases List.mem_append.mp hn with h | h
  · have := h1.2 n h; exact ⟨this.1, by omega⟩
  · have := h2.2 n h; exact ⟨this.1, by omega⟩
open Classical in
/-- the clause of a row -/
noncomputable def rowF (nss ahead : List (List Int)) (d : PyData) : Option (List Int) := match d with
  | .tuple [.str s, .int i] => if s = "told" ∧ 0 ≤ i then nss[i.toNat]? else none
  | .tuple [.str s, .int i, .int j, e] => if s = "met" ∧ 0 ≤ i ∧ i < ahead.length ∧ 0 ≤ j ∧ j < ahead.length then mtF (ahead.getD i.toNat []) (ahead.getD j.toNat []) e else none
  | _ => none
noncomputable def rowsF (nss : List (List Int)) : List (List Int) → List PyData → Nat ⊕ List (List Int)
  | ahead, [] => .inr ahead
  | ahead, d :: ds => match rowF nss ahead d with
    | none => .inl ahead.length
    | some c => rowsF nss (ahead ++ [c]) ds
noncomputable def allF (nss : List (List Int)) (d : PyData) : Option Nat ⊕ List (List Int) := match d with
  | .list (d0 :: ds) => match rowsF nss [] (d0 :: ds) with
    | .inl n => .inl (some n)
    | .inr cs => .inr cs
  | _ => .inl none
def numV : Option Nat → V
  | none => .non
  | some n => .int n
def numD : Option Nat → PyData
  | none => .none
  | some n => .int n
def outD : Option Nat ⊕ List (List Int) → PyData
  | .inl n => .list [.str "no", numD n]
  | .inr cs => .list (cs.map fun c => .tuple (c.map PyData.int))
theorem numDp {K : PySem.W.Frag} {H : Hp} : ∀ n : Option Nat, Dp K H (numV n) (numD n)
  | none => .non
  | some n => .int n
/-- the list that is told -/
def ORes (K : PySem.W.Frag) (H' : Hp) (o : Option Nat ⊕ List (List Int)) (l : Addr) : Prop :=
  (∃ n, o = .inl n ∧ (∀ k, n = some k → k ≤ 1000) ∧ H' l = some (.lst [.str "no", numV n])) ∨ ∃ ts css, o = .inr css ∧ H' l = some (.lst (ts.map V.ref)) ∧ TupsI K H' ts css ∧ css.length ≤ 1000 ∧ ∀ c ∈ css, C30 c
theorem ORes.dp {K : PySem.W.Frag} {H' : Hp} {o : Option Nat ⊕ List (List Int)} {l : Addr} (h : ORes K H' o l) : Dp K H' (.ref l) (outD o) := by
  rcases h with ⟨n, rfl, _, e⟩ | ⟨ts, css, rfl, e, t, _⟩
  · exact .lst (SqL.of e) (.cons (.str _) (.cons (numDp n) .nil))
  · exact .lst (SqL.of e) t.dp
theorem rowsF_end {nss css : List (List Int)} {ds : List PyData} {i : Nat} (h : rowsF nss [] ds = rowsF nss css (ds.drop i)) (hi : i = ds.length) : rowsF nss [] ds = .inr css := by
  rw [h, hi, List.drop_length]; rfl
theorem rowsF_step {nss css : List (List Int)} {ds : List PyData} {i : Nat} {d : PyData} {c : List Int} (h : rowsF nss [] ds = rowsF nss css (ds.drop i)) (hd : ds.drop i = d :: ds.drop (i + 1)) (hc : rowF nss css d = some c) : rowsF nss [] ds = rowsF nss (css ++ [c]) (ds.drop (i + 1)) := by
  rw [h, hd]
  show (match rowF nss css d with | none => Sum.inl css.length | some c => rowsF nss (css ++ [c]) (ds.drop (i + 1))) = _
  rw [hc]
theorem rowsF_stop {nss css : List (List Int)} {ds : List PyData} {i : Nat} {d : PyData} (h : rowsF nss [] ds = rowsF nss css (ds.drop i)) (hd : ds.drop i = d :: ds.drop (i + 1)) (hc : rowF nss css d = none) : rowsF nss [] ds = .inl css.length := by
  rw [h, hd]
  show (match rowF nss css d with | none => Sum.inl css.length | some c => rowsF nss (css ++ [c]) (ds.drop (i + 1))) = _
  rw [hc]
theorem rowsF_len {nss : List (List Int)} : ∀ {ds : List PyData} {ahead css : List (List Int)}, rowsF nss ahead ds = .inr css → css.length = ahead.length + ds.length
  | [], ahead, css, h => by cases h; rfl
  | d :: ds, ahead, css, h => by
    have h' : (match rowF nss ahead d with | none => Sum.inl ahead.length | some c => rowsF nss (ahead ++ [c]) ds) = .inr css := h
    cases hr : rowF nss ahead d with
    | none => rw [hr] at h'; cases h'
    | some c =>
      rw [hr] at h'
      have := rowsF_len (ds := ds) (ahead := ahead ++ [c]) h'
      rw [this, List.length_append, List.length_cons]; simp; omega
theorem allF_len {nss css : List (List Int)} {d : PyData} (h : allF nss d = .inr css) : ∃ ds, d = .list ds ∧ css.length = ds.length := by
  unfold allF at h
  split at h
  · rename_i d0 ds
    cases hr : rowsF nss [] (d0 :: ds) with
    | inl n => rw [hr] at h; cases h
    | inr cs => rw [hr] at h; cases h; exact ⟨_, rfl, by rw [rowsF_len hr]; simp⟩
  · cases h
theorem allF_of {nss : List (List Int)} {ds : List PyData} (h : ds ≠ []) : allF nss (.list ds) = match rowsF nss [] ds with | .inl n => .inl (some n) | .inr cs => .inr cs := by
  cases ds with
  | nil => exact absurd rfl h
  | cons d ds => rfl
theorem dpA_at {K : PySem.W.Frag} {H : Hp} : ∀ {xs : List V} {ds : List PyData} {i : Nat} {x : V}, DpAll K H xs ds → xs[i]? = some x → ∃ d, ds[i]? = some d ∧ Dp K H x d ∧ ds.drop i = d :: ds.drop (i + 1)
  | _, _, _, _, .nil, e => by simp at e
  | _, _, 0, _, .cons h _, e => by cases e; exact ⟨_, rfl, h, rfl⟩
  | _, _, i + 1, x, .cons _ t, e => by
    obtain ⟨d, h1, h2, h3⟩ := dpA_at (i := i) (x := x) t (by simpa using e)
    exact ⟨d, by simpa using h1, h2, by simpa using h3⟩
theorem dpA_len {K : PySem.W.Frag} {H : Hp} : ∀ {xs : List V} {ds : List PyData}, DpAll K H xs ds → xs.length = ds.length
  | _, _, .nil => rfl
  | _, _, .cons _ t => by rw [List.length_cons, List.length_cons, dpA_len t]
theorem dp_three {K : PySem.W.Frag} {H : Hp} {xs : List V} {es : List PyData} (h : DpAll K H xs es) (l : xs.length = 3) : ∃ x1 x2 x3 e1 e2 e3, xs = [x1, x2, x3] ∧ es = [e1, e2, e3] ∧ Dp K H x1 e1 ∧ Dp K H x2 e2 ∧ Dp K H x3 e3 := by
  match xs, es, h, l with
  | [x1, x2, x3], [e1, e2, e3], .cons h1 (.cons h2 (.cons h3 .nil)), _ => exact ⟨_, _, _, _, _, _, rfl, rfl, h1, h2, h3⟩
theorem dp_two {K : PySem.W.Frag} {H : Hp} {xs : List V} {es : List PyData} (h : DpAll K H xs es) (l : xs.length = 2) : ∃ x1 x2 e1 e2, xs = [x1, x2] ∧ es = [e1, e2] ∧ Dp K H x1 e1 ∧ Dp K H x2 e2 := by
  match xs, es, h, l with
  | [x1, x2], [e1, e2], .cons h1 (.cons h2 .nil), _ => exact ⟨_, _, _, _, rfl, rfl, h1, h2⟩
theorem dp_four {K : PySem.W.Frag} {H : Hp} {xs : List V} {es : List PyData} (h : DpAll K H xs es) (l : xs.length = 4) : ∃ x0 x1 x2 x3 e0 e1 e2 e3, xs = [x0, x1, x2, x3] ∧ es = [e0, e1, e2, e3] ∧ Dp K H x0 e0 ∧ Dp K H x1 e1 ∧ Dp K H x2 e2 ∧ Dp K H x3 e3 := by
  match xs, es, h, l with
  | [x0, x1, x2, x3], [e0, e1, e2, e3], .cons h0 (.cons h1 (.cons h2 (.cons h3 .nil))), _ => exact ⟨_, _, _, _, _, _, _, _, rfl, rfl, h0, h1, h2, h3⟩
theorem dp_one {K : PySem.W.Frag} {H : Hp} {xs : List V} {es : List PyData} (h : DpAll K H xs es) (l : xs.length = 1) : ∃ x1 e1, xs = [x1] ∧ es = [e1] ∧ Dp K H x1 e1 := by
  match xs, es, h, l with
  | [x1], [e1], .cons h1 .nil, _ => exact ⟨_, _, rfl, rfl, h1⟩
theorem rowF_none {nss css : List (List Int)} {d : PyData} (h1 : ∀ s i, d ≠ .tuple [.str s, .int i]) (h2 : ∀ s i j e, d ≠ .tuple [.str s, .int i, .int j, e]) : rowF nss css d = none := by
  unfold rowF
  split
  · exact absurd rfl (h1 _ _)
  · exact absurd rfl (h2 _ _ _ _)
  · rfl
theorem rowF_told {nss css : List (List Int)} {i : Int} (h : 0 ≤ i) : rowF nss css (.tuple [.str "told", .int i]) = nss[i.toNat]? := by
  unfold rowF
  exact if_pos ⟨rfl, h⟩
theorem rowF_two {nss css : List (List Int)} {s : Str} {i : Int} (h : ¬ (s = "told" ∧ 0 ≤ i)) : rowF nss css (.tuple [.str s, .int i]) = none := by
  unfold rowF
  exact if_neg h
theorem rowF_met {nss css : List (List Int)} {i j : Int} {e : PyData} (h1 : 0 ≤ i) (h2 : i < css.length) (h3 : 0 ≤ j) (h4 : j < css.length) : rowF nss css (.tuple [.str "met", .int i, .int j, e]) = mtF (css.getD i.toNat []) (css.getD j.toNat []) e := by
  unfold rowF
  exact if_pos ⟨rfl, h1, h2, h3, h4⟩
theorem rowF_four {nss css : List (List Int)} {s : Str} {i j : Int} {e : PyData} (h : ¬ (s = "met" ∧ 0 ≤ i ∧ i < css.length ∧ 0 ≤ j ∧ j < css.length)) : rowF nss css (.tuple [.str s, .int i, .int j, e]) = none := by
  unfold rowF
  exact if_neg h
theorem rowF_bad {nss css : List (List Int)} {i j : Int} {e : PyData} (h : ∀ t, e = .int t → ¬ 1 ≤ t) : rowF nss css (.tuple [.str "met", .int i, .int j, e]) = none := by
  by_cases hh : 0 ≤ i ∧ i < css.length ∧ 0 ≤ j ∧ j < css.length
  · rw [rowF_met hh.1 hh.2.1 hh.2.2.1 hh.2.2.2]
    exact mtF_is (.inl ⟨rfl, fun t e h1 => absurd h1 (h t e)⟩)
  · exact rowF_four fun y => hh y.2
theorem dpA_snoc {K : PySem.W.Frag} {H : Hp} {x : V} {d : PyData} (h : Dp K H x d) : ∀ {xs : List V} {ds : List PyData}, DpAll K H xs ds → DpAll K H (xs ++ [x]) (ds ++ [d])
  | _, _, .nil => .cons h .nil
  | _, _, .cons h1 t => .cons h1 (dpA_snoc h t)
theorem dpA_same {K : PySem.W.Frag} {H H' : Hp} {xs : List V} {ds : List PyData} (h : DpAll K H xs ds) (s : Same H H') : DpAll K H' xs ds := dpMvs (fun _ _ q => s.seq q) (fun _ _ q => same_tup s q) ds h
theorem lay_of : ∀ {ds : List PyData}, (∀ d ∈ ds, d.canLay0 = true) → PyData.canLayAll0 ds = true
  | [], _ => rfl
  | x :: xs, h => by rw [PyData.canLayAll0, h x List.mem_cons_self, lay_of fun d hd => h d (List.mem_cons_of_mem _ hd)]; rfl
theorem depth_of : ∀ {ds : List PyData} {m : Nat}, (∀ d ∈ ds, d.depth ≤ m) → PyData.depthAll ds ≤ m
  | [], _, _ => by rw [PyData.depthAll]; omega
  | x :: xs, m, h => by
    rw [PyData.depthAll]
    have h1 := h x List.mem_cons_self
    have h2 := depth_of (ds := xs) fun d hd => h d (List.mem_cons_of_mem _ hd)
    omega
theorem sh_sub {es fs : List PyData} (h : SeqAt.shaped (.tuple es) = true) (hs : ∀ d ∈ fs, d ∈ es) : SeqAt.shaped (.list fs) = true := by
  have h1 := SeqAt.canLay_of_shaped h
  have h2 := SeqAt.depth_of_shaped h
  rw [PyData.canLay0] at h1
  rw [PyData.depth] at h2
  unfold SeqAt.shaped
  rw [PyData.canLay0, lay_of fun d hd => lay_mem h1 d (hs d hd), PyData.depth]
  exact decide_eq_true (by have := depth_of (ds := fs) (m := PyData.depthAll es) fun d hd => depth_mem d (hs d hd); omega)
/-- at an index of a list of tuples -/
theorem tups_ix {K : PySem.W.Frag} {H : Hp} {cs : List Addr} {nss : List (List Int)} (h : TupsI K H cs nss) {i : Int} (h0 : 0 ≤ i) (h1 : i < nss.length) : ∃ c ns, atI (cs.map V.ref) i = some (.ref c) ∧ SqT K H c (ns.map V.int) ∧ nss[i.toNat]? = some ns ∧ ns ∈ nss := by
  obtain ⟨v, h2, h3⟩ := atI_at (xs := cs.map V.ref) (i := i) h0 (by rw [List.length_map, h.len]; exact h1)
  obtain ⟨c, ns, rfl, hm, hc, _⟩ := h.at h3
  have hlt : i.toNat < nss.length := by omega
  have key : ∀ {cs : List Addr} {nss : List (List Int)} {j : Nat} {c : Addr}, TupsI K H cs nss → (cs.map V.ref)[j]? = some (.ref c) → ∃ ns, nss[j]? = some ns ∧ SqT K H c (ns.map V.int) := by
    intro cs nss j c h
    induction h generalizing j with
    | nil => intro e; simp at e
    | cons hc r ih =>
      intro e
      cases j with
      | zero => cases e; exact ⟨_, rfl, hc⟩
      | succ j => exact ih (by simpa using e)
  obtain ⟨ms, e1, e2⟩ := key h h3
  exact ⟨c, ms, h2, e2, e1, List.mem_of_getElem? e1⟩
theorem at0 {α : Type} {x : α} {xs : List α} : atI (x :: xs) 0 = some x := by
  obtain ⟨v, h1, h2⟩ := atI_at (xs := x :: xs) (i := 0) (by omega) (by rw [List.length_cons]; omega)
  rw [h1]; cases h2; rfl
theorem sqT_lst {K : PySem.W.Frag} {H : Hp} {D c : Addr} {o u zs : List V} (e : H D = some (.lst o)) (q : SqT K H c zs) : SqT K (upd H D (.lst u)) c zs := by
  rcases q with (q | ⟨w, q⟩) | q
  · exact .inl (.inl (by rw [upd_ne (ne_of q e (by intro z; cases z))]; exact q))
  · exact .inl (.inr ⟨w, by rw [upd_ne (ne_of q e (by intro z; cases z))]; exact q⟩)
  · exact .inr q
/-- what a row says -/
def RowV (K : PySem.W.Frag) (H : Hp) (r : Option (List Int)) (v : V) : Prop := (r = none ∧ v = .non) ∨ ∃ p c, r = some c ∧ v = .ref p ∧ SqT K H p (c.map V.int) ∧ C30 c
theorem RowV.same {K : PySem.W.Frag} {H H' : Hp} {r : Option (List Int)} {v : V} (h : RowV K H r v) (s : Same H H') : RowV K H' r v := h.elim .inl fun ⟨p, c, h1, h2, h3, h4⟩ => .inr ⟨p, c, h1, h2, same_tup s h3, h4⟩
/-- the clauses of a list, at its addresses -/
structure ClsL (K : PySem.W.Frag) (H : Hp) (a : Addr) (nss : List (List Int)) : Prop where
  ex : ∃ cs : List Addr, SqL K H a (cs.map V.ref) ∧ TupsI K H cs nss
  all : ∀ ns ∈ nss, C30 ns
  len : nss.length ≤ 900
theorem ClsL.same {K : PySem.W.Frag} {H H' : Hp} {a : Addr} {nss : List (List Int)} (h : ClsL K H a nss) (s : Same H H') : ClsL K H' a nss :=
  let ⟨cs, h1, h2⟩ := h.ex; ⟨⟨cs, s.seq h1, h2.same s⟩, h.all, h.len⟩
/-- data, or a dict, which is none -/
def RowX (K : PySem.W.Frag) (H : Hp) (x : V) (d : PyData) : Prop := (Dp K H x d ∧ SeqAt.shaped d = true ∧ ∀ ds, d = .list ds → ds.length ≤ 900) ∨ ∃ a kvs, x = .ref a ∧ H a = some (.dK kvs) ∧ d = .none
theorem RowX.same {K : PySem.W.Frag} {H H' : Hp} {x : V} {d : PyData} (h : RowX K H x d) (s : Same H H') : RowX K H' x d :=
  h.elim (fun h => .inl ⟨dpSame h.1 s, h.2⟩) fun ⟨a, kvs, e, e2, e3⟩ => .inr ⟨a, kvs, e, s _ _ e2, e3⟩
def lstB : PyData → Bool
  | .list _ => true
  | _ => false
theorem RowX.ty {K : PySem.W.Frag} {H : Hp} {x : V} {d : PyData} (h : RowX K H x d) : ∃ t, TyX K H x (.type t) ∧ kitB t "list" = some (lstB d) := by
  rcases h with ⟨h, _⟩ | ⟨a, kvs, rfl, e, rfl⟩
  · refine ⟨_, dpTy h, (kit_list d).trans ?_⟩
    cases d <;> rfl
  · exact ⟨_, .base (.dK e), by decide +kernel⟩
def RwV (xs : List V) : Prop := (∃ i : Int, xs = [.str "told", .int i] ∧ i.natAbs ≤ 1000) ∨ ∃ i j s : Int, xs = [.str "met", .int i, .int j, .int s] ∧ i.natAbs ≤ 1000 ∧ j.natAbs ≤ 1000 ∧ s.natAbs ≤ 1000
def Rw (H : Hp) (t : Addr) : Prop := ∃ xs, H t = some (.tup xs) ∧ RwV xs
theorem Rw.mv {H H' : Hp} {t : Addr} (h : Rw H t) (m : ∀ a xs, H a = some (.tup xs) → H' a = some (.tup xs)) : Rw H' t := let ⟨xs, e, r⟩ := h; ⟨xs, m _ _ e, r⟩
theorem Kp.tp {p : Addr} {H H' : Hp} (k : Kp p H H') (hp : Pl H p) : ∀ a xs, H a = some (.tup xs) → H' a = some (.tup xs) := fun a xs h => k _ _ (fun z => by
  obtain ⟨u, v, e, _⟩ := hp
  rw [z, e] at h; cases h) h
theorem Kp.tups {K : PySem.W.Frag} {p : Addr} {H H' : Hp} (k : Kp p H H') (hp : Pl H p) {ts : List Addr} {nss : List (List Int)} (h : TupsI K H ts nss) : TupsI K H' ts nss := h.mv fun a xs q => k.tup hp q
theorem Kp.cls {K : PySem.W.Frag} {p : Addr} {H H' : Hp} (k : Kp p H H') {a : Addr} {nss : List (List Int)} (h : ClsL K (KL.hid p H) a nss) : ClsL K H' a nss := (h.same k.hid).same (KL.hid_same p H')
theorem new_tp {H : Hp} {D : Addr} {o u : List V} (e : H D = some (.lst o)) : ∀ a xs, H a = some (.tup xs) → (upd H D (.lst u)) a = some (.tup xs) := fun a xs h => by rw [upd_ne (ne_of h e (by intro z; cases z))]; exact h
theorem dpA_drop {K : PySem.W.Frag} {H : Hp} : ∀ (n : Nat) {xs : List V} {ds : List PyData}, DpAll K H xs ds → DpAll K H (xs.drop n) (ds.drop n)
  | 0, _, _, h => h
  | _ + 1, _, _, .nil => .nil
  | n + 1, _, _, .cons _ t => dpA_drop n t
theorem dpA_take {K : PySem.W.Frag} {H : Hp} : ∀ (n : Nat) {xs : List V} {ds : List PyData}, DpAll K H xs ds → DpAll K H (xs.take n) (ds.take n)
  | 0, _, _, h => .nil
  | _ + 1, _, _, .nil => .nil
  | n + 1, _, _, .cons h t => .cons h (dpA_take n t)
theorem dpA_cut {K : PySem.W.Frag} {H : Hp} {xs : List V} {ds : List PyData} (h : DpAll K H xs ds) (lo hi : Option Int) : ∃ es, DpAll K H (cutV xs lo hi) es ∧ ∀ e ∈ es, e ∈ ds :=
  ⟨_, dpA_take _ (dpA_drop _ h), fun e he => List.mem_of_mem_drop (List.mem_of_mem_take he)⟩
theorem sh_subL {es fs : List PyData} (h : SeqAt.shaped (.list es) = true) (hs : ∀ d ∈ fs, d ∈ es) : SeqAt.shaped (.list fs) = true := by
  have h1 := SeqAt.canLay_of_shaped h
  have h2 := SeqAt.depth_of_shaped h
  rw [PyData.canLay0] at h1
  rw [PyData.depth] at h2
  unfold SeqAt.shaped
  rw [PyData.canLay0, lay_of fun d hd => lay_mem h1 d (hs d hd), PyData.depth]
  exact decide_eq_true (by have := depth_of (ds := fs) (m := PyData.depthAll es) fun d hd => depth_mem d (hs d hd); omega)
end KL
namespace KL
open PySem PySem.Spec PyProof.Rows L2
theorem Fine.len2 {n m : Nat} {d : PyData} (h : Fine n m d) (hn : n ≤ 120000) : d.shown.length ≤ sizeLine := by
  have e := PyData.shown_le 128 (by decide) d h.ls
  have e2 : (128 + 2) * d.weight ≤ (128 + 2) * 120000 := Nat.mul_le_mul_left _ (Nat.le_trans h.wt hn)
  rw [sizeLine_eq]; omega
/-- an item of rows that can be shown -/
def It2 (K : PySem.W.Frag) (H : Hp) (v : V) : Prop := ∃ d, Dp K H v d ∧ Fine 2000 2 d
theorem It2.same {K : PySem.W.Frag} {H H' : Hp} {v : V} (h : It2 K H v) (s : Same H H') : It2 K H' v := let ⟨d, h1, h2⟩ := h; ⟨d, dpSame h1 s, h2⟩
theorem It2.of {K : PySem.W.Frag} {H : Hp} {v : V} (h : It K H v) : It2 K H v := let ⟨d, h1, h2⟩ := h; ⟨d, h1, h2.le (by omega) (by omega)⟩
theorem hid_mono {p : Addr} {H H' : Hp} (s : Same H H') : Same (hid p H) (hid p H') := (Kp.of s).hid
/-- a list of such items -/
def Lr (K : PySem.W.Frag) (p : Addr) (H : Hp) (l : Addr) (n : Nat) : Prop := ∃ ys, H l = some (.lst ys) ∧ l ≠ p ∧ (∀ v ∈ ys, It2 K (hid p H) v) ∧ ys.length ≤ n
theorem Lr.same {K : PySem.W.Frag} {p : Addr} {H H' : Hp} {l : Addr} {n : Nat} (h : Lr K p H l n) (s : Same H H') : Lr K p H' l n :=
  let ⟨ys, e, ne, hi, hl⟩ := h; ⟨ys, s _ _ e, ne, fun v hv => (hi v hv).same (hid_mono s), hl⟩
theorem Lr.kp {K : PySem.W.Frag} {p : Addr} {H H' : Hp} {l : Addr} {n : Nat} (h : Lr K p H l n) (k : Kp p H H') : Lr K p H' l n :=
  let ⟨ys, e, ne, hi, hl⟩ := h; ⟨ys, k _ _ ne e, ne, fun v hv => (hi v hv).same k.hid, hl⟩
theorem Lr.new {K : PySem.W.Frag} {p : Addr} {H : Hp} {l : Addr} {n : Nat} {ys : List V} (hp : Pl H p) (nl : H l = none) (hi : ∀ v ∈ ys, It2 K (hid p H) v) (hl : ys.length ≤ n) : Lr K p (upd H l (.lst ys)) l n :=
  ⟨ys, upd_same, fun z => hp.at (z ▸ nl), fun v hv => (hi v hv).same (hid_mono (same_new nl)), hl⟩
/-- what can be shown, and told as rows -/
def BRes (K : PySem.W.Frag) (G : Hp) (x : V) : Prop := ∃ d, Dp K G x d ∧ Fine 53000 3 d ∧ ∀ ds, d = .list ds → ds.length ≤ 30
theorem BRes.same {K : PySem.W.Frag} {H H' : Hp} {v : V} (h : BRes K H v) (s : Same H H') : BRes K H' v := let ⟨d, h1, h2⟩ := h; ⟨d, dpSame h1 s, h2⟩
theorem BRes.row {K : PySem.W.Frag} {H : Hp} {v : V} (h : BRes K H v) : ∃ d, Dp K H v d ∧ Fine 53000 3 d ∧ RowX K H v d ∧ ∀ ds, d = .list ds → ds.length ≤ 30 := let ⟨d, h1, h2, h3⟩ := h; ⟨d, h1, h2, .inl ⟨h1, h2.shaped (by omega), fun ds e => Nat.le_trans (h3 ds e) (by omega)⟩, h3⟩
theorem it2_all {K : PySem.W.Frag} {H : Hp} : ∀ {xs : List V}, (∀ v ∈ xs, It2 K H v) → ∃ ds, DpAll K H xs ds ∧ ds.length = xs.length ∧ ∀ d ∈ ds, Fine 2000 2 d
  | [], _ => ⟨[], .nil, rfl, fun _ h => nomatch h⟩
  | x :: xs, h => by
    obtain ⟨d, h1, h2⟩ := h x List.mem_cons_self
    obtain ⟨ds, h3, h4, h5⟩ := it2_all (xs := xs) fun v hv => h v (List.mem_cons_of_mem _ hv)
    refine ⟨d :: ds, .cons h1 h3, by rw [List.length_cons, List.length_cons, h4], fun z hz => ?_⟩
    rcases List.mem_cons.mp hz with e | e
    · rw [e]; exact h2
    · exact h5 z e
theorem BRes.lst {K : PySem.W.Frag} {H : Hp} {a : Addr} {xs : List V} (h : SqL K H a xs) (hi : ∀ v ∈ xs, It2 K H v) (hl : xs.length ≤ 26) : BRes K H (.ref a) := by
  obtain ⟨ds, h1, h2, h3⟩ := it2_all hi
  exact ⟨_, .lst h h1, (Fine.list h3 (by rw [h2]; exact hl)).le (by omega) (by omega), fun es e => by cases e; omega⟩
theorem BRes.tup {K : PySem.W.Frag} {H : Hp} {a : Addr} {xs : List V} (h : SqT K H a xs) (hi : ∀ v ∈ xs, It2 K H v) (hl : xs.length ≤ 26) : BRes K H (.ref a) := by
  obtain ⟨ds, h1, h2, h3⟩ := it2_all hi
  exact ⟨_, .tup h h1, (Fine.tuple h3 (by rw [h2]; exact hl)).le (by omega) (by omega), fun es e => by cases e⟩
theorem Lr.res {K : PySem.W.Frag} {p : Addr} {H : Hp} {l : Addr} {n : Nat} (h : Lr K p H l n) (hn : n ≤ 26) : BRes K (hid p H) (.ref l) :=
  let ⟨ys, e, ne, hi, hl⟩ := h; BRes.lst (SqL.of (hid_of ne e)) hi (by omega)
theorem It2.tup {K : PySem.W.Frag} {H : Hp} {a : Addr} {xs : List V} (h : SqT K H a xs) (hi : ∀ v ∈ xs, It K H v) (hl : xs.length ≤ 9) : It2 K H (.ref a) := by
  obtain ⟨ds, h1, h2, h3⟩ := its_all hi
  exact ⟨_, .tup h h1, (Fine.tuple h3 (by rw [h2]; exact hl)).le (by omega) (by omega)⟩
theorem It2.lst {K : PySem.W.Frag} {H : Hp} {a : Addr} {xs : List V} (h : SqL K H a xs) (hi : ∀ v ∈ xs, It K H v) (hl : xs.length ≤ 9) : It2 K H (.ref a) := by
  obtain ⟨ds, h1, h2, h3⟩ := its_all hi
  exact ⟨_, .lst h h1, (Fine.list h3 (by rw [h2]; exact hl)).le (by omega) (by omega)⟩
theorem It.str {K : PySem.W.Frag} {H : Hp} {x : Str} (h : Fine 10 0 (.str x)) : It K H (.str x) := ⟨_, .str x, h.le (by omega) (by omega)⟩
theorem Fine.strTold : Fine 10 0 (.str (Str.ofString "told")) := ⟨rfl, by decide +kernel, by decide +kernel, by decide +kernel, by decide +kernel⟩
theorem RwV.its {K : PySem.W.Frag} {H : Hp} {xs : List V} (h : RwV xs) : (∀ v ∈ xs, It K H v) ∧ xs.length ≤ 4 ∧ 2 ≤ xs.length := by
  have small : ∀ i : Int, i.natAbs ≤ 1000 → It K H (.int i) := fun i hi => It.int i (Nat.lt_of_le_of_lt hi (by decide))
  rcases h with ⟨i, rfl, hi⟩ | ⟨i, j, s, rfl, hi, hj, hs⟩
  · refine ⟨fun v hv => ?_, by simp, by simp⟩
    simp only [List.mem_cons, List.not_mem_nil, or_false] at hv
    rcases hv with rfl | rfl
    · exact It.str Fine.strTold
    · exact small _ hi
  · refine ⟨fun v hv => ?_, by simp, by simp⟩
    simp only [List.mem_cons, List.not_mem_nil, or_false] at hv
    rcases hv with rfl | rfl | rfl | rfl
    · exact It.str Fine.strMet
    · exact small _ hi
    · exact small _ hj
    · exact small _ hs
theorem hid_tup {p t : Addr} {H : Hp} {xs : List V} (hp : Pl H p) (e : H t = some (.tup xs)) : hid p H t = some (.tup xs) := hid_of (fun z => by
  obtain ⟨u, v, e', _⟩ := hp
  rw [z, e'] at e; cases e) e
theorem Rw.it {K : PySem.W.Frag} {p t : Addr} {H : Hp} (h : Rw H t) (hp : Pl H p) : It2 K (hid p H) (.ref t) :=
  let ⟨xs, e, r⟩ := h; It2.tup (SqT.of (hid_tup hp e)) r.its.1 (by have := r.its (K := K) (H := H); omega)
def clD (nss : List (List Int)) : PyData := .list (nss.map fun (ns : List Int) => PyData.tuple (ns.map PyData.int))
theorem clD_fine {nss : List (List Int)} {l : Nat} (h : ∀ ns ∈ nss, C30 ns) (hl : nss.length ≤ l) : Fine (l * 3331) 2 (clD nss) := by
  refine (Fine.list (n := 3330) (m := 1) (l := l) (fun d hd => ?_) (by rw [List.length_map]; exact hl)).le (Nat.le_refl _) (by omega)
  obtain ⟨ns, hn, rfl⟩ := List.mem_map.mp hd
  have c := h ns hn
  exact (Fine.tuple (n := 110) (m := 0) (l := 30) (fineInts (B := 0) fun n hn => Nat.lt_of_le_of_lt (c.2 n hn).2 (by decide)) (by rw [List.length_map]; exact c.len)).le (by omega) (by omega)
theorem ORes.fine {K : PySem.W.Frag} {H' : Hp} {nss : List (List Int)} {d : PyData} {l : Addr} (h : ORes K H' (allF nss d) l) (hd : ∀ ds, d = .list ds → ds.length ≤ 30) : Fine 100000 2 (outD (allF nss d)) := by
  rcases h with ⟨n, e, hn, _⟩ | ⟨ts, css, e, _, _, _, h30⟩
  · rw [e]
    refine (Fine.list (n := 200) (m := 0) (l := 2) (fun z hz => ?_) (by simp)).le (by omega) (by omega)
    rcases List.mem_cons.mp hz with e | e
    · rw [e]; exact Fine.strNo.le (by omega) (by omega)
    · rw [List.mem_singleton] at e; rw [e]
      cases n with
      | none => exact Fine.none
      | some k => exact (Fine.int (m := 0) (k : Int) (Nat.lt_of_le_of_lt (show _ ≤ 1000 by have := hn k rfl; omega) (by decide))).le (by omega) (by omega)
  · rw [e]
    obtain ⟨ds, e1, e2⟩ := allF_len e
    exact (clD_fine (l := 30) h30 (by rw [e2]; exact hd ds e1)).le (by omega) (by omega)
theorem ClsL.dp {K : PySem.W.Frag} {H : Hp} {a : Addr} {nss : List (List Int)} (h : ClsL K H a nss) : Dp K H (.ref a) (clD nss) := let ⟨_, h1, h2⟩ := h.ex; .lst h1 h2.dp
/-- the list is read from its front -/
theorem ORes.cut {K : PySem.W.Frag} {H' : Hp} {nss : List (List Int)} {d : PyData} {l : Addr} (h : ORes K H' (allF nss d) l) (hd : ∀ ds, d = .list ds → ds.length ≤ 30) : ∃ ys, H' l = some (.lst ys) ∧ ys.length ≤ 1000 ∧ ∀ lo hi, ∃ es, DpAll K H' (cutV ys lo hi) es ∧ SeqAt.shaped (.list es) = true := by
  have f := (h.fine hd).shaped (by omega)
  rcases h with ⟨n, e, hn, el⟩ | ⟨ts, css, e, el, tt, hl, h30⟩
  · rw [e] at f
    refine ⟨_, el, by simp, fun lo hi => ?_⟩
    have all : DpAll K H' [.str "no", numV n] [.str "no", numD n] := .cons (.str _) (.cons (numDp n) .nil)
    obtain ⟨es, h1, h2⟩ := dpA_cut all lo hi
    exact ⟨es, h1, sh_subL f h2⟩
  · rw [e] at f
    refine ⟨_, el, by rw [List.length_map, tt.len]; exact hl, fun lo hi => ?_⟩
    obtain ⟨es, h1, h2⟩ := dpA_cut tt.dp lo hi
    exact ⟨es, h1, sh_subL f h2⟩
theorem pair_fine {nss : List (List Int)} {d : PyData} (h : ∀ ns ∈ nss, C30 ns) (hl : nss.length ≤ 8) (hd : Fine 53000 3 d) : Fine 110000 4 (.list [clD nss, d]) := by
  refine (Fine.list (n := 53000) (m := 3) (l := 2) (fun z hz => ?_) (by simp)).le (by omega) (by omega)
  rcases List.mem_cons.mp hz with e | e
  · rw [e]; exact (clD_fine (l := 8) h hl).le (by omega) (by omega)
  · rw [List.mem_singleton] at e; rw [e]; exact hd
end KL
namespace KL
open PySem PySem.Spec PyProof.Rows L2
/-! ### a def that is called by a keyword -/
def Dk (P : Program) (w : World) (K : PySem.W.Frag) (mg : Str → Option Value) (base : Heap) (k : Nat) (x : Str) (ps : List Str) (sp : Sp) (n : Nat) (ks : List Str) : Prop :=
  ∃ (f : Addr) (fd : FuncData), FnOk P w K mg base CX0 k f fd ps sp ∧ PySem.W.keepIn K (.ref f) = true ∧ KBn K fd ps n ks (· ++ ·) (· ++ ·) ∧ mg x = some (.ref f)
theorem pe_dk {X : Cx} {k n : Nat} {ps ks : List Str} {sp : Sp} {x : Str} {p pos : Pos} {e : Expr} {es : List Expr} {kws : List Keyword} {t tk : TA} (D : Dk X.prog X.w X.K X.mg X.base k x ps sp n ks) (hr : Room k X.A) (hg : Gl X x) (ha : PA X (e :: es) t) (hkw : PK X kws tk)
    (hall : (backToKw pos (keywordEach kws X.env)).all (·.1.isSome) = true := by rfl) (hks : (backToKw pos (keywordEach kws X.env)).filterMap (·.1) = ks := by rfl) (hdb : (x == ("__debug__" : Str)) = false := by decide) (he : starEach (e :: es) X.env = (false, eval e X.env) :: starEach es X.env := by rfl)
    (hpl : ((backTo pos (starEach (e :: es) X.env)).any (·.1) || (backToKw pos (keywordEach kws X.env)).any (·.1.isNone)) = false := by rfl) : PE X (.Call (.Name x p) (e :: es) kws pos) (tCallN n ks.length sp (· ++ ·) E0 t tk) := by
  obtain ⟨f, fd, F, kp, b, m⟩ := D
  exact pe_callN F hr hg m kp b L2.pass0 ha hkw hall hks hdb he hpl
theorem Dk.mono {P : Program} {w : World} {K : PySem.W.Frag} {mg : Str → Option Value} {base : Heap} {j k n : Nat} {x : Str} {ps ks : List Str} {sp : Sp} (D : Dk P w K mg base j x ps sp n ks) (h : j ≤ k) : Dk P w K mg base k x ps sp n ks :=
  let ⟨f, fd, F, r⟩ := D; ⟨f, fd, F.mono h, r⟩
/-! ### whether rows lead to a clause -/
noncomputable def letsF (nss : List (List Int)) (d : PyData) (es : List Int) : Bool := match allF nss d with
  | .inl _ => false
  | .inr css => match css.getLast? with
    | some c => c.all fun n => decide (n ∈ es)
    | none => false
theorem letsF_no {nss : List (List Int)} {d : PyData} {es : List Int} {n : Option Nat} (h : allF nss d = .inl n) : letsF nss d es = false := by unfold letsF; rw [h]
theorem letsF_of {nss css : List (List Int)} {d : PyData} {es c : List Int} (h : allF nss d = .inr css) (hc : css.getLast? = some c) : letsF nss d es = c.all fun n => decide (n ∈ es) := by unfold letsF; simp only [h, hc]
theorem allF_ne {nss css : List (List Int)} {d : PyData} (h : allF nss d = .inr css) : css ≠ [] := by
  unfold allF at h
  split at h
  · rename_i d0 ds
    cases hr : rowsF nss [] (d0 :: ds) with
    | inl n => rw [hr] at h; cases h
    | inr cs =>
      rw [hr] at h; cases h
      intro z
      have := rowsF_len hr
      rw [z] at this
      simp at this
  · cases h
theorem at_last {α : Type} {xs : List α} {x : α} (h : xs.getLast? = some x) : atI xs (-1) = some x := by
  have hl : 0 < xs.length := by
    cases xs with
    | nil => cases h
    | cons y ys => simp
  rw [List.getLast?_eq_getElem?] at h
  unfold atI ixN
  rw [if_neg (by omega), if_pos (by omega)]
  show xs[((-1 : Int) + (xs.length : Int)).toNat]? = some x
  rw [show ((-1 : Int) + (xs.length : Int)).toNat = xs.length - 1 by omega]
  exact h
theorem TupsI.last {K : PySem.W.Frag} {H : Hp} {ts : List Addr} {css : List (List Int)} (h : TupsI K H ts css) (ne : css ≠ []) : ∃ c ns, atI (ts.map V.ref) (-1) = some (.ref c) ∧ css.getLast? = some ns ∧ SqT K H c (ns.map V.int) ∧ ns ∈ css := by
  have key : ∀ {ts : List Addr} {css : List (List Int)}, TupsI K H ts css → css ≠ [] → ∃ c ns, (ts.map V.ref).getLast? = some (.ref c) ∧ css.getLast? = some ns ∧ SqT K H c (ns.map V.int) := by
    intro ts css h
    induction h with
    | nil => intro ne; exact absurd rfl ne
    | @cons c cs ns nss hc r ih =>
      intro _
      cases r with
      | nil => exact ⟨c, ns, rfl, rfl, hc⟩
      | @cons c' cs' ns' nss' hc' r' =>
        obtain ⟨c2, n2, e1, e2, e3⟩ := ih (by simp)
        exact ⟨c2, n2, by rw [List.map_cons, List.map_cons, List.getLast?_cons_cons]; exact e1, by rw [List.getLast?_cons_cons]; exact e2, e3⟩
  obtain ⟨c, ns, e1, e2, e3⟩ := key h ne
  exact ⟨c, ns, at_last e1, e2, e3, List.mem_of_getLast? e2⟩
theorem allF_one {nss : List (List Int)} {d : PyData} (h : rowF nss [] d = none) : allF nss (.list [d]) = .inl (some 0) := by
  rw [allF_of (by simp)]
  have : rowsF nss [] [d] = .inl 0 := by
    show (match rowF nss [] d with | none => Sum.inl 0 | some c => rowsF nss ([] ++ [c]) []) = _
    rw [h]
  rw [this]
theorem eqv_tups {es : List PyData} {x : Str} (h : ∀ e ∈ es, ∃ ds, e = .tuple ds) : PyData.eqv (.list es) (.list [.str x]) = false := by
  cases es with
  | nil => simp [PyData.eqv, PyData.eqvAll]
  | cons e es =>
    obtain ⟨ds, rfl⟩ := h e List.mem_cons_self
    simp [PyData.eqv, PyData.eqvAll]
theorem TupsI.cut {K : PySem.W.Frag} {H : Hp} {ts : List Addr} {css : List (List Int)} (h : TupsI K H ts css) (lo hi : Option Int) : ∃ es, DpAll K H (cutV (ts.map V.ref) lo hi) es ∧ SeqAt.shaped (.list es) = true ∧ ∀ e ∈ es, ∃ ds, e = PyData.tuple ds := by
  obtain ⟨es, h1, h2⟩ := dpA_cut h.dp lo hi
  refine ⟨es, h1, sh_subL (shTups css) h2, fun e he => ?_⟩
  obtain ⟨ns, _, e2⟩ := List.mem_map.mp (h2 e he)
  exact ⟨_, e2.symm⟩
theorem tLst_one {te : TE} {σ : L2.St} {H : Hp} {Q : VK} (h : te σ H fun x H1 => 1 ≤ sizeLine ∧ ∀ p, H1 p = none → Q (.ref p) (upd H1 p (.lst [x]))) : tLst (tCons te tNil) σ H Q := h
theorem rowsF_cons {nss ahead : List (List Int)} {d : PyData} {ds : List PyData} {c : List Int} (h : rowF nss ahead d = some c) : rowsF nss ahead (d :: ds) = rowsF nss (ahead ++ [c]) ds := by
  show (match rowF nss ahead d with | none => Sum.inl ahead.length | some c => rowsF nss (ahead ++ [c]) ds) = _
  rw [h]
theorem allF_three : allF [[1], [-1]] (.list [.tuple [.str "told", .int 0], .tuple [.str "told", .int 1], .tuple [.str "met", .int 0, .int 1, .int 1]]) = .inr [[1], [-1], []] := by
  have i3 : IsMet [1] [-1] (.int 1) (some []) := .inr ⟨1, [], rfl, by decide, by decide, rfl, ⟨by decide, by decide⟩, by unfold Both; decide, ⟨by decide, fun m => by rw [show lft [1] [-1] 1 = [] by decide]⟩⟩
  have m3 : rowF [[1], [-1]] [[1], [-1]] (.tuple [.str "met", .int 0, .int 1, .int 1]) = some [] := by
    rw [rowF_met (by decide) (by decide) (by decide) (by decide)]
    exact mtF_is i3
  have t0 : rowF [[1], [-1]] [] (.tuple [.str "told", .int 0]) = some [1] := rowF_told (by decide)
  have t1 : rowF [[1], [-1]] ([] ++ [[1]]) (.tuple [.str "told", .int 1]) = some [-1] := rowF_told (by decide)
  rw [allF_of (by simp), rowsF_cons t0, rowsF_cons t1]
  have m3' : rowF [[1], [-1]] ([] ++ [[1]] ++ [[-1]]) (.tuple [.str "met", .int 0, .int 1, .int 1]) = some [] := m3
  rw [rowsF_cons m3']
  rfl
end KL
namespace KL
open PySem PySem.Spec PyProof.Rows L2
/-! ### what rows end with follows -/
theorem ex_cl : ∀ {ns : List Int}, ¬ Both ns → ∃ cs, ClOf ns cs
  | [], _ => ⟨[], List.Pairwise.nil, fun _ => Iff.rfl⟩
  | n :: ns, h => by
    obtain ⟨cs, c⟩ := ex_cl (ns := ns) fun ⟨m, h1, h2⟩ => h ⟨m, List.mem_cons_of_mem _ h1, List.mem_cons_of_mem _ h2⟩
    by_cases hn : n ∈ cs
    · refine ⟨cs, c.up, fun m => ?_⟩
      rw [c.mem, List.mem_cons]
      exact ⟨.inr, fun z => z.elim (fun e => by rw [e]; exact (c.mem n).mp hn) id⟩
    · have ne : ∀ m ∈ cs, m.natAbs ≠ n.natAbs := fun m hm e => by
        rcases natAbs_eq e with z | z
        · exact hn (z ▸ hm)
        · exact h ⟨n, List.mem_cons_self, List.mem_cons_of_mem _ (by rw [← z]; exact (c.mem m).mp hm)⟩
      refine ⟨cs.filter (fun m => decide (m.natAbs < n.natAbs)) ++ (n :: cs.filter fun m => decide (n.natAbs < m.natAbs)), ?_, fun m => ?_⟩
      · rw [List.pairwise_append, List.pairwise_cons]
        refine ⟨c.up.filter _, ⟨fun x hx => of_decide_eq_true (List.mem_filter.mp hx).2, c.up.filter _⟩, fun x hx y hy => ?_⟩
        have hx' := of_decide_eq_true (List.mem_filter.mp hx).2
        rcases List.mem_cons.mp hy with e | e
        · rw [e]; exact hx'
        · have := of_decide_eq_true (List.mem_filter.mp e).2
          omega
      · rw [List.mem_append, List.mem_cons, List.mem_filter, List.mem_filter, List.mem_cons, ← c.mem]
        constructor
        · rintro (z | z | z)
          · exact .inr z.1
          · exact .inl z
          · exact .inr z.1
        · rintro (z | z)
          · exact .inr (.inl z)
          · have := ne m z
            by_cases hl : m.natAbs < n.natAbs
            · exact .inl ⟨z, decide_eq_true hl⟩
            · exact .inr (.inr ⟨z, decide_eq_true (by omega)⟩)
theorem mtF_spec (one other : List Int) (e : PyData) : IsMet one other e (mtF one other e) := by
  have ex : ∃ r, IsMet one other e r := by
    by_cases h : ∃ t, e = .int t ∧ 1 ≤ t ∧ True ∧ Mt one other t ∧ ¬ Both (lft one other t)
    · obtain ⟨t, h1, h2, h3, h4, h5⟩ := h
      obtain ⟨cs, hc⟩ := ex_cl h5
      exact ⟨some cs, .inr ⟨t, cs, h1, h2, h3, rfl, h4, h5, hc⟩⟩
    · refine ⟨none, .inl ⟨rfl, fun t h1 h2 h3 h4 => ?_⟩⟩
      exact Classical.byContradiction fun h5 => h ⟨t, h1, h2, h3, h4, h5⟩
  obtain ⟨r, hr⟩ := ex
  rw [mtF_is hr]; exact hr
/-- what is so of the clauses, and goes over to what they meet in, is so of the rows' clauses -/
theorem rowF_all {P : List Int → Prop} {nss ahead : List (List Int)} {d : PyData} {c : List Int} (h1 : ∀ ns ∈ nss, P ns) (h2 : ∀ ns ∈ ahead, P ns) (h3 : ∀ a b e c, P a → P b → IsMet a b e (some c) → P c) (h : rowF nss ahead d = some c) : P c := by
  unfold rowF at h
  split at h
  · split at h
    · exact h1 c (List.mem_of_getElem? h)
    · cases h
  · split at h
    · rename_i hh
      rename_i s i j e
      have gi : ∀ k : Int, 0 ≤ k → k < ahead.length → P (ahead.getD k.toNat []) := fun k k0 k1 => by
        have hlt : k.toNat < ahead.length := by omega
        rw [List.getD_eq_getElem?_getD, List.getElem?_eq_getElem hlt]
        exact h2 _ (List.getElem_mem hlt)
      have sp := mtF_spec (ahead.getD i.toNat []) (ahead.getD j.toNat []) e
      rw [h] at sp
      exact h3 _ _ _ _ (gi i hh.2.1 hh.2.2.1) (gi j hh.2.2.2.1 hh.2.2.2.2) sp
    · cases h
  · cases h
theorem rowsF_all {P : List Int → Prop} {nss : List (List Int)} (h1 : ∀ ns ∈ nss, P ns) (h3 : ∀ a b e c, P a → P b → IsMet a b e (some c) → P c) : ∀ {ds : List PyData} {ahead css : List (List Int)}, (∀ ns ∈ ahead, P ns) → rowsF nss ahead ds = .inr css → ∀ c ∈ css, P c
  | [], ahead, css, h2, h => by cases h; exact h2
  | d :: ds, ahead, css, h2, h => by
    have h' : (match rowF nss ahead d with | none => Sum.inl ahead.length | some c => rowsF nss (ahead ++ [c]) ds) = .inr css := h
    cases hr : rowF nss ahead d with
    | none => rw [hr] at h'; cases h'
    | some c =>
      rw [hr] at h'
      refine rowsF_all h1 h3 (ds := ds) (fun ns hn => ?_) h'
      rcases List.mem_append.mp hn with z | z
      · exact h2 ns z
      · rw [List.mem_singleton] at z; rw [z]; exact rowF_all h1 h2 h3 hr
theorem allF_all {P : List Int → Prop} {nss css : List (List Int)} {d : PyData} (h1 : ∀ ns ∈ nss, P ns) (h3 : ∀ a b e c, P a → P b → IsMet a b e (some c) → P c) (h : allF nss d = .inr css) : ∀ c ∈ css, P c := by
  unfold allF at h
  split at h
  · rename_i d0 ds
    cases hr : rowsF nss [] (d0 :: ds) with
    | inl n => rw [hr] at h; cases h
    | inr cs => rw [hr] at h; cases h; exact rowsF_all h1 h3 (ahead := []) (fun ns hn => by simp at hn) hr
  · cases h
/-- clauses of seven things -/
def C7 (ns : List Int) : Prop := Up ns ∧ ∀ n ∈ ns, n ≠ 0 ∧ n.natAbs ≤ 7
theorem C7.c30 {ns : List Int} (h : C7 ns) : C30 ns := ⟨h.1, fun n hn => ⟨(h.2 n hn).1, Nat.le_trans (h.2 n hn).2 (by omega)⟩⟩
theorem C7.met {a b c : List Int} {e : PyData} (h1 : C7 a) (h2 : C7 b) (im : IsMet a b e (some c)) : C7 c := ⟨im.all.1, fun n hn => (im.all.2 n hn).elim (h1.2 n) (h2.2 n)⟩
theorem IsMet.says {a b c : List Int} {e : PyData} {bs : List Bool} (u1 : Up a) (u2 : Up b) (im : IsMet a b e (some c)) (h1 : a.any (sayB bs) = true) (h2 : b.any (sayB bs) = true) : c.any (sayB bs) = true := by
  cases e with
  | int t => exact met_says u1 u2 im h1 h2
  | _ =>
    rcases im with ⟨z, _⟩ | ⟨t, cs, z, _⟩
    · cases z
    · cases z
theorem last_c7 {nss css : List (List Int)} {d : PyData} {c : List Int} (h : ∀ ns ∈ nss, C7 ns) (ha : allF nss d = .inr css) (hc : c ∈ css) : C7 c := allF_all (P := C7) h (fun _ _ _ _ h1 h2 im => h1.met h2 im) ha c hc
/-- whatever is let by follows -/
theorem lets_follow {nss : List (List Int)} {d : PyData} {es : List Int} {bs : List Bool} (h : ∀ ns ∈ nss, C7 ns) (hl : letsF nss d es = true) (hh : (nss.all fun ns => ns.any (sayB bs)) = true) : es.any (sayB bs) = true := by
  cases ha : allF nss d with
  | inl n => rw [letsF_no ha] at hl; cases hl
  | inr css =>
    have ne := allF_ne ha
    have key := allF_all (P := fun ns => C7 ns ∧ ns.any (sayB bs) = true) (fun ns hn => ⟨h ns hn, List.all_eq_true.mp hh ns hn⟩) (fun a b e c h1 h2 im => ⟨h1.1.met h2.1 im, im.says h1.1.1 h2.1.1 h1.2 h2.2⟩) ha
    cases hg : css.getLast? with
    | none => exact absurd (List.getLast?_eq_none_iff.mp hg) ne
    | some c =>
      rw [letsF_of ha hg] at hl
      obtain ⟨x, hx, sx⟩ := List.any_eq_true.mp (key c (List.mem_of_getLast? hg)).2
      exact List.any_eq_true.mpr ⟨x, of_decide_eq_true (List.all_eq_true.mp hl x hx), sx⟩
theorem letsF_self {nss css : List (List Int)} {d : PyData} {c : List Int} (ha : allF nss d = .inr css) (hc : css.getLast? = some c) : letsF nss d c = true := by
  rw [letsF_of ha hc]
  exact List.all_eq_true.mpr fun x hx => decide_eq_true hx
end KL
namespace KL
open PySem PySem.Spec PyProof.Rows L2
/-! ### enumerate of lists and tuples, from any start -/
theorem meets_enum1 {v : Value} {o : Obj} {H : Heap → Prop} (B : Begins v o H) :
    Meets (Builtin.«enumerate.__new__» ⟨[.type "enumerate", v], []⟩) (fun _ R s => H s.heap ∧
      R (.ok (.ret (.ref (s.heap.push o).objs.size))) { s with heap := (s.heap.push o).push { cls := .type "enumerate", data := .fields #[.none, .bool false, .ref s.heap.objs.size, rawInt 0, .none, .none] } }) :=
  .of_wp fun prog w A R s h => by
    obtain ⟨hp, g, d, tk, os⟩ := s; obtain ⟨h1, h⟩ := h
    have hsub := sub_enumerate
    have q1 : ∀ {A' : Around} {E : Value → Shared → Prop} {Q : Value → Shared → Prop}, Q (.ref hp.objs.size) ⟨hp.push o, g, d, tk, os⟩ → wpAny (model prog w) A' (pyIter v) Q E ⟨hp, g, d, tk, os⟩ :=
      fun q => B.iter prog w _ _ ⟨hp, g, d, tk, os⟩ _ h1 q
    wp_walk using q1
    refine wpAny_stack_any fun st => wpAny_pure ?_
    split
    · rename_i c _ _ _ _ _
      cases (c == Value.type "enumerate")
      · wp_walk using q1
        exact ⟨_, rfl, h⟩
      · wp_walk using q1
        exact ⟨_, rfl, h⟩
    · wp_walk using q1
      exact ⟨_, rfl, h⟩
theorem enum_begins1 {prog : Program} {w : World} {A : Around} {E : Value → Shared → Prop} {s : Shared} {v : Value} {o : Obj} {H : Heap → Prop} {Q : Value → Shared → Prop} (B : Begins v o H) (h1 : H s.heap)
    (h : ∀ h', IsEnum h' (s.heap.objs.size + 1) s.heap.objs.size 0 .none → h'.get? s.heap.objs.size = some o → h'.objs.size = s.heap.objs.size + 2 →
      (∀ b o, s.heap.get? b = some o → h'.get? b = some o) → Q (.ref (s.heap.objs.size + 1)) { s with heap := h' }) :
    wpAny (model prog w) A (call (.type "enumerate") [v]) Q E s := by
  refine callType_new F.called_enumerate (by decide) (F.typeCall_enumerate_1 _) (F.newCall_enumerate_1 _) (fun obj => F.args_object_init_2 obj _) F.entry_enumerate_new (meets_enum1 B) ⟨h1, ?_⟩
  have hz : (s.heap.push o).objs.size = s.heap.objs.size + 1 := Heap.size_push ..
  show _ ∧ _
  rw [hz]
  have he : IsEnum ((s.heap.push o).push { cls := .type "enumerate", data := .fields #[.none, .bool false, .ref s.heap.objs.size, rawInt 0, .none, .none] }) (s.heap.objs.size + 1) s.heap.objs.size 0 .none := by
    have := Heap.get?_push_size (s.heap.push o) (o := { cls := .type "enumerate", data := .fields #[.none, .bool false, .ref s.heap.objs.size, rawInt 0, .none, .none] }) rfl
    rw [hz] at this; exact this
  refine ⟨⟨_, he, rfl⟩, h _ he (Heap.get?_push_of_some _ (Heap.get?_push_size _ B.free)) (by rw [Heap.size_push, hz]) fun b o x => Heap.get?_push_of_some _ (Heap.get?_push_of_some _ x)⟩
/-- a list, or a tuple -/
def SqB (b : Bool) (K : PySem.W.Frag) (H : Hp) (a : Addr) (xs : List V) : Prop := match b with | true => SqL K H a xs | false => SqT K H a xs
theorem SqB.same {b : Bool} {K : PySem.W.Frag} {H H' : Hp} {a : Addr} {xs : List V} (h : SqB b K H a xs) (s : Same H H') : SqB b K H' a xs := by
  cases b
  · exact same_tup s h
  · exact s.seq h
theorem SqB.or {b : Bool} {K : PySem.W.Frag} {H : Hp} {a : Addr} {xs : List V} (h : SqB b K H a xs) : SqL K H a xs ∨ SqT K H a xs := by
  cases b
  · exact .inr h
  · exact .inl h
def IteK (b : Bool) (K : PySem.W.Frag) (k0 : Int) (a : Addr) : L2.It :=
  ⟨fun i H => ∃ (xs : List V) (x : V), SqB b K H a xs ∧ xs[i]? = some x, fun i H v H' => ∃ T x, v = .ref T ∧ H T = none ∧ H' = upd H T (.tup [.int (k0 + ((i : Nat) : Int)), x]) ∧ ∀ xs, SqB b K H a xs → xs[i]? = some x, fun i H => ∃ xs : List V, SqB b K H a xs ∧ xs.length = i⟩
theorem walk_enumK {K : PySem.W.Frag} {b : Bool} {k0 : Int} {a : Addr} {xs : List V} : Walk (IteK b K k0 a) xs.length (fun H => SqB b K H a xs) (YPair (fun i => some (.int (k0 + ((i : Nat) : Int)))) (fun i => xs[i]?)) := by
  refine ⟨fun i _ hi q => ⟨xs, xs[i], q, by simp [hi]⟩, fun _ q => ⟨xs, q, rfl⟩, fun i H v H' _ q y => ?_⟩
  obtain ⟨T, x, h1, h2, h3, h4⟩ := y
  exact ⟨T, .int (k0 + ((i : Nat) : Int)), x, h1, h2, h3, rfl, h4 xs q⟩
section
variable {P : Program} {w : World} {K : PySem.W.Frag} {elts : List Expr} {kk : Nat} {tpos : Pos}
theorem turn_enumKT (k0 : Int) (a e it : Addr) : Turn P w K (.Tuple elts kk tpos) (IteK false K k0 a) [e, it] e (fun i h => (∃ old, IsEnum h e it (k0 + ((i : Nat) : Int)) old) ∧ h.IsTupleIter it a i ∧ e ≠ it) where
  mem := by simp
  obj := fun i h st b hb => by
    obtain ⟨⟨old, he⟩, ⟨o, ho, hc, hd⟩, _⟩ := st
    have e' : b = e ∨ b = it := by simpa using hb
    rcases e' with z | z
    · rw [z]; exact ⟨_, he, fun v q => nomatch q⟩
    · rw [z]; exact ⟨o, ho, fun v q => by rw [hd] at q; cases q⟩
  keep := fun i h h' st k => let ⟨⟨old, he⟩, hi, hne⟩ := st; ⟨⟨old, k e (by simp) _ he⟩, hi.at fun o q => k it (by simp) o q, hne⟩
  item := by
    intro X hP hw hK hc i pins s σ H E I hf st hg
    subst hP hw hK
    obtain ⟨⟨old, he⟩, hit, hne⟩ := st
    obtain ⟨xs, x, hq, hx⟩ := hg
    obtain ⟨its, rv, p, hz⟩ := I.tuple hq
    obtain ⟨u, hu, ru⟩ := rv.get hx
    have hel : e < s.heap.objs.size := Heap.lt_size he
    have hil : it < s.heap.objs.size := by obtain ⟨_, q, _⟩ := hit; exact Heap.lt_size q
    have pt : s.heap.IsTuple a its.toArray := p
    have hai : a ≠ it := fun z => by
      obtain ⟨o1, g1, c1, _⟩ := pt
      obtain ⟨o2, g2, c2, _⟩ := hit
      rw [z, g2] at g1; cases g1; rw [c1] at c2; exact absurd c2 (by decide)
    have hae : e ≠ a := fun z => by
      obtain ⟨o1, g1, c1, _⟩ := pt
      have he' : s.heap.get? e = some _ := he
      rw [← z, he'] at g1; cases g1; exact absurd (show Value.type "enumerate" = Value.type _ from c1) (by decide)
    have W := GoesN.enumFrom (prog := X.prog) (w := X.w) (A := X.A) (elts := elts) (x1 := kk) (pos := tpos) k0 (Draws.tuple (prog := X.prog) (w := X.w) (A := X.A.in1) (show X.A.in1.handled = none from I.ok.hd hc) it a hai its.toArray) e hne (by simp [hne, hae]) (by simp)
    have hi : i < its.toArray.size := by
      have := (List.getElem?_eq_some_iff.mp hu).1
      simpa using this
    refine W.goes i s (fun v s2 => ∃ x H', Inv X pins σ H' s2 ∧ RelV x v ∧ (IteK false X.K k0 a).yld i H x H' ∧ ((∃ old, IsEnum s2.heap e it (k0 + (((i + 1 : Nat)) : Int)) old) ∧ s2.heap.IsTupleIter it a (i + 1) ∧ e ≠ it) ∧ ∀ b ∈ [e, it], H' b = none) E hi ⟨⟨old, he⟩, hit, pt⟩ fun v h' tk hY st' hk htk => ?_
    obtain ⟨T, t, x', ev, hT0, hP, hT⟩ := hY
    obtain ⟨he', hit', _⟩ := st'
    have ex : x' = u := by
      have h1 : its[i]? = some x' := by simpa using hP
      rw [hu] at h1; cases h1; rfl
    subst ex ev
    have new : ObjOk X.prog X.w (upd H T (.tup [.int (k0 + ((i : Nat) : Int)), x])) h' T (.tup [.int (k0 + ((i : Nat) : Int)), x]) :=
      ⟨by show 2 ≤ sizeLine; decide, [.int (k0 + ((i : Nat) : Int)) t, x'], .cons ⟨_, rfl⟩ (.cons ru .nil), hT⟩
    have I1 : Inv X pins σ (upd H T (.tup [.int (k0 + ((i : Nat) : Int)), x])) { s with heap := h', toks := tk } := I.turnedNew (ch := [e, it]) (fun b ob hb q => hk b ob hb q) hf hT0 new
    refine ⟨.ref T, _, I1, rfl, ⟨T, x, rfl, I.hok.fresh hT0, rfl, fun ys hy => by rw [I.tuple_inj hy hq]; exact hx⟩, ⟨he', hit', hne⟩, fun b hb => ?_⟩
    have hb' : b < s.heap.objs.size := by
      have e' : b = e ∨ b = it := by simpa using hb
      rcases e' with z | z
      · rw [z]; exact hel
      · rw [z]; exact hil
    rw [upd_ne (Nat.ne_of_lt (Nat.lt_of_lt_of_le hb' hT0))]
    exact (hf b hb).1
  done := by
    intro X hP hw hK hc i pins s σ H E I hf st hg
    subst hP hw hK
    obtain ⟨⟨old, he⟩, hit, hne⟩ := st
    obtain ⟨xs, hq, hx⟩ := hg
    obtain ⟨its, rv, p, hz⟩ := I.tuple hq
    have pt : s.heap.IsTuple a its.toArray := p
    have hai : a ≠ it := fun z => by
      obtain ⟨o1, g1, c1, _⟩ := pt
      obtain ⟨o2, g2, c2, _⟩ := hit
      rw [z, g2] at g1; cases g1; rw [c1] at c2; exact absurd c2 (by decide)
    have hae : e ≠ a := fun z => by
      obtain ⟨o1, g1, c1, _⟩ := pt
      have he' : s.heap.get? e = some _ := he
      rw [← z, he'] at g1; cases g1; exact absurd (show Value.type "enumerate" = Value.type _ from c1) (by decide)
    have W := GoesN.enumFrom (prog := X.prog) (w := X.w) (A := X.A) (elts := elts) (x1 := kk) (pos := tpos) k0 (Draws.tuple (prog := X.prog) (w := X.w) (A := X.A.in1) (show X.A.in1.handled = none from I.ok.hd hc) it a hai its.toArray) e hne (by simp [hne, hae]) (by simp)
    have hl := rv.length
    have hi : i = its.toArray.size := by simp; omega
    refine W.stops s (fun s1 => Inv X pins σ H s1) E ?_ fun h' tk hk htk => ?_
    · rw [← hi]; exact ⟨⟨old, he⟩, hit, pt⟩
    · exact I.turnedL hk hf
  self := fun A i s Q E st h => let ⟨⟨_, he⟩, _⟩ := st; wpAny_pyIter_enum he h
theorem turn_enumKL (k0 : Int) (a e it : Addr) : Turn P w K (.Tuple elts kk tpos) (IteK true K k0 a) [e, it] e (fun i h => (∃ old, IsEnum h e it (k0 + ((i : Nat) : Int)) old) ∧ h.IsListIter it a i ∧ e ≠ it) where
  mem := by simp
  obj := fun i h st b hb => by
    obtain ⟨⟨old, he⟩, ⟨o, ho, hc, hd⟩, _⟩ := st
    have e' : b = e ∨ b = it := by simpa using hb
    rcases e' with z | z
    · rw [z]; exact ⟨_, he, fun v q => nomatch q⟩
    · rw [z]; exact ⟨o, ho, fun v q => by rw [hd] at q; cases q⟩
  keep := fun i h h' st k => let ⟨⟨old, he⟩, hi, hne⟩ := st; ⟨⟨old, k e (by simp) _ he⟩, hi.at fun o q => k it (by simp) o q, hne⟩
  item := by
    intro X hP hw hK hc i pins s σ H E I hf st hg
    subst hP hw hK
    obtain ⟨⟨old, he⟩, hit, hne⟩ := st
    obtain ⟨xs, x, hq, hx⟩ := hg
    obtain ⟨its, rv, p, hz⟩ := I.list hq
    obtain ⟨u, hu, ru⟩ := rv.get hx
    have hel : e < s.heap.objs.size := Heap.lt_size he
    have hil : it < s.heap.objs.size := by obtain ⟨_, q, _⟩ := hit; exact Heap.lt_size q
    have pt : s.heap.IsList a its.toArray := p.isList
    have hai : a ≠ it := fun z => by
      obtain ⟨o1, g1, c1, _⟩ := pt
      obtain ⟨o2, g2, c2, _⟩ := hit
      rw [z, g2] at g1; cases g1; rw [c1] at c2; exact absurd c2 (by decide)
    have hae : e ≠ a := fun z => by
      obtain ⟨o1, g1, c1, _⟩ := pt
      have he' : s.heap.get? e = some _ := he
      rw [← z, he'] at g1; cases g1; exact absurd (show Value.type "enumerate" = Value.type _ from c1) (by decide)
    have W := GoesN.enumFrom (prog := X.prog) (w := X.w) (A := X.A) (elts := elts) (x1 := kk) (pos := tpos) k0 (Draws.list (prog := X.prog) (w := X.w) (A := X.A.in1) (show X.A.in1.handled = none from I.ok.hd hc) it a hai its.toArray) e hne (by simp [hne, hae]) (by simp)
    have hi : i < its.toArray.size := by
      have := (List.getElem?_eq_some_iff.mp hu).1
      simpa using this
    refine W.goes i s (fun v s2 => ∃ x H', Inv X pins σ H' s2 ∧ RelV x v ∧ (IteK true X.K k0 a).yld i H x H' ∧ ((∃ old, IsEnum s2.heap e it (k0 + (((i + 1 : Nat)) : Int)) old) ∧ s2.heap.IsListIter it a (i + 1) ∧ e ≠ it) ∧ ∀ b ∈ [e, it], H' b = none) E hi ⟨⟨old, he⟩, hit, pt⟩ fun v h' tk hY st' hk htk => ?_
    obtain ⟨T, t, x', ev, hT0, hP, hT⟩ := hY
    obtain ⟨he', hit', _⟩ := st'
    have ex : x' = u := by
      have h1 : its[i]? = some x' := by simpa using hP
      rw [hu] at h1; cases h1; rfl
    subst ex ev
    have new : ObjOk X.prog X.w (upd H T (.tup [.int (k0 + ((i : Nat) : Int)), x])) h' T (.tup [.int (k0 + ((i : Nat) : Int)), x]) :=
      ⟨by show 2 ≤ sizeLine; decide, [.int (k0 + ((i : Nat) : Int)) t, x'], .cons ⟨_, rfl⟩ (.cons ru .nil), hT⟩
    have I1 : Inv X pins σ (upd H T (.tup [.int (k0 + ((i : Nat) : Int)), x])) { s with heap := h', toks := tk } := I.turnedNew (ch := [e, it]) (fun b ob hb q => hk b ob hb q) hf hT0 new
    refine ⟨.ref T, _, I1, rfl, ⟨T, x, rfl, I.hok.fresh hT0, rfl, fun ys hy => by rw [I.list_inj hy hq]; exact hx⟩, ⟨he', hit', hne⟩, fun b hb => ?_⟩
    have hb' : b < s.heap.objs.size := by
      have e' : b = e ∨ b = it := by simpa using hb
      rcases e' with z | z
      · rw [z]; exact hel
      · rw [z]; exact hil
    rw [upd_ne (Nat.ne_of_lt (Nat.lt_of_lt_of_le hb' hT0))]
    exact (hf b hb).1
  done := by
    intro X hP hw hK hc i pins s σ H E I hf st hg
    subst hP hw hK
    obtain ⟨⟨old, he⟩, hit, hne⟩ := st
    obtain ⟨xs, hq, hx⟩ := hg
    obtain ⟨its, rv, p, hz⟩ := I.list hq
    have pt : s.heap.IsList a its.toArray := p.isList
    have hai : a ≠ it := fun z => by
      obtain ⟨o1, g1, c1, _⟩ := pt
      obtain ⟨o2, g2, c2, _⟩ := hit
      rw [z, g2] at g1; cases g1; rw [c1] at c2; exact absurd c2 (by decide)
    have hae : e ≠ a := fun z => by
      obtain ⟨o1, g1, c1, _⟩ := pt
      have he' : s.heap.get? e = some _ := he
      rw [← z, he'] at g1; cases g1; exact absurd (show Value.type "enumerate" = Value.type _ from c1) (by decide)
    have W := GoesN.enumFrom (prog := X.prog) (w := X.w) (A := X.A) (elts := elts) (x1 := kk) (pos := tpos) k0 (Draws.list (prog := X.prog) (w := X.w) (A := X.A.in1) (show X.A.in1.handled = none from I.ok.hd hc) it a hai its.toArray) e hne (by simp [hne, hae]) (by simp)
    have hl := rv.length
    have hi : i = its.toArray.size := by simp; omega
    refine W.stops s (fun s1 => Inv X pins σ H s1) E ?_ fun h' tk hk htk => ?_
    · rw [← hi]; exact ⟨⟨old, he⟩, hit, pt⟩
    · exact I.turnedL hk hf
  self := fun A i s Q E st h => let ⟨⟨_, he⟩, _⟩ := st; wpAny_pyIter_enum he h
def iEnumK (K : PySem.W.Frag) (ta : TA) : TI := fun σ H R => ta σ H fun vs H1 => ∃ b a xs, vs = [.ref a] ∧ SqB b K H1 a xs ∧ R (IteK b K 0 a) H1
theorem pi_enumA {X : Cx} {e : Expr} {ta : TA} {p pos : Pos} (hg : Gl X "enumerate") (hm : X.mg "enumerate" = none) (ha : PA X [e] ta) (hs : starEach [e] X.env = [(false, eval e X.env)] := by rfl) :
    PI X (.Tuple elts kk tpos) (.Call (.Name "enumerate" p) [e] [] pos) (iEnumK X.K ta) := by
  refine ⟨fun pins s σ H R I h => ?_⟩
  refine Call_ (ld_blt I hg hm boot_enumerate (PyProof.Rows.callWith_type1 (thn (ha.run pos pins s σ H _ I h) fun us s1 ⟨vs, H1, I1, r1, q1⟩ => ?_) hs rfl))
  obtain ⟨b, a, xs, ex, hq, q⟩ := q1
  subst ex
  cases r1 with
  | cons r rr =>
    cases rr
    cases r
    have fin : ∀ h', IsEnum h' (s1.heap.objs.size + 1) s1.heap.objs.size 0 .none → (∀ b o, s1.heap.get? b = some o → h'.get? b = some o) → ∀ tn, Turn X.prog X.w X.K (.Tuple elts kk tpos) (IteK b X.K 0 a) [s1.heap.objs.size + 1, s1.heap.objs.size] (s1.heap.objs.size + 1) tn → tn 0 h' →
        wpAny (model X.prog X.w) X.A (pyIter (.ref (s1.heap.objs.size + 1))) (PIE X pins σ (.Tuple elts kk tpos) R) X.xe { s1 with heap := h' } := fun h' he hk tn tu t0 => by
      refine wpAny_pyIter_enum he ?_
      have I2 : Inv X pins σ H1 { s1 with heap := h' } := I1.kept (t' := s1.toks) hk
      refine ⟨s1.heap.objs.size + 1, [s1.heap.objs.size + 1, s1.heap.objs.size], _, _, H1, rfl, I2, tu, t0, fun b hb => ?_, q⟩
      have e' : b = s1.heap.objs.size + 1 ∨ b = s1.heap.objs.size := by simpa using hb
      have hle : s1.heap.objs.size ≤ b := by
        rcases e' with z | z
        · rw [z]; exact Nat.le_add_right _ _
        · rw [z]; exact Nat.le_refl _
      exact I1.fpOk hle (I1.hok.fresh hle)
    cases b with
    | true =>
      obtain ⟨its, rv, p', hz⟩ := I1.list hq
      refine enum_begins1 (begins_list a its.toArray) p'.isList fun h' he hit hsz hk => fin h' he hk _ (turn_enumKL 0 a _ _) ⟨⟨.none, he⟩, ⟨_, hit, rfl, rfl⟩, Nat.succ_ne_self _⟩
    | false =>
      obtain ⟨its, rv, p', hz⟩ := I1.tuple hq
      refine enum_begins1 (begins_tuple a its.toArray) (show s1.heap.IsTuple a its.toArray from p') fun h' he hit hsz hk => fin h' he hk _ (turn_enumKT 0 a _ _) ⟨⟨.none, he⟩, ⟨_, hit, rfl, rfl⟩, Nat.succ_ne_self _⟩
end
end KL
namespace KL
open PySem PySem.Spec PyProof.Rows L2
/-- the turns of a comprehension, whatever stands within -/
theorem lc_gen {J : L2.It} {n : Nat} {G : Hp → Prop} {Y : Nat → Hp → V → Hp → Prop} (w : Walk J n G Y) {BB : V → Hp → (Hp → Prop) → Prop} {H0 : Hp} {Qd : Hp → Prop} (Pv : Nat → Hp → Prop) (h0 : Pv 0 H0) (hG : ∀ i H, i ≤ n → Pv i H → G H)
    (hs : ∀ i x H H', i < n → Pv i H → Y i H x H' → BB x H' (Pv (i + 1))) (hd : ∀ H, Pv n H → Qd H) :
    ∃ W : Nat → Nat → Hp → Prop, (∃ m, W 0 m H0) ∧ ∀ i m H, W i m H → (J.stop i H ∧ Qd H) ∨ (J.go i H ∧ ∃ Nx : Hp → Prop, (∀ H', Nx H' → ∃ m', m' < m ∧ W (i + 1) m' H') ∧ ∀ x H', J.yld i H x H' → BB x H' Nx) := by
  refine ⟨fun i m H => m = n - i ∧ i ≤ n ∧ Pv i H, ⟨n, by simp, Nat.zero_le _, h0⟩, ?_⟩
  rintro i m H ⟨rfl, hi, p⟩
  have q := hG i H hi p
  by_cases hlt : i < n
  · exact .inr ⟨w.goes i H hlt q, Pv (i + 1), fun H' p' => ⟨n - (i + 1), by omega, rfl, hlt, p'⟩, fun x H' y => hs i x H H' hlt p (w.yields i H x H' hlt q y)⟩
  · have e : i = n := by omega
    subst e
    exact .inl ⟨w.stops H q, hd H p⟩
/-! ### methods and makers by their names -/
def Dm (P : Program) (w : World) (K : PySem.W.Frag) (mg : Str → Option Value) (base : Heap) (k : Nat) (C : Addr) (m : Str) (ps : List Str) (sp : Sp) : Prop :=
  ∃ (f : Addr) (fd : FuncData), Cls K C ∧ FnOk P w K mg base CX0 k f fd ps sp ∧ Meth K C m f ∧ Binds K fd ps []
theorem Dm.mono {P : Program} {w : World} {K : PySem.W.Frag} {mg : Str → Option Value} {base : Heap} {j k : Nat} {C : Addr} {m : Str} {ps : List Str} {sp : Sp} (D : Dm P w K mg base j C m ps sp) (h : j ≤ k) : Dm P w K mg base k C m ps sp :=
  let ⟨f, fd, c, F, r⟩ := D; ⟨f, fd, c, F.mono h, r⟩
theorem pe_dm {X : Cx} {k : Nat} {C : Addr} {ps : List Str} {sp : Sp} {m : Str} {o : Expr} {apos pos : Pos} {e : Expr} {es : List Expr} {ta : TE} {t : TA} {pl : Sem Bool} (D : Dm X.prog X.w X.K X.mg X.base k C m ps sp) (hr : Room k X.A) (he : PE X o ta) (ha : PA X (e :: es) t)
    (hst : starEach (e :: es) X.env = (false, eval e X.env) :: starEach es X.env := by rfl) (hpl : (backTo pos (starEach es X.env)).any (·.1) = false := by rfl)
    (ht : eval (.Call (.Attribute o m apos) (e :: es) [] pos) X.env = (do
      let ov ← eval o X.env
      standAt apos.atName
      let (f, first) ← holding [ov] (getMethod ov m pl)
      callWith pos f first (backTo pos (starEach (e :: es) X.env)) (backToKw pos (keywordEach [] X.env))) := by rfl) :
    PE X (.Call (.Attribute o m apos) (e :: es) [] pos) (tMeth C m sp [] E0 ta t) := by
  obtain ⟨f, fd, c, F, hm, b⟩ := D
  exact pe_meth he c hm F hr b .nil L2.pass0 ha hst hpl ht
theorem pe_dm0 {X : Cx} {k : Nat} {C : Addr} {ps : List Str} {sp : Sp} {m : Str} {o : Expr} {apos pos : Pos} {ta : TE} {pl : Sem Bool} (D : Dm X.prog X.w X.K X.mg X.base k C m ps sp) (hr : Room k X.A) (he : PE X o ta)
    (ht : eval (.Call (.Attribute o m apos) [] [] pos) X.env = (do
      let ov ← eval o X.env
      standAt apos.atName
      let (f, first) ← holding [ov] (getMethod ov m pl)
      callWith pos f first (backTo pos (starEach [] X.env)) (backToKw pos (keywordEach [] X.env))) := by rfl) :
    PE X (.Call (.Attribute o m apos) [] [] pos) (tMeth C m sp [] E0 ta tNil) := by
  obtain ⟨f, fd, c, F, hm, b⟩ := D
  exact pe_meth0 he c hm F hr b .nil L2.pass0 ht
def Dc (P : Program) (w : World) (K : PySem.W.Frag) (mg : Str → Option Value) (base : Heap) (k : Nat) (x : Str) (C : Addr) (ps : List Str) (sp : Sp) (n : Nat) (ks : List Str) (gV : List V → List V → List V) : Prop :=
  ∃ (f : Addr) (fd : FuncData) (g : List Value → List Value → List Value), Mk K C f ∧ FnOk P w K mg base CX0 k f fd ps sp ∧ KBn K fd ps (n + 1) ks g gV ∧ mg x = some (.ref C)
theorem Dc.mono {P : Program} {w : World} {K : PySem.W.Frag} {mg : Str → Option Value} {base : Heap} {j k n : Nat} {x : Str} {C : Addr} {ps ks : List Str} {sp : Sp} {gV : List V → List V → List V} (D : Dc P w K mg base j x C ps sp n ks gV) (h : j ≤ k) : Dc P w K mg base k x C ps sp n ks gV :=
  let ⟨f, fd, g, M, F, r⟩ := D; ⟨f, fd, g, M, F.mono h, r⟩
theorem pe_dc {X : Cx} {k n : Nat} {C : Addr} {ps ks : List Str} {sp : Sp} {gV : List V → List V → List V} {x : Str} {p pos : Pos} {e : Expr} {es : List Expr} {kws : List Keyword} {t tk : TA} (D : Dc X.prog X.w X.K X.mg X.base k x C ps sp n ks gV) (hr : Room (k + 1) X.A) (hg : Gl X x) (ha : PA X (e :: es) t) (hkw : PK X kws tk)
    (hall : (backToKw pos (keywordEach kws X.env)).all (·.1.isSome) = true := by rfl) (hks : (backToKw pos (keywordEach kws X.env)).filterMap (·.1) = ks := by rfl) (hdb : (x == ("__debug__" : Str)) = false := by decide)
    (he : starEach (e :: es) X.env = (false, eval e X.env) :: starEach es X.env := by rfl) (hpl : ((backTo pos (starEach (e :: es) X.env)).any (·.1) || (backToKw pos (keywordEach kws X.env)).any (·.1.isNone)) = false := by rfl) :
    PE X (.Call (.Name x p) (e :: es) kws pos) (tMakeK C n ks.length sp gV E0 t tk) := by
  obtain ⟨f, fd, g, M, F, hb, m⟩ := D
  exact pe_makeK M F hr hg m hb L2.pass0 ha hkw hall hks hdb he hpl
/-! ### tuples at addresses -/
inductive TupsV (K : PySem.W.Frag) (H : Hp) : List Addr → List (List V) → Prop
  | nil : TupsV K H [] []
  | cons {a : Addr} {as : List Addr} {vs : List V} {vss : List (List V)} : SqT K H a vs → TupsV K H as vss → TupsV K H (a :: as) (vs :: vss)
section
variable {K : PySem.W.Frag} {H H' : Hp} {as : List Addr} {vss : List (List V)}
theorem TupsV.len (h : TupsV K H as vss) : as.length = vss.length := by
  induction h with
  | nil => rfl
  | cons _ _ ih => rw [List.length_cons, List.length_cons, ih]
theorem TupsV.mv (h : TupsV K H as vss) (k : ∀ a vs, SqT K H a vs → SqT K H' a vs) : TupsV K H' as vss := by
  induction h with
  | nil => exact .nil
  | cons q _ ih => exact .cons (k _ _ q) ih
theorem TupsV.same (h : TupsV K H as vss) (s : Same H H') : TupsV K H' as vss := h.mv fun _ _ q => same_tup s q
theorem TupsV.lst {D : Addr} {o u : List V} (h : TupsV K H as vss) (e : H D = some (.lst o)) : TupsV K (upd H D (.lst u)) as vss := h.mv fun _ _ q => sqT_lst e q
theorem TupsV.snoc {a : Addr} {vs : List V} (h : TupsV K H as vss) (q : SqT K H a vs) : TupsV K H (as ++ [a]) (vss ++ [vs]) := by
  induction h with
  | nil => exact .cons q .nil
  | cons q' _ ih => exact .cons q' ih
theorem TupsV.at (h : TupsV K H as vss) : ∀ {i : Nat} {x : V}, (as.map V.ref)[i]? = some x → ∃ a vs, x = .ref a ∧ as[i]? = some a ∧ vss[i]? = some vs ∧ SqT K H a vs := by
  induction h with
  | nil => intro i x e; simp at e
  | @cons a as vs vss q _ ih =>
    intro i x e
    cases i with
    | zero => cases e; exact ⟨a, vs, rfl, rfl, rfl, q⟩
    | succ i => exact ih (by simpa using e)
theorem TupsV.ints {cs : List Addr} {nss : List (List Int)} : TupsI K H cs nss ↔ TupsV K H cs (nss.map fun ns => ns.map V.int) := by
  constructor
  · intro h
    induction h with
    | nil => exact .nil
    | cons q _ ih => exact .cons q ih
  · intro h
    generalize e : (nss.map fun ns => ns.map V.int) = vss at h
    induction h generalizing nss with
    | nil =>
      cases nss with
      | nil => exact .nil
      | cons _ _ => cases e
    | @cons a as vs vss' q r ih =>
      cases nss with
      | nil => cases e
      | cons ns nss =>
        rw [List.map_cons] at e
        obtain ⟨e1, e2⟩ := List.cons.inj e
        exact .cons (e1 ▸ q) (ih e2)
end
/-! ### all fillings -/
def fills : Nat → List (List Bool)
  | 0 => [[]]
  | n + 1 => (fills n).flatMap fun f => [f ++ [false], f ++ [true]]
theorem fills_len : ∀ n, (fills n).length = 2 ^ n
  | 0 => rfl
  | n + 1 => by
    have := fills_len n
    rw [fills, List.length_flatMap]
    simp only [List.length_cons, List.length_nil]
    rw [List.map_const', List.sum_replicate_nat, this, Nat.pow_succ]
theorem fills_mem : ∀ {n : Nat} {f : List Bool}, f ∈ fills n ↔ f.length = n
  | 0, f => by rw [fills, List.mem_singleton]; exact List.length_eq_zero_iff.symm
  | n + 1, f => by
    rw [fills, List.mem_flatMap]
    constructor
    · rintro ⟨g, hg, hf⟩
      have := fills_mem.mp hg
      simp only [List.mem_cons, List.not_mem_nil, or_false] at hf
      rcases hf with rfl | rfl <;> simp [this]
    · intro h
      have hne : f ≠ [] := fun z => by rw [z] at h; cases h
      refine ⟨f.dropLast, fills_mem.mpr (by rw [List.length_dropLast, h]; rfl), ?_⟩
      have e := List.dropLast_concat_getLast hne
      cases hb : f.getLast hne with
      | false => rw [hb] at e; rw [e]; simp
      | true => rw [hb] at e; rw [e]; simp
def sayAll (bs : List Bool) (pr : List (List Int)) : Bool := pr.all fun c => c.any (sayB bs)
def wordsOf (b i : Nat) (pr : List (List Int)) : List (List Bool) := (fills i).filter fun w => sayAll (List.replicate b false ++ w) pr
/-! ### what a machine is made of -/
structure MS where
  b : Nat
  i : Nat
  gs : List (Str × Int × Int)
  nx : List Int
  st : List Int
  pr : List (List Int)
def gateV (g : Str × Int × Int) : List V := [.str g.1, .int g.2.1, .int g.2.2]
def isWord (w : Str) : Prop := w = Str.ofString "and" ∨ w = Str.ofString "or" ∨ w = Str.ofString "odd"
def Sgn (n : Int) (m : Nat) : Prop := n ≠ 0 ∧ n.natAbs ≤ m
structure MOk (S : MS) : Prop where
  b1 : 1 ≤ S.b
  b10 : S.b ≤ 10
  i4 : S.i ≤ 4
  g24 : S.gs.length ≤ 24
  ga : ∀ (j : Nat) g, S.gs[j]? = some g → isWord g.1 ∧ Sgn g.2.1 (S.b + S.i + j) ∧ Sgn g.2.2 (S.b + S.i + j)
  nxl : S.nx.length = S.b
  nxa : ∀ n ∈ S.nx, Sgn n (S.b + S.i + S.gs.length)
  sta : ∀ n ∈ S.st, Sgn n S.b
  std : S.st.Pairwise fun a b => a.natAbs ≠ b.natAbs
  p8 : S.pr.length ≤ 8
  pra : ∀ c ∈ S.pr, Up c ∧ ∀ n ∈ c, S.b < n.natAbs ∧ n.natAbs ≤ S.b + S.i
  some : wordsOf S.b S.i S.pr ≠ []
end KL
namespace KL
open PySem PySem.Spec PyProof.Rows L2
/-! ### a tuple so many times, once and never too -/
theorem tuple_mul1 (l : Addr) (items : Array Value) (n : Nat) (dd : Option Addr) (sl : Array (Option Value)) (u : Tok) :
    Meets (Builtin.«tuple.__mul__» ⟨[.ref l, .int 1 u], []⟩) (fun _ R s => s.heap.get? l = some { cls := .type "tuple", dict := dd, data := .seq items n, slots := sl } ∧ R (.ok (.ret (Value.ref l))) s) :=
  .of_wp fun prog w A R s h => by
    obtain ⟨hp, g, d, tk, os⟩ := s
    obtain ⟨hl, h⟩ := h
    have f1 := AutoSeq1.idx_int
    have c1 : (items.isEmpty || (1 : Int) == 1) = true := by cases items.isEmpty <;> rfl
    wp_walk using wpAny_loadPart' hl
    repeat (first
      | (refine wpAny_ite_true (decide_eq_true c1) ?_; wp_walk using wpAny_loadPart' hl))
    exact ⟨_, rfl, h⟩
theorem tuple_mul0 (l : Addr) (items : Array Value) (n : Nat) (dd : Option Addr) (sl : Array (Option Value)) (u : Tok) (hi : items.isEmpty = false) :
    Meets (Builtin.«tuple.__mul__» ⟨[.ref l, .int 0 u], []⟩) (fun _ R s => s.heap.get? l = some { cls := .type "tuple", dict := dd, data := .seq items n, slots := sl } ∧
      R (.ok (.ret (Value.ref s.heap.objs.size))) { s with heap := s.heap.push { cls := Value.type "tuple", data := Data.seq #[] }, toks := s.toks }) :=
  .of_wp fun prog w A R s h => by
    obtain ⟨hp, g, d, tk, os⟩ := s
    obtain ⟨hl, h⟩ := h
    have f1 := AutoSeq1.idx_int
    have c1 : (items.isEmpty || (0 : Int) == 1) = false := by rw [hi]; rfl
    wp_walk using wpAny_loadPart' hl
    repeat (first
      | (refine wpAny_ite_false (decide_eq_false (by rw [c1]; exact Bool.false_ne_true)) ?_; wp_walk using wpAny_loadPart' hl))
    exact ⟨_, rfl, h⟩
def rRepK (K : PySem.W.Frag) : R2 := fun x y H Q => ∃ l k xs, x = .ref l ∧ y = .int k ∧ SqT K H l xs ∧ xs ≠ [] ∧ 0 ≤ k ∧ k ≤ 1000 ∧ xs.length ≤ 1000 ∧ ∀ r H', Same H H' → SqT K H' r (List.replicate k.toNat xs).flatten → Q (.ref r) H'
theorem op_repK {X : Cx} : OpR X (binaryOp .Mult) (rRepK X.K) := by
  intro pins s σ H x y v u Q I rx ry h
  obtain ⟨l, k, xs, rfl, rfl, hT, hne, h1, h2, hz, q⟩ := h
  by_cases k2 : 2 ≤ k
  · exact op_repT pins s σ H _ _ v u Q I rx ry ⟨l, k, xs, rfl, rfl, hT, hne, k2, h2, hz, fun p hp => q p _ (same_new hp) (SqT.of upd_same)⟩
  cases rx
  obtain ⟨t, rfl⟩ := ry
  obtain ⟨its, r, ⟨⟨cls, dd, data, sl⟩, ho, hc, n, hd⟩, hs⟩ := I.tuple hT
  simp only at hc hd
  subst hc hd
  have hle : its.length = xs.length := r.length.symm
  have hi : its.toArray.isEmpty = false := by
    cases its with
    | nil => exact absurd (List.eq_nil_of_length_eq_zero hle.symm) hne
    | cons a b => rfl
  by_cases k1 : k = 1
  · subst k1
    refine wpAny_binaryOp_repeat_ref (T := "tuple") (U := "int") (by decide) ⟨_, ho, rfl⟩ (fun s' => typeIs_int s' 1 t) noFill_tuple_mul F.fills_int_mul F.slot_int_rmul repeat_tuple F.slot_int_index.lookup
      (call_meets F.slot_int_rmul (typeIs_int s 1 t) F.entry_int_rmul (F.args_int_rmul_2 _ _) (int_rmul_tuple 1 t l its.toArray n dd sl)
        ⟨ho, rfl, ⟨_, ho, rfl⟩, call_meets F.slot_tuple_mul ⟨_, ho, rfl⟩ F.entry_tuple_mul (F.args_tuple_mul_2 _ _) (tuple_mul1 l its.toArray n dd sl t) ⟨ho, ?_⟩⟩)
    exact ⟨.ref l, H, I, rfl, q l H (Same.refl H) (by simpa using hT)⟩
  · obtain rfl : k = 0 := by omega
    refine wpAny_binaryOp_repeat_ref (T := "tuple") (U := "int") (by decide) ⟨_, ho, rfl⟩ (fun s' => typeIs_int s' 0 t) noFill_tuple_mul F.fills_int_mul F.slot_int_rmul repeat_tuple F.slot_int_index.lookup
      (call_meets F.slot_int_rmul (typeIs_int s 0 t) F.entry_int_rmul (F.args_int_rmul_2 _ _) (int_rmul_tuple 0 t l its.toArray n dd sl)
        ⟨ho, rfl, ⟨_, ho, rfl⟩, call_meets F.slot_tuple_mul ⟨_, ho, rfl⟩ F.entry_tuple_mul (F.args_tuple_mul_2 _ _) (tuple_mul0 l its.toArray n dd sl t hi) ⟨ho, ?_⟩⟩)
    refine ⟨.ref s.heap.objs.size, _, I.laid (t' := s.toks) (o := .tup []) (fun b ob q => Heap.get?_push_of_some _ q) (Nat.le_refl _) ?_, rfl, q _ _ (same_new (I.hok.fresh (Nat.le_refl _))) (SqT.of upd_same)⟩
    exact ⟨by show 0 ≤ sizeLine; decide, [], .nil, IsTup.new _ _⟩
/-! ### what is a list, or a tuple, walked -/
def Itb (b : Bool) (K : PySem.W.Frag) (a : Addr) : L2.It := match b with | true => Itl K a | false => Itt K a
theorem walk_b {K : PySem.W.Frag} {b : Bool} {a : Addr} {xs : List V} : Walk (Itb b K a) xs.length (fun H => SqB b K H a xs) (YAt xs) := by
  cases b
  · exact walk_tup
  · exact walk_list
theorem seq_by {K : PySem.W.Frag} {b : Bool} {a : Addr} {xs : List V} {tl : TE} {σ : L2.St} {H : Hp} {R : L2.It → Hp → Prop} (q : SqB b K H a xs) (ht : ∀ Q : VK, Q (.ref a) H → tl σ H Q) (h : R (Itb b K a) H) : iList K tl σ H R ∨ iTup K tl σ H R := by
  cases b
  · exact .inr (ht _ ⟨a, rfl, ⟨_, q⟩, h⟩)
  · exact .inl (ht _ ⟨a, rfl, ⟨_, q⟩, h⟩)
theorem op_repK' {X : Cx} {K : PySem.W.Frag} (e : X.K = K) : OpR X (binaryOp .Mult) (rRepK K) := e ▸ op_repK
theorem dpTyL {K : PySem.W.Frag} {H : Hp} {a : Addr} {xs : List V} (s : SqL K H a xs) : TyX K H (.ref a) (.type "list") := by
  rcases s with (e | ⟨o, e⟩) | ⟨o, its, n, e, c, _⟩
  · exact .base (.lst e)
  · exact .base (.frz e)
  · exact .kList e c
theorem dpTyT {K : PySem.W.Frag} {H : Hp} {a : Addr} {xs : List V} (s : SqT K H a xs) : TyX K H (.ref a) (.type "tuple") := by
  rcases s with (e | ⟨o, e⟩) | ⟨o, its, n, e, c, _⟩
  · exact .base (.tup e)
  · exact .fTuple e
  · exact .kTuple e c
theorem pa_star' {X : Cx} {K : PySem.W.Frag} {e : Expr} {es : List Expr} {te : TE} {t : TA} {p : Pos} (h : X.K = K) (he : PE X e te) (hr : PA X es t) (hs : starEach (.Starred e p :: es) X.env = (true, eval e X.env) :: starEach es X.env := by rfl) : PA X (.Starred e p :: es) (StX.tStar K te t) := h ▸ StX.pa_star he hr hs
end KL
namespace KL
open PySem PySem.Spec PyProof.Rows L2
theorem rep_false (b : Nat) : (List.replicate ((b : Int)).toNat [V.bl false]).flatten = (List.replicate b false).map V.bl := by
  rw [Int.toNat_natCast]
  induction b with
  | zero => rfl
  | succ n ih => rw [List.replicate_succ, List.flatten_cons, ih, List.replicate_succ, List.map_cons]; rfl
/-! ### a machine as an object -/
def mF (co gl nl sl pl th : Addr) (b i : Nat) : List (Str × V) :=
  putF "things" (.ref th) (putF "promise_list" (.ref pl) (putF "start_signs" (.ref sl) (putF "next_signs" (.ref nl) (putF "gate_list" (.ref gl) (putF "input_count" (.int i) (putF "box_count" (.int b) (putF "coming" (.ref co) [])))))))
theorem mF_len {co gl nl sl pl th : Addr} {b i : Nat} : (mF co gl nl sl pl th b i).length ≤ 8 := by
  unfold mF
  refine Nat.le_trans (length_putF _ _ _) (Nat.succ_le_succ ?_)
  refine Nat.le_trans (length_putF _ _ _) (Nat.succ_le_succ ?_)
  refine Nat.le_trans (length_putF _ _ _) (Nat.succ_le_succ ?_)
  refine Nat.le_trans (length_putF _ _ _) (Nat.succ_le_succ ?_)
  refine Nat.le_trans (length_putF _ _ _) (Nat.succ_le_succ ?_)
  refine Nat.le_trans (length_putF _ _ _) (Nat.succ_le_succ ?_)
  refine Nat.le_trans (length_putF _ _ _) (Nat.succ_le_succ ?_)
  refine Nat.le_trans (length_putF _ _ _) (Nat.succ_le_succ ?_)
  exact Nat.le_refl _
section
variable {co gl nl sl pl th : Addr} {b i : Nat}
theorem mF_coming : (mF co gl nl sl pl th b i).lookup ("coming" : Str) = some (.ref co) := by
  unfold mF; repeat (first | rw [lookup_putF, if_pos rfl] | rw [lookup_putF, if_neg (by decide +kernel)])
theorem mF_box : (mF co gl nl sl pl th b i).lookup ("box_count" : Str) = some (.int b) := by
  unfold mF; repeat (first | rw [lookup_putF, if_pos rfl] | rw [lookup_putF, if_neg (by decide +kernel)])
theorem mF_input : (mF co gl nl sl pl th b i).lookup ("input_count" : Str) = some (.int i) := by
  unfold mF; repeat (first | rw [lookup_putF, if_pos rfl] | rw [lookup_putF, if_neg (by decide +kernel)])
theorem mF_gate : (mF co gl nl sl pl th b i).lookup ("gate_list" : Str) = some (.ref gl) := by
  unfold mF; repeat (first | rw [lookup_putF, if_pos rfl] | rw [lookup_putF, if_neg (by decide +kernel)])
theorem mF_next : (mF co gl nl sl pl th b i).lookup ("next_signs" : Str) = some (.ref nl) := by
  unfold mF; repeat (first | rw [lookup_putF, if_pos rfl] | rw [lookup_putF, if_neg (by decide +kernel)])
theorem mF_start : (mF co gl nl sl pl th b i).lookup ("start_signs" : Str) = some (.ref sl) := by
  unfold mF; repeat (first | rw [lookup_putF, if_pos rfl] | rw [lookup_putF, if_neg (by decide +kernel)])
theorem mF_promise : (mF co gl nl sl pl th b i).lookup ("promise_list" : Str) = some (.ref pl) := by
  unfold mF; repeat (first | rw [lookup_putF, if_pos rfl] | rw [lookup_putF, if_neg (by decide +kernel)])
theorem mF_things : (mF co gl nl sl pl th b i).lookup ("things" : Str) = some (.ref th) := by
  unfold mF; repeat (first | rw [lookup_putF, if_pos rfl] | rw [lookup_putF, if_neg (by decide +kernel)])
theorem mF_no {f : Str} (h : ∀ g ∈ (["things", "promise_list", "start_signs", "next_signs", "gate_list", "input_count", "box_count", "coming"] : List Str), ¬ f = g) : (mF co gl nl sl pl th b i).lookup f = none := by
  unfold mF
  rw [lookup_putF, if_neg (h _ (by simp)), lookup_putF, if_neg (h _ (by simp)), lookup_putF, if_neg (h _ (by simp)), lookup_putF, if_neg (h _ (by simp)), lookup_putF, if_neg (h _ (by simp)), lookup_putF, if_neg (h _ (by simp)), lookup_putF, if_neg (h _ (by simp)), lookup_putF, if_neg (h _ (by simp))]
  rfl
end
/-- a machine made of S stands at m; own: its own lists -/
structure MachO (K : PySem.W.Frag) (C : Addr) (H : Hp) (m : Addr) (S : MS) (own : List Addr) : Prop where
  ex : ∃ (dx co gl nl sl pl th : Addr) (wa ga ca : List Addr), own = [co, gl, nl, sl, pl, th] ∧ H m = some (.ins C dx (mF co gl nl sl pl th S.b S.i)) ∧ H co = some (.lst (wa.map V.ref)) ∧ TupsV K H wa ((wordsOf S.b S.i S.pr).map fun f => f.map V.bl) ∧
    H gl = some (.lst (ga.map V.ref)) ∧ TupsV K H ga (S.gs.map gateV) ∧ H nl = some (.lst (S.nx.map V.int)) ∧ H sl = some (.lst (S.st.map V.int)) ∧ H pl = some (.lst (ca.map V.ref)) ∧ TupsV K H ca (S.pr.map fun c => c.map V.int) ∧ H th = some (.tup (rgV 1 ((S.b : Int) + S.i + S.gs.length + 1)))
def MachAt (K : PySem.W.Frag) (C : Addr) (H : Hp) (m : Addr) (S : MS) : Prop := ∃ own, MachO K C H m S own
theorem MachO.same {K : PySem.W.Frag} {C : Addr} {H H' : Hp} {m : Addr} {S : MS} {own : List Addr} (h : MachO K C H m S own) (s : Same H H') : MachO K C H' m S own :=
  let ⟨dx, co, gl, nl, sl, pl, th, wa, ga, ca, e0, e1, e2, t1, e3, t2, e4, e5, e6, t3, e7⟩ := h.ex
  ⟨dx, co, gl, nl, sl, pl, th, wa, ga, ca, e0, s _ _ e1, s _ _ e2, t1.same s, s _ _ e3, t2.same s, s _ _ e4, s _ _ e5, s _ _ e6, t3.same s, s _ _ e7⟩
theorem MachAt.same {K : PySem.W.Frag} {C : Addr} {H H' : Hp} {m : Addr} {S : MS} (h : MachAt K C H m S) (s : Same H H') : MachAt K C H' m S := let ⟨own, h⟩ := h; ⟨own, h.same s⟩
/-- what the text says of the class -/
structure MTxt (K : PySem.W.Frag) (C : Addr) : Prop where
  cl : Cls K C
  nCo : NoAttr K C "coming"
  nBo : NoAttr K C "box_count"
  nIn : NoAttr K C "input_count"
  nGa : NoAttr K C "gate_list"
  nNx : NoAttr K C "next_signs"
  nSt : NoAttr K C "start_signs"
  nPr : NoAttr K C "promise_list"
  nTh : NoAttr K C "things"
/-- the parts of a machine that are handed in -/
structure PartsAt (K : PySem.W.Frag) (H : Hp) (S : MS) (bs bp : Bool) (G N St Pm : Addr) : Prop where
  gs : ∃ ga : List Addr, SqL K H G (ga.map V.ref) ∧ TupsV K H ga (S.gs.map gateV)
  nx : SqL K H N (S.nx.map V.int)
  st : SqB bs K H St (S.st.map V.int)
  pr : ∃ ca : List Addr, SqB bp K H Pm (ca.map V.ref) ∧ TupsV K H ca (S.pr.map fun c => c.map V.int)
theorem PartsAt.same {K : PySem.W.Frag} {H H' : Hp} {S : MS} {bs bp : Bool} {G N St Pm : Addr} (h : PartsAt K H S bs bp G N St Pm) (s : Same H H') : PartsAt K H' S bs bp G N St Pm :=
  ⟨let ⟨ga, q, t⟩ := h.gs; ⟨ga, s.seq q, t.same s⟩, s.seq h.nx, h.st.same s, let ⟨ca, q, t⟩ := h.pr; ⟨ca, q.same s, t.same s⟩⟩
theorem MOk.stl {S : MS} (h : MOk S) : S.st.length ≤ 10 := by
  have nd : (S.st.map ab).Nodup := List.pairwise_map.mpr (h.std.imp fun {a b} hab e => by rw [ab_nat, ab_nat] at e; omega)
  have := nd_len (ms := S.st.map ab) (ns := (List.range 10).map fun (i : Nat) => (i : Int) + 1) nd fun m hm => by
    obtain ⟨n, hn, rfl⟩ := List.mem_map.mp hm
    obtain ⟨h1, h2⟩ := h.sta n hn
    have := h.b10
    refine List.mem_map.mpr ⟨n.natAbs - 1, List.mem_range.mpr (by omega), ?_⟩
    rw [ab_nat]; omega
  rw [List.length_map, List.length_map, List.length_range] at this
  exact this
theorem sayAll_step {bs : List Bool} {pr : List (List Int)} : (pr.map fun c => c.any (sayB bs)).all id = sayAll bs pr := by
  unfold sayAll; rw [List.all_map]; rfl
end KL
namespace KL
open PySem PySem.Spec PyProof.Rows L2
/-! ### repr of data, and of an empty dict -/
def rRepA (K : PySem.W.Frag) : List V → Hp → VK → Prop := fun xs H Q => rRep K xs H Q ∨ ∃ a, xs = [.ref a] ∧ H a = some (.dK []) ∧ Q (.str (PyData.dict []).shown) H
theorem call_repA {X : Cx} (hg : X.A.guards = some []) (hu : X.A.units + 64 < cLine) : CallR X (.builtin "repr") (rRepA X.K) := by
  intro pins s σ H xs us Q I r h
  rcases h with h | ⟨a, rfl, ha, q⟩
  · exact call_rep hg hu pins s σ H xs us Q I r h
  obtain ⟨u, rfl, ru⟩ := vals1 r
  cases (show u = Value.ref a from ru)
  obtain ⟨_, sm, vs, kv, hd⟩ := (show ObjOk X.prog X.w H s.heap a (.dK []) from I.hok a _ ha)
  cases kv
  obtain ⟨o, es, ep, ho, hc, hdt, hrest⟩ := id hd
  have hes : es.toList = [] := by
    have hp := hrest.2.1
    generalize es.toList = l at hp
    cases l with
    | nil => rfl
    | cons _ _ => cases hp
  have hr : Reads s.heap (.ref a) (.dict []) (a :: [] ++ []) := Reads.dict ho hc.1 hdt (by rw [hes]; exact .nil) (by rw [hes]; exact .nil)
  exact repr_of_reads' hr (by decide +kernel) (fun _ z => absurd z (by simp; intro e; rw [e] at sm; simp at sm)) hg (by show X.A.units + (0 + 1 + 1) < cLine; omega) (fun _ _ e => e) (fun h' t tk k => ⟨.str _, H, I.kept (t' := tk) k, ⟨t, rfl⟩, q⟩) (by decide +kernel)
theorem map_erase {α β : Type} (f : α → β) : ∀ (l : List α) (i : Nat), (l.map f).eraseIdx i = (l.eraseIdx i).map f
  | [], _ => rfl
  | a :: l, 0 => rfl
  | a :: l, i + 1 => by simp [map_erase f l i]
theorem nd_erase {L : List Int} (hd : L.Nodup) {i : Nat} (hi : i < L.length) : ¬ L[i] ∈ L.eraseIdx i := by
  intro z
  rw [List.eraseIdx_eq_take_drop_succ] at z
  have e : L = L.take i ++ L[i] :: L.drop (i + 1) := by rw [← List.drop_eq_getElem_cons hi, List.take_append_drop]
  rw [e, List.nodup_append] at hd
  have hcons := List.nodup_cons.mp hd.2.1
  rcases List.mem_append.mp z with h | h
  · exact hd.2.2 (L[i]) h (L[i]) List.mem_cons_self rfl
  · exact hcons.1 h
theorem units65 {k : Nat} {A : Around} (r : Room k A) : A.units + 65 < cLine := by have := r.un; omega
theorem pe_fld' {X : Cx} {K : PySem.W.Frag} {e : Expr} {f : Str} {ta : TE} {pos : Pos} (h : X.K = K) (he : PE X e ta) (hb : attributeBase e f X.env (eval e X.env) = eval e X.env) : PE X (.Attribute e f pos) (tFld K ta f) := h ▸ pe_fld he hb
theorem eqv_bools : ∀ {f bs : List Bool}, PyData.eqv (.tuple (f.map PyData.bool)) (.tuple (bs.map PyData.bool)) = true → f = bs := by
  intro f bs h
  rw [PyData.eqv] at h
  induction f generalizing bs with
  | nil => cases bs with
    | nil => rfl
    | cons b bs => simp [PyData.eqvAll] at h
  | cons a f ih => cases bs with
    | nil => simp [PyData.eqvAll] at h
    | cons b bs =>
      simp only [List.map_cons, PyData.eqvAll, Bool.and_eq_true] at h
      rw [ih h.2]
      have : a = b := by
        have h1 := h.1
        cases a <;> cases b <;> simp [PyData.eqv] at h1 <;> rfl
      rw [this]
end KL
namespace KL
open PySem PySem.Spec PyProof.Rows L2
def gateD (g : Str × Int × Int) : PyData := .tuple [.str g.1, .int g.2.1, .int g.2.2]
theorem dpGates {K : PySem.W.Frag} {H : Hp} : ∀ {ga : List Addr} {gs : List (Str × Int × Int)}, TupsV K H ga (gs.map gateV) → DpAll K H (ga.map V.ref) (gs.map gateD)
  | _, [], h => by cases h; exact .nil
  | _, g :: gs, h => by
    cases h with
    | cons q r => exact .cons (.tup q (.cons (.str _) (.cons (.int _) (.cons (.int _) .nil)))) (dpGates r)
theorem Fine.strAnd : Fine 10 0 (.str (Str.ofString "and")) := ⟨rfl, by decide +kernel, by decide +kernel, by decide +kernel, by decide +kernel⟩
theorem Fine.strOr : Fine 10 0 (.str (Str.ofString "or")) := ⟨rfl, by decide +kernel, by decide +kernel, by decide +kernel, by decide +kernel⟩
theorem Fine.strOdd : Fine 10 0 (.str (Str.ofString "odd")) := ⟨rfl, by decide +kernel, by decide +kernel, by decide +kernel, by decide +kernel⟩
theorem fineGate {g : Str × Int × Int} (hw : isWord g.1) (h1 : g.2.1.natAbs ≤ 100) (h2 : g.2.2.natAbs ≤ 100) : Fine 333 1 (gateD g) := by
  refine (Fine.tuple (n := 110) (m := 0) (l := 3) (fun d hd => ?_) (by simp)).le (by omega) (by omega)
  simp only [List.mem_cons, List.not_mem_nil, or_false] at hd
  rcases hd with rfl | rfl | rfl
  · rcases hw with z | z | z <;> rw [z]
    · exact Fine.strAnd.le (by omega) (by omega)
    · exact Fine.strOr.le (by omega) (by omega)
    · exact Fine.strOdd.le (by omega) (by omega)
  · exact Fine.int _ (Nat.lt_of_le_of_lt h1 (by decide))
  · exact Fine.int _ (Nat.lt_of_le_of_lt h2 (by decide))
theorem fineGates {gs : List (Str × Int × Int)} {l : Nat} (h : ∀ g ∈ gs, isWord g.1 ∧ g.2.1.natAbs ≤ 100 ∧ g.2.2.natAbs ≤ 100) (hl : gs.length ≤ l) : Fine (l * 334) 2 (.list (gs.map gateD)) := by
  refine Fine.list (n := 333) (m := 1) (l := l) (fun d hd => ?_) (by rw [List.length_map]; exact hl)
  obtain ⟨g, hg, rfl⟩ := List.mem_map.mp hd
  exact fineGate (h g hg).1 (h g hg).2.1 (h g hg).2.2
theorem three_at {d : Int} (h0 : 0 ≤ d) (h1 : d < 3) : ∃ x : Str, atI [V.str (Str.ofString "and"), V.str (Str.ofString "or"), V.str (Str.ofString "odd")] d = some (.str x) ∧ isWord x := by
  obtain ⟨v, g1, g2⟩ := atI_at (xs := [V.str (Str.ofString "and"), V.str (Str.ofString "or"), V.str (Str.ofString "odd")]) (i := d) h0 h1
  have m := List.mem_of_getElem? g2
  simp only [List.mem_cons, List.not_mem_nil, or_false] at m
  rcases m with rfl | rfl | rfl
  · exact ⟨_, g1, .inl rfl⟩
  · exact ⟨_, g1, .inr (.inl rfl)⟩
  · exact ⟨_, g1, .inr (.inr rfl)⟩
/-- the list of a machine's parts, beside the pool -/
structure SpecAt (K : PySem.W.Frag) (H : Hp) (r : Addr) (S : MS) : Prop where
  ex : ∃ G N St Pm : Addr, SqL K H r [.int S.b, .int S.i, .ref G, .ref N, .ref St, .ref Pm] ∧ PartsAt K H S true true G N St Pm
theorem SpecAt.same {K : PySem.W.Frag} {H H' : Hp} {r : Addr} {S : MS} (h : SpecAt K H r S) (s : Same H H') : SpecAt K H' r S := let ⟨G, N, S1, Pm, q, pa⟩ := h.ex; ⟨G, N, S1, Pm, s.seq q, pa.same s⟩
end KL
namespace KL
open PySem PySem.Spec PyProof.Rows L2
theorem fills_rows : ∀ n, n ≤ 6 → fills n = (List.range (2 ^ n)).map (rowB n) := by
  intro n hn
  match n, hn with
  | 0, _ => decide +kernel
  | 1, _ => decide +kernel
  | 2, _ => decide +kernel
  | 3, _ => decide +kernel
  | 4, _ => decide +kernel
  | 5, _ => decide +kernel
  | 6, _ => decide +kernel
def oddD (i : Nat) : List PyData := [.none, .int 0, .str (Str.ofString ""), .list [], .dict [], .list (List.replicate i (.bool true)), .tuple (List.replicate i (.int 0) ++ [.int 1]), .tuple (List.replicate (i + 1) .none), .bool true, .str (Str.ofString "yn"), .tuple (List.replicate (i + 1) (.bool true)), .tuple (List.replicate (i + 2) (.bool false))]
theorem odd_no : ∀ i, i ≤ 3 → ∀ d ∈ oddD i, ∀ w ∈ fills i, d.shown ≠ (PyData.tuple (w.map PyData.bool)).shown := by
  intro n hn
  match n, hn with
  | 0, _ => decide +kernel
  | 1, _ => decide +kernel
  | 2, _ => decide +kernel
  | 3, _ => decide +kernel
theorem fill_inj : ∀ i, i ≤ 3 → ∀ w ∈ fills i, ∀ v ∈ fills i, (PyData.tuple (w.map PyData.bool)).shown = (PyData.tuple (v.map PyData.bool)).shown → w = v := by
  intro n hn
  match n, hn with
  | 0, _ => decide +kernel
  | 1, _ => decide +kernel
  | 2, _ => decide +kernel
  | 3, _ => decide +kernel
theorem tupsV_of {K : PySem.W.Frag} {H : Hp} : ∀ {ts : List Addr} {vss : List (List V)}, ts.length = vss.length → (∀ (j : Nat) (t : Addr) (vs : List V), ts[j]? = some t → vss[j]? = some vs → SqT K H t vs) → TupsV K H ts vss
  | [], [], _, _ => .nil
  | [], _ :: _, h, _ => by cases h
  | _ :: _, [], h, _ => by cases h
  | t :: ts, vs :: vss, h, q => .cons (q 0 t vs rfl rfl) (tupsV_of (by simpa using h) fun j t' vs' h1 h2 => q (j + 1) t' vs' (by simpa using h1) (by simpa using h2))
/-! ### defs that show things by repr -/
def Dg (P : Program) (w : World) (K : PySem.W.Frag) (mg : Str → Option Value) (base : Heap) (k : Nat) (x : Str) (ps : List Str) (sp : Sp) : Prop :=
  ∃ (f : Addr) (fd : FuncData), GFn P w K mg base CX0 k f fd ps sp ∧ PySem.W.keepIn K (.ref f) = true ∧ Binds K fd ps [] ∧ mg x = some (.ref f)
theorem GFn.mono {P : Program} {w : World} {K : PySem.W.Frag} {mg : Str → Option Value} {base : Heap} {CX : CXT} {j k : Nat} {f : Addr} {fd : FuncData} {ps : List Str} {sp : Sp} (F : GFn P w K mg base CX j f fd ps sp) (h : j ≤ k) : GFn P w K mg base CX k f fd ps sp :=
  ⟨F.len, fun A gu hr => F.go A gu (hr.mono h)⟩
theorem Dg.mono {P : Program} {w : World} {K : PySem.W.Frag} {mg : Str → Option Value} {base : Heap} {j k : Nat} {x : Str} {ps : List Str} {sp : Sp} (D : Dg P w K mg base j x ps sp) (h : j ≤ k) : Dg P w K mg base k x ps sp :=
  let ⟨f, fd, F, r⟩ := D; ⟨f, fd, F.mono h, r⟩
theorem pe_dg {X : Cx} {k : Nat} {ps : List Str} {sp : Sp} {x : Str} {p pos : Pos} {e : Expr} {es : List Expr} {t : TA} (D : Dg X.prog X.w X.K X.mg X.base k x ps sp) (gu : X.A.guards = some []) (hr : Room k X.A) (hg : Gl X x) (ha : PA X (e :: es) t)
    (hdb : (x == ("__debug__" : Str)) = false := by decide) (he : starEach (e :: es) X.env = (false, eval e X.env) :: starEach es X.env := by rfl) (hpl : (backTo pos (starEach es X.env)).any (·.1) = false := by rfl) :
    PE X (.Call (.Name x p) (e :: es) [] pos) (tCall sp [] E0 t) := by
  obtain ⟨f, fd, F, kp, b, m⟩ := D
  exact pe_callG F gu hr hg m kp b .nil L2.pass0 ha hdb he hpl
theorem fineE : Fine 10 0 (.str (Str.ofString "")) := ⟨rfl, by decide +kernel, by decide +kernel, by decide +kernel, by decide +kernel⟩
theorem fineYn : Fine 10 0 (.str (Str.ofString "yn")) := ⟨rfl, by decide +kernel, by decide +kernel, by decide +kernel, by decide +kernel⟩
theorem odd_len {i : Nat} (hi : i ≤ 3) {ds : List PyData} (h : PyData.tuple ds ∈ oddD i) : ds.length ≤ 900 := by
  unfold oddD at h
  simp only [List.mem_cons, List.not_mem_nil, or_false] at h
  rcases h with h | h | h | h | h | h | h | h | h | h | h | h <;> first | cases h | skip
  all_goals simp; omega
end KL
namespace KL
open PySem PySem.Spec PyProof.Rows L2
/-! ### len by an own __len__ -/
def Dl (P : Program) (w : World) (K : PySem.W.Frag) (mg : Str → Option Value) (base : Heap) (k : Nat) (C : Addr) (ps : List Str) (sp : Sp) : Prop :=
  ∃ (f : Addr) (fd : FuncData), FnOk P w K mg base CX0 k f fd ps sp ∧ PySem.W.findIn K (.ref C) "__len__" = some (some (.ref f)) ∧ PySem.W.isFn K (.ref f) = true ∧ Binds K fd ps []
def rLenO (C : Addr) (sp : Sp) : List V → Hp → VK → Prop := fun xs H Q => ∃ a dx fs, xs = [.ref a] ∧ H a = some (.ins C dx fs) ∧ sp [.ref a] H (fun v H' => ∃ n : Int, v = .int n ∧ 0 ≤ n ∧ n < 2 ^ 63 ∧ Q (.int n) H') E0
theorem call_lenD {X : Cx} {k : Nat} {C : Addr} {ps : List Str} {sp : Sp} (D : Dl X.prog X.w X.K X.mg X.base k C ps sp) (hr : Room (k + 1) X.A) : CallR X (.builtin "len") (rLenO C sp) := by
  intro pins s σ H xs us Q I r h
  obtain ⟨a, dx, fs, rfl, ha, hsp⟩ := h
  obtain ⟨u, rfl, ru⟩ := vals1 r
  cases (show u = Value.ref a from ru)
  obtain ⟨f, fd, F, hs, hf, hb⟩ := D
  obtain ⟨mA, J, _⟩ := ins_get I.hok ha
  obtain ⟨od, J, _⟩ := J.look
  obtain ⟨m, hF⟩ := I.fr
  refine PySem.W.len_K hF I.ok.mod.kin J hs hf ?_
  have e0 : Env0 X.prog X.w X.K X.mg X.base X.A.in1 X.stack s H := I.env0.in1
  have hl := F.len _ _ _ _ hsp
  have r2 : Vals [V.ref a] [Value.ref a] := .cons rfl .nil
  refine wpAny_call (codeAny_mono (F.run X.A.in1 X.stack s H ⟨[.ref a], []⟩ [.ref a] [.ref a] _ E0 hr.in1 e0 (by
    have := hb s [.ref a] I.kIn (by simpa using hl)
    simpa using this) r2 hsp) fun r s' hq => ?_)
  cases r with
  | error e => exact L2.pass0 pins σ H s e s' I hq
  | ok fl =>
    cases fl with
    | ret w =>
      obtain ⟨z, H', I', rz, n, ez, n0, n1, q⟩ := I.after hq
      subst ez
      obtain ⟨t, rfl⟩ := rz
      exact ⟨⟨n0, n1⟩, .int n, H', I'.tok _, ⟨_, rfl⟩, q⟩
    | next => exact False.elim hq
    | brk => exact False.elim hq
    | cont => exact False.elim hq
/-! ### a maker called with its defaults left out -/
def Dcd (P : Program) (w : World) (K : PySem.W.Frag) (mg : Str → Option Value) (base : Heap) (k : Nat) (x : Str) (C : Addr) (ps : List Str) (sp : Sp) (dvs : List V) : Prop :=
  ∃ (f : Addr) (fd : FuncData) (ds : List Value), Mk K C f ∧ FnOk P w K mg base CX0 k f fd ps sp ∧ Binds K fd ps ds ∧ Vals dvs ds ∧ mg x = some (.ref C)
theorem pe_dcd {X : Cx} {k : Nat} {C : Addr} {ps : List Str} {sp : Sp} {dvs : List V} {x : Str} {p pos : Pos} {e : Expr} {es : List Expr} {t : TA} (D : Dcd X.prog X.w X.K X.mg X.base k x C ps sp dvs) (hr : Room (k + 1) X.A) (hg : Gl X x) (ha : PA X (e :: es) t)
    (hdb : (x == ("__debug__" : Str)) = false := by decide) (he : starEach (e :: es) X.env = (false, eval e X.env) :: starEach es X.env := by rfl) (hpl : (backTo pos (starEach es X.env)).any (·.1) = false := by rfl) :
    PE X (.Call (.Name x p) (e :: es) [] pos) (tMake C sp dvs E0 t) := by
  obtain ⟨f, fd, ds, M, F, hb, hd, m⟩ := D
  exact pe_make M F hr hg m hb hd L2.pass0 ha hdb he hpl
/-! ### a def without arguments that shows things by repr -/
theorem pe_callG0 {X : Cx} {CX : CXT} {k : Nat} {f : Addr} {fd : FuncData} {ps : List Str} {sp : Sp} {E : XK} {x : Str} {p pos : Pos} (F : GFn X.prog X.w X.K X.mg X.base CX k f fd ps sp) (gu : X.A.guards = some []) (hr : Room k X.A) (hg : Gl X x) (hm : X.mg x = some (.ref f))
    (hk : PySem.W.keepIn X.K (.ref f) = true) (hb : Binds X.K fd ps []) (hx : Passes CX X E) (hdb : (x == ("__debug__" : Str)) = false := by decide) :
    PE X (.Call (.Name x p) [] [] pos) (tCall sp [] E tNil) :=
  ⟨fun pins s σ H Q I h => wpAny_Call_Name_kw (ld_glob I hg hm (PySem.W.callWith_K0 I.kIn hk (run_g (us := []) (vs := []) F gu hr hb .nil hx I .nil h)) hdb)⟩
/-! ### some addresses changed -/
def KpM (M : List Addr) (H H' : Hp) : Prop := ∀ b o, b ∉ M → H b = some o → H' b = some o
theorem KpM.refl (M : List Addr) (H : Hp) : KpM M H H := fun _ _ _ h => h
theorem KpM.trans {M : List Addr} {H H1 H2 : Hp} (a : KpM M H H1) (b : KpM M H1 H2) : KpM M H H2 := fun c o n h => b c o n (a c o n h)
theorem KpM.of {M : List Addr} {H H' : Hp} (s : Same H H') : KpM M H H' := fun b o _ h => s b o h
theorem KpM.upd {M : List Addr} {H : Hp} {a : Addr} {o : HO} (h : a ∈ M) : KpM M H (L2.upd H a o) := fun b u nb hb => by
  have hne : b ≠ a := fun z => nb (by rw [z]; exact h)
  rw [upd_ne hne]; exact hb
theorem KpM.same {M : List Addr} {H0 H H' : Hp} (k : KpM M H H') (s : Same H0 H) (h : ∀ a ∈ M, H0 a = none) : Same H0 H' := fun b o hb => k b o (fun z => by rw [h b z] at hb; cases hb) (s b o hb)
theorem KpM.sqT {K : PySem.W.Frag} {M : List Addr} {H H' : Hp} {a : Addr} {xs : List V} (k : KpM M H H') (hM : ∀ x ∈ M, ∃ ys, H x = some (.lst ys)) (q : SqT K H a xs) : SqT K H' a xs := by
  rcases q with (q | ⟨o, q⟩) | q
  · exact .inl (.inl (k _ _ (fun z => by obtain ⟨ys, e⟩ := hM a z; rw [e] at q; cases q) q))
  · exact .inl (.inr ⟨o, k _ _ (fun z => by obtain ⟨ys, e⟩ := hM a z; rw [e] at q; cases q) q⟩)
  · exact .inr q
theorem MachO.kpM {K : PySem.W.Frag} {C : Addr} {H H' : Hp} {m : Addr} {S : MS} {own M : List Addr} (h : MachO K C H m S own) (k : KpM M H H') (hM : ∀ x ∈ M, ∃ ys, H x = some (.lst ys)) (ho : ∀ a ∈ own, a ∉ M) : MachO K C H' m S own := by
  obtain ⟨dx, co, gl, nl, sl, pl, th, wa, ga, ca, rfl, e1, e2, t1, e3, t2, e4, e5, e6, t3, e7⟩ := h.ex
  have hm : m ∉ M := fun z => by obtain ⟨ys, e⟩ := hM m z; rw [e] at e1; cases e1
  exact ⟨dx, co, gl, nl, sl, pl, th, wa, ga, ca, rfl, k _ _ hm e1, k _ _ (ho _ (by simp)) e2, t1.mv fun _ _ q => k.sqT hM q, k _ _ (ho _ (by simp)) e3, t2.mv fun _ _ q => k.sqT hM q, k _ _ (ho _ (by simp)) e4, k _ _ (ho _ (by simp)) e5, k _ _ (ho _ (by simp)) e6, t3.mv fun _ _ q => k.sqT hM q, k _ _ (ho _ (by simp)) e7⟩
/-! ### a machine's parts as data -/
def prD (pr : List (List Int)) : PyData := .list (pr.map fun c => PyData.tuple (c.map PyData.int))
def specD (S : MS) : PyData := .list [.int S.b, .int S.i, .list (S.gs.map gateD), .list (S.nx.map PyData.int), .list (S.st.map PyData.int), prD S.pr]
theorem fineList {ns : List Int} {l : Nat} (h : ∀ n ∈ ns, n.natAbs ≤ 100) (hl : ns.length ≤ l) : Fine (l * 111) 1 (.list (ns.map PyData.int)) :=
  (Fine.list (n := 110) (m := 0) (l := l) (fun d hd => by obtain ⟨n, hn, rfl⟩ := List.mem_map.mp hd; exact Fine.int n (Nat.lt_of_le_of_lt (h n hn) (by decide))) (by rw [List.length_map]; exact hl))
theorem MOk.gates {S : MS} (ok : MOk S) : ∀ g ∈ S.gs, isWord g.1 ∧ g.2.1.natAbs ≤ 100 ∧ g.2.2.natAbs ≤ 100 := fun g hg => by
  obtain ⟨m, hm⟩ := List.mem_iff_getElem?.mp hg
  have hml : m < S.gs.length := (List.getElem?_eq_some_iff.mp hm).1
  obtain ⟨h1, h2, h3⟩ := ok.ga m g hm
  have := ok.b10; have := ok.i4; have := ok.g24
  exact ⟨h1, by have := h2.2; omega, by have := h3.2; omega⟩
theorem MOk.prLen {S : MS} (ok : MOk S) {c : List Int} (hc : c ∈ S.pr) : c.length ≤ 14 := by
  obtain ⟨u, h⟩ := ok.pra c hc
  have := ok.b10; have := ok.i4
  exact Nat.le_trans (up_len (N := S.b + S.i) u fun n hn => ⟨fun z => by have := (h n hn).1; rw [z] at this; simp at this, (h n hn).2⟩) (by omega)
theorem MOk.fine {S : MS} (ok : MOk S) : Fine 96100 3 (specD S) := by
  have := ok.b10; have := ok.i4; have := ok.g24; have := ok.p8
  refine (Fine.list (n := 16000) (m := 2) (l := 6) (fun d hd => ?_) (by simp)).le (by omega) (by omega)
  simp only [List.mem_cons, List.not_mem_nil, or_false] at hd
  rcases hd with rfl | rfl | rfl | rfl | rfl | rfl
  · exact (Fine.int (m := 0) _ (Nat.lt_of_le_of_lt (m := 100) (by omega) (by decide))).le (by omega) (by omega)
  · exact (Fine.int (m := 0) _ (Nat.lt_of_le_of_lt (m := 100) (by omega) (by decide))).le (by omega) (by omega)
  · exact (fineGates (l := 24) ok.gates (by omega)).le (by omega) (by omega)
  · exact (fineList (l := 10) (fun n hn => by have := (ok.nxa n hn).2; omega) (by rw [ok.nxl]; omega)).le (by omega) (by omega)
  · exact (fineList (l := 10) (fun n hn => by have := (ok.sta n hn).2; omega) ok.stl).le (by omega) (by omega)
  · refine (Fine.list (n := 14 * 111) (m := 1) (l := 8) (fun d hd => ?_) (by rw [List.length_map]; omega)).le (by omega) (by omega)
    obtain ⟨c, hc, rfl⟩ := List.mem_map.mp hd
    exact Fine.tuple (n := 110) (m := 0) (l := 14) (fun e he => by obtain ⟨n, hn, rfl⟩ := List.mem_map.mp he; exact Fine.int n (Nat.lt_of_le_of_lt (m := 100) (by have := ((ok.pra c hc).2 n hn).2; omega) (by decide))) (by rw [List.length_map]; exact ok.prLen hc)
theorem dpTups {K : PySem.W.Frag} {H : Hp} {ca : List Addr} {pr : List (List Int)} (h : TupsV K H ca (pr.map fun c => c.map V.int)) : DpAll K H (ca.map V.ref) (pr.map fun c => PyData.tuple (c.map PyData.int)) := (TupsV.ints.mpr h).dp
theorem SpecAt.dp {K : PySem.W.Frag} {H : Hp} {r : Addr} {S : MS} (h : SpecAt K H r S) : Dp K H (.ref r) (specD S) := by
  obtain ⟨G, N, S1, Pm, q, pa⟩ := h.ex
  obtain ⟨ga, hG, tg⟩ := pa.gs
  obtain ⟨ca, hP, tp⟩ := pa.pr
  exact .lst q (.cons (.int _) (.cons (.int _) (.cons (.lst hG (dpGates tg)) (.cons (.lst pa.nx (dpInts _)) (.cons (.lst pa.st (dpInts _)) (.cons (.lst hP (dpTups tp)) .nil))))))
end KL
namespace KL
open PySem PySem.Spec PyProof.Rows L2
/-! ### enumerate(x, start=k) -/
theorem callWith_typeKw {M : Model} {A : Around} {E : Value → Shared → Prop} {s : Shared} {env : Env} {pos : Pos} {T : String} {e : Expr} {rest : List Expr} {kws : List Keyword} {Q : Value → Shared → Prop}
    (h : wpAny M A (spliced (backTo pos (starEach (e :: rest) env))) (fun vs s₁ => wpAny M A (evalAll ((backToKw pos (keywordEach kws env)).map (·.2)))
      (fun kvs s₂ => wpAny M A (call (.type T) vs (((backToKw pos (keywordEach kws env)).filterMap (·.1)).zip kvs)) Q E s₂) E s₁) E s)
    (he : backTo pos (starEach (e :: rest) env) = (false, eval e env) :: backTo pos (starEach rest env) := by rfl)
    (hplain : (backTo pos (starEach (e :: rest) env)).any (·.1) = false := by rfl)
    (hall : (backToKw pos (keywordEach kws env)).all (·.1.isSome) = true := by rfl)
    (hkw : (backToKw pos (keywordEach kws env)).any (·.1.isNone) = false := by rfl) :
    wpAny M A (callWith pos (.type T) [] (backTo pos (starEach (e :: rest) env)) (backToKw pos (keywordEach kws env))) Q E s := by
  have h2 : wpAny M A (evalArgs (.type T) true (backTo pos (starEach (e :: rest) env)) (backToKw pos (keywordEach kws env))) (fun a s₁ => wpAny M A (call (.type T) ([] ++ a.pos) a.kw) Q E s₁) E s := by
    rw [he] at h ⊢
    exact evalArgs_kwB hall h
  unfold callWith
  refine wpAny_bind (wpAny_holding (wpAny_mono h2 (fun a s₁ h₁ => wpAny_bind (wpAny_standAt ?_)) fun _ _ x => x))
  simp only [hplain, hkw, Bool.or_false]
  refine wpAny_bind (wpAny_pure ?_)
  exact wpAny_bind (wpAny_mono h₁ (fun r s₂ hr => wpAny_bind (wpAny_holding (wpAny_point (wpAny_pure hr)))) fun _ _ x => x)
section
variable {elts : List Expr} {kk : Nat} {tpos : Pos}
def iEnumS (K : PySem.W.Frag) (ta tk : TA) : TI := fun σ H R => ta σ H fun vs H1 => tk σ H1 fun ks H2 => ∃ b a xs k0, vs = [.ref a] ∧ ks = [.int k0] ∧ -(2 ^ 63) ≤ k0 ∧ k0 < 2 ^ 63 ∧ SqB b K H2 a xs ∧ R (IteK b K k0 a) H2
theorem pi_enumS {X : Cx} {e e2 : Expr} {ta tk : TA} {p pos kpos : Pos} (hg : Gl X "enumerate") (hm : X.mg "enumerate" = none) (ha : PA X [e] ta) (hkw : PK X [⟨some "start", e2, kpos⟩] tk) (hs : starEach [e] X.env = [(false, eval e X.env)] := by rfl) :
    PI X (.Tuple elts kk tpos) (.Call (.Name "enumerate" p) [e] [⟨some "start", e2, kpos⟩] pos) (iEnumS X.K ta tk) := by
  refine ⟨fun pins s σ H R I h => ?_⟩
  refine wpAny_Call_Name_kw (ld_blt I hg hm boot_enumerate (callWith_typeKw (thn (ha.run pos pins s σ H _ I h) fun us s0 ⟨vs, H0, I0, r1, q0⟩ => thn (hkw.run pos pins s0 σ H0 _ I0 q0) fun ws s1 ⟨zs, H1, I1, r2, q1⟩ => ?_) (by rw [hs]; rfl) (by rw [hs]; rfl)))
  obtain ⟨b, a, xs, k0, ex, ez, g1, g2, hq, q⟩ := q1
  subst ex ez
  cases r1 with
  | cons r rr =>
  cases rr
  cases r
  cases r2 with
  | cons rz rrz =>
    cases rrz
    obtain ⟨t, rfl⟩ := rz
    have fin : ∀ h', IsEnum h' (s1.heap.objs.size + 1) s1.heap.objs.size k0 .none → (∀ b o, s1.heap.get? b = some o → h'.get? b = some o) → ∀ tn, Turn X.prog X.w X.K (.Tuple elts kk tpos) (IteK b X.K k0 a) [s1.heap.objs.size + 1, s1.heap.objs.size] (s1.heap.objs.size + 1) tn → tn 0 h' →
        wpAny (model X.prog X.w) X.A (pyIter (.ref (s1.heap.objs.size + 1))) (PIE X pins σ (.Tuple elts kk tpos) R) X.xe { s1 with heap := h' } := fun h' he hk tn tu t0 => by
      refine wpAny_pyIter_enum he ?_
      have I2 : Inv X pins σ H1 { s1 with heap := h' } := I1.kept (t' := s1.toks) hk
      refine ⟨s1.heap.objs.size + 1, [s1.heap.objs.size + 1, s1.heap.objs.size], _, _, H1, rfl, I2, tu, t0, fun b hb => ?_, q⟩
      have e' : b = s1.heap.objs.size + 1 ∨ b = s1.heap.objs.size := by simpa using hb
      have hle : s1.heap.objs.size ≤ b := by
        rcases e' with z | z
        · rw [z]; exact Nat.le_add_right _ _
        · rw [z]; exact Nat.le_refl _
      exact I1.fpOk hle (I1.hok.fresh hle)
    have e0 : k0 + ((0 : Nat) : Int) = k0 := by simp
    cases b with
    | true =>
      obtain ⟨its, rv, p', hz⟩ := I1.list hq
      refine enum_begins_start (begins_list a its.toArray) p'.isList g1 g2 fun h' he hit hsz hk => fin h' he hk _ (turn_enumKL k0 a _ _) ⟨⟨.none, by rw [e0]; exact he⟩, ⟨_, hit, rfl, rfl⟩, Nat.succ_ne_self _⟩
    | false =>
      obtain ⟨its, rv, p', hz⟩ := I1.tuple hq
      refine enum_begins_start (begins_tuple a its.toArray) (show s1.heap.IsTuple a its.toArray from p') g1 g2 fun h' he hit hsz hk => fin h' he hk _ (turn_enumKT k0 a _ _) ⟨⟨.none, by rw [e0]; exact he⟩, ⟨_, hit, rfl, rfl⟩, Nat.succ_ne_self _⟩
end
/-! ### a def called by keywords alone -/
def Dk0 (P : Program) (w : World) (K : PySem.W.Frag) (mg : Str → Option Value) (base : Heap) (k : Nat) (x : Str) (ps : List Str) (sp : Sp) (ks : List Str) (gV : List V → List V → List V) : Prop :=
  ∃ (f : Addr) (fd : FuncData) (g : List Value → List Value → List Value), FnOk P w K mg base CX0 k f fd ps sp ∧ PySem.W.keepIn K (.ref f) = true ∧ KBn K fd ps 0 ks g gV ∧ mg x = some (.ref f)
theorem Dk0.mono {P : Program} {w : World} {K : PySem.W.Frag} {mg : Str → Option Value} {base : Heap} {j k : Nat} {x : Str} {ps ks : List Str} {sp : Sp} {gV : List V → List V → List V} (D : Dk0 P w K mg base j x ps sp ks gV) (h : j ≤ k) : Dk0 P w K mg base k x ps sp ks gV :=
  let ⟨f, fd, g, F, r⟩ := D; ⟨f, fd, g, F.mono h, r⟩
theorem pe_dk0 {X : Cx} {k : Nat} {ps ks : List Str} {sp : Sp} {gV : List V → List V → List V} {x : Str} {p pos : Pos} {kws : List Keyword} {tk : TA} (D : Dk0 X.prog X.w X.K X.mg X.base k x ps sp ks gV) (hr : Room k X.A) (hg : Gl X x) (hkw : PK X kws tk)
    (hall : (backToKw pos (keywordEach kws X.env)).all (·.1.isSome) = true := by rfl) (hks : (backToKw pos (keywordEach kws X.env)).filterMap (·.1) = ks := by rfl) (hdb : (x == ("__debug__" : Str)) = false := by decide)
    (hpl : ((backTo pos (starEach [] X.env)).any (·.1) || (backToKw pos (keywordEach kws X.env)).any (·.1.isNone)) = false := by rfl) : PE X (.Call (.Name x p) [] kws pos) (tCallN 0 ks.length sp gV E0 tNil tk) := by
  obtain ⟨f, fd, g, F, kp, b, m⟩ := D
  refine ⟨fun pins s σ H Q I h => ?_⟩
  refine wpAny_Call_Name_kw (ld_glob I hg m ?_ hdb)
  refine PySem.W.callWith_KW0 (h₀ := X.base) I.ok.mod.kin kp hall (thn (hkw.run pos pins s σ H _ I h) fun ws s2 ⟨zs, H2, I2, rz, l1, l2, q2⟩ => ⟨I2.kIn, ?_⟩) hpl
  rw [hks]
  exact run_fnN F hr b L2.pass0 I2 .nil rz l1 l2 q2
end KL
namespace KL
open PySem PySem.Spec PyProof.Rows L2
/-! ### x != y by an own __eq__ -/
section
variable {prog : Program} {w : World} {A : Around} {E : Value → Shared → Prop} {s : Shared} {K : PySem.W.Frag} {x C L f : Addr} {h₀ : Heap} {m : Str → Option Value} {ox : Obj} {od : Option Obj} {b tb : Value}
theorem ifBoundB_K {M : Model} {name : Str} {id T : String} {args : List Value} {Q : Option Value → Shared → Prop} (X : K.In s.heap) (I : PySem.W.InstAt s.heap x ox C od) (hs : PySem.W.findIn K (.ref C) name = some (some (.builtin id))) (S : Slot T name id)
    (h : wpAny M A (call (.builtin id) (.ref x :: args)) (fun v => Q (some v)) E s) : wpAny M A (callSpecialIfBound? (.ref x) name args) Q E s := by
  simp only [callSpecialIfBound?, bindSpecialIfBound?]
  refine wpAny_holding (wpAny_bind (wpAny_bind (wpAny_bind (I.type.here ((PySem.W.looks_findIn X hs).here ?_)))))
  simp only [S.bind]
  refine wpAny_bind (wpAny_askSetting (wpAny_ite ?_))
  have fin : wpAny M A (call (.builtin id) ([.ref x] ++ args) >>= fun v => pure (some v)) Q E s := wpAny_bind (wpAny_mono h (fun v s' h' => wpAny_pure h') fun _ _ h' => h')
  split
  · exact wpAny_bind (wpAny_pure (wpAny_pure fin))
  · exact wpAny_tryCatch (wpAny_bind (wpAny_pure (wpAny_pure fin)))
theorem check_K {M : Model} {id owner n : String} {rest : List Value} {Q : Unit → Shared → Prop} (X : K.In s.heap) (I : PySem.W.InstAt s.heap x ox C od) (hk : builtinKind id = some .slot) (hs : splitId id = some (owner, n))
    (ha : argsOk id ⟨.ref x :: rest, []⟩) (ho : PySem.W.subIn K (.ref C) (.type owner) = some true) (hq : Q () s) : wpAny M A (checkBuiltinCall id ⟨.ref x :: rest, []⟩) Q E s := by
  simp only [checkBuiltinCall, hk, hs]
  refine wpAny_bind ?_
  unfold isInstance
  refine wpAny_bind (I.type.here ((PySem.W.looks_subIn X ho).here ?_))
  cases hsig : Manifest.signature? id with
  | none => exact wpAny_pure hq
  | some sig =>
    simp only [argsOk, hsig] at ha
    have h2 : Bind.checkArgs id sig ⟨.ref x :: rest, []⟩ = pure () := ha
    show wpAny M A (Bind.checkArgs id sig ⟨.ref x :: rest, []⟩) Q E _
    rw [h2]; exact wpAny_pure hq
theorem ne_K {Q : Value → Shared → Prop} (hu : A.units + 1 < cLine) (F : Fr h₀ L s.heap m) (X₀ : K.In h₀) (I : PySem.W.InstAt s.heap x ox C od) (hb : PySem.W.Looks (model prog w) s.heap (typeOf b) tb) (hn : PySem.W.notFirst K C tb = true)
    (hne : PySem.W.findIn K (.ref C) "__ne__" = some (some (.builtin "object.__ne__"))) (hs : PySem.W.findIn K (.ref C) "__eq__" = some (some (.ref f))) (hf : PySem.W.isFn K (.ref f) = true) (ho : PySem.W.subIn K (.ref C) (.type "object") = some true)
    (h : wpAny (model prog w) A.in1 (call (.ref f) [.ref x, b]) (fun v s' => ∃ r, v = .bool r ∧ Q (.bool (!r)) s') E s) : wpAny (model prog w) A (richCompare .NotEq (.ref x) b) Q E s := by
  have X := X₀.keeps F.keep
  have entry : ∀ {Q' : Fin → Shared → Prop}, wpAny (model prog w) A.in1 (call (.ref f) [.ref x, b]) (fun v s' => ∃ r, v = .bool r ∧ Q' (.done (.ret (.bool (!r)))) s') E s → wpAny (model prog w) A.in1 (Builtin.«object.__ne__» ⟨[.ref x, b], []⟩) Q' E s := by
    intro Q' h'
    unfold Builtin.«object.__ne__»
    repeat (first
      | with_reducible refine wpAny_cRoomFor hu ?_
      | (refine wpAny_bind (m := callSpecialIfBound? (.ref x) (Str.ofString "__eq__") [b])
          (PySem.W.ifBound_K X I hs hf (wpAny_mono h' (fun r s' hr => by
            obtain ⟨b, rfl, hq⟩ := hr
            repeat (first | exact hq | exact wpAny_pure hq | exact wpAny_truthy_bool hq | (refine wpAny_bind (m := truthy (.bool _)) (wpAny_truthy_bool ?_)) | wp_step)) fun _ _ e => e)))
      | wp_step)
  have one : wpAny (model prog w) A (tryCompare (.ref x) "__ne__" b) (fun r s' => ∃ v, r = some v ∧ Q v s') E s := by
    simp only [tryCompare]
    refine wpAny_bind (ifBoundB_K X I hne PySem.F.cmp_object.ne (wpAny_call (codeAny_call_builtin PySem.F.cmp_object.ne.plain PySem.F.cmpEntry_ne (check_K X I PySem.F.cmpKind_ne PySem.F.cmpSplit_ne (PySem.F.cmpArgs_ne _ _) ho (entry (wpAny_mono h (fun v s' hv => ?_) fun _ _ e => e))))))
    obtain ⟨r, rfl, hq⟩ := hv
    first | exact ⟨r, rfl, wpAny_pure ⟨_, rfl, hq⟩⟩ | exact ⟨r, rfl, wpAny_pure (wpAny_pure ⟨_, rfl, hq⟩)⟩ | exact ⟨r, rfl, ⟨_, rfl, hq⟩⟩
  unfold richCompare
  simp only [oneThing_ref]
  refine wpAny_holding (wpAny_bind (wpAny_cRoomFor (Nat.lt_of_succ_lt hu) ?_))
  rw [cmpInfo_NotEq]
  dsimp only
  refine wpAny_bind (I.type.here (wpAny_bind (hb.here ?_)))
  split
  · rename_i q
    have e : PySem.W.subIn K tb (.ref C) = some false := by
      rcases Bool.or_eq_true_iff.mp hn with e | e
      · rw [beq_iff_eq.mp e] at q; simp at q
      · exact beq_iff_eq.mp e
    refine wpAny_bind ((PySem.W.looks_subIn X e).here ?_)
    simp only [Bool.false_eq_true, if_false]
    refine wpAny_bind (wpAny_mono one (fun r s' z => ?_) fun _ _ e => e)
    obtain ⟨v, rfl, hq⟩ := z
    exact wpAny_pure hq
  · refine wpAny_bind (wpAny_pure ?_)
    simp only [Bool.false_eq_true, if_false]
    refine wpAny_bind (wpAny_mono one (fun r s' z => ?_) fun _ _ e => e)
    obtain ⟨v, rfl, hq⟩ := z
    exact wpAny_pure hq
end

/-- the own __eq__ of the class at C, and no own __ne__ -/
def De (P : Program) (w : World) (K : PySem.W.Frag) (mg : Str → Option Value) (base : Heap) (k : Nat) (C : Addr) (ps : List Str) (sp : Sp) : Prop :=
  ∃ (f : Addr) (fd : FuncData), FnOk P w K mg base CX0 k f fd ps sp ∧ PySem.W.findIn K (.ref C) "__eq__" = some (some (.ref f)) ∧ PySem.W.isFn K (.ref f) = true ∧ Binds K fd ps [] ∧
    PySem.W.findIn K (.ref C) "__ne__" = some (some (.builtin "object.__ne__")) ∧ PySem.W.subIn K (.ref C) (.type "object") = some true
def rNeO (C : Addr) (sp : Sp) : R2 := fun x y H Q => ∃ a b dx dy fs gs, x = .ref a ∧ y = .ref b ∧ H a = some (.ins C dx fs) ∧ H b = some (.ins C dy gs) ∧ sp [.ref a, .ref b] H (fun v H' => ∃ r, v = .bl r ∧ Q (.bl (!r)) H') E0
theorem op_neO {X : Cx} {k : Nat} {C : Addr} {ps : List Str} {sp : Sp} (D : De X.prog X.w X.K X.mg X.base k C ps sp) (hr : Room (k + 1) X.A) : OpR X (compareOp .NotEq) (rNeO C sp) := by
  intro pins s σ H x y v u Q I rx ry h
  obtain ⟨a, b, dx, dy, fs, gs, rfl, rfl, ha, hb', hsp⟩ := h
  obtain ⟨f, fd, F, hs, hf, hb, hne, ho⟩ := D
  cases rx
  cases ry
  obtain ⟨mA, J, _⟩ := ins_get I.hok ha
  obtain ⟨mB, J', _⟩ := ins_get I.hok hb'
  obtain ⟨od, J, _⟩ := J.look
  obtain ⟨od', J', _⟩ := J'.look
  obtain ⟨m, hF⟩ := I.fr
  have hu := units65 hr
  show wpAny (model X.prog X.w) X.A (richCompare .NotEq (.ref a) (.ref b)) (EP X pins σ Q) X.xe s
  refine ne_K (tb := .ref C) (by omega) hF I.ok.mod.kin J J'.type (by simp [PySem.W.notFirst]) hne hs hf ho ?_
  have e0 : Env0 X.prog X.w X.K X.mg X.base X.A.in1 X.stack s H := I.env0.in1
  have hl := F.len _ _ _ _ hsp
  have r2 : Vals [V.ref a, V.ref b] [Value.ref a, Value.ref b] := .cons rfl (.cons rfl .nil)
  refine wpAny_call (codeAny_mono (F.run X.A.in1 X.stack s H ⟨[.ref a, .ref b], []⟩ [.ref a, .ref b] [.ref a, .ref b] _ E0 hr.in1 e0 (by
    have := hb s [.ref a, .ref b] I.kIn (by simpa using hl)
    simpa using this) r2 hsp) fun r s' hq => ?_)
  cases r with
  | error e => exact L2.pass0 pins σ H s e s' I hq
  | ok fl =>
    cases fl with
    | ret w =>
      obtain ⟨z, H', I', rz, n, ez, q⟩ := I.after hq
      subst ez
      cases rz
      exact ⟨n, rfl, .bl (!n), H', I', rfl, q⟩
    | next => exact False.elim hq
    | brk => exact False.elim hq
    | cont => exact False.elim hq
/-! ### sorted(set of pairs of ints) -/
def prL (l : List Int) : Int × Int := (l.getD 0 0, l.getD 1 0)
theorem isPair_of {h : Heap} {v : Value} {ns : List Int} (x : TS.TupInts h v ns) (hl : ns.length = 2) : Srt.IsPair h v (prL ns).1 (prL ns).2 := by
  obtain ⟨a, xs, rfl, ⟨o, ho, hc, n, hd⟩, i⟩ := x
  match ns, hl with
  | [p, q], _ =>
    have : ∃ t u, xs = #[.int p t, .int q u] := by
      obtain ⟨l⟩ := xs
      have i' : IntsAre l [p, q] := i
      cases i' with
      | cons _ t i2 =>
        cases i2 with
        | cons _ u i3 =>
          cases i3
          exact ⟨t, u, rfl⟩
    obtain ⟨t, u, rfl⟩ := this
    exact ⟨a, o, t, u, n, rfl, ho, hc, hd⟩
section
variable {P : Program} {w : World} {A : Around} {E : Value → Shared → Prop} {s : Shared}
theorem sorted_setP {a : Addr} {L : List (Addr × List Int)} {es : Array (Int × Value)} {ep : Nat} {t : SetTable} {Q : Value → Shared → Prop} (R : SetTR P w s.heap a L es ep t) (hh : A.handled = none)
    (hB : ∀ p ∈ L, p.2.length = 2)
    (hQ : ∀ s' p (out : Array Value) (c : Nat) (L' : List (Addr × List Int)), (∀ b o, s.heap.get? b = some o → s'.heap.get? b = some o) → s'.gens = s.gens → s'.os = s.os → s.heap.objs.size ≤ p →
      s'.heap.get? p = some (seqObj "list" out c) → out.toList = L'.map (fun q => Value.ref q.1) → L'.Perm L → L'.Pairwise (fun q r => SrtO.lexB (prL r.2) (prL q.2) = false) → Q (.ref p) s') :
    wpAny (model P w) A (call (.builtin "sorted") [.ref a]) Q E s := by
  obtain ⟨o, ho, hex, hd⟩ := R.ob
  have hsz := R.size
  have hfew := R.few
  refine Calls.call_function_entry kind_sorted plain_sorted entry_sorted (args_sorted1 _) ?_
  unfold Builtin.«sorted»
  refine wpAny_bind (m := checkCount "sorted" 1 1 _) (wpAny_pure ?_)
  refine wpAny_bind (collect_set (A := A.in1) hh ⟨o, ho, hex.1, hd⟩ R.fits (by unfold scanBound; omega) R.tab.ris R.led fun s1 vs k1 hz g1 o1 pm => ?_)
  have hes : es.toList.map (·.2) = L.map fun q => Value.ref q.1 := by
    rw [R.rows]
    unfold rowsOf
    rw [List.map_map] <;> rfl
  rw [hes] at pm
  have ord : ∀ vs : List Value, (∀ v ∈ vs, ∃ q ∈ L, v = Value.ref q.1) → ∃ L1 : List (Addr × List Int), vs = L1.map (fun q => Value.ref q.1) ∧ ∀ q ∈ L1, q ∈ L := by
    intro vs
    induction vs with
    | nil => intro _; exact ⟨[], rfl, fun q hq => (by cases hq)⟩
    | cons v vs ih =>
      intro hv
      obtain ⟨q, hq, e⟩ := hv v List.mem_cons_self
      obtain ⟨L1, e1, hs⟩ := ih fun u hu => hv u (List.mem_cons_of_mem _ hu)
      refine ⟨q :: L1, by rw [List.map_cons, e, e1], fun r hr => ?_⟩
      rcases List.mem_cons.mp hr with z | z
      · rw [z]; exact hq
      · exact hs r z
  have one : ∀ q ∈ L, ∀ r ∈ L, q.1 = r.1 → q = r := fun q hq r hr e => by
    have a1 := R.tup q hq
    have a2 := R.tup r hr
    rw [e] at a1
    have e2 : q.2 = r.2 := a1.inj a2
    exact Prod.ext e e2
  have perm_of : ∀ L1 : List (Addr × List Int), (∀ q ∈ L1, q ∈ L) → (L1.map (fun q => Value.ref q.1)).Perm (L.map fun q => Value.ref q.1) → L1.Perm L := by
    intro L1 hs pm1
    have nL : L.Nodup := nodup_of_map R.nd
    have nref : (L.map fun q => Value.ref q.1).Nodup := by
      refine List.pairwise_map.mpr (List.Pairwise.imp_of_mem (fun {q r} hq hr hne e => ?_) nL)
      injection e with e
      exact hne (one q hq r hr e)
    have n1 : L1.Nodup := nodup_of_map (pm1.nodup_iff.mpr nref)
    refine (List.perm_ext_iff_of_nodup n1 nL).mpr fun q => ⟨hs q, fun hq => ?_⟩
    have hm : Value.ref q.1 ∈ L1.map (fun q => Value.ref q.1) := pm1.mem_iff.mpr (List.mem_map.mpr ⟨q, hq, rfl⟩)
    obtain ⟨r, hr, e⟩ := List.mem_map.mp hm
    injection e with e
    rw [← one r (hs r hr) q hq e]
    exact hr
  have hvl : vs.length < 64 := by rw [pm.length_eq, List.length_map]; exact hfew
  have hzl : vs.length ≤ sizeLine := by rw [sizeLine_eq]; omega
  refine wpAny_bind (wpAny_newList ?_ hzl)
  have hoL : (s1.heap.push (seqObj "list" vs.toArray 0)).get? s1.heap.objs.size = some (seqObj "list" vs.toArray 0) := Heap.get?_push_size _ rfl
  have tk : ∀ q ∈ L, TS.TupInts (s1.heap.push (seqObj "list" vs.toArray 0)) (.ref q.1) q.2 := fun q hq => tupInts_of (P := P) (w := w) (isT_keep (R.tup q hq) fun b u e => Heap.get?_push_of_some _ (k1 b u e))
  let kk : Value → Int × Int := fun v => prL (TS.intsOf (s1.heap.push (seqObj "list" vs.toArray 0)) v)
  have x : ∀ v ∈ vs, Srt.IsPair (s1.heap.push (seqObj "list" vs.toArray 0)) v (kk v).1 (kk v).2 := fun v hv => by
    obtain ⟨q, hq, e⟩ := List.mem_map.mp (pm.mem_iff.mp hv)
    rw [← e]
    show Srt.IsPair _ _ (prL (TS.intsOf _ _)).1 (prL (TS.intsOf _ _)).2
    rw [(tk q hq).ints]
    exact isPair_of (tk q hq) (hB q hq)
  refine wpAny_bind (wpAny_holding (wpAny_call_entry slot_list_sort ⟨_, hoL, rfl⟩ entry_list_sort (SrtO.list_sort_ord (s := { s1 with heap := s1.heap.push (seqObj "list" vs.toArray 0) }) (SrtO.swo_lex kk) hoL hzl (fun h2 => SrtO.pairs_sortableO (s := { s1 with heap := s1.heap.push (seqObj "list" vs.toArray 0) }) (by omega) x (fun o e => ?_)) fun out a2 a1 => ⟨_, rfl, ?_⟩) (args_list_sort _)))
  · have e' : some o = some (seqObj "list" vs.toArray 0) := e.symm.trans hoL
    cases e'
    intro c
    exact absurd (Value.type.inj c) (by decide)
  obtain ⟨c, hc⟩ := sortedHeap_at (vs := vs) (out := out.toArray) hoL
  obtain ⟨L', e', hs'⟩ := ord out fun v hv => by
    obtain ⟨q, hq, e⟩ := List.mem_map.mp (pm.mem_iff.mp (a1.perm.mem_iff.mp hv))
    exact ⟨q, hq, e.symm⟩
  have pL : L'.Perm L := perm_of L' hs' (by rw [← e']; exact a1.perm.trans pm)
  have pw : L'.Pairwise (fun q r => SrtO.lexB (prL r.2) (prL q.2) = false) := by
    rw [e'] at a2
    refine List.Pairwise.imp_of_mem (fun {q r} hq hr hle => ?_) (List.pairwise_map.mp a2)
    have f1 : TS.intsOf (s1.heap.push (seqObj "list" vs.toArray 0)) (.ref q.1) = q.2 := (tk q (hs' q hq)).ints
    have f2 : TS.intsOf (s1.heap.push (seqObj "list" vs.toArray 0)) (.ref r.1) = r.2 := (tk r (hs' r hr)).ints
    rw [← f1, ← f2]
    exact hle
  refine wpAny_pure ⟨_, rfl, hQ _ s1.heap.objs.size out.toArray c L' (fun b u e => ?_) g1 o1 hz hc (by simpa using e') pL pw⟩
  have q := k1 b u e
  have hlt := Heap.lt_size q
  show (sortedHeap (s1.heap.push (seqObj "list" vs.toArray 0)) s1.heap.objs.size vs out.toArray).get? b = some u
  rw [sortedHeap_old (Nat.ne_of_lt hlt) (by rw [size_push']; exact Nat.lt_succ_of_lt hlt)]
  exact Heap.get?_push_of_some _ q
end
def rSortedSP (K : PySem.W.Frag) (P : Program) (w : World) : List V → Hp → VK → Prop := fun vs H Q => ∃ (a : Addr) (L : List (Addr × List Int)), vs = [V.ref a] ∧ H a = some (SetTO P w a L) ∧ (∀ p ∈ L, SqT K H p.1 (p.2.map V.int)) ∧
  (∀ p ∈ L, p.2.length = 2) ∧
  ∀ (L' : List (Addr × List Int)) (p : Addr), L'.Perm L → (L'.map (·.2)).Nodup → L'.length < 64 → L'.Pairwise (fun q r => SrtO.lexB (prL r.2) (prL q.2) = false) → H p = none → Q (.ref p) (upd H p (.lst (L'.map fun q => V.ref q.1)))
theorem cr_sortedSP {X : Cx} (hc : X.calm = true) : CallR X (.builtin "sorted") (rSortedSP X.K X.prog X.w) := by
  intro pins s σ H vs us Q I r h
  obtain ⟨a, L, rfl, ha, hk, hB, q⟩ := h
  have R0 : SetT0 X.prog X.w s.heap a L := (I.hok a _ ha).1
  obtain ⟨es, ep, t, R⟩ := R0.full fun p hp => I.isT (hk p hp)
  rw [Vals.ref1 r]
  refine sorted_setP R (I.ok.hd hc) hB fun s' p out c L' k g o hp hg hout pm pw => ?_
  have hfew : L'.length < 64 := by rw [pm.length_eq]; exact R.few
  have hlen : (L'.map fun q => V.ref q.1).length ≤ sizeLine := by rw [List.length_map, sizeLine_eq]; omega
  have hn : H p = none := I.hok.fresh hp
  have hv : Vals (L'.map fun q => V.ref q.1) out.toList := by rw [hout]; exact vals_of_refs L'
  have J : Inv X pins σ (upd H p (.lst (L'.map fun q => V.ref q.1))) { s with heap := s'.heap, gens := s'.gens, drawn := s'.drawn, toks := s'.toks } :=
    I.call (ch := []) (Un.laid k hp hn) (I.hok.laid k hp ⟨hlen, out.toList, c, hv, hg⟩) (by rw [g]; exact I.bare) (fun _ z => nomatch z)
  have e : s' = { s with heap := s'.heap, gens := s'.gens, drawn := s'.drawn, toks := s'.toks } := by
    cases s'
    cases s
    cases o
    rfl
  rw [e]
  exact ⟨.ref p, _, J, rfl, q L' p pm ((pm.map (·.2)).nodup_iff.mpr R.nd) hfew pw hn⟩
theorem cr_setOfT' {X : Cx} {K : PySem.W.Frag} (e : X.K = K) (hc : X.calm = true) (hu : X.A.units + 64 < cLine) : CallR X (.type "set") (rSetOfT K X.prog X.w) := e ▸ cr_setOfT hc hu
theorem cr_sortedSP' {X : Cx} {K : PySem.W.Frag} (e : X.K = K) (hc : X.calm = true) : CallR X (.builtin "sorted") (rSortedSP K X.prog X.w) := e ▸ cr_sortedSP hc
end KL
namespace KL
open PySem PySem.Spec PyProof.Rows L2
theorem cr_setOfT2 {X : Cx} {P : Program} {w : World} (eP : X.prog = P) (ew : X.w = w) (hc : X.calm = true) (hu : X.A.units + 64 < cLine) : CallR X (.type "set") (rSetOfT X.K P w) := by
  subst eP ew; exact cr_setOfT hc hu
theorem cr_sortedSP2 {X : Cx} {P : Program} {w : World} (eP : X.prog = P) (ew : X.w = w) (hc : X.calm = true) : CallR X (.builtin "sorted") (rSortedSP X.K P w) := by
  subst eP ew; exact cr_sortedSP hc
/-! ### drawn parts, the last of which is a list of its own -/
structure SpecX (K : PySem.W.Frag) (H : Hp) (r : Addr) (S : MS) : Prop where
  ex : ∃ (G N S1 Pm : Addr) (ca : List Addr), SqL K H r [.int S.b, .int S.i, .ref G, .ref N, .ref S1, .ref Pm] ∧ PartsAt K H S true true G N S1 Pm ∧ H Pm = some (.lst (ca.map V.ref)) ∧ TupsV K H ca (S.pr.map fun c => c.map V.int)
theorem SpecX.same {K : PySem.W.Frag} {H H' : Hp} {r : Addr} {S : MS} (h : SpecX K H r S) (s : Same H H') : SpecX K H' r S := let ⟨G, N, S1, Pm, ca, q, pa, e, t⟩ := h.ex; ⟨G, N, S1, Pm, ca, s.seq q, pa.same s, s _ _ e, t.same s⟩
theorem SpecX.spec {K : PySem.W.Frag} {H : Hp} {r : Addr} {S : MS} (h : SpecX K H r S) : SpecAt K H r S := let ⟨G, N, S1, Pm, _, q, pa, _, _⟩ := h.ex; ⟨G, N, S1, Pm, q, pa⟩
/-! ### the clause of some signs, or none -/
open Classical in
noncomputable def clF (ns : List Int) : Option (List Int) := if h : ∃ cs, ¬ Both ns ∧ ClOf ns cs then some (Classical.choose h) else none
theorem clF_none {ns : List Int} (h : Both ns) : clF ns = none := by
  unfold clF
  rw [dif_neg]
  rintro ⟨_, h', _⟩
  exact h' h
theorem clF_some {ns cs : List Int} (h : ¬ Both ns) (c : ClOf ns cs) : clF ns = some cs := by
  have hx : ∃ cs, ¬ Both ns ∧ ClOf ns cs := ⟨cs, h, c⟩
  unfold clF
  rw [dif_pos hx]
  exact congrArg some (ClOf.eq (Classical.choose_spec hx).2 c)
theorem clF_up {c : List Int} (u : Up c) (h0 : ∀ n ∈ c, n ≠ 0) : clF c = some c := by
  refine clF_some ?_ ⟨u, fun m => Iff.rfl⟩
  rintro ⟨n, h1, h2⟩
  have := up_eq u h1 h2 (by omega)
  have := h0 n h1
  omega
theorem clF_of {H H' : Hp} {ns : List Int} {v : V} (h : CRes H ns v H') : (v = .non ∧ clF ns = none) ∨ ∃ r cs, v = .ref r ∧ H r = none ∧ H' r = some (.tup (cs.map V.int)) ∧ clF ns = some cs := by
  rcases h with ⟨h1, h2⟩ | ⟨r, cs, h1, h2, h3, h4, h5⟩
  · exact .inl ⟨h1, clF_none h2⟩
  · exact .inr ⟨r, cs, h1, h2, h3, clF_some h4 h5⟩
theorem clF_inv {ns cs : List Int} (h : clF ns = some cs) : ¬ Both ns ∧ ClOf ns cs := by
  unfold clF at h
  split at h
  · next hx =>
    obtain rfl := Option.some.inj h
    exact Classical.choose_spec hx
  · cases h
/-! ### the clauses of gates and of boxes behind, as signs -/
def gcl (wd : Str) (g a b : Int) : List (List Int) := if wd = Str.ofString "and" then [[-g, a], [-g, b], [g, -a, -b]] else if wd = Str.ofString "or" then [[g, -a], [g, -b], [-g, a, b]] else [[-g, a, b], [-g, -a, -b], [g, -a, b], [g, a, -b]]
theorem gcl_all {wd : Str} {g a b : Int} {ns : List Int} (h : ns ∈ gcl wd g a b) : ns.length ≤ 3 ∧ ∀ n ∈ ns, n.natAbs = g.natAbs ∨ n.natAbs = a.natAbs ∨ n.natAbs = b.natAbs := by
  unfold gcl at h
  split at h
  · simp only [List.mem_cons, List.not_mem_nil, or_false] at h
    rcases h with rfl | rfl | rfl <;> refine ⟨by simp, fun n hn => ?_⟩ <;> simp only [List.mem_cons, List.not_mem_nil, or_false] at hn <;> omega
  · split at h
    · simp only [List.mem_cons, List.not_mem_nil, or_false] at h
      rcases h with rfl | rfl | rfl <;> refine ⟨by simp, fun n hn => ?_⟩ <;> simp only [List.mem_cons, List.not_mem_nil, or_false] at hn <;> omega
    · simp only [List.mem_cons, List.not_mem_nil, or_false] at h
      rcases h with rfl | rfl | rfl | rfl <;> refine ⟨by simp, fun n hn => ?_⟩ <;> simp only [List.mem_cons, List.not_mem_nil, or_false] at hn <;> omega
theorem gcl_len (wd : Str) (g a b : Int) : (gcl wd g a b).length ≤ 4 := by
  unfold gcl; split
  · simp
  · split <;> simp
def gRaw (n0 : Nat) (gs : List (Str × Int × Int)) : List (List Int) := (gs.mapIdx fun j g => gcl g.1 ((n0 + j + 1 : Nat) : Int) g.2.1 g.2.2).flatten
def nRaw (M : Nat) (nx : List Int) : List (List Int) := (nx.mapIdx fun j s => [[-((M + 1 + j : Nat) : Int), s], [((M + 1 + j : Nat) : Int), -s]]).flatten
theorem gRaw_snoc (n0 : Nat) (gs : List (Str × Int × Int)) (g : Str × Int × Int) : gRaw n0 (gs ++ [g]) = gRaw n0 gs ++ gcl g.1 ((n0 + gs.length + 1 : Nat) : Int) g.2.1 g.2.2 := by
  unfold gRaw
  rw [List.mapIdx_append, List.flatten_append]
  simp
theorem nRaw_snoc (M : Nat) (nx : List Int) (s : Int) : nRaw M (nx ++ [s]) = nRaw M nx ++ [[-((M + 1 + nx.length : Nat) : Int), s], [((M + 1 + nx.length : Nat) : Int), -s]] := by
  unfold nRaw
  rw [List.mapIdx_append, List.flatten_append]
  simp [Nat.add_comm, Nat.add_left_comm]
theorem snoc_ind {α : Type} {P : List α → Prop} (h0 : P []) (h1 : ∀ l x, P l → P (l ++ [x])) (l : List α) : P l := by
  have : ∀ j, j ≤ l.length → P (l.take j) := by
    intro j
    induction j with
    | zero => intro _; exact h0
    | succ j ih =>
      intro h
      rw [List.take_succ_eq_append_getElem (by omega)]
      exact h1 _ _ (ih (by omega))
  have q := this l.length (Nat.le_refl _)
  rwa [List.take_length] at q
theorem gRaw_len (n0 : Nat) (gs : List (Str × Int × Int)) : (gRaw n0 gs).length ≤ 4 * gs.length := by
  refine snoc_ind (P := fun gs => (gRaw n0 gs).length ≤ 4 * gs.length) (Nat.le_refl _) (fun gs g ih => ?_) gs
  rw [gRaw_snoc, List.length_append, List.length_append]
  have := gcl_len g.1 ((n0 + gs.length + 1 : Nat) : Int) g.2.1 g.2.2
  simp only [List.length_cons, List.length_nil]
  omega
theorem nRaw_len (M : Nat) (nx : List Int) : (nRaw M nx).length = 2 * nx.length := by
  refine snoc_ind (P := fun nx => (nRaw M nx).length = 2 * nx.length) rfl (fun nx s ih => ?_) nx
  rw [nRaw_snoc, List.length_append, List.length_append, ih]
  simp only [List.length_cons, List.length_nil]
  omega
theorem mem_gRaw {n0 : Nat} {gs : List (Str × Int × Int)} {ns : List Int} (h : ns ∈ gRaw n0 gs) : ∃ (j : Nat) (g : Str × Int × Int), gs[j]? = some g ∧ ns ∈ gcl g.1 ((n0 + j + 1 : Nat) : Int) g.2.1 g.2.2 := by
  unfold gRaw at h
  obtain ⟨l, h1, h2⟩ := List.mem_flatten.mp h
  obtain ⟨j, hj, rfl⟩ := List.mem_mapIdx.mp h1
  exact ⟨j, gs[j], List.getElem?_eq_getElem hj, h2⟩
theorem mem_nRaw {M : Nat} {nx : List Int} {ns : List Int} (h : ns ∈ nRaw M nx) : ∃ (j : Nat) (s : Int), nx[j]? = some s ∧ (ns = [-((M + 1 + j : Nat) : Int), s] ∨ ns = [((M + 1 + j : Nat) : Int), -s]) := by
  unfold nRaw at h
  obtain ⟨l, h1, h2⟩ := List.mem_flatten.mp h
  obtain ⟨j, hj, rfl⟩ := List.mem_mapIdx.mp h1
  simp only [List.mem_cons, List.not_mem_nil, or_false] at h2
  exact ⟨j, nx[j], List.getElem?_eq_getElem hj, h2⟩
def lawRaw (S : MS) : List (List Int) := gRaw (S.b + S.i) S.gs ++ nRaw (S.b + S.i + S.gs.length) S.nx
def rawOf (S : MS) : List (List Int) := lawRaw S ++ S.pr
noncomputable def beatOf (S : MS) : List (List Int) := (rawOf S).filterMap clF
theorem lawRaw_ok {S : MS} (ok : MOk S) {ns : List Int} (h : ns ∈ lawRaw S) : ns.length ≤ 3 ∧ ∀ n ∈ ns, n ≠ 0 ∧ n.natAbs ≤ 60 := by
  have b1 := ok.b1
  have b10 := ok.b10
  have i4 := ok.i4
  have g24 := ok.g24
  rcases List.mem_append.mp h with h | h
  · obtain ⟨j, g, hg, hm⟩ := mem_gRaw h
    obtain ⟨_, s1, s2⟩ := ok.ga j g hg
    have hj := (List.getElem?_eq_some_iff.mp hg).1
    obtain ⟨l, a⟩ := gcl_all hm
    refine ⟨l, fun n hn => ?_⟩
    have e1 := s1.1
    have e2 := s1.2
    have e3 := s2.1
    have e4 := s2.2
    rcases a n hn with z | z | z <;> constructor <;> omega
  · obtain ⟨j, s, hs, hm⟩ := mem_nRaw h
    have hj := (List.getElem?_eq_some_iff.mp hs).1
    have hn := ok.nxa s (List.mem_of_getElem? hs)
    have e1 := hn.1
    have e2 := hn.2
    have e3 := ok.nxl
    rcases hm with rfl | rfl <;> refine ⟨by simp, fun n hn => ?_⟩ <;> simp only [List.mem_cons, List.not_mem_nil, or_false] at hn <;> rcases hn with z | z <;> constructor <;> omega
theorem rawOf_ok {S : MS} (ok : MOk S) {ns : List Int} (h : ns ∈ rawOf S) : ns.length ≤ 14 ∧ ∀ n ∈ ns, n ≠ 0 ∧ n.natAbs ≤ 60 := by
  rcases List.mem_append.mp h with h | h
  · have := lawRaw_ok ok h
    exact ⟨by omega, this.2⟩
  · have b10 := ok.b10
    have i4 := ok.i4
    refine ⟨ok.prLen h, fun n hn => ?_⟩
    have := (ok.pra ns h).2 n hn
    constructor <;> omega
theorem rawOf_len {S : MS} (ok : MOk S) : (rawOf S).length ≤ 4 * S.gs.length + 2 * S.b + 8 := by
  unfold rawOf lawRaw
  rw [List.length_append, List.length_append, nRaw_len, ok.nxl]
  have := gRaw_len (S.b + S.i) S.gs
  have := ok.p8
  omega
theorem beat_law {S : MS} (ok : MOk S) : beatOf S = (lawRaw S).filterMap clF ++ S.pr := by
  unfold beatOf rawOf
  rw [List.filterMap_append]
  congr 1
  have hp : ∀ c ∈ S.pr, clF c = some c := fun c hc => by
    have b1 := ok.b1
    exact clF_up (ok.pra c hc).1 fun n hn => by have := (ok.pra c hc).2 n hn; omega
  generalize S.pr = l at hp
  induction l with
  | nil => rfl
  | cons c l ih => rw [List.filterMap_cons, hp c List.mem_cons_self, ih fun c hc => hp c (List.mem_cons_of_mem _ hc)]
theorem beat_mem {S : MS} (ok : MOk S) {c : List Int} (h : c ∈ beatOf S) : c.length ≤ 14 ∧ ∀ n ∈ c, n ≠ 0 ∧ n.natAbs ≤ 60 := by
  obtain ⟨ns, h1, h2⟩ := List.mem_filterMap.mp h
  obtain ⟨l, a⟩ := rawOf_ok ok h1
  obtain ⟨_, c2⟩ := clF_inv h2
  exact ⟨Nat.le_trans c2.len l, fun n hn => a n ((c2.mem n).mp hn)⟩
theorem beat_len {S : MS} (ok : MOk S) : (beatOf S).length ≤ 4 * S.gs.length + 2 * S.b + 8 := Nat.le_trans (List.length_filterMap_le _ _) (rawOf_len ok)
theorem beat_fine {S : MS} (ok : MOk S) {l : Nat} (hl : 4 * S.gs.length + 2 * S.b + 8 ≤ l) : Fine (l * 1555) 2 (prD (beatOf S)) := by
  refine Fine.list (n := 1554) (m := 1) (fun d hd => ?_) (by rw [List.length_map]; exact Nat.le_trans (beat_len ok) hl)
  obtain ⟨c, hc, rfl⟩ := List.mem_map.mp hd
  have := beat_mem ok hc
  exact Fine.tuple (n := 110) (m := 0) (l := 14) (fineInts (B := 0) fun n hn => Nat.lt_of_le_of_lt (this.2 n hn).2 (by decide)) (by rw [List.length_map]; exact this.1)
/-! ### values that are none or tuples of ints -/
inductive OptsV (K : PySem.W.Frag) (H : Hp) : List V → List (Option (List Int)) → Prop
  | nil : OptsV K H [] []
  | non {xs : List V} {os : List (Option (List Int))} : OptsV K H xs os → OptsV K H (.non :: xs) (none :: os)
  | ref {c : Addr} {cs : List Int} {xs : List V} {os : List (Option (List Int))} : SqT K H c (cs.map V.int) → OptsV K H xs os → OptsV K H (.ref c :: xs) (some cs :: os)
section
variable {K : PySem.W.Frag} {H H' : Hp} {xs : List V} {os : List (Option (List Int))}
theorem OptsV.mv (h : OptsV K H xs os) (k : ∀ a vs, SqT K H a vs → SqT K H' a vs) : OptsV K H' xs os := by
  induction h with
  | nil => exact .nil
  | non _ ih => exact .non ih
  | ref q _ ih => exact .ref (k _ _ q) ih
theorem OptsV.same (h : OptsV K H xs os) (s : Same H H') : OptsV K H' xs os := h.mv fun _ _ q => same_tup s q
theorem OptsV.lst {D : Addr} {o u : List V} (h : OptsV K H xs os) (e : H D = some (.lst o)) : OptsV K (upd H D (.lst u)) xs os := h.mv fun _ _ q => sqT_lst e q
theorem OptsV.snoc0 (h : OptsV K H xs os) : OptsV K H (xs ++ [.non]) (os ++ [none]) := by
  induction h with
  | nil => exact .non .nil
  | non _ ih => exact .non ih
  | ref q _ ih => exact .ref q ih
theorem OptsV.snoc1 {c : Addr} {cs : List Int} (h : OptsV K H xs os) (q : SqT K H c (cs.map V.int)) : OptsV K H (xs ++ [.ref c]) (os ++ [some cs]) := by
  induction h with
  | nil => exact .ref q .nil
  | non _ ih => exact .non ih
  | ref q _ ih => exact .ref q ih
theorem OptsV.len (h : OptsV K H xs os) : xs.length = os.length := by
  induction h with
  | nil => rfl
  | non _ ih => rw [List.length_cons, List.length_cons, ih]
  | ref _ _ ih => rw [List.length_cons, List.length_cons, ih]
theorem OptsV.at (h : OptsV K H xs os) : ∀ {i : Nat} {x : V}, xs[i]? = some x → (x = .non ∧ os.take (i + 1) = os.take i ++ [none]) ∨ ∃ c cs, x = .ref c ∧ os.take (i + 1) = os.take i ++ [some cs] ∧ SqT K H c (cs.map V.int) := by
  induction h with
  | nil => intro i x e; simp at e
  | non _ ih =>
    intro i x e
    cases i with
    | zero => cases e; exact .inl ⟨rfl, rfl⟩
    | succ i =>
      rcases ih (by simpa using e) with ⟨h1, h2⟩ | ⟨c, cs, h1, h2, h3⟩
      · exact .inl ⟨h1, by rw [List.take_succ_cons, h2]; rfl⟩
      · exact .inr ⟨c, cs, h1, by rw [List.take_succ_cons, h2]; rfl, h3⟩
  | ref q _ ih =>
    intro i x e
    cases i with
    | zero => cases e; exact .inr ⟨_, _, rfl, rfl, q⟩
    | succ i =>
      rcases ih (by simpa using e) with ⟨h1, h2⟩ | ⟨c, cs, h1, h2, h3⟩
      · exact .inl ⟨h1, by rw [List.take_succ_cons, h2]; rfl⟩
      · exact .inr ⟨c, cs, h1, by rw [List.take_succ_cons, h2]; rfl, h3⟩
end
theorem TupsI.app {K : PySem.W.Frag} {H : Hp} : ∀ {cs : List Addr} {nss : List (List Int)} {ds : List Addr} {mss : List (List Int)}, TupsI K H cs nss → TupsI K H ds mss → TupsI K H (cs ++ ds) (nss ++ mss)
  | _, _, _, _, .nil, h => h
  | _, _, _, _, .cons q t, h => .cons q (t.app h)
theorem KpM.tupsI {K : PySem.W.Frag} {M : List Addr} {H H' : Hp} {cs : List Addr} {nss : List (List Int)} (h : TupsI K H cs nss) (k : KpM M H H') (hM : ∀ x ∈ M, ∃ ys, H x = some (.lst ys)) : TupsI K H' cs nss := h.mv fun _ _ q => k.sqT hM q
theorem KpM.tupsV {K : PySem.W.Frag} {M : List Addr} {H H' : Hp} {cs : List Addr} {vss : List (List V)} (h : TupsV K H cs vss) (k : KpM M H H') (hM : ∀ x ∈ M, ∃ ys, H x = some (.lst ys)) : TupsV K H' cs vss := h.mv fun _ _ q => k.sqT hM q
theorem kp1 {t : Addr} {H : Hp} {ys : List V} (e : H t = some (.lst ys)) : ∀ x ∈ [t], ∃ ys, H x = some (.lst ys) := fun x hx => by rw [List.mem_singleton] at hx; subst hx; exact ⟨_, e⟩
theorem KpM.at1 {t a : Addr} {H H' : Hp} {o : HO} (k : KpM [t] H H') (n : a ≠ t) (h : H a = some o) : H' a = some o := k _ _ (fun z => n (List.mem_singleton.mp z)) h
end KL
namespace KL
open PySem PySem.Spec PyProof.Rows L2
/-! ### raise X('text'), X an own class over ValueError without an own __init__ -/
def bmVE : List Value := [.type "ValueError", .type "Exception", .type "BaseException", .type "object"]
structure ErT (K : PySem.W.Frag) (mg : Str → Option Value) (x : Str) (C : Addr) : Prop where
  q : PySem.W.excIn K C bmVE "ValueError.__new__" = true
  gl : mg x = some (.ref C)
  kp : PySem.W.keepIn K (.ref C) = true
  sb : PySem.W.subIn K (.ref C) (.type "BaseException") = some true
  ty : PySem.W.typeIn K (.ref C) = some (.type "type")
theorem ps_raiseT {X : Cx} {W : WX} {x m : Str} {j : Nat} {p p2 pos pos2 : Pos} {C : Addr} (E : ErT X.K X.mg x C) (hc : X.calm = true) (tk : Takes X W) (hg : Gl X x) (hdb : (x == ("__debug__" : Str)) = false := by decide) :
    PS X (.Raise (some (.Call (.Name x p) [.Constant (.str m) j p2] [] pos)) none pos2) (fun _ σ H => W (.ref C) none σ H) :=
  ps_raise hc tk (pmk_own PySem.F.excBase_ValueError E.q E.gl E.kp (raises_own E.sb E.ty) hg hdb)
/-! ### a method that may raise -/
def Dmx (P : Program) (w : World) (K : PySem.W.Frag) (mg : Str → Option Value) (base : Heap) (k : Nat) (C : Addr) (m : Str) (ps : List Str) (sp : Sp) : Prop :=
  ∃ (f : Addr) (fd : FuncData), Cls K C ∧ FnOk P w K mg base (L2.CX P w) k f fd ps sp ∧ Meth K C m f ∧ Binds K fd ps []
theorem Dmx.mono {P : Program} {w : World} {K : PySem.W.Frag} {mg : Str → Option Value} {base : Heap} {j k : Nat} {C : Addr} {m : Str} {ps : List Str} {sp : Sp} (D : Dmx P w K mg base j C m ps sp) (h : j ≤ k) : Dmx P w K mg base k C m ps sp :=
  let ⟨f, fd, c, F, r⟩ := D; ⟨f, fd, c, F.mono h, r⟩
def tMethS (C : Addr) (m : Str) (sp : Sp) (E : L2.St → XK) (ta : TE) (t : TA) : TE := fun σ H Q => ta σ H fun x H1 => ∃ a dx fs, x = .ref a ∧ H1 a = some (.ins C dx fs) ∧ fs.lookup m = none ∧ t σ H1 fun vs H2 => sp (.ref a :: vs) H2 Q (E σ)
theorem pe_dmx {X : Cx} {k : Nat} {C : Addr} {ps : List Str} {sp : Sp} {E : L2.St → XK} {m : Str} {o : Expr} {apos pos : Pos} {e : Expr} {es : List Expr} {ta : TE} {t : TA} {pl : Sem Bool} (D : Dmx X.prog X.w X.K X.mg X.base k C m ps sp) (hr : Room k X.A) (hx : ∀ σ, PassesAt (L2.CX X.prog X.w) X σ (E σ)) (he : PE X o ta) (ha : PA X (e :: es) t)
    (hst : starEach (e :: es) X.env = (false, eval e X.env) :: starEach es X.env := by rfl) (hpl : (backTo pos (starEach es X.env)).any (·.1) = false := by rfl)
    (ht : eval (.Call (.Attribute o m apos) (e :: es) [] pos) X.env = (do
      let ov ← eval o X.env
      standAt apos.atName
      let (f, first) ← holding [ov] (getMethod ov m pl)
      callWith pos f first (backTo pos (starEach (e :: es) X.env)) (backToKw pos (keywordEach [] X.env))) := by rfl) :
    PE X (.Call (.Attribute o m apos) (e :: es) [] pos) (tMethS C m sp E ta t) := by
  obtain ⟨f, fd, c, F, hm, hb⟩ := D
  refine ⟨fun pins s σ H Q I h => ?_⟩
  refine PySem.W.methodCall_KW (pl := pl) (thn (he.run pins s σ H _ I h) fun u s1 ⟨x, H1, I1, rx, a, dx, fs, ex, ea, l, q⟩ => ?_) ht
  subst ex
  obtain rfl : u = Value.ref a := rx
  refine getmeth_ok I1 ea c hm l ?_
  refine PySem.W.callWith_K (first := [.ref a]) (h₀ := X.base) I.ok.mod.kin hm.kp (thn (ha.run pos pins s1 σ H1 _ I1 q) fun us s2 ⟨vs, H2, I2, r, q2⟩ => ⟨I2.kIn, ?_⟩) hst hpl
  exact run_fnS (us := .ref a :: us) (vs := .ref a :: vs) F hr hb (hx σ) I2 (.cons rfl r) q2
/-! ### list.count of flat things -/
theorem countU {y : V} : ∀ {ys : List V} {us : List Value}, Vals ys us → ys.all flatV = true → us.countP (eqU y) = ys.countP fun z => eqV z y
  | [], _, .nil, _ => rfl
  | z :: ys, _, .cons r t, f => by
    rw [List.all_cons, Bool.and_eq_true] at f
    rw [List.countP_cons, List.countP_cons, countU t f.2, eqU_of r f.1]
def rCntF (K : PySem.W.Frag) : V → List V → Hp → VK → Prop := fun x xs H Q => ∃ (p : Addr) (ys : List V) (y : V), x = .ref p ∧ xs = [y] ∧ SqL K H p ys ∧ flatV y = true ∧ ys.all flatV = true ∧ Q (.int ((ys.countP fun z => eqV z y : Nat) : Int)) H
theorem mt_countF {X : Cx} : MtR X "list.count" (rCntF X.K) := by
  intro pins s σ H x xs v us Q I rx rxs h
  obtain ⟨p, ys, y, rfl, rfl, hs, fy, fys, q⟩ := h
  cases rx
  obtain ⟨u, rfl, ru⟩ := rxs.one
  obtain ⟨its, rv, ⟨⟨cls, dd, data, sl⟩, n, ho, hc, hdn, hd⟩, hlen⟩ := I.list hs
  simp only at hc hd
  subst hc hd
  refine call_meets PySem.F.slot_list_count ⟨_, ho, rfl⟩ PySem.F.entry_list_count (PySem.F.args_list_count_2 _ _)
    (SeqAt.list_countAt p its.toArray n dd sl u (eqU y)) ⟨ho, fun u' hu' => mem_eqAt ru fy rv fys u' (by simpa using hu'), ?_⟩
  have ec : its.toArray.toList.countP (eqU y) = ys.countP fun z => eqV z y := countU rv fys
  refine ⟨.int ((ys.countP fun z => eqV z y : Nat) : Int), H, I.tok _, ⟨s.toks, ?_⟩, q⟩
  show Value.int ((its.toArray.toList.countP (eqU y) : Nat) : Int) s.toks = _
  rw [ec]
/-! ### isinstance of None -/
end KL
namespace KR
open PySem PySem.Spec PyProof.Rows
/-! ### what repr shows is shown of nothing else -/
def sh (d : PyData) : List Nat := d.shown.cps.toList
/-- a text that is shown as it stands, in quotes -/
def PlS (x : Str) : Prop := (reprText x).cps.toList = 39 :: (x.cps.toList ++ [39]) ∧ 39 ∉ x.cps.toList
def Pn : PyData → Prop
  | .none | .bool _ | .int _ => True
  | .str x => PlS x
  | .list xs => PnAll xs
  | .tuple xs => PnAll xs
  | .dict kvs => kvs = []
where PnAll : List PyData → Prop
  | [] => True
  | x :: xs => Pn x ∧ PnAll xs
theorem pnAll_of : ∀ {xs : List PyData}, (∀ x ∈ xs, Pn x) → Pn.PnAll xs
  | [], _ => True.intro
  | x :: xs, h => ⟨h x List.mem_cons_self, pnAll_of fun y hy => h y (List.mem_cons_of_mem _ hy)⟩
theorem Pn.tuple {xs : List PyData} (h : ∀ x ∈ xs, Pn x) : Pn (.tuple xs) := by unfold Pn; exact pnAll_of h
theorem Pn.list {xs : List PyData} (h : ∀ x ∈ xs, Pn x) : Pn (.list xs) := by unfold Pn; exact pnAll_of h
def bodyL (cl : Nat) : List PyData → List Nat
  | [] => [cl]
  | [x] => sh x ++ [cl]
  | x :: y :: ys => sh x ++ (44 :: 32 :: bodyL cl (y :: ys))
def bodyT : List PyData → List Nat
  | [] => [41]
  | [x] => sh x ++ [44, 41]
  | x :: y :: ys => sh x ++ (44 :: 32 :: bodyL 41 (y :: ys))
theorem cps_app (a b : Str) : (a ++ b).cps.toList = a.cps.toList ++ b.cps.toList := by
  show (a.cps ++ b.cps).toList = _
  rw [Array.toList_append]
theorem join_go (cl : Nat) : ∀ (xs : List PyData), xs ≠ [] → (Str.join ", " (PyData.shownAll xs)).cps.toList ++ [cl] = bodyL cl xs
  | [], h => absurd rfl h
  | [x], _ => by rw [PyData.shownAll_cons, PyData.shownAll_nil]; rfl
  | x :: y :: ys, _ => by
    have ih := join_go cl (y :: ys) (by simp)
    rw [PyData.shownAll_cons] at ih ⊢
    rw [PyData.shownAll_cons]
    show ((x.shown ++ (", " : String) ++ Str.join ", " (y.shown :: PyData.shownAll ys) : Str)).cps.toList ++ [cl] = sh x ++ (44 :: 32 :: bodyL cl (y :: ys))
    rw [cps_app, cps_app, signs_sep, List.append_assoc, ih]
    show (sh x ++ [44, 32]) ++ bodyL cl (y :: ys) = _
    simp
theorem sh_list (xs : List PyData) : sh (.list xs) = 91 :: bodyL 93 xs := by
  unfold sh
  rw [PyData.shown_list, cps_app, cps_app, signs_lbrack, signs_rbrack]
  cases xs with
  | nil => rw [PyData.shownAll_nil]; rfl
  | cons x xs => rw [List.append_assoc, join_go 93 (x :: xs) (by simp)]; rfl
theorem shownAll_len : ∀ xs : List PyData, (PyData.shownAll xs).length = xs.length
  | [] => by rw [PyData.shownAll_nil]; rfl
  | x :: xs => by rw [PyData.shownAll_cons, List.length_cons, List.length_cons, shownAll_len xs]
theorem sh_tuple (xs : List PyData) : sh (.tuple xs) = 40 :: bodyT xs := by
  unfold sh
  rw [PyData.shown_tuple]
  rw [cps_app, cps_app, signs_lparen]
  have e1 : ((",)" : String) : Str).cps.toList = [44, 41] := by decide
  have e2 : ((")" : String) : Str).cps.toList = [41] := by decide
  match xs with
  | [] => rw [PyData.shownAll_nil]; show [40] ++ (Str.empty).cps.toList ++ ((")" : String) : Str).cps.toList = _; rw [e2]; rfl
  | [x] => rw [PyData.shownAll_cons, PyData.shownAll_nil]; show [40] ++ sh x ++ ((",)" : String) : Str).cps.toList = _; rw [e1]; simp [bodyT]
  | x :: y :: ys =>
    have h := join_go 41 (x :: y :: ys) (by simp)
    show [40] ++ (Str.join ", " (PyData.shownAll (x :: y :: ys))).cps.toList ++ ((")" : String) : Str).cps.toList = _
    rw [e2, List.append_assoc, h]; rfl
/-! the kind of a thing, by the first sign -/
def kc (c : Nat) : Nat := if c = 78 then 0 else if c = 84 then 1 else if c = 70 then 1 else if c = 45 then 2 else if 48 ≤ c ∧ c ≤ 57 then 2 else if c = 39 then 3 else if c = 91 then 4 else if c = 40 then 5 else if c = 123 then 6 else 9
def kd : PyData → Nat
  | .none => 0
  | .bool _ => 1
  | .int _ => 2
  | .str _ => 3
  | .list _ => 4
  | .tuple _ => 5
  | .dict _ => 6
theorem sh_none : sh .none = [78, 111, 110, 101] := by unfold sh; rw [PyData.shown_none]; decide
theorem sh_true : sh (.bool true) = [84, 114, 117, 101] := by unfold sh; rw [PyData.shown_bool]; decide
theorem sh_false : sh (.bool false) = [70, 97, 108, 115, 101] := by unfold sh; rw [PyData.shown_bool]; decide
theorem sh_dict : sh (.dict []) = [123, 125] := by decide +kernel
theorem sh_str (x : Str) : sh (.str x) = (reprText x).cps.toList := by unfold sh; rw [PyData.shown_str]
theorem sh_int (i : Int) : sh (.int i) = (toString i : String).toList.map Char.toNat := by unfold sh; rw [PyData.shown_int, signs_ofString]
theorem int_ne (i : Int) : (toString i : String).toList ≠ [] := fun z => by
  have e : (toString i : String) = "" := String.toList_inj.mp (by rw [z]; rfl)
  cases i with
  | ofNat n =>
    have e' : n.repr = "" := e
    have h := Nat.toList_repr (n := n)
    rw [e'] at h
    exact absurd h.symm Nat.toDigits_ne_nil
  | negSucc n =>
    have e' : ("-" ++ (n + 1).repr : String) = "" := e
    have h := congrArg String.toList e'
    rw [String.toList_append] at h
    exact absurd h (by simp)
theorem int_kinds {i : Int} {c : Nat} (h : c ∈ sh (.int i)) : c = 45 ∨ (48 ≤ c ∧ c ≤ 57) := by
  rw [sh_int] at h
  obtain ⟨ch, hc, e⟩ := List.mem_map.mp h
  rcases int_sign i ch hc with hd | hd
  · have := digit_range hd; omega
  · rw [hd] at e; left; rw [← e]; decide
theorem sh_head : ∀ {d : PyData}, Pn d → ∃ c t, sh d = c :: t ∧ kc c = kd d
  | .none, _ => ⟨_, _, sh_none, rfl⟩
  | .bool true, _ => ⟨_, _, sh_true, rfl⟩
  | .bool false, _ => ⟨_, _, sh_false, rfl⟩
  | .int i, _ => by
    cases e : sh (.int i) with
    | nil => rw [sh_int] at e; exact absurd (List.map_eq_nil_iff.mp e) (int_ne i)
    | cons c t =>
      refine ⟨c, t, rfl, ?_⟩
      have := int_kinds (i := i) (c := c) (by rw [e]; exact List.mem_cons_self)
      unfold kc kd
      rcases this with z | ⟨z1, z2⟩
      · subst z; rfl
      · rw [if_neg (by omega), if_neg (by omega), if_neg (by omega), if_neg (by omega), if_pos ⟨z1, z2⟩]
  | .str x, h => by
    unfold Pn at h
    exact ⟨39, _, by rw [sh_str, h.1], rfl⟩
  | .list xs, _ => ⟨91, _, sh_list xs, rfl⟩
  | .tuple xs, _ => ⟨40, _, sh_tuple xs, rfl⟩
  | .dict kvs, h => by unfold Pn at h; subst h; exact ⟨_, _, sh_dict, rfl⟩
/-- nothing, or a sign that stands behind a thing -/
def Dl (r : List Nat) : Prop := ∀ c t, r = c :: t → c = 44 ∨ c = 41 ∨ c = 93
def InjAt (d : PyData) : Prop := ∀ (e : PyData) (r r' : List Nat), Pn e → Dl r → Dl r' → sh d ++ r = sh e ++ r' → d = e ∧ r = r'
theorem dl_cons {c : Nat} {t : List Nat} (h : c = 44 ∨ c = 41 ∨ c = 93) : Dl (c :: t) := fun c' t' e => by cases e; exact h
theorem head_no {e : PyData} {c : Nat} {r r' : List Nat} (h : Pn e) (hc : c = 44 ∨ c = 41 ∨ c = 93) : c :: r = sh e ++ r' → False := fun z => by
  obtain ⟨c', t, e1, e2⟩ := sh_head h
  rw [e1, List.cons_append] at z
  obtain ⟨z1, _⟩ := List.cons.inj z
  have h6 : kd e ≤ 6 := by cases e <;> simp [kd]
  have : kc c = 9 := by rcases hc with rfl | rfl | rfl <;> decide
  rw [z1, e2] at this; omega
theorem bodyL_inj {cl : Nat} (hcl : cl = 41 ∨ cl = 93) : ∀ (xs : List PyData), (∀ x ∈ xs, Pn x ∧ InjAt x) → ∀ (ys : List PyData), (∀ y ∈ ys, Pn y) → ∀ r r' : List Nat, bodyL cl xs ++ r = bodyL cl ys ++ r' → xs = ys ∧ r = r' := by
  have hcl' : cl = 44 ∨ cl = 41 ∨ cl = 93 := .inr hcl
  have hne : cl ≠ 44 := by omega
  intro xs
  induction xs with
  | nil =>
    intro _ ys hy r r' h
    match ys with
    | [] => exact ⟨rfl, (List.cons.inj h).2⟩
    | [y] => exact (head_no (r := r) (r' := cl :: r') (hy y List.mem_cons_self) hcl' (by simpa [bodyL] using h)).elim
    | y :: y2 :: ys => exact (head_no (r := r) (r' := 44 :: 32 :: (bodyL cl (y2 :: ys) ++ r')) (hy y List.mem_cons_self) hcl' (by simpa [bodyL] using h)).elim
  | cons x xs ih =>
    intro hx ys hy r r' h
    obtain ⟨px, jx⟩ := hx x List.mem_cons_self
    have ihx := ih fun z hz => hx z (List.mem_cons_of_mem _ hz)
    cases xs with
    | nil =>
      have h1 : sh x ++ (cl :: r) = bodyL cl ys ++ r' := by simpa [bodyL] using h
      match ys with
      | [] => exact (head_no (r := r') (r' := cl :: r) px hcl' (by simpa [bodyL] using h1.symm)).elim
      | [y] =>
        obtain ⟨e1, e2⟩ := jx y (cl :: r) (cl :: r') (hy y List.mem_cons_self) (dl_cons hcl') (dl_cons hcl') (by simpa [bodyL] using h1)
        exact ⟨by rw [e1], (List.cons.inj e2).2⟩
      | y :: y2 :: ys =>
        obtain ⟨_, e2⟩ := jx y (cl :: r) (44 :: 32 :: (bodyL cl (y2 :: ys) ++ r')) (hy y List.mem_cons_self) (dl_cons hcl') (dl_cons (.inl rfl)) (by simpa [bodyL] using h1)
        exact absurd (List.cons.inj e2).1 hne
    | cons x2 xs =>
      have h1 : sh x ++ (44 :: 32 :: (bodyL cl (x2 :: xs) ++ r)) = bodyL cl ys ++ r' := by simpa [bodyL] using h
      match ys with
      | [] => exact (head_no (r := r') (r' := 44 :: 32 :: (bodyL cl (x2 :: xs) ++ r)) px hcl' (by simpa [bodyL] using h1.symm)).elim
      | [y] =>
        obtain ⟨_, e2⟩ := jx y (44 :: 32 :: (bodyL cl (x2 :: xs) ++ r)) (cl :: r') (hy y List.mem_cons_self) (dl_cons (.inl rfl)) (dl_cons hcl') (by simpa [bodyL] using h1)
        exact absurd (List.cons.inj e2).1.symm hne
      | y :: y2 :: ys =>
        obtain ⟨e1, e2⟩ := jx y (44 :: 32 :: (bodyL cl (x2 :: xs) ++ r)) (44 :: 32 :: (bodyL cl (y2 :: ys) ++ r')) (hy y List.mem_cons_self) (dl_cons (.inl rfl)) (dl_cons (.inl rfl)) (by simpa [bodyL] using h1)
        have e3 : bodyL cl (x2 :: xs) ++ r = bodyL cl (y2 :: ys) ++ r' := (List.cons.inj (List.cons.inj e2).2).2
        obtain ⟨e4, e5⟩ := ihx (y2 :: ys) (fun z hz => hy z (List.mem_cons_of_mem _ hz)) r r' e3
        exact ⟨by rw [e1, e4], e5⟩
theorem bodyT_inj (xs : List PyData) (hx : ∀ x ∈ xs, Pn x ∧ InjAt x) (ys : List PyData) (hy : ∀ y ∈ ys, Pn y) (r r' : List Nat) (h : bodyT xs ++ r = bodyT ys ++ r') : xs = ys ∧ r = r' := by
  match xs, ys with
  | [], [] => exact ⟨rfl, (List.cons.inj h).2⟩
  | [], [y] => exact (head_no (c := 41) (r := r) (r' := 44 :: 41 :: r') (hy y List.mem_cons_self) (.inr (.inl rfl)) (by simpa [bodyT] using h)).elim
  | [], y :: y2 :: ys => exact (head_no (c := 41) (r := r) (r' := 44 :: 32 :: (bodyL 41 (y2 :: ys) ++ r')) (hy y List.mem_cons_self) (.inr (.inl rfl)) (by simpa [bodyT] using h)).elim
  | [x], [] => exact (head_no (c := 41) (r := r') (r' := 44 :: 41 :: r) (hx x List.mem_cons_self).1 (.inr (.inl rfl)) (by simpa [bodyT] using h.symm)).elim
  | x :: x2 :: xs, [] => exact (head_no (c := 41) (r := r') (r' := 44 :: 32 :: (bodyL 41 (x2 :: xs) ++ r)) (hx x List.mem_cons_self).1 (.inr (.inl rfl)) (by simpa [bodyT] using h.symm)).elim
  | [x], [y] =>
    obtain ⟨e1, e2⟩ := (hx x List.mem_cons_self).2 y (44 :: 41 :: r) (44 :: 41 :: r') (hy y List.mem_cons_self) (dl_cons (.inl rfl)) (dl_cons (.inl rfl)) (by simpa [bodyT] using h)
    exact ⟨by rw [e1], (List.cons.inj (List.cons.inj e2).2).2⟩
  | [x], y :: y2 :: ys =>
    obtain ⟨_, e2⟩ := (hx x List.mem_cons_self).2 y (44 :: 41 :: r) (44 :: 32 :: (bodyL 41 (y2 :: ys) ++ r')) (hy y List.mem_cons_self) (dl_cons (.inl rfl)) (dl_cons (.inl rfl)) (by simpa [bodyT] using h)
    exact absurd (List.cons.inj (List.cons.inj e2).2).1 (by decide)
  | x :: x2 :: xs, [y] =>
    obtain ⟨_, e2⟩ := (hx x List.mem_cons_self).2 y (44 :: 32 :: (bodyL 41 (x2 :: xs) ++ r)) (44 :: 41 :: r') (hy y List.mem_cons_self) (dl_cons (.inl rfl)) (dl_cons (.inl rfl)) (by simpa [bodyT] using h)
    exact absurd (List.cons.inj (List.cons.inj e2).2).1 (by decide)
  | x :: x2 :: xs, y :: y2 :: ys => exact bodyL_inj (.inl rfl) (x :: x2 :: xs) hx (y :: y2 :: ys) hy r r' h
theorem cut_at {p : Nat → Prop} : ∀ {a b r r' : List Nat}, (∀ c ∈ a, p c) → (∀ c ∈ b, p c) → (∀ c t, r = c :: t → ¬ p c) → (∀ c t, r' = c :: t → ¬ p c) → a ++ r = b ++ r' → a = b ∧ r = r'
  | [], [], _, _, _, _, _, _, h => ⟨rfl, h⟩
  | [], c :: b, r, r', _, hb, hr, _, h => absurd (hb c List.mem_cons_self) (hr c _ h)
  | c :: a, [], r, r', ha, _, _, hr', h => absurd (ha c List.mem_cons_self) (hr' c _ h.symm)
  | c :: a, c' :: b, r, r', ha, hb, hr, hr', h => by
    obtain ⟨h1, h2⟩ := List.cons.inj h
    obtain ⟨e1, e2⟩ := cut_at (fun z hz => ha z (List.mem_cons_of_mem _ hz)) (fun z hz => hb z (List.mem_cons_of_mem _ hz)) hr hr' h2
    exact ⟨by rw [h1, e1], e2⟩
theorem int_inj {i j : Int} (h : sh (.int i) = sh (.int j)) : i = j := by
  rw [sh_int, sh_int] at h
  have h2 : (toString i : String).toList = (toString j : String).toList := by
    refine (List.map_inj_right fun a b e => ?_).mp h
    exact Char.toNat_inj.mp e
  exact Int.repr_inj.mp (String.toList_inj.mp h2)
theorem kd_eq {d e : PyData} {r r' : List Nat} (pd : Pn d) (pe : Pn e) (h : sh d ++ r = sh e ++ r') : kd d = kd e := by
  obtain ⟨c, t, e1, e2⟩ := sh_head pd
  obtain ⟨c', t', e3, e4⟩ := sh_head pe
  rw [e1, e3, List.cons_append, List.cons_append] at h
  rw [← e2, ← e4, (List.cons.inj h).1]
theorem pn_mem : ∀ {xs : List PyData}, Pn.PnAll xs → ∀ x ∈ xs, Pn x
  | [], _, _, h => by cases h
  | x :: xs, h, y, hy => by
    rcases List.mem_cons.mp hy with rfl | hy
    · exact h.1
    · exact pn_mem h.2 y hy
mutual
theorem injAt : ∀ (d : PyData), Pn d → InjAt d
  | .none, p, e, r, r', pe, _, _, h => by
    have k := kd_eq p pe h
    cases e with
    | none => exact ⟨rfl, List.append_cancel_left h⟩
    | _ => exact absurd k (by simp [kd])
  | .bool b, p, e, r, r', pe, _, _, h => by
    have k := kd_eq p pe h
    cases e with
    | bool b' =>
      cases b <;> cases b'
      · exact ⟨rfl, List.append_cancel_left h⟩
      · rw [sh_false, sh_true] at h; exact absurd (List.cons.inj h).1 (by decide)
      · rw [sh_false, sh_true] at h; exact absurd (List.cons.inj h).1 (by decide)
      · exact ⟨rfl, List.append_cancel_left h⟩
    | _ => exact absurd k (by simp [kd])
  | .int i, p, e, r, r', pe, hr, hr', h => by
    have k := kd_eq p pe h
    cases e with
    | int j =>
      have no : ∀ {r : List Nat}, Dl r → ∀ c t, r = c :: t → ¬ (c = 45 ∨ (48 ≤ c ∧ c ≤ 57)) := fun hr c t e => by
        have := hr c t e; omega
      obtain ⟨e1, e2⟩ := cut_at (p := fun c => c = 45 ∨ (48 ≤ c ∧ c ≤ 57)) (fun c hc => int_kinds hc) (fun c hc => int_kinds hc) (no hr) (no hr') h
      exact ⟨by rw [int_inj e1], e2⟩
    | _ => exact absurd k (by simp [kd])
  | .str x, p, e, r, r', pe, _, _, h => by
    have k := kd_eq p pe h
    cases e with
    | str y =>
      unfold Pn at p pe
      rw [sh_str, sh_str, p.1, pe.1] at h
      have h1 : x.cps.toList ++ (39 :: r) = y.cps.toList ++ (39 :: r') := by simpa using h
      obtain ⟨e1, e2⟩ := cut_at (p := fun c => c ≠ 39) (fun c hc z => p.2 (z ▸ hc)) (fun c hc z => pe.2 (z ▸ hc)) (fun c t e => by cases e; simp) (fun c t e => by cases e; simp) h1
      refine ⟨?_, (List.cons.inj e2).2⟩
      obtain ⟨x⟩ := x
      obtain ⟨y⟩ := y
      have : x = y := Array.toList_inj.mp e1
      rw [this]
    | _ => exact absurd k (by simp [kd])
  | .list xs, p, e, r, r', pe, _, _, h => by
    have k := kd_eq p pe h
    cases e with
    | list ys =>
      unfold Pn at p pe
      rw [sh_list, sh_list] at h
      obtain ⟨e1, e2⟩ := bodyL_inj (.inr rfl) xs (fun x hx => ⟨pn_mem p x hx, injAll xs p x hx⟩) ys (pn_mem pe) r r' (List.cons.inj h).2
      exact ⟨by rw [e1], e2⟩
    | _ => exact absurd k (by simp [kd])
  | .tuple xs, p, e, r, r', pe, _, _, h => by
    have k := kd_eq p pe h
    cases e with
    | tuple ys =>
      unfold Pn at p pe
      rw [sh_tuple, sh_tuple] at h
      obtain ⟨e1, e2⟩ := bodyT_inj xs (fun x hx => ⟨pn_mem p x hx, injAll xs p x hx⟩) ys (pn_mem pe) r r' (List.cons.inj h).2
      exact ⟨by rw [e1], e2⟩
    | _ => exact absurd k (by simp [kd])
  | .dict kvs, p, e, r, r', pe, _, _, h => by
    have k := kd_eq p pe h
    cases e with
    | dict ys => unfold Pn at p pe; subst p pe; exact ⟨rfl, List.append_cancel_left h⟩
    | _ => exact absurd k (by simp [kd])
theorem injAll : ∀ (xs : List PyData), Pn.PnAll xs → ∀ x ∈ xs, InjAt x
  | [], _, _, h => by cases h
  | x :: xs, p, y, hy => by
    rcases List.mem_cons.mp hy with e | hy
    · rw [e]; exact injAt x p.1
    · exact injAll xs p.2 y hy
end
/-- two things of which repr shows the same are the same -/
theorem shown_inj {d e : PyData} (pd : Pn d) (pe : Pn e) (h : d.shown = e.shown) : d = e := by
  have h1 : sh d ++ [] = sh e ++ [] := by unfold sh; rw [h]
  exact (injAt d pd e [] [] pe (fun c t z => nomatch z) (fun c t z => nomatch z) h1).1
end KR
namespace KL
open PySem PySem.Spec PyProof.Rows L2
theorem op_notIn_seq' {X : Cx} {K : PySem.W.Frag} (e : X.K = K) : OpR X (compareOp .NotIn) (rIn K true) := e ▸ op_notIn_seq
theorem op_in_seq' {X : Cx} {K : PySem.W.Frag} (e : X.K = K) : OpR X (compareOp .In) (rIn K false) := e ▸ op_in_seq
/-! ### things of any kind, not too large -/
def Sm : PyData → Prop
  | .tuple xs => xs.length ≤ 900 ∧ SmAll xs
  | .list xs => xs.length ≤ 5000 ∧ SmAll xs
  | _ => True
where SmAll : List PyData → Prop
  | [] => True
  | x :: xs => Sm x ∧ SmAll xs
theorem smAll_of : ∀ {xs : List PyData}, (∀ x ∈ xs, Sm x) → Sm.SmAll xs
  | [], _ => True.intro
  | x :: xs, h => ⟨h x List.mem_cons_self, smAll_of fun y hy => h y (List.mem_cons_of_mem _ hy)⟩
theorem sm_mem : ∀ {xs : List PyData}, Sm.SmAll xs → ∀ x ∈ xs, Sm x
  | [], _, _, h => by cases h
  | x :: xs, h, y, hy => by
    rcases List.mem_cons.mp hy with rfl | hy
    · exact h.1
    · exact sm_mem h.2 y hy
theorem Sm.tup {xs : List PyData} (h : Sm (.tuple xs)) : xs.length ≤ 900 ∧ ∀ x ∈ xs, Sm x := by unfold Sm at h; exact ⟨h.1, sm_mem h.2⟩
theorem Sm.lst {xs : List PyData} (h : Sm (.list xs)) : xs.length ≤ 5000 ∧ ∀ x ∈ xs, Sm x := by unfold Sm at h; exact ⟨h.1, sm_mem h.2⟩
theorem Sm.mkT {xs : List PyData} (l : xs.length ≤ 900) (h : ∀ x ∈ xs, Sm x) : Sm (.tuple xs) := by unfold Sm; exact ⟨l, smAll_of h⟩
theorem Sm.mkL {xs : List PyData} (l : xs.length ≤ 5000) (h : ∀ x ∈ xs, Sm x) : Sm (.list xs) := by unfold Sm; exact ⟨l, smAll_of h⟩
theorem Sm.bools (bs : List Bool) (h : bs.length ≤ 900) : Sm (.tuple (bs.map PyData.bool)) := Sm.mkT (by rw [List.length_map]; exact h) fun x hx => by obtain ⟨b, _, rfl⟩ := List.mem_map.mp hx; unfold Sm; exact True.intro
theorem small5000 {n : Nat} (h : n ≤ 5001) : n < sizeLine := Nat.lt_of_le_of_lt h (by decide +kernel)
/-- a thing of known data that can be shown, and is shown of nothing else -/
def Bt (K : PySem.W.Frag) (n m : Nat) (H : Hp) (v : V) (d : PyData) : Prop := Dp K H v d ∧ Fine n m d ∧ KR.Pn d ∧ Sm d
def BtE (K : PySem.W.Frag) (n m : Nat) (H : Hp) (v : V) : Prop := ∃ d, Bt K n m H v d
section
variable {K : PySem.W.Frag} {H H' : Hp} {n m n' m' : Nat} {v : V} {d : PyData}
theorem BtE.same (h : BtE K n m H v) (s : Same H H') : BtE K n m H' v := let ⟨d, a, b⟩ := h; ⟨d, dpSame a s, b⟩
theorem BtE.le (h : BtE K n m H v) (hn : n ≤ n') (hm : m ≤ m') : BtE K n' m' H v := let ⟨d, a, b, c⟩ := h; ⟨d, a, b.le hn hm, c⟩
theorem BtE.non : BtE K n m H .non := ⟨.none, .non, Fine.none, by unfold KR.Pn; exact True.intro, by unfold Sm; exact True.intro⟩
theorem BtE.bl (b : Bool) : BtE K n m H (.bl b) := ⟨.bool b, .bl b, Fine.bool b, by unfold KR.Pn; exact True.intro, by unfold Sm; exact True.intro⟩
theorem BtE.int (i : Int) (h : i.natAbs < 2 ^ 110) : BtE K 110 m H (.int i) := ⟨.int i, .int i, Fine.int i h, by unfold KR.Pn; exact True.intro, by unfold Sm; exact True.intro⟩
theorem BtE.str {x : Str} (f : Fine 10 0 (.str x)) (p : KR.PlS x) : BtE K 10 0 H (.str x) := ⟨.str x, .str x, f, by unfold KR.Pn; exact p, by unfold Sm; exact True.intro⟩
theorem bt_all : ∀ {xs : List V}, (∀ v ∈ xs, BtE K n m H v) → ∃ ds, DpAll K H xs ds ∧ ds.length = xs.length ∧ ∀ d ∈ ds, Fine n m d ∧ KR.Pn d ∧ Sm d
  | [], _ => ⟨[], .nil, rfl, fun d h => by cases h⟩
  | x :: xs, h => by
    obtain ⟨d, h1, h2⟩ := h x List.mem_cons_self
    obtain ⟨ds, h3, h4, h5⟩ := bt_all fun v hv => h v (List.mem_cons_of_mem _ hv)
    refine ⟨d :: ds, .cons h1 h3, by rw [List.length_cons, List.length_cons, h4], fun e he => ?_⟩
    rcases List.mem_cons.mp he with rfl | he
    · exact h2
    · exact h5 e he
theorem BtE.tup {a : Addr} {xs : List V} {l : Nat} (h : SqT K H a xs) (hx : ∀ v ∈ xs, BtE K n m H v) (hl : xs.length ≤ l) (l9 : l ≤ 900) : BtE K (l * (n + 1)) (m + 1) H (.ref a) := by
  obtain ⟨ds, h1, h2, h3⟩ := bt_all hx
  exact ⟨.tuple ds, .tup h h1, Fine.tuple (fun d hd => (h3 d hd).1) (by omega), KR.Pn.tuple fun d hd => (h3 d hd).2.1, Sm.mkT (by omega) fun d hd => (h3 d hd).2.2⟩
theorem BtE.lst {a : Addr} {xs : List V} {l : Nat} (h : SqL K H a xs) (hx : ∀ v ∈ xs, BtE K n m H v) (hl : xs.length ≤ l) (l9 : l ≤ 5000) : BtE K (l * (n + 1)) (m + 1) H (.ref a) := by
  obtain ⟨ds, h1, h2, h3⟩ := bt_all hx
  exact ⟨.list ds, .lst h h1, Fine.list (fun d hd => (h3 d hd).1) (by omega), KR.Pn.list fun d hd => (h3 d hd).2.1, Sm.mkL (by omega) fun d hd => (h3 d hd).2.2⟩
theorem BtE.bools {a : Addr} {bs : List Bool} {l : Nat} (h : SqT K H a (bs.map V.bl)) (hl : bs.length ≤ l) (l9 : l ≤ 900) : BtE K (l * 1) 1 H (.ref a) :=
  BtE.tup (n := 0) (m := 0) h (fun v hv => by obtain ⟨b, _, rfl⟩ := List.mem_map.mp hv; exact .bl b) (by rw [List.length_map]; exact hl) l9
end
/-- showing a part of what can be shown -/
structure Shw (d : PyData) : Prop where
  sh : d.showable = true
  dp : d.depth ≤ 60
  ln : d.shown.length ≤ sizeLine
theorem Fine.shw {n m : Nat} {d : PyData} (h : Fine n m d) (hn : n ≤ 100000) (hm : m ≤ 60) : Shw d := ⟨h.sh, Nat.le_trans h.dp hm, h.len hn⟩
theorem show_mem : ∀ {ds : List PyData}, PyData.showableAll ds = true → ∀ d ∈ ds, d.showable = true
  | [], _, _, h => by cases h
  | x :: xs, h, y, hy => by
    unfold PyData.showableAll at h
    rw [Bool.and_eq_true] at h
    rcases List.mem_cons.mp hy with rfl | hy
    · exact h.1
    · exact show_mem h.2 y hy
theorem shown_mem : ∀ {ds : List PyData} {d : PyData}, d ∈ ds → d.shown ∈ PyData.shownAll ds
  | x :: xs, d, h => by
    rw [PyData.shownAll_cons]
    rcases List.mem_cons.mp h with rfl | h
    · exact List.mem_cons_self
    · exact List.mem_cons_of_mem _ (shown_mem h)
theorem Shw.tup {ds : List PyData} (h : Shw (.tuple ds)) : ∀ d ∈ ds, Shw d := fun d hd => by
  refine ⟨show_mem (by have := h.sh; unfold PyData.showable at this; exact this) d hd, ?_, ?_⟩
  · have := h.dp; unfold PyData.depth at this; have := depth_mem d hd; omega
  · have := h.ln; unfold PyData.shown at this; exact Nat.le_trans (tupleText_mem_le (shown_mem hd)) this
theorem Shw.lst {ds : List PyData} (h : Shw (.list ds)) : ∀ d ∈ ds, Shw d := fun d hd => by
  refine ⟨show_mem (by have := h.sh; unfold PyData.showable at this; exact this) d hd, ?_, ?_⟩
  · have := h.dp; unfold PyData.depth at this; have := depth_mem d hd; omega
  · have := h.ln; unfold PyData.shown at this; exact Nat.le_trans (listText_mem_le (shown_mem hd)) this
theorem pn_bools (f : List Bool) : KR.Pn (.tuple (f.map PyData.bool)) := KR.Pn.tuple fun d hd => by obtain ⟨b, _, rfl⟩ := List.mem_map.mp hd; unfold KR.Pn; exact True.intro
theorem pn_tup {ds : List PyData} (h : KR.Pn (.tuple ds)) : ∀ d ∈ ds, KR.Pn d := by unfold KR.Pn at h; exact KR.pn_mem h
theorem pn_lst {ds : List PyData} (h : KR.Pn (.list ds)) : ∀ d ∈ ds, KR.Pn d := by unfold KR.Pn at h; exact KR.pn_mem h
/-- the shown text among the shown fillings -/
theorem in_shown {d : PyData} (hd : KR.Pn d) (fs : List (List Bool)) : inV (.str d.shown) ((fs.map fun f => (PyData.tuple (f.map PyData.bool)).shown).map V.str) = true ↔ ∃ f ∈ fs, d = .tuple (f.map PyData.bool) := by
  unfold inV
  rw [List.any_eq_true]
  constructor
  · rintro ⟨x, hx, e⟩
    rw [List.map_map] at hx
    obtain ⟨f, hf, rfl⟩ := List.mem_map.mp hx
    have e' : (PyData.tuple (f.map PyData.bool)).shown = d.shown := by simpa [eqV] using e
    exact ⟨f, hf, KR.shown_inj hd (pn_bools f) e'.symm⟩
  · rintro ⟨f, hf, rfl⟩
    refine ⟨_, List.mem_map.mpr ⟨_, List.mem_map.mpr ⟨f, hf, rfl⟩, rfl⟩, ?_⟩
    simp [eqV]
end KL
namespace KL
open PySem PySem.Spec PyProof.Rows L2
/-! ### two except clauses -/
section
variable {X : Cx} {x n x2 : Str} {c c2 : Value} {i : Nat} {bd su su2 : List Stmt} {st st2 : Stmt} {q0 q1 q2 q3 q4 : Pos} {tb : WX → TS} {ts ts2 : Addr → Value → Option Addr → TS} {Wo : WX}
theorem ps_try_keep2 (hstk : X.stack = X.env :: X.outer) (hfrm : X.env.frame = some X.env.locals) (hex : X.ex = []) (hnd : X.N.Nodup) (hix : X.N[i]? = some n) (hloc : X.env.kindOf n = some .local) (hcls : Names X x c) (hcls2 : Names X x2 c2) (tk : Takes X Wo)
    (hbd : ∀ (W : WX) (pn : List (Addr × Obj)) (xe : Value → Shared → Prop), Takes (X.tr pn xe) W → PassesOwn (model X.prog X.w) X.A X.env xe → PSs (X.tr pn xe) bd (tb W))
    (hst : ∀ (a : Addr) (oe : Obj) (cls : Value) (d : Option Addr) (pn : List (Addr × Obj)), Zc cls d oe → (∃ vs, oe.data = .fields vs) → PSs (X.suite a ((a, oe) :: pn)) (st :: su) (ts a cls d))
    (hst2 : ∀ (a : Addr) (oe : Obj) (cls : Value) (d : Option Addr) (pn : List (Addr × Obj)), Zc cls d oe → (∃ vs, oe.data = .fields vs) → PSs (X.suite a ((a, oe) :: pn)) (st2 :: su2) (ts2 a cls d)) :
    PS X (.Try bd [.ExceptHandler (some (.Name x q0)) (some n) (st :: su) q1, .ExceptHandler (some (.Name x2 q3)) (some n) (st2 :: su2) q4] [] [] q2) (fun D σ H => tb (wKeep X.K c i ts (wKeep X.K c2 i ts2 Wo D) D) D σ H) := by
  refine ⟨fun pins s σ H D I hgo => ?_⟩
  have okX := I.ok
  have hA : X.A.frames = some (X.env :: X.outer) := by rw [okX.frames, hstk]
  refine wpAny_Try_except ?_
  refine wpAny_mono ((hbd (wKeep X.K c i ts (wKeep X.K c2 i ts2 Wo D) D) (X.pn ++ pins) (fun er r1 => wpAny (model X.prog X.w) X.A (noteFrame er X.env) (fun _ r2 => wpAny (model X.prog X.w) X.A (setFlight er none)
    (fun _ r3 => wpAny (model X.prog X.w) X.A (handleBy er X.env [.ExceptHandler (some (.Name x q0)) (some n) (st :: su) q1, .ExceptHandler (some (.Name x2 q3)) (some n) (st2 :: su2) q4]) (SP X pins D) X.xe r3) X.xe r2) X.xe r1) (fun u s' air => ?_) PassesOwn.looking).run [] s σ H D (I.toTry _) hgo) (fun f r1 hr1 => ?_) (fun _ _ z => z)
  · obtain ⟨a, B, sI, pin1, σ1, H1, cls, d, rfl, Jt, nb, up, sky, na, os, ag, b, hb, hy, hn⟩ := air
    have J : Inv X pins σ1 H1 sI := Jt.ofTry okX
    have sk1 : Sky B (X.env :: X.outer) a (Zc cls d) X.env.locals s'.heap := by rw [← hstk]; exact sky
    have Ba : B.get? a = none := by
      rcases sk1 with z | z | z
      · exact z.2.1
      · exact z.2.1
      · exact z.2.1
    show wpAny (model X.prog X.w) X.A (noteFrame (.ref a) X.env) _ _ _
    refine Sky.land Zc.steady hA hfrm sk1 fun g3 F3 u3 => ?_
    have J3 : Inv X pins σ1 H1 { s' with heap := g3 } := J.landed nb F3.1 (up.trans u3) os ag
    obtain ⟨o3, v3, e3, z3, d3⟩ := F3.there
    have nfr : a ∉ frs (X.env :: X.outer) := fun hm => by
      obtain ⟨_, o4, e4, k4⟩ := F3.2.2.1.mem hm
      rw [e3] at e4; cases e4
      exact k4 _ d3
    have nL : a ≠ X.env.locals := fun z => nfr (List.mem_filterMap.mpr ⟨X.env, List.mem_cons_self, by rw [hfrm, z]⟩)
    have nF : a ∉ X.fs := fun hm => by
      obtain ⟨e, he, q⟩ := List.mem_filterMap.mp hm
      exact nfr (List.mem_filterMap.mpr ⟨e, List.mem_cons_of_mem _ he, q⟩)
    have aI : sI.heap.get? a = none := by
      cases hq : sI.heap.get? a with
      | none => rfl
      | some o => have := nb a o hq (by rw [hstk]; exact nfr); rw [Ba] at this; cases this
    have a0 : X.s_0.heap.get? a = none := by
      cases hq : X.s_0.heap.get? a with
      | none => rfl
      | some o => obtain ⟨o', z⟩ := J.base.there a o hq (by rw [hex]; exact List.not_mem_nil); rw [aI] at z; cases z
    have aC : ∀ y cc, X.env.cells.lookup y = some cc → cc ≠ a := fun y cc hc z => by
      obtain ⟨v, o, z1, _⟩ := J.cell y cc hc
      rw [z, aI] at z1; cases z1
    have aP : ∀ p ∈ X.pn ++ pins, p.1 ≠ a := fun p hp z => by
      have := (J.pin p hp).1; rw [z, aI] at this; cases this
    have S3 := J3.suite e3 d3 na nL nF
    refine wpAny_handleBy_cons (codeAny_handlers_test ?_) (by intro q; cases q)
    have LT : PySem.W.Looks (model X.prog X.w) g3 (typeOf (.ref a)) cls := fun A Q E s k q => wpAny_typeOf_ref (k _ _ e3) (by rw [z3.1]; exact q)
    have LM := PySem.W.exm_one (M := model X.prog X.w) (J3.kIn) LT hb
    have ask : ∀ {Q : Value → Shared → Prop} {E : Value → Shared → Prop}, Q c { s' with heap := g3 } → wpAny (model X.prog X.w) (X.A.mark (some (.ref a))) (eval (.Name x q0) X.env) Q E { s' with heap := g3 } := fun {Q E} q => by
      obtain ⟨hg, hdb, hm | ⟨hm, hv, hnn⟩⟩ := hcls
      · exact ld_glob (X := X.suite a ((a, o3) :: (X.pn ++ pins))) S3 hg hm q hdb
      · exact ld_blt (X := X.suite a ((a, o3) :: (X.pn ++ pins))) S3 hg hm hv q hnn hdb
    refine ask (LM.here ?_)
    cases b with
    | true =>
      refine codeAny_handlers_suite_as ?_
      refine HandSPX.lands_againZ F3 fun g4 F4 u4 => ?_
      have J4 : Inv X pins σ1 H1 { s' with heap := g4 } := J.landed nb F4.1 ((up.trans u3).trans u4) os ag
      obtain ⟨o4, v4, e4, z4, d4⟩ := F4.there
      have S4 := J4.suite e4 d4 na nL nF
      refine store_ok (X := X.suite a ((a, o4) :: (X.pn ++ pins))) (v := .ref a) S4 hnd hix (.inl hloc) rfl (fun s5 S5 => ?_) (.inr hloc)
      refine wpAny_mono ((hst a o4 cls d (X.pn ++ pins) z4 ⟨_, d4⟩).run [] s5 _ H1 _ S5 (hy rfl a na)) (fun f s6 hs6 => ?_) (fun _ _ z => False.elim z)
      have go : ∀ {σ6 : L2.St} {H6 : Hp} {Q : Shared → Prop}, Inv (X.suite a ((a, o4) :: (X.pn ++ pins))) [] σ6 H6 s6 → (∀ s7, Inv X pins (σ6.set i none) (upd H6 a (XO a cls d)) s7 → Q s7) →
          wpAny (model X.prog X.w) X.A (do bindName X.env n .none; unbindBehindTheSuite X.env n q1) (fun _ s7 => Q s7) X.xe s6 := fun {σ6 H6 Q} S6 hq => by
        obtain ⟨k1, k2, _⟩ := S6.pin (a, o4) (List.mem_append_left _ List.mem_cons_self)
        exact gone_ok (track (S6.unsuite okX) k2 a0 nL aC aP k1 z4 d4) hnd hix hloc hq
      cases f with
      | next =>
        obtain ⟨σ6, H6, S6, q6⟩ := hs6
        exact go S6 fun s7 J7 => ⟨_, _, J7, q6⟩
      | brk =>
        obtain ⟨σ6, H6, S6, q6⟩ := hs6
        exact go S6 fun s7 J7 => ⟨_, _, J7, q6⟩
      | cont =>
        obtain ⟨σ6, H6, S6, q6⟩ := hs6
        exact go S6 fun s7 J7 => ⟨_, _, J7, q6⟩
      | ret u =>
        obtain ⟨w6, σ6, H6, S6, r6, q6⟩ := hs6
        exact go S6 fun s7 J7 => ⟨_, _, _, J7, r6, q6⟩
    | false =>
      show wpAny _ X.A (handleBy (.ref a) X.env [.ExceptHandler (some (.Name x2 q3)) (some n) (st2 :: su2) q4]) _ _ _
      obtain ⟨b2, hb2, hy2, hn2⟩ := hn rfl
      refine wpAny_handleBy_cons (codeAny_handlers_test ?_) (by intro q; cases q)
      have LM2 := PySem.W.exm_one (M := model X.prog X.w) (J3.kIn) LT hb2
      have ask2 : ∀ {Q : Value → Shared → Prop} {E : Value → Shared → Prop}, Q c2 { s' with heap := g3 } → wpAny (model X.prog X.w) (X.A.mark (some (.ref a))) (eval (.Name x2 q3) X.env) Q E { s' with heap := g3 } := fun {Q E} q => by
        obtain ⟨hg, hdb, hm | ⟨hm, hv, hnn⟩⟩ := hcls2
        · exact ld_glob (X := X.suite a ((a, o3) :: (X.pn ++ pins))) S3 hg hm q hdb
        · exact ld_blt (X := X.suite a ((a, o3) :: (X.pn ++ pins))) S3 hg hm hv q hnn hdb
      refine ask2 (LM2.here ?_)
      cases b2 with
      | true =>
        refine codeAny_handlers_suite_as ?_
        refine HandSPX.lands_againZ F3 fun g4 F4 u4 => ?_
        have J4 : Inv X pins σ1 H1 { s' with heap := g4 } := J.landed nb F4.1 ((up.trans u3).trans u4) os ag
        obtain ⟨o4, v4, e4, z4, d4⟩ := F4.there
        have S4 := J4.suite e4 d4 na nL nF
        refine store_ok (X := X.suite a ((a, o4) :: (X.pn ++ pins))) (v := .ref a) S4 hnd hix (.inl hloc) rfl (fun s5 S5 => ?_) (.inr hloc)
        refine wpAny_mono ((hst2 a o4 cls d (X.pn ++ pins) z4 ⟨_, d4⟩).run [] s5 _ H1 _ S5 (hy2 rfl a na)) (fun f s6 hs6 => ?_) (fun _ _ z => False.elim z)
        have go : ∀ {σ6 : L2.St} {H6 : Hp} {Q : Shared → Prop}, Inv (X.suite a ((a, o4) :: (X.pn ++ pins))) [] σ6 H6 s6 → (∀ s7, Inv X pins (σ6.set i none) (upd H6 a (XO a cls d)) s7 → Q s7) →
            wpAny (model X.prog X.w) X.A (do bindName X.env n .none; unbindBehindTheSuite X.env n q4) (fun _ s7 => Q s7) X.xe s6 := fun {σ6 H6 Q} S6 hq => by
          obtain ⟨k1, k2, _⟩ := S6.pin (a, o4) (List.mem_append_left _ List.mem_cons_self)
          exact gone_ok (track (S6.unsuite okX) k2 a0 nL aC aP k1 z4 d4) hnd hix hloc hq
        cases f with
        | next =>
          obtain ⟨σ6, H6, S6, q6⟩ := hs6
          exact go S6 fun s7 J7 => ⟨_, _, J7, q6⟩
        | brk =>
          obtain ⟨σ6, H6, S6, q6⟩ := hs6
          exact go S6 fun s7 J7 => ⟨_, _, J7, q6⟩
        | cont =>
          obtain ⟨σ6, H6, S6, q6⟩ := hs6
          exact go S6 fun s7 J7 => ⟨_, _, J7, q6⟩
        | ret u =>
          obtain ⟨w6, σ6, H6, S6, r6, q6⟩ := hs6
          exact go S6 fun s7 J7 => ⟨_, _, _, J7, r6, q6⟩
      | false =>
        show wpAny _ X.A (handleBy (.ref a) X.env []) _ _ _
        refine wpAny_handleBy_nil ?_
        obtain ⟨f1, f2, f3, oe, vs, T, oT, tt, he, hz, hd, h1, hr⟩ := id F3
        unfold PySem.passOn
        refine wpAny_bind (wpAny_field he hd h1 ?_)
        rw [if_neg (show ¬ ((Value.ref T == Value.none) = true) from by simp)]
        have fin : wpAny (model X.prog X.w) X.A (setFlight (.ref a) X.env.frame) (fun _ s4 => wpAny (model X.prog X.w) X.A (throw (.ref a) : Sem Flow) (SP X pins D) X.xe s4) X.xe { s' with heap := g3 } := by
          rw [hfrm]
          refine HandSPX.setFlight_upZ F3 fun g4 k4 u4 => wpAny_throw (tk _ _ ?_)
          exact ⟨a, B, sI, pins, σ1, H1, cls, d, rfl, J, nb, (up.trans u3).trans u4, .inr (.inr (by rw [hstk]; exact k4)), na, os, ag, hn2 rfl⟩
        first
          | exact wpAny_bind (wpAny_pure (wpAny_bind fin))
          | exact wpAny_bind fin
  · cases f with
    | next =>
      obtain ⟨σ1, H1, J1, q⟩ := hr1
      exact wpAny_execs_nil ⟨σ1, H1, J1.ofTry okX, q⟩
    | brk =>
      obtain ⟨σ1, H1, J1, q⟩ := hr1
      exact ⟨σ1, H1, J1.ofTry okX, q⟩
    | cont =>
      obtain ⟨σ1, H1, J1, q⟩ := hr1
      exact ⟨σ1, H1, J1.ofTry okX, q⟩
    | ret u =>
      obtain ⟨v, σ1, H1, J1, r, q⟩ := hr1
      exact ⟨v, σ1, H1, J1.ofTry okX, r, q⟩
end
/-! ### raise X('text'), X an own class over ArithmeticError -/
def bmAE : List Value := [.type "ArithmeticError", .type "Exception", .type "BaseException", .type "object"]
structure ErA (K : PySem.W.Frag) (mg : Str → Option Value) (x : Str) (C : Addr) : Prop where
  q : PySem.W.excIn K C bmAE "ArithmeticError.__new__" = true
  gl : mg x = some (.ref C)
  kp : PySem.W.keepIn K (.ref C) = true
  sb : PySem.W.subIn K (.ref C) (.type "BaseException") = some true
  ty : PySem.W.typeIn K (.ref C) = some (.type "type")
theorem ps_raiseA {X : Cx} {W : WX} {x m : Str} {j : Nat} {p p2 pos pos2 : Pos} {C : Addr} (E : ErA X.K X.mg x C) (hc : X.calm = true) (tk : Takes X W) (hg : Gl X x) (hdb : (x == ("__debug__" : Str)) = false := by decide) :
    PS X (.Raise (some (.Call (.Name x p) [.Constant (.str m) j p2] [] pos)) none pos2) (fun _ σ H => W (.ref C) none σ H) :=
  ps_raise hc tk (pmk_own PySem.F.excBase_ArithmeticError E.q E.gl E.kp (raises_own E.sb E.ty) hg hdb)
/-! ### isinstance of the error that a suite holds -/
def rIsE2 (K : PySem.W.Frag) (a : Addr) (cls : Value) (d : Option Addr) : List V → Hp → VK → Prop := fun xs H Q => ∃ (D : Addr) (c : V) (cv : Value) (b : Bool), cls = .ref D ∧ d = none ∧ ExcC K D ∧ xs = [.ref a, c] ∧ ClsV c cv ∧ PySem.W.kitOne K (.ref D) cv = some b ∧ Q (.bl b) H
theorem call_isE2 {X : Cx} {a : Addr} {cls : Value} {d : Option Addr} {oe : Obj} {pn : List (Addr × Obj)} (hz : Zc cls d oe) (hf : ∃ vs, oe.data = .fields vs) : CallR (X.suite a ((a, oe) :: pn)) (.builtin "isinstance") (rIsE2 X.K a cls d) := by
  intro pins s σ H xs us Q I r h
  obtain ⟨D, c, cv, b, rfl, rfl, hC, rfl, hcv, e, q⟩ := h
  exact call_isE hC hz hf pins s σ H _ us Q I r ⟨c, cv, b, rfl, fun u z => hcv.eq z, e, q⟩
theorem call_isE2' {X : Cx} {K : PySem.W.Frag} {a : Addr} {cls : Value} {d : Option Addr} {oe : Obj} {pn : List (Addr × Obj)} (e : (X.suite a ((a, oe) :: pn)).K = K) (hz : Zc cls d oe) (hf : ∃ vs, oe.data = .fields vs) : CallR (X.suite a ((a, oe) :: pn)) (.builtin "isinstance") (rIsE2 K a cls d) := by
  cases e; exact call_isE2 hz hf
end KL
namespace K21
open PySem PySem.Spec PyProof.Rows L2 KL
def topS (i : Nat) : Stmt := PySem.Challenge.pw_keptclauses_k21_no_runs.main.body.getD i (.Pass ⟨0, 0, 0, 0⟩)
abbrev s_is_whole : Stmt := topS 10
theorem sc_is_whole : FnScope ["thing"] ["thing"] (defScope s_is_whole) := ⟨rfl, rfl, rfl, by decide +kernel, rfl, by decide +kernel, by decide +kernel⟩
abbrev s_is_number : Stmt := topS 11
theorem sc_is_number : FnScope ["thing", "least", "most"] ["thing", "least", "most"] (defScope s_is_number) := ⟨rfl, rfl, rfl, by decide +kernel, rfl, by decide +kernel, by decide +kernel⟩
abbrev s_is_sign : Stmt := topS 12
theorem sc_is_sign : FnScope ["thing", "many"] ["thing", "many"] (defScope s_is_sign) := ⟨rfl, rfl, rfl, by decide +kernel, rfl, by decide +kernel, by decide +kernel⟩
abbrev s_wrong_sign : Stmt := topS 13
theorem sc_wrong_sign : FnScope ["signs", "many", "ahead", "place", "sign"] ["signs", "many"] (defScope s_wrong_sign) := ⟨rfl, rfl, rfl, by decide +kernel, rfl, by decide +kernel, by decide +kernel⟩
abbrev s_is_filling : Stmt := topS 14
theorem sc_is_filling : FnScope ["thing", "many", "truth"] ["thing", "many"] (defScope s_is_filling) := ⟨rfl, rfl, rfl, by decide +kernel, rfl, by decide +kernel, by decide +kernel⟩
abbrev s_is_clause : Stmt := topS 16
theorem sc_is_clause : FnScope ["thing", "many", "last", "sign"] ["thing", "many"] (defScope s_is_clause) := ⟨rfl, rfl, rfl, by decide +kernel, rfl, by decide +kernel, by decide +kernel⟩
abbrev s_says : Stmt := topS 17
theorem sc_says : FnScope ["filling", "sign"] ["filling", "sign"] (defScope s_says) := ⟨rfl, rfl, rfl, by decide +kernel, rfl, by decide +kernel, by decide +kernel⟩
abbrev s_holds : Stmt := topS 18
theorem sc_holds : FnScope ["clause", "filling", "sign"] ["clause", "filling"] (defScope s_holds) := ⟨rfl, rfl, rfl, by decide +kernel, rfl, by decide +kernel, by decide +kernel⟩
abbrev s_all_fillings : Stmt := topS 39
theorem sc_all_fillings : FnScope ["many", "told", "thing", "filling", "truth"] ["many"] (defScope s_all_fillings) := ⟨rfl, rfl, rfl, by decide +kernel, rfl, by decide +kernel, by decide +kernel⟩
abbrev s_is_gate : Stmt := topS 40
theorem sc_is_gate : FnScope ["thing", "ahead", "word", "one", "other"] ["thing", "ahead"] (defScope s_is_gate) := ⟨rfl, rfl, rfl, by decide +kernel, rfl, by decide +kernel, by decide +kernel⟩
abbrev s_is_promise : Stmt := topS 41
theorem sc_is_promise : FnScope ["thing", "boxes", "inputs", "sign"] ["thing", "boxes", "inputs"] (defScope s_is_promise) := ⟨rfl, rfl, rfl, by decide +kernel, rfl, by decide +kernel, by decide +kernel⟩
abbrev s_check_numbers : Stmt := topS 42
theorem sc_check_numbers : FnScope ["boxes", "inputs"] ["boxes", "inputs"] (defScope s_check_numbers) := ⟨rfl, rfl, rfl, by decide +kernel, rfl, by decide +kernel, by decide +kernel⟩
abbrev s_check_gates : Stmt := topS 43
theorem sc_check_gates : FnScope ["gates", "ahead", "number", "gate"] ["gates", "ahead"] (defScope s_check_gates) := ⟨rfl, rfl, rfl, by decide +kernel, rfl, by decide +kernel, by decide +kernel⟩
abbrev s_check_nexts : Stmt := topS 44
theorem sc_check_nexts : FnScope ["nexts", "boxes", "many", "number", "sign"] ["nexts", "boxes", "many"] (defScope s_check_nexts) := ⟨rfl, rfl, rfl, by decide +kernel, rfl, by decide +kernel, by decide +kernel⟩
abbrev s_check_starts : Stmt := topS 45
theorem sc_check_starts : FnScope ["starts", "boxes", "number"] ["starts", "boxes"] (defScope s_check_starts) := ⟨rfl, rfl, rfl, by decide +kernel, rfl, by decide +kernel, by decide +kernel⟩
abbrev s_check_promises : Stmt := topS 46
theorem sc_check_promises : FnScope ["promises", "boxes", "inputs", "number", "promise"] ["promises", "boxes", "inputs"] (defScope s_check_promises) := ⟨rfl, rfl, rfl, by decide +kernel, rfl, by decide +kernel, by decide +kernel⟩
abbrev s_words_under : Stmt := topS 47
theorem sc_words_under : FnScope ["promises", "boxes", "inputs", "told", "word", "filling", "promise"] ["promises", "boxes", "inputs"] (defScope s_words_under) := ⟨rfl, rfl, rfl, by decide +kernel, rfl, by decide +kernel, by decide +kernel⟩
abbrev s_Machine___init__ : Stmt := inClass (topS 48) 0
theorem sc_Machine___init__ : FnScope ["self", "boxes", "inputs", "gates", "nexts", "starts", "promises"] ["self", "boxes", "inputs", "gates", "nexts", "starts", "promises"] (defScope s_Machine___init__) := ⟨rfl, rfl, rfl, by decide +kernel, rfl, by decide +kernel, by decide +kernel⟩
abbrev s_Machine___len__ : Stmt := inClass (topS 48) 1
theorem sc_Machine___len__ : FnScope ["self"] ["self"] (defScope s_Machine___len__) := ⟨rfl, rfl, rfl, by decide +kernel, rfl, by decide +kernel, by decide +kernel⟩
abbrev s_Machine_boxes : Stmt := inClass (topS 48) 3
theorem sc_Machine_boxes : FnScope ["self"] ["self"] (defScope s_Machine_boxes) := ⟨rfl, rfl, rfl, by decide +kernel, rfl, by decide +kernel, by decide +kernel⟩
abbrev s_Machine_inputs : Stmt := inClass (topS 48) 4
theorem sc_Machine_inputs : FnScope ["self"] ["self"] (defScope s_Machine_inputs) := ⟨rfl, rfl, rfl, by decide +kernel, rfl, by decide +kernel, by decide +kernel⟩
abbrev s_Machine_gates : Stmt := inClass (topS 48) 5
theorem sc_Machine_gates : FnScope ["self"] ["self"] (defScope s_Machine_gates) := ⟨rfl, rfl, rfl, by decide +kernel, rfl, by decide +kernel, by decide +kernel⟩
abbrev s_Machine_nexts : Stmt := inClass (topS 48) 6
theorem sc_Machine_nexts : FnScope ["self"] ["self"] (defScope s_Machine_nexts) := ⟨rfl, rfl, rfl, by decide +kernel, rfl, by decide +kernel, by decide +kernel⟩
abbrev s_Machine_starts : Stmt := inClass (topS 48) 7
theorem sc_Machine_starts : FnScope ["self"] ["self"] (defScope s_Machine_starts) := ⟨rfl, rfl, rfl, by decide +kernel, rfl, by decide +kernel, by decide +kernel⟩
abbrev s_Machine_promises : Stmt := inClass (topS 48) 8
theorem sc_Machine_promises : FnScope ["self"] ["self"] (defScope s_Machine_promises) := ⟨rfl, rfl, rfl, by decide +kernel, rfl, by decide +kernel, by decide +kernel⟩
abbrev s_Machine_words : Stmt := inClass (topS 48) 12
theorem sc_Machine_words : FnScope ["self"] ["self"] (defScope s_Machine_words) := ⟨rfl, rfl, rfl, by decide +kernel, rfl, by decide +kernel, by decide +kernel⟩
abbrev s_Machine_is_word : Stmt := inClass (topS 48) 13
theorem sc_Machine_is_word : FnScope ["self", "thing"] ["self", "thing"] (defScope s_Machine_is_word) := ⟨rfl, rfl, rfl, by decide +kernel, rfl, by decide +kernel, by decide +kernel⟩
abbrev s_is_beginning : Stmt := topS 21
theorem sc_is_beginning : FnScope ["machine", "thing", "sign"] ["machine", "thing"] (defScope s_is_beginning) := ⟨rfl, rfl, rfl, by decide +kernel, rfl, by decide +kernel, by decide +kernel⟩
abbrev s_are_words : Stmt := topS 22
theorem sc_are_words : FnScope ["machine", "thing", "most", "word"] ["machine", "thing", "most"] (defScope s_are_words) := ⟨rfl, rfl, rfl, by decide +kernel, rfl, by decide +kernel, by decide +kernel⟩
abbrev s_is_run : Stmt := topS 23
theorem sc_is_run : FnScope ["machine", "thing", "stand", "words"] ["machine", "thing"] (defScope s_is_run) := ⟨rfl, rfl, rfl, by decide +kernel, rfl, by decide +kernel, by decide +kernel⟩
abbrev s_checked : Stmt := topS 24
theorem sc_checked : FnScope ["machine", "run"] ["machine", "run"] (defScope s_checked) := ⟨rfl, rfl, rfl, by decide +kernel, rfl, by decide +kernel, by decide +kernel⟩
abbrev s_stands : Stmt := topS 25
theorem sc_stands : FnScope ["machine", "run", "stand", "words", "told", "word"] ["machine", "run"] (defScope s_stands) := ⟨rfl, rfl, rfl, by decide +kernel, rfl, by decide +kernel, by decide +kernel⟩
abbrev s_fillings : Stmt := topS 26
theorem sc_fillings : FnScope ["machine", "run", "stand", "words", "told", "word"] ["machine", "run"] (defScope s_fillings) := ⟨rfl, rfl, rfl, by decide +kernel, rfl, by decide +kernel, by decide +kernel⟩
abbrev s_wave : Stmt := topS 27
theorem sc_wave : FnScope ["machine", "run", "told", "rows", "place", "filling"] ["machine", "run"] (defScope s_wave) := ⟨rfl, rfl, rfl, by decide +kernel, rfl, by decide +kernel, by decide +kernel⟩
abbrev s_told_on : Stmt := topS 28
theorem sc_told_on : FnScope ["machine", "run", "words", "stand", "ahead"] ["machine", "run", "words"] (defScope s_told_on) := ⟨rfl, rfl, rfl, by decide +kernel, rfl, by decide +kernel, by decide +kernel⟩
abbrev s_cut : Stmt := topS 29
theorem sc_cut : FnScope ["machine", "run", "beats", "stand", "words"] ["machine", "run", "beats"] (defScope s_cut) := ⟨rfl, rfl, rfl, by decide +kernel, rfl, by decide +kernel, by decide +kernel⟩
abbrev s_both : Stmt := topS 35
theorem sc_both : FnScope ["one", "other"] ["one", "other"] (defScope s_both) := ⟨rfl, rfl, rfl, by decide +kernel, rfl, by decide +kernel, by decide +kernel⟩
abbrev s_either : Stmt := topS 36
theorem sc_either : FnScope ["one", "other"] ["one", "other"] (defScope s_either) := ⟨rfl, rfl, rfl, by decide +kernel, rfl, by decide +kernel, by decide +kernel⟩
abbrev s_just_one : Stmt := topS 37
theorem sc_just_one : FnScope ["one", "other"] ["one", "other"] (defScope s_just_one) := ⟨rfl, rfl, rfl, by decide +kernel, rfl, by decide +kernel, by decide +kernel⟩
abbrev s_Machine_filling : Stmt := inClass (topS 48) 9
theorem sc_Machine_filling : FnScope ["self", "stand", "word", "truths", "gate", "one", "other", "reckon"] ["self", "stand", "word"] (defScope s_Machine_filling) := ⟨rfl, rfl, rfl, by decide +kernel, rfl, by decide +kernel, by decide +kernel⟩
abbrev s_Machine_behind : Stmt := inClass (topS 48) 10
theorem sc_Machine_behind : FnScope ["self", "stand", "word", "filling", "sign"] ["self", "stand", "word"] (defScope s_Machine_behind) := ⟨rfl, rfl, rfl, by decide +kernel, rfl, by decide +kernel, by decide +kernel⟩
abbrev s_law_pool : Stmt := topS 50
theorem sc_law_pool : FnScope ["_law_script", "_law_k", "_law_cell", "_law_seed"] ["_law_script", "_law_k"] (defScope s_law_pool) := ⟨rfl, rfl, rfl, by decide +kernel, rfl, by decide +kernel, by decide +kernel⟩
abbrev s_law_take : Stmt := topS 51
theorem sc_law_take : FnScope ["_law_pool_here", "_law_many", "_law_digit"] ["_law_pool_here", "_law_many"] (defScope s_law_take) := ⟨rfl, rfl, rfl, by decide +kernel, rfl, by decide +kernel, by decide +kernel⟩
abbrev s_law_signed : Stmt := topS 52
theorem sc_law_signed : FnScope ["_law_pool_here", "_law_many"] ["_law_pool_here", "_law_many"] (defScope s_law_signed) := ⟨rfl, rfl, rfl, by decide +kernel, rfl, by decide +kernel, by decide +kernel⟩
abbrev s_law_all : Stmt := topS 53
theorem sc_law_all : FnScope ["_law_many", "_law_k", "_law_number"] ["_law_many"] (defScope s_law_all) := ⟨rfl, rfl, rfl, by decide +kernel, rfl, by decide +kernel, by decide +kernel⟩
abbrev s_law_some_signs : Stmt := topS 54
theorem sc_law_some_signs : FnScope ["_law_pool_here", "_law_low", "_law_high", "_law_most", "_law_left", "_law_found", "_law_turn", "_law_thing"] ["_law_pool_here", "_law_low", "_law_high", "_law_most"] (defScope s_law_some_signs) := ⟨rfl, rfl, rfl, by decide +kernel, rfl, by decide +kernel, by decide +kernel⟩
abbrev s_law_by_thing : Stmt := topS 55
theorem sc_law_by_thing : FnScope ["_law_signs", "_law_ranked", "_law_sign", "_law_thing"] ["_law_signs"] (defScope s_law_by_thing) := ⟨rfl, rfl, rfl, by decide +kernel, rfl, by decide +kernel, by decide +kernel⟩
abbrev s_law_pledges : Stmt := topS 56
theorem sc_law_pledges : FnScope ["_law_pool_here", "_law_boxes", "_law_inputs", "_law_lucky", "_law_k", "_law_found", "_law_turn", "_law_signs", "_law_at"] ["_law_pool_here", "_law_boxes", "_law_inputs"] (defScope s_law_pledges) := ⟨rfl, rfl, rfl, by decide +kernel, rfl, by decide +kernel, by decide +kernel⟩
abbrev s_law_spec : Stmt := topS 57
theorem sc_law_spec : FnScope ["_law_pool_here", "_law_most_boxes", "_law_most_inputs", "_law_most_gates", "_law_boxes", "_law_inputs", "_law_gates", "_law_number", "_law_ahead", "_law_word", "_law_things", "_law_nexts", "_law_box", "_law_late", "_law_begins_here"] ["_law_pool_here", "_law_most_boxes", "_law_most_inputs", "_law_most_gates"] (defScope s_law_spec) := ⟨rfl, rfl, rfl, by decide +kernel, rfl, by decide +kernel, by decide +kernel⟩
abbrev s_law_made : Stmt := topS 58
theorem sc_law_made : FnScope ["_law_spec_here", "_law_boxes", "_law_inputs", "_law_gates", "_law_nexts", "_law_begins_here", "_law_pledges_here"] ["_law_spec_here"] (defScope s_law_made) := ⟨rfl, rfl, rfl, by decide +kernel, rfl, by decide +kernel, by decide +kernel⟩
abbrev s_law_says : Stmt := topS 59
theorem sc_law_says : FnScope ["_law_sign", "_law_truths"] ["_law_sign", "_law_truths"] (defScope s_law_says) := ⟨rfl, rfl, rfl, by decide +kernel, rfl, by decide +kernel, by decide +kernel⟩
abbrev s_law_clause_is : Stmt := topS 60
theorem sc_law_clause_is : FnScope ["_law_clause", "_law_truths", "_law_sign"] ["_law_clause", "_law_truths"] (defScope s_law_clause_is) := ⟨rfl, rfl, rfl, by decide +kernel, rfl, by decide +kernel, by decide +kernel⟩
abbrev s_law_words : Stmt := topS 61
theorem sc_law_words : FnScope ["_law_spec_here", "_law_found", "_law_word", "_law_truths", "_law_clause"] ["_law_spec_here"] (defScope s_law_words) := ⟨rfl, rfl, rfl, by decide +kernel, rfl, by decide +kernel, by decide +kernel⟩
abbrev s_law_begins : Stmt := topS 62
theorem sc_law_begins : FnScope ["_law_spec_here", "_law_found", "_law_stand", "_law_sign"] ["_law_spec_here"] (defScope s_law_begins) := ⟨rfl, rfl, rfl, by decide +kernel, rfl, by decide +kernel, by decide +kernel⟩
abbrev s_law_one : Stmt := topS 63
theorem sc_law_one : FnScope ["_law_pool_here", "_law_some"] ["_law_pool_here", "_law_some"] (defScope s_law_one) := ⟨rfl, rfl, rfl, by decide +kernel, rfl, by decide +kernel, by decide +kernel⟩
abbrev s_law_run : Stmt := topS 64
theorem sc_law_run : FnScope ["_law_pool_here", "_law_spec_here", "_law_most", "_law_ways", "_law_turn"] ["_law_pool_here", "_law_spec_here", "_law_most"] (defScope s_law_run) := ⟨rfl, rfl, rfl, by decide +kernel, rfl, by decide +kernel, by decide +kernel⟩
abbrev s_law_is_run : Stmt := topS 65
theorem sc_law_is_run : FnScope ["_law_spec_here", "_law_thing", "_law_stand", "_law_ways", "_law_word"] ["_law_spec_here", "_law_thing"] (defScope s_law_is_run) := ⟨rfl, rfl, rfl, by decide +kernel, rfl, by decide +kernel, by decide +kernel⟩
abbrev s_law_bent_run : Stmt := topS 66
theorem sc_law_bent_run : FnScope ["_law_pool_here", "_law_spec_here", "_law_run_here", "_law_stand", "_law_words_in", "_law_at", "_law_box", "_law_bad", "_law_truth", "_law_odd", "_law_other", "_law_some"] ["_law_pool_here", "_law_spec_here", "_law_run_here"] (defScope s_law_bent_run) := ⟨rfl, rfl, rfl, by decide +kernel, rfl, by decide +kernel, by decide +kernel⟩
abbrev s_law_door : Stmt := topS 67
theorem sc_law_door : FnScope ["_law_door_here", "_law_machine", "_law_run_here", "_law_thing"] ["_law_door_here", "_law_machine", "_law_run_here", "_law_thing"] (defScope s_law_door) := ⟨rfl, rfl, rfl, by decide +kernel, rfl, by decide +kernel, by decide +kernel⟩
abbrev s_law_refusal : Stmt := topS 68
theorem sc_law_refusal : FnScope ["_law_door_here", "_law_machine", "_law_run_here", "_law_thing", "_law_error", "e", "_law_kinds"] ["_law_door_here", "_law_machine", "_law_run_here", "_law_thing"] (defScope s_law_refusal) := ⟨rfl, rfl, rfl, by decide +kernel, rfl, by decide +kernel, by decide +kernel⟩
abbrev s_law : Stmt := topS 69
theorem sc_law : FnScope ["_law_script", "_law_k", "_law_pool_here", "_law_spec_here", "_law_machine", "_law_run_here", "_law_way", "_law_turn", "_law_bent", "_law_door_here", "_law_odd", "_law_thing", "_law_good"] ["_law_script"] (defScope s_law) := ⟨rfl, rfl, rfl, by decide +kernel, rfl, by decide +kernel, by decide +kernel⟩
section
variable {P : Program} {w : World} {K : PySem.W.Frag} {mg : Str → Option Value} {base : Heap}
/-! ### whole numbers, signs -/
def whB : PyData → Bool
  | .int _ => true
  | _ => false
def spWh (K : PySem.W.Frag) : Sp := fun vs H Q _ => ∃ (x : V) (d : PyData), vs = [x] ∧ Dp K H x d ∧ Q (.bl (whB d)) H
theorem ok_wh {f : Addr} {fd : FuncData} {k : Nat} (F : Fun K "is_whole" "is_whole" s_is_whole f fd) (m_isinstance : mg "isinstance" = none) (m_int : mg "int" = none) (m_bool : mg "bool" = none) :
    FnOk P w K mg base CX0 (k + 1) f fd ["thing"] (spWh K) := by
  refine F.ok sc_is_whole (fun vs H Q E h => ?_) (fun cdv A outer s H vs Q E hr h => ?_)
  · obtain ⟨x, d, rfl, _⟩ := h
    rfl
  obtain ⟨x, d, rfl, hd, q⟩ := h
  refine ⟨_, (pss_one (ps_ret (pe_and (pe_callB call_isi (by rfl) m_isinstance (by decide +kernel) (pa_cons (pv 0) (pa_cons (pe_bltn (v := .ty "int") (by rfl) m_int (by decide +kernel) rfl) pa_nil))) (pe_one (pe_not (pe_callB call_isi (by rfl) m_isinstance (by decide +kernel) (pa_cons (pv 0) (pa_cons (pe_bltn (v := .ty "bool") (by rfl) m_bool (by decide +kernel) rfl) pa_nil)))))))), ?_⟩
  refine ⟨_, rfl, _, _, _, _, _, rfl, .ty _, dpTy hd, kit_ty (kit_int d), _, rfl, ?_⟩
  cases d with
  | int i => exact iteT ⟨_, rfl, _, _, _, _, _, rfl, .ty _, dpTy hd, kit_ty (kit_bool (.int i)), _, rfl, q⟩
  | bool b => exact iteT ⟨_, rfl, _, _, _, _, _, rfl, .ty _, dpTy hd, kit_ty (kit_bool (.bool b)), _, rfl, q⟩
  | none => exact iteF q
  | str _ => exact iteF q
  | list _ => exact iteF q
  | tuple _ => exact iteF q
  | dict _ => exact iteF q
def numB : PyData → Int → Int → Bool
  | .int i, lo, hi => decide (lo ≤ i) && decide (i ≤ hi)
  | _, _, _ => false
def spNum (K : PySem.W.Frag) : Sp := fun vs H Q _ => ∃ (x : V) (d : PyData) (lo hi : Int), vs = [x, .int lo, .int hi] ∧ Dp K H x d ∧ Q (.bl (numB d lo hi)) H
theorem ok_num {f : Addr} {fd : FuncData} {k : Nat} (F : Fun K "is_number" "is_number" s_is_number f fd) (D_is_whole : Df P w K mg base k "is_whole" ["thing"] (spWh K)) :
    FnOk P w K mg base CX0 (k + 1) f fd ["thing", "least", "most"] (spNum K) := by
  refine F.ok sc_is_number (fun vs H Q E h => ?_) (fun cdv A outer s H vs Q E hr h => ?_)
  · obtain ⟨x, d, lo, hi, rfl, _⟩ := h
    rfl
  obtain ⟨x, d, lo, hi, rfl, hd, q⟩ := h
  refine ⟨_, (pss_one (ps_ret (pe_and (pe_df D_is_whole hr (by rfl) (pa_cons (pv 0) pa_nil)) (pe_one (pe_chain op_le op_le (pv 1) (pv 0) (pv 2)))))), ?_⟩
  refine ⟨_, rfl, x, d, rfl, hd, _, rfl, ?_⟩
  cases d with
  | int i =>
    cases hd
    refine iteT ⟨_, rfl, _, rfl, _, _, rfl, rfl, _, rfl, ite2 (fun c => ?_) (fun c => ?_)⟩
    · refine ⟨_, rfl, _, _, rfl, rfl, ?_⟩
      have e : numB (.int i) lo hi = decide (i ≤ hi) := by
        show (decide (lo ≤ i) && decide (i ≤ hi)) = _
        rw [c]; rfl
      rw [e] at q
      exact q
    · have e : numB (.int i) lo hi = false := by
        show (decide (lo ≤ i) && decide (i ≤ hi)) = _
        rw [Bool.eq_false_iff.mpr c]; rfl
      rw [e] at q
      exact q
  | bool b => exact iteF q
  | none => exact iteF q
  | str _ => exact iteF q
  | list _ => exact iteF q
  | tuple _ => exact iteF q
  | dict _ => exact iteF q
def signB (d : PyData) (many : Int) : Bool := numB d (-many) many && (match d with | .int i => !decide (i = 0) | _ => false)
def spSign (K : PySem.W.Frag) : Sp := fun vs H Q _ => ∃ (x : V) (d : PyData) (many : Int), vs = [x, .int many] ∧ Dp K H x d ∧ Q (.bl (signB d many)) H
theorem ok_sign {f : Addr} {fd : FuncData} {k : Nat} (F : Fun K "is_sign" "is_sign" s_is_sign f fd) (D_is_number : Df P w K mg base k "is_number" ["thing", "least", "most"] (spNum K)) :
    FnOk P w K mg base CX0 (k + 1) f fd ["thing", "many"] (spSign K) := by
  refine F.ok sc_is_sign (fun vs H Q E h => ?_) (fun cdv A outer s H vs Q E hr h => ?_)
  · obtain ⟨x, d, m, rfl, _⟩ := h
    rfl
  obtain ⟨x, d, m, rfl, hd, q⟩ := h
  refine ⟨_, (pss_one (ps_ret (pe_and (pe_df D_is_number hr (by rfl) (pa_cons (pv 0) (pa_cons (pe_un un_neg (pv 1)) (pa_cons (pv 1) pa_nil)))) (pe_one (pe_cmpR op_ne (pv 0) pe_int (nomark _)))))), ?_⟩
  refine ⟨_, rfl, _, rfl, _, rfl, _, rfl, x, d, -m, m, rfl, hd, _, rfl, ite2 (fun c => ?_) (fun c => ?_)⟩
  · cases d with
    | int i =>
      cases hd
      refine ⟨_, rfl, rfl, ?_⟩
      have e : signB (.int i) m = !decide (V.int i = V.int 0) := by
        show (numB (.int i) (-m) m && !decide (i = 0)) = _
        rw [c, dec_int]
        rfl
      rw [e] at q
      exact q
    | _ => exact absurd c Bool.false_ne_true
  · have e : signB d m = false := by
      unfold signB
      rw [Bool.eq_false_iff.mpr c]; rfl
    rw [e] at q
    exact q

/-! ### is_clause -/
/-- rising signs behind the thing last -/
def goB (many : Int) : Int → List PyData → Bool
  | _, [] => true
  | last, d :: ds => match d with
    | .int i => if signB (.int i) many = true ∧ last < (if i < 0 then -i else i) then goB many (if i < 0 then -i else i) ds else false
    | _ => false
def clB (d : PyData) (many : Int) : Bool := match d with
  | .tuple ds => goB many 0 ds
  | _ => false
def spIsCl (K : PySem.W.Frag) : Sp := fun vs H Q _ => ∃ (x : V) (d : PyData) (many : Int), vs = [x, .int many] ∧ (Dp K H x d ∨ (TyX K H x (.type "dict") ∧ d = .none)) ∧ many ≤ 60 ∧ Q (.bl (clB d many)) H
theorem dpAll_at {K : PySem.W.Frag} {H : Hp} : ∀ {xs : List V} {ds : List PyData} {i : Nat} {x : V}, DpAll K H xs ds → xs[i]? = some x → ∃ d, ds[i]? = some d ∧ Dp K H x d ∧ ds.drop i = d :: ds.drop (i + 1)
  | _, _, _, _, .nil, e => by simp at e
  | _, _, 0, _, .cons h _, e => by cases e; exact ⟨_, rfl, h, rfl⟩
  | _, _, i + 1, x, .cons _ t, e => by
    obtain ⟨d, h1, h2, h3⟩ := dpAll_at (i := i) (x := x) t (by simpa using e)
    exact ⟨d, by simpa using h1, h2, by simpa using h3⟩
theorem dpAll_len {K : PySem.W.Frag} {H : Hp} : ∀ {xs : List V} {ds : List PyData}, DpAll K H xs ds → xs.length = ds.length
  | _, _, .nil => rfl
  | _, _, .cons _ t => by rw [List.length_cons, List.length_cons, dpAll_len t]
theorem ok_iscl {f : Addr} {fd : FuncData} {k : Nat} (F : Fb K "is_clause" "is_clause" s_is_clause f fd) (D_is_sign : Df P w K mg base k "is_sign" ["thing", "many"] (spSign K))
    (m_isinstance : mg "isinstance" = none) (m_tuple : mg "tuple" = none) (m_min : mg "min" = none) (m_abs : mg "abs" = none) {tk : Tok} (g_60 : mg "MOST_THINGS" = some (.int 60 tk)) :
    FnOk P w K mg base CX0 (k + 1) f fd ["thing", "many"] (spIsCl K) := by
  refine F.ok sc_is_clause (fun vs H Q E h => ?_) (fun cdv A outer s H vs Q E hr h => ?_)
  · obtain ⟨x, d, m, rfl, _⟩ := h
    rfl
  obtain ⟨x, d, m, rfl, hd, hm, q⟩ := h
  refine ⟨_, (pss_cons (ps_if (pt_not (pt_val (pe_callB call_isi (by rfl) m_isinstance (by decide +kernel) (pa_cons (pv 0) (pa_cons (pe_bltn (v := .ty "tuple") (by rfl) m_tuple (by decide +kernel) rfl) pa_nil)))))
       (pss_one (ps_ret pe_bl))
       pss_nil)
       (pss_cons (ps_set (i := 2) sc_is_clause.nd rfl (.inl rfl) pe_int)
       (pss_cons (ps_for PassesOwn.never rfl (pi_tup (pv 0)) (pg_name (i := 3) sc_is_clause.nd rfl (.inl rfl))
       (pss_cons (ps_if (PW.pt (pw_or (pt_not (pt_val (pe_df D_is_sign hr (by rfl) (pa_cons (pv 3) (pa_cons (pe_callB (call_min2 rfl) (by rfl) m_min (by decide +kernel) (pa_cons (pv 1) (pa_cons (pe_glob (v := .int 60) (by rfl) g_60 ⟨_, rfl⟩) pa_nil))) pa_nil))))) (pw_or1 (pt_cmpR op_le (pe_callB call_abs (by rfl) m_abs (by decide +kernel) (pa_cons (pv 3) pa_nil)) (pv 2) (nomark _)))))
       (pss_one (ps_ret pe_bl))
       pss_nil)
       (pss_one (ps_set (i := 2) sc_is_clause.nd rfl (.inl rfl) (pe_callB call_abs (by rfl) m_abs (by decide +kernel) (pa_cons (pv 3) pa_nil))))))
       (pss_one (ps_ret pe_bl))))), ?_⟩
  rcases hd with hd | ⟨ht, rfl⟩
  case inr => exact ⟨_, rfl, ⟨x, .ty "tuple", .type "dict", .type "tuple", false, rfl, .ty "tuple", ht, kit_ty (by decide +kernel), _, rfl, iteT q⟩⟩
  refine ⟨_, rfl, _, _, _, _, _, rfl, .ty _, dpTy hd, kit_ty (kit_tuple d), _, rfl, ?_⟩
  cases d with
  | tuple ds =>
    cases hd with
    | @tup a xs _ hS hA =>
      refine iteF ?_
      refine ⟨_, rfl, a, rfl, ⟨_, hS⟩, for_tup (xs := xs) (fun i σ' H' => H' = H ∧ ∃ (last : Int) (y : Option V), σ' = [some (.ref a), some (.int m), some (.int last), y] ∧ goB m 0 ds = goB m last (ds.drop i)) ⟨rfl, 0, _, rfl, rfl⟩ (fun i σ' H' _ h => by rw [h.1]; exact hS) ?_ ?_⟩
      · rintro i x σ' H' ex ⟨rfl, last, y, rfl, e⟩
        obtain ⟨d, _, hx, hdr⟩ := dpAll_at hA ex
        rw [hdr] at e
        have e60 : (if (60 : Int) < m then (60 : Int) else m) = m := by rw [if_neg (by omega)]
        refine ⟨_, rfl, _, rfl, _, _, rfl, ?_⟩
        rw [e60]
        refine ⟨x, d, m, rfl, hx, _, rfl, ?_⟩
        cases d with
        | int j =>
          cases hx
          cases hs : signB (.int j) m with
          | true =>
            refine iteF ⟨_, rfl, _, rfl, _, rfl, _, _, rfl, rfl, _, rfl, ite2 (fun c => ?_) (fun c => ?_)⟩
            · have c' : (if j < 0 then -j else j) ≤ last := of_decide_eq_true c
              have z : goB m last (.int j :: ds.drop (i + 1)) = false := by
                unfold goB
                exact if_neg (fun z => by omega)
              rw [show clB (.tuple ds) m = goB m 0 ds from rfl, e, z] at q
              exact q
            · have c' : ¬ (if j < 0 then -j else j) ≤ last := of_decide_eq_false (Bool.eq_false_iff.mpr c)
              refine ⟨_, rfl, _, rfl, ⟨rfl, _, _, rfl, ?_⟩⟩
              rw [e]
              show (if signB (.int j) m = true ∧ last < (if j < 0 then -j else j) then goB m (if j < 0 then -j else j) (ds.drop (i + 1)) else false) = _
              exact if_pos ⟨hs, by omega⟩
          | false =>
            have z : goB m last (.int j :: ds.drop (i + 1)) = false := by
              unfold goB
              exact if_neg (fun z => absurd z.1 (by rw [hs]; exact Bool.false_ne_true))
            rw [show clB (.tuple ds) m = goB m 0 ds from rfl, e, z] at q
            exact iteT q
        | _ =>
          rw [show clB (.tuple ds) m = goB m 0 ds from rfl, e] at q
          exact iteT q
      · rintro σ' H' ⟨rfl, last, y, rfl, e⟩
        rw [dpAll_len hA, List.drop_length] at e
        rw [show clB (.tuple ds) m = goB m 0 ds from rfl, e] at q
        exact q
  | _ => exact iteT q

/-! ### what a filling says -/
def spSays (K : PySem.W.Frag) : Sp := fun vs H Q _ => ∃ (t : Addr) (bs : List Bool) (n : Int), vs = [.ref t, .int n] ∧ SqT K H t (bs.map V.bl) ∧ 1 ≤ n.natAbs ∧ n.natAbs ≤ bs.length ∧ Q (.bl (sayB bs n)) H
theorem ok_says {f : Addr} {fd : FuncData} {k : Nat} (F : Fun K "says" "says" s_says f fd) (m_abs : mg "abs" = none) : FnOk P w K mg base CX0 (k + 1) f fd ["filling", "sign"] (spSays K) := by
  refine F.ok sc_says (fun vs H Q E h => ?_) (fun cdv A outer s H vs Q E hr h => ?_)
  · obtain ⟨t, bs, n, rfl, _⟩ := h
    rfl
  obtain ⟨t, bs, n, rfl, hS, h1, h2, q⟩ := h
  refine ⟨_, (pss_one (ps_ret (pe_cmpR op_eq (pe_ix ix_tup (pv 0) (pe_op op_sub (pe_callB call_abs (by rfl) m_abs (by decide +kernel) (pa_cons (pv 1) pa_nil)) pe_int) (fun _ _ => rfl)) (pe_cmpR op_gt (pv 1) pe_int (nomark _)) (nomark _)))), ?_⟩
  obtain ⟨b, hb, e⟩ := say_at h1 h2
  exact ⟨_, rfl, _, rfl, _, rfl, _, _, rfl, rfl, t, _, _, .bl b, rfl, rfl, hS, hb, _, rfl, _, _, rfl, rfl, rfl, by rw [say_eq, ← e]; exact q⟩
def spHolds (K : PySem.W.Frag) : Sp := fun vs H Q _ => ∃ (c t : Addr) (ns : List Int) (bs : List Bool), vs = [.ref c, .ref t] ∧ SqT K H c (ns.map V.int) ∧ SqT K H t (bs.map V.bl) ∧ ns.length ≤ 1000 ∧ (∀ n ∈ ns, 1 ≤ n.natAbs ∧ n.natAbs ≤ bs.length) ∧
  ∀ H', Same H H' → Q (.bl (ns.any (sayB bs))) H'
theorem ok_holds {f : Addr} {fd : FuncData} {k : Nat} (F : Fun K "holds" "holds" s_holds f fd) (D_says : Df P w K mg base k "says" ["filling", "sign"] (spSays K)) (m_any : mg "any" = none) :
    FnOk P w K mg base CX0 (k + 1) f fd ["clause", "filling"] (spHolds K) := by
  refine F.ok sc_holds (fun vs H Q E h => ?_) (fun cdv A outer s H vs Q E hr h => ?_)
  · obtain ⟨c, t, ns, bs, rfl, _⟩ := h
    rfl
  obtain ⟨c, t, ns, bs, rfl, hc, ht, hl, hn, q⟩ := h
  refine ⟨_, (pss_one (ps_ret (pe_callB (cr_any rfl) (by rfl) m_any (by decide +kernel) (pa_cons (pe_lc (own := [("sign", 2)]) (g := gName 2) (tt := tYes) (by rfl) sc_holds.nd (pi_tup (pv 0)) (blkOk_by (by kernel_rfl)) (fun _ _ _ _ _ => (pg_name (i := 2) sc_holds.nd rfl (.inl rfl))) (fun _ _ _ _ _ => pts_nil) (fun _ _ _ _ _ => (pe_df D_says hr (by rfl) (pa_cons (pv 1) (pa_cons (pv 2) pa_nil))))) pa_nil)))), ?_⟩
  refine ⟨_, rfl, c, rfl, ⟨_, hc⟩, fun D nD => lc_tup (xs := ns.map V.int) (fun i H' => Same H H' ∧ H' D = some (.lst (((ns.take i).map (sayB bs)).map V.bl))) ⟨same_new nD, upd_same⟩ (fun i H' _ h => same_tup h.1 hc) ?_ ?_⟩
  · rintro i x H1 ex ⟨s1, e1⟩
    obtain ⟨n, rfl, hi, ht2⟩ := at_int ex
    refine ⟨rfl, _, rfl, _, rfl, t, bs, n, rfl, same_tup s1 ht, (hn n hi).1, (hn n hi).2, _, e1, ?_, ?_, ?_⟩
    · simp only [List.length_map, List.length_take]; exact small1000 (by omega)
    · exact fun b o hb => by rw [upd_ne (ne_of_none hb nD)]; exact s1 _ _ hb
    · rw [upd_same, ht2]; simp
  · rintro H1 ⟨s1, e1⟩
    refine ⟨D, ns.map (sayB bs), rfl, SqL.of ?_, ?_⟩
    · rw [e1]; simp
    · rw [List.any_map]; exact q H1 s1

/-! ### signs of unlike things, fillings -/
theorem sign_ok {n : Int} {m : Nat} (h : Sgn n m) : signB (.int n) m = true := by
  unfold signB numB
  have := h.1
  have := h.2
  simp; omega
def spWrong (K : PySem.W.Frag) : Sp := fun vs H Q _ => ∃ (b : Bool) (a : Addr) (ns : List Int) (m : Nat), vs = [.ref a, .int m] ∧ SqB b K H a (ns.map V.int) ∧ ns.length ≤ 1000 ∧ (∀ n ∈ ns, Sgn n m) ∧ (ns.Pairwise fun a b => a.natAbs ≠ b.natAbs) ∧ ∀ H', Same H H' → Q .non H'
theorem ok_wrong {f : Addr} {fd : FuncData} {k : Nat} (F : Fun K "wrong_sign" "wrong_sign" s_wrong_sign f fd) (D_is_sign : Df P w K mg base k "is_sign" ["thing", "many"] (spSign K)) (m_set : mg "set" = none) (m_enumerate : mg "enumerate" = none) (m_abs : mg "abs" = none) :
    FnOk P w K mg base CX0 (k + 1) f fd ["signs", "many"] (spWrong K) := by
  refine F.ok sc_wrong_sign (fun vs H Q E h => ?_) (fun cdv A outer s H vs Q E hr h => ?_)
  · obtain ⟨b, a, ns, m, rfl, _⟩ := h
    rfl
  obtain ⟨b, a, ns, m, rfl, hS, hl, hsg, hpw, q⟩ := h
  refine ⟨_, (pss_cons (ps_set (i := 2) sc_wrong_sign.nd rfl (.inl rfl) (pe_callTy0 cr_set0 (by rfl) m_set (by decide +kernel)))
       (pss_cons (ps_for PassesOwn.never rfl (pi_enumA (by rfl) m_enumerate (pa_cons (pv 0) pa_nil)) (pg_tup rfl (pgs_cons (pg_name (i := 3) sc_wrong_sign.nd rfl (.inl rfl)) (pgs_cons (pg_name (i := 4) sc_wrong_sign.nd rfl (.inl rfl)) pgs_nil)))
       (pss_cons (ps_if (PW.pt (pw_or (pt_not (pt_val (pe_df D_is_sign hr (by rfl) (pa_cons (pv 4) (pa_cons (pv 1) pa_nil))))) (pw_or1 (pt_cmpR or_sin (pe_callB call_abs (by rfl) m_abs (by decide +kernel) (pa_cons (pv 4) pa_nil)) (pv 2) rfl))))
       (pss_one (ps_ret (pv 3)))
       pss_nil)
       (pss_one (ps_expr (pe_sadd (pv 2) (pa_cons (pe_callB call_abs (by rfl) m_abs (by decide +kernel) (pa_cons (pv 4) pa_nil)) pa_nil))))))
       (pss_one (ps_ret pe_non)))), ?_⟩
  refine ⟨rfl, fun se nse => ?_⟩
  have s0 := same_new (o := SetO w se (fun _ => false) 0) nse
  refine ⟨_, rfl, b, a, _, rfl, hS.same s0, for_it (walk_enumK (K := K) (b := b) (k0 := 0) (a := a) (xs := ns.map V.int)) (fun i σ' H' => ∃ (y3 y4 : Option V) (S : Int → Bool) (c : Nat), σ' = [some (.ref a), some (.int m), some (.ref se), y3, y4] ∧ Same H H' ∧ H' se = some (SetO w se S c) ∧ c ≤ i ∧ ∀ k, S k = true → ∃ n ∈ ns.take i, k = ab n) ?_ ?_ ?_ ?_⟩
  · exact ⟨_, _, _, _, rfl, s0, upd_same, Nat.le_refl _, fun k z => nomatch z⟩
  · rintro i σ' H' _ ⟨y3, y4, S, c, rfl, s1, _⟩
    exact hS.same s1
  · rintro i x' σ' H1 H2 hi ⟨y3, y4, S, c, rfl, s1, eS, hc, hm⟩ ⟨T, u, v, rfl, nT, rfl, hu, hv⟩
    cases hu
    obtain ⟨n, rfl, hin, htk⟩ := at_int hv
    have s2 : Same H1 (upd H1 T (.tup [.int (0 + ((i : Nat) : Int)), .int n])) := same_new nT
    have eT : (upd H1 T (.tup [.int (0 + ((i : Nat) : Int)), .int n])) T = some (.tup [.int (0 + ((i : Nat) : Int)), .int n]) := upd_same
    generalize (upd H1 T (.tup [.int (0 + ((i : Nat) : Int)), .int n])) = H2 at *
    have eS2 := s2 _ _ eS
    refine ⟨T, _, rfl, SqT.of eT, rfl, _, _, rfl, _, _, rfl, rfl, ?_⟩
    have fresh : S (ab n) = false := by
      cases z : S (ab n) with
      | false => rfl
      | true =>
        obtain ⟨n', hn', e⟩ := hm _ z
        have : n ∈ ns.drop i := by
          have h1 : (ns.take (i + 1)).length = (ns.take i ++ [n]).length := by rw [htk]
          rw [List.length_append, List.length_take, List.length_take] at h1
          simp only [List.length_cons, List.length_nil] at h1
          have hlt : i < ns.length := by omega
          have h2 : ns[i] = n := by
            have h3 : (ns.take (i + 1))[i]? = some n := by rw [htk, List.getElem?_append_right (by rw [List.length_take]; omega), List.length_take, Nat.min_eq_left (by omega), Nat.sub_self]; rfl
            rw [List.getElem?_take_of_lt (by omega), List.getElem?_eq_getElem hlt] at h3
            exact Option.some.inj h3
          rw [List.drop_eq_getElem_cons hlt, h2]; exact List.mem_cons_self
        have pw := hpw
        rw [← List.take_append_drop i ns, List.pairwise_append] at pw
        have := pw.2.2 n' hn' n this
        rw [ab_nat, ab_nat] at e
        omega
    refine ⟨_, rfl, _, rfl, .int n, .int n, m, rfl, .int n, _, rfl, ?_⟩
    rw [sign_ok (hsg n hin)]
    refine iteF ⟨_, rfl, _, rfl, _, rfl, ab n, se, S, c, rfl, rfl, eS2, _, rfl, ?_⟩
    rw [fresh]
    refine iteF ?_
    have hilt : i < 1000 := by
      rw [List.length_map] at hi; omega
    refine ⟨_, rfl, ⟨se, S, c, rfl, eS2⟩, _, rfl, _, rfl, se, ab n, S, c, rfl, rfl, eS2, (by show c + 1 < 4096; omega), ?_⟩
    refine ⟨_, _, _, _, rfl, ?_, upd_same, ?_, fun k hk => ?_⟩
    · exact fun b o hb => by rw [upd_ne (ne_of_none hb nse)]; exact s2 _ _ (s1 _ _ hb)
    · split <;> omega
    · rw [htk]
      rcases Bool.or_eq_true_iff.mp hk with z | z
      · obtain ⟨n', h1, h2⟩ := hm k z
        exact ⟨n', List.mem_append_left _ h1, h2⟩
      · exact ⟨n, List.mem_append_right _ (List.mem_singleton.mpr rfl), of_decide_eq_true z⟩
  · rintro σ' H1 ⟨y3, y4, S, c, rfl, s1, _⟩
    exact q H1 s1
/-! ### all fillings -/
def spAllF (K : PySem.W.Frag) : Sp := fun vs H Q _ => ∃ n : Nat, vs = [.int n] ∧ n ≤ 10 ∧
  ∀ (r : Addr) (ts : List Addr) (H' : Hp), Same H H' → H r = none → H' r = some (.lst (ts.map V.ref)) → TupsV K H' ts ((fills n).map fun f => f.map V.bl) → Q (.ref r) H'
theorem fills_step {n j : Nat} {f : List Bool} (h : (fills n)[j]? = some f) : ((fills n).take (j + 1)).flatMap (fun f => [f ++ [false], f ++ [true]]) = ((fills n).take j).flatMap (fun f => [f ++ [false], f ++ [true]]) ++ [f ++ [false], f ++ [true]] := by
  obtain ⟨hlt, e⟩ := List.getElem?_eq_some_iff.mp h
  rw [List.take_succ_eq_append_getElem hlt, List.flatMap_append, e]
  simp
theorem ok_allF {f : Addr} {fd : FuncData} {k : Nat} (F : Fun K "all_fillings" "all_fillings" s_all_fillings f fd) (m_range : mg "range" = none) : FnOk P w K mg base CX0 (k + 1) f fd ["many"] (spAllF K) := by
  refine F.ok sc_all_fillings (fun vs H Q E h => ?_) (fun cdv A outer s H vs Q E hr h => ?_)
  · obtain ⟨n, rfl, _⟩ := h
    rfl
  obtain ⟨n, rfl, hn, q⟩ := h
  refine ⟨_, (pss_cons (ps_set (i := 1) sc_all_fillings.nd rfl (.inl rfl) (pe_lst (pa_cons (pe_tup pa_nil) pa_nil)))
       (pss_cons (ps_for PassesOwn.never rfl (pi_range1 (by rfl) m_range (pa_cons (pv 0) pa_nil)) (pg_name (i := 2) sc_all_fillings.nd rfl (.inl rfl))
       (pss_one (ps_setLc2 (i := 1) (own := [("filling", 3), ("truth", 4)]) (vs1 := [4]) (g := gName 3) (g1 := gName 4) (tt := tYes) (tt1 := tYes) rfl sc_all_fillings.nd rfl rfl (sw_true rfl rfl rfl (by decide +kernel)) (pi_list (pv 1)) (blkOk_by (by kernel_rfl)) (by decide) (fun _ _ _ _ _ => (pg_name (i := 3) sc_all_fillings.nd rfl (.inl rfl))) (fun _ _ _ _ _ => pts_nil) (fun _ _ _ _ _ => (pi_tup' (K := K) rfl (pe_tup (pa_cons pe_bl (pa_cons pe_bl pa_nil))))) (fun _ _ _ _ _ => (pg_name (i := 4) sc_all_fillings.nd rfl (.inl rfl))) (fun _ _ _ _ _ => pts_nil) (fun _ _ _ _ _ => (pe_tup (pa_star' (K := K) rfl (pv 3) (pa_cons (pv 4) pa_nil)))))))
       (pss_one (ps_ret (pv 1))))), ?_⟩
  refine ⟨(by show 0 ≤ sizeLine; decide), fun t0 nt0 => ?_⟩
  have s0 := same_new (o := .tup []) nt0
  refine ⟨(by show 1 ≤ sizeLine; decide), fun l0 nl0 => ?_⟩
  have s1 := same_new (o := .lst [.ref t0]) nl0
  refine ⟨_, rfl, _, rfl, by omega, by omega, for_range (lo := 0) (n := (n : Int).toNat) (fun i σ' H' => ∃ (l : Addr) (ts : List Addr) (y2 y3 y4 : Option V), σ' = [some (.int n), some (.ref l), y2, y3, y4] ∧ Same H H' ∧ H l = none ∧ H' l = some (.lst (ts.map V.ref)) ∧ TupsV K H' ts ((fills i).map fun f => f.map V.bl)) ?_ ?_ ?_⟩
  · exact ⟨l0, [t0], _, _, _, rfl, s0.trans s1, s0.free nl0, upd_same, .cons (SqT.of (s1 _ _ upd_same)) .nil⟩
  · rintro i σ' H1 hi ⟨l, ts, y2, y3, y4, rfl, s2, nl, el, tt⟩
    have hi10 : i < 10 := by rw [Int.toNat_natCast] at hi; omega
    have lts : ts.length = 2 ^ i := by rw [tt.len, List.length_map, fills_len]
    have p10 : 2 ^ i ≤ 512 := Nat.le_trans (Nat.pow_le_pow_right (by decide) (show i ≤ 9 by omega)) (by decide)
    refine ⟨_, rfl, l, rfl, ⟨_, SqL.of el⟩, fun D nD => lc_gen (walk_list (K := K) (a := l) (xs := ts.map V.ref)) (fun j H' => Same H1 H' ∧ ∃ us : List Addr, H' D = some (.lst (us.map V.ref)) ∧ TupsV K H' us ((((fills i).take j).flatMap fun f => [f ++ [false], f ++ [true]]).map fun f => f.map V.bl)) ?_ ?_ ?_ ?_⟩
    · exact ⟨same_new nD, [], upd_same, by simpa using TupsV.nil⟩
    · exact fun j H' _ h => SqL.of (h.1 _ _ el)
    · rintro j x H2o H2 hj ⟨s3, us, eD, tu⟩ ⟨rfl, hx⟩
      obtain ⟨a, vs, rfl, ha, hvs, hq⟩ := tt.at hx
      obtain ⟨fl, hfl, rfl⟩ : ∃ fl, (fills i)[j]? = some fl ∧ fl.map V.bl = vs := by
        rw [List.getElem?_map] at hvs
        cases z : (fills i)[j]? with
        | none => rw [z] at hvs; cases hvs
        | some fl => rw [z] at hvs; exact ⟨fl, rfl, Option.some.inj hvs⟩
      have hfll : fl.length = i := fills_mem.mp (List.mem_of_getElem? hfl)
      have lus : us.length ≤ 2 ^ i * 2 - 2 := by
        rw [tu.len, List.length_map, List.length_flatMap]
        simp only [List.length_cons, List.length_nil]
        rw [List.map_const', List.sum_replicate_nat, List.length_take, fills_len]
        rw [List.length_map, lts] at hj
        omega
      refine ⟨rfl, (by show 2 ≤ sizeLine; decide), fun c nc => ?_⟩
      have s4 : Same H2 (upd H2 c (.tup [.bl false, .bl true])) := same_new nc
      have ec : (upd H2 c (.tup [.bl false, .bl true])) c = some (.tup [.bl false, .bl true]) := upd_same
      generalize (upd H2 c (.tup [.bl false, .bl true])) = H3 at *
      refine ⟨c, rfl, ⟨_, SqT.of ec⟩, lc_gen (walk_tup (K := K) (a := c) (xs := [.bl false, .bl true])) (fun m H' => Same H1 H' ∧ H' c = some (.tup [.bl false, .bl true]) ∧ ∃ us : List Addr, us.length ≤ 2 ^ i * 2 - 2 + m ∧ H' D = some (.lst (us.map V.ref)) ∧ TupsV K H' us (((((fills i).take j).flatMap fun f => [f ++ [false], f ++ [true]]) ++ ([fl ++ [false], fl ++ [true]].take m)).map fun f => f.map V.bl)) ?_ ?_ ?_ ?_⟩
      · exact ⟨s3.trans s4, ec, us, by omega, s4 _ _ eD, by simpa using tu.same s4⟩
      · exact fun m H' _ h => SqT.of h.2.1
      · rintro m y H4o H4 hm ⟨s5, ec5, vs, lvs, eD5, tv⟩ ⟨rfl, hy⟩
        have hq4 := same_tup s5 hq
        obtain ⟨b, rfl, hb⟩ : ∃ b, y = V.bl b ∧ [fl ++ [false], fl ++ [true]].take (m + 1) = [fl ++ [false], fl ++ [true]].take m ++ [fl ++ [b]] := by
          match m, hm, hy with
          | 0, _, hy => cases hy; exact ⟨false, rfl, rfl⟩
          | 1, _, hy => cases hy; exact ⟨true, rfl, rfl⟩
        refine ⟨rfl, _, rfl, a, _, rfl, .inl hq4, _, rfl, ?_, fun t nt => ?_⟩
        · rw [List.length_append, List.length_map, hfll]; exact small (by simp; omega)
        have s6 : Same H4 (upd H4 t (.tup (fl.map V.bl ++ [.bl b]))) := same_new nt
        have et : (upd H4 t (.tup (fl.map V.bl ++ [.bl b]))) t = some (.tup (fl.map V.bl ++ [.bl b])) := upd_same
        generalize (upd H4 t (.tup (fl.map V.bl ++ [.bl b]))) = H5 at *
        have eD6 := s6 _ _ eD5
        refine ⟨_, eD6, ?_, ?_, ?_, vs ++ [t], ?_, ?_, ?_⟩
        · rw [List.length_map]
          have hm2 : m < 2 := hm
          rw [sizeLine_eq]; omega
        · exact fun b' o hb' => by rw [upd_ne (ne_of_none hb' nD)]; exact s6 _ _ (s5 _ _ hb')
        · rw [upd_ne (ne_of (s6 _ _ ec5) eD6 (by intro z; cases z))]; exact s6 _ _ ec5
        · rw [List.length_append]; simp; omega
        · rw [upd_same, List.map_append]; rfl
        · rw [hb, ← List.append_assoc, List.map_append]
          refine ((tv.same s6).snoc ?_).lst eD6
          show SqT K H5 t ((fl ++ [b]).map V.bl)
          rw [List.map_append]; exact SqT.of et
      · rintro H4 ⟨s5, ec5, vs, lvs, eD5, tv⟩
        refine ⟨s5, vs, eD5, ?_⟩
        rw [fills_step hfl]
        exact tv
    · rintro H2 ⟨s3, us, eD, tu⟩
      rw [List.length_map, lts, List.take_of_length_le (by rw [fills_len]; exact Nat.le_refl _)] at tu
      exact ⟨D, us, _, _, _, rfl, s2.trans s3, s2.free nD, eD, tu⟩
  · rintro σ' H1 ⟨l, ts, y2, y3, y4, rfl, s2, nl, el, tt⟩
    rw [Int.toNat_natCast] at tt
    exact ⟨_, rfl, q l ts H1 s2 nl el tt⟩

end
end K21
namespace K21
open PySem PySem.Spec PyProof.Rows L2 KL
section
variable {P : Program} {w : World} {K : PySem.W.Frag} {mg : Str → Option Value} {base : Heap}
/-! ### gates, promises -/
theorem kit_seq {b : Bool} : PySem.W.kitAny K (.type (if b = true then "list" else "tuple")) [.type "tuple", .type "list"] = some true := by
  cases b <;> rfl
theorem sqb_ty {b : Bool} {H : Hp} {a : Addr} {xs : List V} (h : SqB b K H a xs) : TyX K H (.ref a) (.type (if b = true then "list" else "tuple")) := by
  cases b
  · exact (dpTyT h)
  · exact (dpTyL h)
theorem go_ok {m : Nat} : ∀ {ns : List Int} {last : Int}, 0 ≤ last → Up ns → (∀ n ∈ ns, Sgn n m ∧ last < n.natAbs) → goB m last (ns.map PyData.int) = true
  | [], _, _, _, _ => rfl
  | n :: ns, last, h0, hu, h => by
    have h1 := h n List.mem_cons_self
    have hab : (if n < 0 then -n else n) = (n.natAbs : Int) := by split <;> omega
    show (if signB (.int n) m = true ∧ last < (if n < 0 then -n else n) then goB m (if n < 0 then -n else n) (ns.map PyData.int) else false) = true
    rw [if_pos ⟨sign_ok h1.1, by rw [hab]; exact h1.2⟩, hab]
    obtain ⟨p1, p2⟩ := List.pairwise_cons.mp hu
    exact go_ok (by omega) p2 fun x hx => ⟨(h x (List.mem_cons_of_mem _ hx)).1, by have := p1 x hx; omega⟩
def spGate (K : PySem.W.Frag) : Sp := fun vs H Q _ => ∃ (a : Addr) (g : Str × Int × Int) (m : Nat), vs = [.ref a, .int m] ∧ SqT K H a (gateV g) ∧ isWord g.1 ∧ Sgn g.2.1 m ∧ Sgn g.2.2 m ∧ Q (.bl true) H
theorem ok_gate {f R_RECK : Addr} {fd : FuncData} {k : Nat} {es : Array DictEntry} {nn : Nat} {v1 v2 v3 : Value} (F : Fun K "is_gate" "is_gate" s_is_gate f fd) (D_is_sign : Df P w K mg base k "is_sign" ["thing", "many"] (spSign K)) (KD_RECKONINGS : KDict K w R_RECK es nn) (g_RECK : mg "RECKONINGS" = some (.ref R_RECK))
    (r_and : PySem.W.nsIn K R_RECK "and" = some (some v1)) (r_or : PySem.W.nsIn K R_RECK "or" = some (some v2)) (r_odd : PySem.W.nsIn K R_RECK "odd" = some (some v3))
    (m_isinstance : mg "isinstance" = none) (m_tuple : mg "tuple" = none) (m_str : mg "str" = none) (m_len : mg "len" = none) :
    FnOk P w K mg base CX0 (k + 1) f fd ["thing", "ahead"] (spGate K) := by
  refine F.ok sc_is_gate (fun vs H Q E h => ?_) (fun cdv A outer s H vs Q E hr h => ?_)
  · obtain ⟨a, g, m, rfl, _⟩ := h
    rfl
  obtain ⟨a, ⟨wd, o, t⟩, m, rfl, hT, hw, ho, ht, q⟩ := h
  refine ⟨_, (pss_cons (ps_if (PW.pt (pw_or (pt_not (pt_val (pe_callB call_isi (by rfl) m_isinstance (by decide +kernel) (pa_cons (pv 0) (pa_cons (pe_bltn (v := .ty "tuple") (by rfl) m_tuple (by decide +kernel) rfl) pa_nil))))) (pw_or1 (pt_cmpR op_ne (pe_callB call_len_seq (by rfl) m_len (by decide +kernel) (pa_cons (pv 0) pa_nil)) pe_int (nomark _)))))
       (pss_one (ps_ret pe_bl))
       pss_nil)
       (pss_cons (ps_asg (pv 0) (pg_tup rfl (pgs_cons (pg_name (i := 2) sc_is_gate.nd rfl (.inl rfl)) (pgs_cons (pg_name (i := 3) sc_is_gate.nd rfl (.inl rfl)) (pgs_cons (pg_name (i := 4) sc_is_gate.nd rfl (.inl rfl)) pgs_nil)))))
       (pss_one (ps_ret (pe_and (pe_callB call_isi (by rfl) m_isinstance (by decide +kernel) (pa_cons (pv 2) (pa_cons (pe_bltn (v := .ty "str") (by rfl) m_str (by decide +kernel) rfl) pa_nil))) (pe_and (pe_cmpR (op_in_kd KD_RECKONINGS) (pv 2) (pe_glob (v := .ref R_RECK) (by rfl) g_RECK rfl) rfl) (pe_and (pe_df D_is_sign hr (by rfl) (pa_cons (pv 3) (pa_cons (pv 1) pa_nil))) (pe_one (pe_df D_is_sign hr (by rfl) (pa_cons (pv 4) (pa_cons (pv 1) pa_nil))))))))))), ?_⟩
  refine ⟨_, rfl, _, _, _, _, _, rfl, .ty _, dpTyT hT, kit_ty (r := true) (by decide +kernel), _, rfl, iteF ⟨_, rfl, a, _, rfl, .inr hT, rfl, _, rfl, iteF ?_⟩⟩
  refine ⟨_, rfl, a, _, rfl, hT, rfl, _, _, rfl, _, _, rfl, _, _, rfl, rfl, ?_⟩
  have hin : ∃ v, PySem.W.nsIn K R_RECK wd = some (some v) := by
    rcases hw with z | z | z
    · exact ⟨v1, by rw [show wd = _ from z]; exact r_and⟩
    · exact ⟨v2, by rw [show wd = _ from z]; exact r_or⟩
    · exact ⟨v3, by rw [show wd = _ from z]; exact r_odd⟩
  obtain ⟨v, hv⟩ := hin
  refine ⟨_, rfl, _, _, _, _, _, rfl, .ty _, dpTy (.str wd), kit_ty (kit_str (.str wd)), _, rfl, iteT ⟨_, rfl, wd, some v, rfl, rfl, hv, _, rfl, iteT ?_⟩⟩
  refine ⟨_, rfl, _, rfl, .int o, .int o, m, rfl, .int o, _, rfl, ?_⟩
  rw [sign_ok ho]
  refine iteT ⟨_, rfl, _, rfl, .int t, .int t, m, rfl, .int t, ?_⟩
  rw [sign_ok ht]
  exact q
def PrOk (b i : Nat) (c : List Int) : Prop := Up c ∧ ∀ n ∈ c, b < n.natAbs ∧ n.natAbs ≤ b + i
theorem PrOk.len {b i : Nat} {c : List Int} (h : PrOk b i c) : c.length ≤ b + i := up_len h.1 fun n hn => ⟨fun z => by have := (h.2 n hn).1; rw [z] at this; simp at this, (h.2 n hn).2⟩
def spPromise (K : PySem.W.Frag) : Sp := fun vs H Q _ => ∃ (a : Addr) (c : List Int) (b i : Nat), vs = [.ref a, .int b, .int i] ∧ SqT K H a (c.map V.int) ∧ b + i ≤ 60 ∧ PrOk b i c ∧ ∀ H', Same H H' → Q (.bl true) H'
theorem ok_promise {f : Addr} {fd : FuncData} {k : Nat} (F : Fun K "is_promise" "is_promise" s_is_promise f fd) (D_is_clause : Df P w K mg base k "is_clause" ["thing", "many"] (spIsCl K)) (m_all : mg "all" = none) (m_abs : mg "abs" = none) :
    FnOk P w K mg base CX0 (k + 1) f fd ["thing", "boxes", "inputs"] (spPromise K) := by
  refine F.ok sc_is_promise (fun vs H Q E h => ?_) (fun cdv A outer s H vs Q E hr h => ?_)
  · obtain ⟨a, c, b, i, rfl, _⟩ := h
    rfl
  obtain ⟨a, c, b, i, rfl, hT, h60, hp, q⟩ := h
  refine ⟨_, (pss_one (ps_ret (pe_and (pe_df D_is_clause hr (by rfl) (pa_cons (pv 0) (pa_cons (pe_op op_add (pv 1) (pv 2)) pa_nil))) (pe_one (pe_callB (cr_all rfl) (by rfl) m_all (by decide +kernel) (pa_cons (pe_lc (own := [("sign", 3)]) (g := gName 3) (tt := tYes) (by rfl) sc_is_promise.nd (pi_tup (pv 0)) (blkOk_by (by kernel_rfl)) (fun _ _ _ _ _ => (pg_name (i := 3) sc_is_promise.nd rfl (.inl rfl))) (fun _ _ _ _ _ => pts_nil) (fun _ _ _ _ _ => (pe_cmpR op_gt (pe_callB call_abs (by rfl) m_abs (by decide +kernel) (pa_cons (pv 3) pa_nil)) (pv 1) (nomark _)))) pa_nil)))))), ?_⟩
  have ebi : (b : Int) + (i : Int) = ((b + i : Nat) : Int) := by omega
  have hln := hp.len
  refine ⟨_, rfl, _, rfl, _, rfl, _, _, rfl, rfl, .ref a, .tuple (c.map PyData.int), _, rfl, .inl (.tup hT (dpInts c)), by omega, _, rfl, ?_⟩
  rw [ebi, show clB (.tuple (c.map PyData.int)) ((b + i : Nat) : Int) = true from go_ok (by omega) hp.1 fun n hn => ⟨⟨fun z => by have := (hp.2 n hn).1; rw [z] at this; simp at this, (hp.2 n hn).2⟩, by have := (hp.2 n hn).1; omega⟩]
  refine iteT ⟨_, rfl, a, rfl, ⟨_, hT⟩, fun D nD => lc_tup (xs := c.map V.int) (fun j H' => Same H H' ∧ H' D = some (.lst (((c.take j).map fun _ => true).map V.bl))) ⟨same_new nD, upd_same⟩ (fun j H' _ h => same_tup h.1 hT) ?_ ?_⟩
  · rintro j x H1 ex ⟨s1, e1⟩
    obtain ⟨n, rfl, hin, htk⟩ := at_int ex
    refine ⟨rfl, _, rfl, _, rfl, _, rfl, _, _, rfl, rfl, _, e1, ?_, ?_, ?_⟩
    · simp only [List.length_map, List.length_take]; exact small1000 (by omega)
    · exact fun b o hb => by rw [upd_ne (ne_of_none hb nD)]; exact s1 _ _ hb
    · have hgt : decide ((b : Int) < (if n < 0 then -n else n)) = true := decide_eq_true (by have := (hp.2 n hin).1; split <;> omega)
      rw [upd_same, htk, List.map_append, List.map_append]
      show some (HO.lst (_ ++ [V.bl (decide ((b : Int) < (if n < 0 then -n else n)))])) = _
      rw [hgt]; rfl
  · rintro H1 ⟨s1, e1⟩
    refine ⟨D, c.map fun _ => true, rfl, SqL.of ?_, ?_⟩
    · rw [e1]; simp
    · rw [show ((c.map fun _ => true).all id) = true by simp]; exact q H1 s1
/-! ### a machine's parts looked at -/
def spChkN (K : PySem.W.Frag) : Sp := fun vs H Q _ => ∃ (b i : Nat), vs = [.int b, .int i] ∧ 1 ≤ b ∧ b ≤ 10 ∧ i ≤ 4 ∧ Q .non H
theorem ok_chkN {f : Addr} {fd : FuncData} {k : Nat} {t1 t2 : Tok} (F : Fun K "check_numbers" "check_numbers" s_check_numbers f fd) (D_is_number : Df P w K mg base k "is_number" ["thing", "least", "most"] (spNum K)) (g_MOST_BOXES : mg "MOST_BOXES" = some (.int 10 t1)) (g_MOST_INPUTS : mg "MOST_INPUTS" = some (.int 4 t2)) :
    FnOk P w K mg base CX0 (k + 1) f fd ["boxes", "inputs"] (spChkN K) := by
  refine F.ok sc_check_numbers (fun vs H Q E h => ?_) (fun cdv A outer s H vs Q E hr h => ?_)
  · obtain ⟨b, i, rfl, _⟩ := h
    rfl
  obtain ⟨b, i, rfl, h1, h2, h3, q⟩ := h
  refine ⟨_, (pss_cons (ps_if (pt_not (pt_val (pe_df D_is_number hr (by rfl) (pa_cons (pv 0) (pa_cons pe_int (pa_cons (pe_glob (v := .int 10) (by rfl) g_MOST_BOXES ⟨_, rfl⟩) pa_nil))))))
       (pss_one ps_never)
       pss_nil)
       (pss_one (ps_if (pt_not (pt_val (pe_df D_is_number hr (by rfl) (pa_cons (pv 1) (pa_cons pe_int (pa_cons (pe_glob (v := .int 4) (by rfl) g_MOST_INPUTS ⟨_, rfl⟩) pa_nil))))))
       (pss_one ps_never)
       pss_nil))), ?_⟩
  refine ⟨_, rfl, .int b, .int b, 1, 10, rfl, .int b, _, rfl, ?_⟩
  rw [show numB (.int b) 1 10 = true by unfold numB; simp; omega]
  refine iteF ⟨_, rfl, .int i, .int i, 0, 4, rfl, .int i, _, rfl, ?_⟩
  rw [show numB (.int i) 0 4 = true by unfold numB; simp; omega]
  exact iteF q
def spChkG (K : PySem.W.Frag) : Sp := fun vs H Q _ => ∃ (a : Addr) (ga : List Addr) (gs : List (Str × Int × Int)) (m : Nat), vs = [.ref a, .int m] ∧ SqL K H a (ga.map V.ref) ∧ TupsV K H ga (gs.map gateV) ∧ gs.length ≤ 24 ∧ (∀ (j : Nat) g, gs[j]? = some g → isWord g.1 ∧ Sgn g.2.1 (m + j) ∧ Sgn g.2.2 (m + j)) ∧ ∀ H', Same H H' → Q .non H'
theorem ok_chkG {f : Addr} {fd : FuncData} {k : Nat} {t1 : Tok} (F : Fun K "check_gates" "check_gates" s_check_gates f fd) (D_is_gate : Df P w K mg base k "is_gate" ["thing", "ahead"] (spGate K)) (g_MOST_GATES : mg "MOST_GATES" = some (.int 24 t1)) (m_isinstance : mg "isinstance" = none) (m_list : mg "list" = none) (m_len : mg "len" = none) (m_enumerate : mg "enumerate" = none) :
    FnOk P w K mg base CX0 (k + 1) f fd ["gates", "ahead"] (spChkG K) := by
  refine F.ok sc_check_gates (fun vs H Q E h => ?_) (fun cdv A outer s H vs Q E hr h => ?_)
  · obtain ⟨a, ga, gs, m, rfl, _⟩ := h
    rfl
  obtain ⟨a, ga, gs, m, rfl, hS, tt, h24, hg, q⟩ := h
  refine ⟨_, (pss_cons (ps_if (PW.pt (pw_or (pt_not (pt_val (pe_callB call_isi (by rfl) m_isinstance (by decide +kernel) (pa_cons (pv 0) (pa_cons (pe_bltn (v := .ty "list") (by rfl) m_list (by decide +kernel) rfl) pa_nil))))) (pw_or1 (pt_cmpR op_gt (pe_callB call_len_seq (by rfl) m_len (by decide +kernel) (pa_cons (pv 0) pa_nil)) (pe_glob (v := .int 24) (by rfl) g_MOST_GATES ⟨_, rfl⟩) (nomark _)))))
       (pss_one ps_never)
       pss_nil)
       (pss_one (ps_for PassesOwn.never rfl (pi_enumA (by rfl) m_enumerate (pa_cons (pv 0) pa_nil)) (pg_tup rfl (pgs_cons (pg_name (i := 2) sc_check_gates.nd rfl (.inl rfl)) (pgs_cons (pg_name (i := 3) sc_check_gates.nd rfl (.inl rfl)) pgs_nil)))
       (pss_one (ps_if (pt_not (pt_val (pe_df D_is_gate hr (by rfl) (pa_cons (pv 3) (pa_cons (pe_op op_add (pv 1) (pv 2)) pa_nil)))))
       (pss_one ps_never)
       pss_nil))))), ?_⟩
  have hl : ga.length = gs.length := by rw [tt.len, List.length_map]
  refine ⟨_, rfl, _, _, _, _, _, rfl, .ty _, dpTyL hS, kit_ty (r := true) (by decide +kernel), _, rfl, iteF ⟨_, rfl, a, _, rfl, .inl hS, _, _, rfl, rfl, _, rfl, ?_⟩⟩
  refine ite2 (fun z => absurd (of_decide_eq_true z) (by rw [List.length_map]; omega)) (fun _ => ?_)
  refine ⟨_, rfl, true, a, _, rfl, hS, for_it (walk_enumK (K := K) (b := true) (k0 := 0) (a := a) (xs := ga.map V.ref)) (fun i σ' H' => ∃ y2 y3 : Option V, σ' = [some (.ref a), some (.int m), y2, y3] ∧ Same H H') ⟨_, _, rfl, Same.refl _⟩ ?_ ?_ ?_⟩
  · rintro i σ' H' _ ⟨y2, y3, rfl, s1⟩
    exact s1.seq hS
  · rintro i x' σ' H1 H2 hi ⟨y2, y3, rfl, s1⟩ ⟨T, u, v, rfl, nT, rfl, hu, hv⟩
    cases hu
    obtain ⟨c, vs, rfl, hc, hvs, hq⟩ := tt.at hv
    obtain ⟨g, hgj, rfl⟩ : ∃ g, gs[i]? = some g ∧ gateV g = vs := by
      rw [List.getElem?_map] at hvs
      cases z : gs[i]? with
      | none => rw [z] at hvs; cases hvs
      | some g => rw [z] at hvs; exact ⟨g, rfl, Option.some.inj hvs⟩
    obtain ⟨g1, g2, g3⟩ := hg i g hgj
    have s2 : Same H1 (upd H1 T (.tup [.int (0 + ((i : Nat) : Int)), .ref c])) := same_new nT
    have eT : (upd H1 T (.tup [.int (0 + ((i : Nat) : Int)), .ref c])) T = some (.tup [.int (0 + ((i : Nat) : Int)), .ref c]) := upd_same
    generalize (upd H1 T (.tup [.int (0 + ((i : Nat) : Int)), .ref c])) = H2 at *
    refine ⟨T, _, rfl, SqT.of eT, rfl, _, _, rfl, _, _, rfl, rfl, ?_⟩
    refine ⟨_, rfl, _, rfl, _, rfl, _, _, rfl, rfl, c, g, m + i, ?_, same_tup (s1.trans s2) hq, g1, g2, g3, _, rfl, iteF ⟨_, _, rfl, s1.trans s2⟩⟩
    exact congrArg (fun z => [V.ref c, V.int z]) (by show (m : Int) + (0 + ((i : Nat) : Int)) = ((m + i : Nat) : Int); omega)
  · rintro σ' H1 ⟨y2, y3, rfl, s1⟩
    exact q H1 s1
def spChkX (K : PySem.W.Frag) : Sp := fun vs H Q _ => ∃ (a : Addr) (ns : List Int) (b m : Nat), vs = [.ref a, .int b, .int m] ∧ SqL K H a (ns.map V.int) ∧ ns.length = b ∧ (∀ n ∈ ns, Sgn n m) ∧ ∀ H', Same H H' → Q .non H'
theorem ok_chkX {f : Addr} {fd : FuncData} {k : Nat} (F : Fun K "check_nexts" "check_nexts" s_check_nexts f fd) (D_is_sign : Df P w K mg base k "is_sign" ["thing", "many"] (spSign K)) (m_isinstance : mg "isinstance" = none) (m_list : mg "list" = none) (m_len : mg "len" = none) (m_enumerate : mg "enumerate" = none) :
    FnOk P w K mg base CX0 (k + 1) f fd ["nexts", "boxes", "many"] (spChkX K) := by
  refine F.ok sc_check_nexts (fun vs H Q E h => ?_) (fun cdv A outer s H vs Q E hr h => ?_)
  · obtain ⟨a, ns, b, m, rfl, _⟩ := h
    rfl
  obtain ⟨a, ns, b, m, rfl, hS, hl, hg, q⟩ := h
  refine ⟨_, (pss_cons (ps_if (PW.pt (pw_or (pt_not (pt_val (pe_callB call_isi (by rfl) m_isinstance (by decide +kernel) (pa_cons (pv 0) (pa_cons (pe_bltn (v := .ty "list") (by rfl) m_list (by decide +kernel) rfl) pa_nil))))) (pw_or1 (pt_cmpR op_ne (pe_callB call_len_seq (by rfl) m_len (by decide +kernel) (pa_cons (pv 0) pa_nil)) (pv 1) (nomark _)))))
       (pss_one ps_never)
       pss_nil)
       (pss_one (ps_for PassesOwn.never rfl (pi_enumA (by rfl) m_enumerate (pa_cons (pv 0) pa_nil)) (pg_tup rfl (pgs_cons (pg_name (i := 3) sc_check_nexts.nd rfl (.inl rfl)) (pgs_cons (pg_name (i := 4) sc_check_nexts.nd rfl (.inl rfl)) pgs_nil)))
       (pss_one (ps_if (pt_not (pt_val (pe_df D_is_sign hr (by rfl) (pa_cons (pv 4) (pa_cons (pv 2) pa_nil)))))
       (pss_one ps_never)
       pss_nil))))), ?_⟩
  refine ⟨_, rfl, _, _, _, _, _, rfl, .ty _, dpTyL hS, kit_ty (r := true) (by decide +kernel), _, rfl, iteF ⟨_, rfl, a, _, rfl, .inl hS, _, rfl, rfl, _, rfl, ?_⟩⟩
  rw [List.length_map, hl]
  refine ne_self ?_
  refine ⟨_, rfl, true, a, _, rfl, hS, for_it (walk_enumK (K := K) (b := true) (k0 := 0) (a := a) (xs := ns.map V.int)) (fun i σ' H' => ∃ y2 y3 : Option V, σ' = [some (.ref a), some (.int b), some (.int m), y2, y3] ∧ Same H H') ⟨_, _, rfl, Same.refl _⟩ ?_ ?_ ?_⟩
  · rintro i σ' H' _ ⟨y2, y3, rfl, s1⟩
    exact s1.seq hS
  · rintro i x' σ' H1 H2 hi ⟨y2, y3, rfl, s1⟩ ⟨T, u, v, rfl, nT, rfl, hu, hv⟩
    cases hu
    obtain ⟨n, rfl, hin, _⟩ := at_int hv
    have s2 : Same H1 (upd H1 T (.tup [.int (0 + ((i : Nat) : Int)), .int n])) := same_new nT
    have eT : (upd H1 T (.tup [.int (0 + ((i : Nat) : Int)), .int n])) T = some (.tup [.int (0 + ((i : Nat) : Int)), .int n]) := upd_same
    generalize (upd H1 T (.tup [.int (0 + ((i : Nat) : Int)), .int n])) = H2 at *
    refine ⟨T, _, rfl, SqT.of eT, rfl, _, _, rfl, _, _, rfl, rfl, ?_⟩
    refine ⟨_, rfl, _, rfl, .int n, .int n, m, rfl, .int n, _, rfl, ?_⟩
    rw [sign_ok (hg n hin)]
    exact iteF ⟨_, _, rfl, s1.trans s2⟩
  · rintro σ' H1 ⟨y2, y3, rfl, s1⟩
    exact q H1 s1
def spChkS (K : PySem.W.Frag) : Sp := fun vs H Q _ => ∃ (bb : Bool) (a : Addr) (ns : List Int) (b : Nat), vs = [.ref a, .int b] ∧ SqB bb K H a (ns.map V.int) ∧ ns.length ≤ 1000 ∧ (∀ n ∈ ns, Sgn n b) ∧ (ns.Pairwise fun a b => a.natAbs ≠ b.natAbs) ∧ ∀ H', Same H H' → Q .non H'
theorem ok_chkS {f : Addr} {fd : FuncData} {k : Nat} (F : Fun K "check_starts" "check_starts" s_check_starts f fd) (D_wrong_sign : Df P w K mg base k "wrong_sign" ["signs", "many"] (spWrong K)) (m_isinstance : mg "isinstance" = none) (m_tuple : mg "tuple" = none) (m_list : mg "list" = none) :
    FnOk P w K mg base CX0 (k + 1) f fd ["starts", "boxes"] (spChkS K) := by
  refine F.ok sc_check_starts (fun vs H Q E h => ?_) (fun cdv A outer s H vs Q E hr h => ?_)
  · obtain ⟨bb, a, ns, b, rfl, _⟩ := h
    rfl
  obtain ⟨bb, a, ns, b, rfl, hS, hl, hg, hp, q⟩ := h
  refine ⟨_, (pss_cons (ps_if (pt_not (pt_val (pe_callB call_isiT (by rfl) m_isinstance (by decide +kernel) (pa_cons (pv 0) (pa_cons (pe_tup (pa_cons (pe_bltn (v := .ty "tuple") (by rfl) m_tuple (by decide +kernel) rfl) (pa_cons (pe_bltn (v := .ty "list") (by rfl) m_list (by decide +kernel) rfl) pa_nil))) pa_nil)))))
       (pss_one ps_never)
       pss_nil)
       (pss_cons (ps_set (i := 2) sc_check_starts.nd rfl (.inl rfl) (pe_df D_wrong_sign hr (by rfl) (pa_cons (pv 0) (pa_cons (pv 1) pa_nil))))
       (pss_one (ps_if (pt_cmpR op_notN (pv 2) pe_non (nomark _))
       (pss_one ps_never)
       pss_nil)))), ?_⟩
  refine ⟨_, rfl, (by show 2 ≤ sizeLine; decide), fun tt ntt => ?_⟩
  have s0 := same_new (o := .tup [.ty "tuple", .ty "list"]) ntt
  refine ⟨.ref a, tt, _, _, _, _, rfl, upd_same, .cons (.ty _) (.cons (.ty _) .nil), sqb_ty (hS.same s0), kit_seq, _, rfl, iteF ?_⟩
  refine ⟨_, rfl, _, rfl, bb, a, ns, b, rfl, hS.same s0, hl, hg, hp, fun H1 s1 => ⟨_, rfl, rfl, _, rfl, iteF ?_⟩⟩
  exact q H1 (s0.trans s1)
def spChkP (K : PySem.W.Frag) : Sp := fun vs H Q _ => ∃ (bb : Bool) (a : Addr) (cs : List Addr) (pr : List (List Int)) (b i : Nat), vs = [.ref a, .int b, .int i] ∧ SqB bb K H a (cs.map V.ref) ∧ TupsV K H cs (pr.map fun c => c.map V.int) ∧ pr.length ≤ 8 ∧ b + i ≤ 60 ∧ (∀ c ∈ pr, PrOk b i c) ∧ ∀ H', Same H H' → Q .non H'
theorem ok_chkP {f : Addr} {fd : FuncData} {k : Nat} {t1 : Tok} (F : Fun K "check_promises" "check_promises" s_check_promises f fd) (D_is_promise : Df P w K mg base k "is_promise" ["thing", "boxes", "inputs"] (spPromise K)) (g_MOST_PROMISES : mg "MOST_PROMISES" = some (.int 8 t1)) (m_isinstance : mg "isinstance" = none) (m_tuple : mg "tuple" = none) (m_list : mg "list" = none) (m_len : mg "len" = none) (m_enumerate : mg "enumerate" = none) :
    FnOk P w K mg base CX0 (k + 1) f fd ["promises", "boxes", "inputs"] (spChkP K) := by
  refine F.ok sc_check_promises (fun vs H Q E h => ?_) (fun cdv A outer s H vs Q E hr h => ?_)
  · obtain ⟨bb, a, cs, pr, b, i, rfl, _⟩ := h
    rfl
  obtain ⟨bb, a, cs, pr, b, i, rfl, hS, tt, h8, h60, hp, q⟩ := h
  refine ⟨_, (pss_cons (ps_if (PW.pt (pw_or (pt_not (pt_val (pe_callB call_isiT (by rfl) m_isinstance (by decide +kernel) (pa_cons (pv 0) (pa_cons (pe_tup (pa_cons (pe_bltn (v := .ty "tuple") (by rfl) m_tuple (by decide +kernel) rfl) (pa_cons (pe_bltn (v := .ty "list") (by rfl) m_list (by decide +kernel) rfl) pa_nil))) pa_nil))))) (pw_or1 (pt_cmpR op_gt (pe_callB call_len_seq (by rfl) m_len (by decide +kernel) (pa_cons (pv 0) pa_nil)) (pe_glob (v := .int 8) (by rfl) g_MOST_PROMISES ⟨_, rfl⟩) (nomark _)))))
       (pss_one ps_never)
       pss_nil)
       (pss_one (ps_for PassesOwn.never rfl (pi_enumA (by rfl) m_enumerate (pa_cons (pv 0) pa_nil)) (pg_tup rfl (pgs_cons (pg_name (i := 3) sc_check_promises.nd rfl (.inl rfl)) (pgs_cons (pg_name (i := 4) sc_check_promises.nd rfl (.inl rfl)) pgs_nil)))
       (pss_one (ps_if (pt_not (pt_val (pe_df D_is_promise hr (by rfl) (pa_cons (pv 4) (pa_cons (pv 1) (pa_cons (pv 2) pa_nil))))))
       (pss_one ps_never)
       pss_nil))))), ?_⟩
  have hl : cs.length = pr.length := by rw [tt.len, List.length_map]
  refine ⟨_, rfl, (by show 2 ≤ sizeLine; decide), fun tp ntp => ?_⟩
  have s0 : Same H (upd H tp (.tup [.ty "tuple", .ty "list"])) := same_new ntp
  refine ⟨.ref a, tp, _, _, _, _, rfl, upd_same, .cons (.ty _) (.cons (.ty _) .nil), sqb_ty (hS.same s0), kit_seq, _, rfl, iteF ?_⟩
  refine ⟨_, rfl, a, _, rfl, (hS.same s0).or, _, _, rfl, rfl, _, rfl, ?_⟩
  refine ite2 (fun z => absurd (of_decide_eq_true z) (by rw [List.length_map]; omega)) (fun _ => ?_)
  generalize (upd H tp (.tup [.ty "tuple", .ty "list"])) = H0 at *
  refine ⟨_, rfl, bb, a, _, rfl, hS.same s0, for_it (walk_enumK (K := K) (b := bb) (k0 := 0) (a := a) (xs := cs.map V.ref)) (fun j σ' H' => ∃ y2 y3 : Option V, σ' = [some (.ref a), some (.int b), some (.int i), y2, y3] ∧ Same H H') ⟨_, _, rfl, s0⟩ ?_ ?_ ?_⟩
  · rintro j σ' H' _ ⟨y2, y3, rfl, s1⟩
    exact hS.same s1
  · rintro j x' σ' H1 H2 hj ⟨y2, y3, rfl, s1⟩ ⟨T, u, v, rfl, nT, rfl, hu, hv⟩
    cases hu
    obtain ⟨c, vs, rfl, hc, hvs, hq⟩ := tt.at hv
    obtain ⟨g, hgj, rfl⟩ : ∃ g, pr[j]? = some g ∧ g.map V.int = vs := by
      rw [List.getElem?_map] at hvs
      cases z : pr[j]? with
      | none => rw [z] at hvs; cases hvs
      | some g => rw [z] at hvs; exact ⟨g, rfl, Option.some.inj hvs⟩
    have s2 : Same H1 (upd H1 T (.tup [.int (0 + ((j : Nat) : Int)), .ref c])) := same_new nT
    have eT : (upd H1 T (.tup [.int (0 + ((j : Nat) : Int)), .ref c])) T = some (.tup [.int (0 + ((j : Nat) : Int)), .ref c]) := upd_same
    generalize (upd H1 T (.tup [.int (0 + ((j : Nat) : Int)), .ref c])) = H2 at *
    refine ⟨T, _, rfl, SqT.of eT, rfl, _, _, rfl, _, _, rfl, rfl, ?_⟩
    refine ⟨_, rfl, _, rfl, _, rfl, c, g, b, i, rfl, same_tup (s1.trans s2) hq, h60, hp g (List.mem_of_getElem? hgj), fun H3 s3 => ⟨_, rfl, iteF ⟨_, _, rfl, s1.trans (s2.trans s3)⟩⟩⟩
  · rintro σ' H1 ⟨y2, y3, rfl, s1⟩
    exact q H1 s1

end
end K21
namespace K21
open PySem PySem.Spec PyProof.Rows L2 KL
section
variable {P : Program} {w : World} {K : PySem.W.Frag} {mg : Str → Option Value} {base : Heap}
/-! ### words under promises -/
def spUnder (K : PySem.W.Frag) : Sp := fun vs H Q _ => ∃ (bb : Bool) (a : Addr) (cs : List Addr) (pr : List (List Int)) (b i : Nat), vs = [.ref a, .int b, .int i] ∧ SqB bb K H a (cs.map V.ref) ∧ TupsV K H cs (pr.map fun c => c.map V.int) ∧ pr.length ≤ 8 ∧ b ≤ 10 ∧ i ≤ 4 ∧ (∀ c ∈ pr, PrOk b i c) ∧ wordsOf b i pr ≠ [] ∧
  ∀ (r : Addr) (ws : List Addr) (H' : Hp), Same H H' → H r = none → H' r = some (.lst (ws.map V.ref)) → TupsV K H' ws ((wordsOf b i pr).map fun f => f.map V.bl) → Q (.ref r) H'
theorem ok_under {f : Addr} {fd : FuncData} {k : Nat} (F : Fun K "words_under" "words_under" s_words_under f fd) (D_all_fillings : Df P w K mg base k "all_fillings" ["many"] (spAllF K)) (D_holds : Df P w K mg base k "holds" ["clause", "filling"] (spHolds K)) (m_all : mg "all" = none) (m_len : mg "len" = none) :
    FnOk P w K mg base CX0 (k + 1) f fd ["promises", "boxes", "inputs"] (spUnder K) := by
  refine F.ok sc_words_under (fun vs H Q E h => ?_) (fun cdv A outer s H vs Q E hr h => ?_)
  · obtain ⟨bb, a, cs, pr, b, i, rfl, _⟩ := h
    rfl
  obtain ⟨bb, a, cs, pr, b, i, rfl, hS, tt, h8, hb, hi4, hp, hne, q⟩ := h
  refine ⟨_, (pss_cons (ps_set (i := 3) sc_words_under.nd rfl (.inl rfl) (pe_lst pa_nil))
       (pss_cons (ps_for PassesOwn.never rfl (pi_list (pe_df D_all_fillings hr (by rfl) (pa_cons (pv 2) pa_nil))) (pg_name (i := 4) sc_words_under.nd rfl (.inl rfl))
       (pss_cons (ps_set (i := 5) sc_words_under.nd rfl (.inr rfl) (pe_op op_catK (pe_op op_repK (pe_tup (pa_cons pe_bl pa_nil)) (pv 1)) (pv 4)))
       (pss_one (ps_if (pt_val (pe_callB (cr_all rfl) (by rfl) m_all (by decide +kernel) (pa_cons (pe_lc (own := [("promise", 6)]) (g := gName 6) (tt := tYes) (by rfl) sc_words_under.nd (pi_seq (pv 0)) (blkOk_by (by kernel_rfl)) (fun _ _ _ _ _ => (pg_name (i := 6) sc_words_under.nd rfl (.inl rfl))) (fun _ _ _ _ _ => pts_nil) (fun _ _ _ _ _ => (pe_df D_holds hr (by rfl) (pa_cons (pv 6) (pa_cons (pv 5) pa_nil))))) pa_nil)))
       (pss_one (ps_expr (pe_bm PySem.F.plainAttrs_list PySem.F.slot_list_append PySem.F.type_list_append mt_append (pv 3) (pa_cons (pv 4) pa_nil))))
       pss_nil))))
       (pss_cons (ps_if (pt_cmpR op_eq (pe_callB call_len_seq (by rfl) m_len (by decide +kernel) (pa_cons (pv 3) pa_nil)) pe_int (nomark _))
       (pss_one ps_never)
       pss_nil)
       (pss_one (ps_ret (pv 3)))))), ?_⟩
  refine ⟨(by show 0 ≤ sizeLine; decide), fun D nD => ?_⟩
  have s0 : Same H (upd H D (.lst [])) := same_new nD
  have eD0 : (upd H D (.lst [])) D = some (.lst []) := upd_same
  generalize (upd H D (.lst [])) = H0 at *
  refine ⟨_, rfl, i, rfl, by omega, fun r ts H1 s1 nr er tf => ?_⟩
  have hrD : r ≠ D := fun z => by rw [z, eD0] at nr; cases nr
  have lts : ts.length = 2 ^ i := by rw [tf.len, List.length_map, fills_len]
  have p16 : 2 ^ i ≤ 16 := Nat.le_trans (Nat.pow_le_pow_right (by decide) hi4) (by decide)
  have kt : ∀ {H' : Hp} {t : Addr} {vs : List V}, Kp D H1 H' → SqT K H1 t vs → SqT K H' t vs := fun k q => by
    rcases q with (q | ⟨o, q⟩) | q
    · exact .inl (.inl (k _ _ (ne_of q (s1 _ _ eD0) (by intro z; cases z)) q))
    · exact .inl (.inr ⟨o, k _ _ (ne_of q (s1 _ _ eD0) (by intro z; cases z)) q⟩)
    · exact .inr q
  have sH : ∀ {H' : Hp}, Kp D H1 H' → Same H H' := fun k b o hb => k _ _ (ne_of_none hb nD) (s1 _ _ (s0 _ _ hb))
  refine ⟨r, rfl, ⟨_, SqL.of er⟩, for_list (xs := ts.map V.ref) (fun j σ' H' => ∃ (y4 y5 y6 : Option V) (ws : List Addr), σ' = [some (.ref a), some (.int b), some (.int i), some (.ref D), y4, y5, y6] ∧ Kp D H1 H' ∧ H' D = some (.lst (ws.map V.ref)) ∧ TupsV K H' ws ((((fills i).take j).filter fun w => sayAll (List.replicate b false ++ w) pr).map fun f => f.map V.bl)) ?_ ?_ ?_ ?_⟩
  · exact ⟨_, _, _, [], rfl, Kp.refl _ _, s1 _ _ eD0, by simpa using TupsV.nil⟩
  · rintro j σ' H' _ ⟨_, _, _, _, _, kX, _⟩
    exact SqL.of (kX _ _ hrD er)
  · rintro j x σ' H2 ex ⟨y4, y5, y6, ws, rfl, k2, eD, tw⟩
    obtain ⟨c, vs, rfl, hc, hvs, hq⟩ := tf.at ex
    obtain ⟨fl, hfl, rfl⟩ : ∃ fl, (fills i)[j]? = some fl ∧ fl.map V.bl = vs := by
      rw [List.getElem?_map] at hvs
      cases z : (fills i)[j]? with
      | none => rw [z] at hvs; cases hvs
      | some fl => rw [z] at hvs; exact ⟨fl, rfl, Option.some.inj hvs⟩
    have hfll : fl.length = i := fills_mem.mp (List.mem_of_getElem? hfl)
    have lws : ws.length ≤ 16 := by
      rw [tw.len, List.length_map]
      refine Nat.le_trans (List.length_filter_le _ _) ?_
      rw [List.length_take, fills_len]; omega
    have hq2 := kt k2 hq
    refine ⟨(by show 1 ≤ sizeLine; decide), fun t0 nt0 => ?_⟩
    have s3 : Same H2 (upd H2 t0 (.tup [.bl false])) := same_new nt0
    refine ⟨_, rfl, t0, b, [.bl false], rfl, rfl, SqT.of upd_same, by simp, by omega, by omega, by simp, fun t1 H3 s4 q4 => ?_⟩
    rw [rep_false] at q4
    refine ⟨_, rfl, t1, c, _, _, rfl, rfl, q4, same_tup (s3.trans s4) hq2, small (by simp; omega), fun t2 H4 s5 q5 => ?_⟩
    rw [← List.map_append] at q5
    have s24 : Same H2 H4 := s3.trans (s4.trans s5)
    generalize hbs : List.replicate b false ++ fl = bs at q5
    have lbs : bs.length = b + i := by rw [← hbs]; simp [hfll]
    have hS4 : SqB bb K H4 a (cs.map V.ref) := (hS.same (sH k2)).same s24
    have tt4 := (tt.same (sH k2)).same s24
    refine seq_by hS4 (fun Q q => ⟨_, rfl, q⟩) fun D2 nD2 => lc_gen (walk_b (K := K) (b := bb) (a := a) (xs := cs.map V.ref)) (fun m H' => Same H4 H' ∧ H' D2 = some (.lst (((pr.take m).map fun c => c.any (sayB bs)).map V.bl))) ⟨same_new nD2, upd_same⟩ (fun m H' _ h => hS4.same h.1) ?_ ?_
    · rintro m y H5o H5 hm ⟨s6, e6⟩ ⟨rfl, hy⟩
      obtain ⟨cc, vs, rfl, hcc, hvs, hqc⟩ := tt4.at hy
      obtain ⟨ns, hns, rfl⟩ : ∃ ns, pr[m]? = some ns ∧ ns.map V.int = vs := by
        rw [List.getElem?_map] at hvs
        cases z : pr[m]? with
        | none => rw [z] at hvs; cases hvs
        | some ns => rw [z] at hvs; exact ⟨ns, rfl, Option.some.inj hvs⟩
      have hpr := hp ns (List.mem_of_getElem? hns)
      have hln := hpr.len
      refine ⟨rfl, _, rfl, _, rfl, cc, t2, ns, bs, rfl, same_tup s6 hqc, same_tup s6 q5, by omega, fun n hn => by have := hpr.2 n hn; omega, fun H6 s7 => ⟨_, s7 _ _ e6, ?_, ?_, ?_⟩⟩
      · rw [List.length_map, List.length_map, List.length_take]; exact small1000 (by omega)
      · exact fun b o hb => by rw [upd_ne (ne_of_none hb nD2)]; exact s7 _ _ (s6 _ _ hb)
      · obtain ⟨hlt, e⟩ := List.getElem?_eq_some_iff.mp hns
        rw [upd_same, List.take_succ_eq_append_getElem hlt, e, List.map_append, List.map_append]; rfl
    · rintro H5 ⟨s6, e6⟩
      rw [List.length_map, tt4.len, List.length_map, List.take_length] at e6
      refine ⟨D2, _, rfl, SqL.of e6, _, rfl, ?_⟩
      rw [sayAll_step]
      have s25 := s24.trans s6
      have eD5 := s25 _ _ eD
      have tk : (fills i).take (j + 1) = (fills i).take j ++ [fl] := by
        obtain ⟨hlt, e⟩ := List.getElem?_eq_some_iff.mp hfl
        rw [List.take_succ_eq_append_getElem hlt, e]
      refine ite2 (fun z => ?_) (fun z => ?_)
      · refine ⟨_, rfl, .inl ⟨rfl, _, SqL.of eD5⟩, _, rfl, D, _, _, rfl, rfl, eD5, ?_, _, _, _, ws ++ [c], rfl, ?_, ?_, ?_⟩
        · rw [List.length_map]; exact small1000 (by omega)
        · exact fun b' o nb hb' => by rw [upd_ne nb]; exact s25 _ _ (k2 _ _ nb hb')
        · rw [upd_same, List.map_append]; rfl
        · rw [tk, List.filter_append, List.map_append, List.filter_cons, hbs, z]
          exact ((tw.same s25).snoc (same_tup s25 hq2)).lst eD5
      · refine ⟨_, _, _, ws, rfl, fun b' o nb hb' => s25 _ _ (k2 _ _ nb hb'), eD5, ?_⟩
        rw [tk, List.filter_append, List.filter_cons, hbs, if_neg z]
        simpa using tw.same s25
  · rintro σ' H2 ⟨y4, y5, y6, ws, rfl, k2, eD, tw⟩
    rw [List.length_map, lts, List.take_of_length_le (by rw [fills_len]; exact Nat.le_refl _)] at tw
    refine ⟨_, rfl, D, _, rfl, .inl (SqL.of eD), rfl, _, rfl, ite2 (fun z => ?_) (fun _ => ?_)⟩
    · refine absurd (V.int.inj (of_decide_eq_true z)) fun e => hne ?_
      have : ws.length = 0 := by rw [List.length_map] at e; omega
      rw [tw.len, List.length_map] at this
      exact List.length_eq_zero_iff.mp this
    · exact ⟨_, rfl, q D ws H2 (sH k2) nD eD tw⟩
/-! ### a machine made -/
def spInit (C : Addr) (K : PySem.W.Frag) : Sp := fun vs H Q _ => ∃ (x dx G N St Pm : Addr) (bs bp : Bool) (S : MS), vs = [.ref x, .int S.b, .int S.i, .ref G, .ref N, .ref St, .ref Pm] ∧ H x = some (.ins C dx []) ∧ MOk S ∧ PartsAt K H S bs bp G N St Pm ∧
  ∀ (H' : Hp) (own : List Addr), Kp x H H' → MachO K C H' x S own → (∀ a ∈ own, H a = none) → Q .non H'
theorem ins_ne {C dx x a : Addr} {H : Hp} {fs : List (Str × V)} {o : HO} (hx : H x = some (.ins C dx fs)) (ha : H a = some o) (ho : ∀ fs', o ≠ .ins C dx fs') : a ≠ x := fun z => by
  rw [z, hx] at ha; exact ho _ (Option.some.inj ha).symm
theorem ok_init {f C : Addr} {fd : FuncData} {k : Nat} {kws : List (Str × V)} (F : FunD K "__init__" "Machine.__init__" (defArgs s_Machine___init__) (defBody s_Machine___init__) (defScope s_Machine___init__) [] kws f fd) (T : MTxt K C)
    (D_check_numbers : Df P w K mg base k "check_numbers" ["boxes", "inputs"] (spChkN K)) (D_check_gates : Df P w K mg base k "check_gates" ["gates", "ahead"] (spChkG K)) (D_check_nexts : Df P w K mg base k "check_nexts" ["nexts", "boxes", "many"] (spChkX K)) (D_check_starts : Df P w K mg base k "check_starts" ["starts", "boxes"] (spChkS K))
    (D_check_promises : Df P w K mg base k "check_promises" ["promises", "boxes", "inputs"] (spChkP K)) (D_words_under : Df P w K mg base k "words_under" ["promises", "boxes", "inputs"] (spUnder K)) (m_len : mg "len" = none) (m_list : mg "list" = none) (m_tuple : mg "tuple" = none) (m_range : mg "range" = none) :
    FnOk P w K mg base CX0 (k + 1) f fd ["self", "boxes", "inputs", "gates", "nexts", "starts", "promises"] (spInit C K) := by
  refine F.ok sc_Machine___init__ (fun vs H Q E h => ?_) (fun cdv A outer s H vs Q E hr h => ?_)
  · obtain ⟨x, dx, G, N, St, Pm, bs, bp, S, rfl, _⟩ := h
    rfl
  obtain ⟨x, dx, G, N, St, Pm, bs, bp, S, rfl, hx, ok, pa, q⟩ := h
  refine ⟨_, (pss_cons (ps_expr (pe_df D_check_numbers hr (by rfl) (pa_cons (pv 1) (pa_cons (pv 2) pa_nil))))
       (pss_cons (ps_expr (pe_df D_check_gates hr (by rfl) (pa_cons (pv 3) (pa_cons (pe_op op_add (pv 1) (pv 2)) pa_nil))))
       (pss_cons (ps_expr (pe_df D_check_nexts hr (by rfl) (pa_cons (pv 4) (pa_cons (pv 1) (pa_cons (pe_op op_add (pe_op op_add (pv 1) (pv 2)) (pe_callB call_len_seq (by rfl) m_len (by decide +kernel) (pa_cons (pv 3) pa_nil))) pa_nil)))))
       (pss_cons (ps_expr (pe_df D_check_starts hr (by rfl) (pa_cons (pv 5) (pa_cons (pv 1) pa_nil))))
       (pss_cons (ps_expr (pe_df D_check_promises hr (by rfl) (pa_cons (pv 6) (pa_cons (pv 1) (pa_cons (pv 2) pa_nil)))))
       (pss_cons (ps_fld (pv 0) (pe_df D_words_under hr (by rfl) (pa_cons (pv 6) (pa_cons (pv 1) (pa_cons (pv 2) pa_nil)))) rfl)
       (pss_cons (ps_fld (pv 0) (pv 1) rfl)
       (pss_cons (ps_fld (pv 0) (pv 2) rfl)
       (pss_cons (ps_fld (pv 0) (pe_callTy call_list_of (by rfl) m_list (by decide +kernel) (pa_cons (pv 3) pa_nil)) rfl)
       (pss_cons (ps_fld (pv 0) (pe_callTy call_list_of (by rfl) m_list (by decide +kernel) (pa_cons (pv 4) pa_nil)) rfl)
       (pss_cons (ps_fld (pv 0) (pe_callTy call_list_of (by rfl) m_list (by decide +kernel) (pa_cons (pv 5) pa_nil)) rfl)
       (pss_cons (ps_fld (pv 0) (pe_callTy call_list_of (by rfl) m_list (by decide +kernel) (pa_cons (pv 6) pa_nil)) rfl)
       (pss_one (ps_fld (pv 0) (pe_tupRg rfl (by rfl) m_tuple (prg_2 (by rfl) m_range pe_int (pe_op op_add (pe_op op_add (pe_op op_add (pv 1) (pv 2)) (pe_callB call_len_seq (by rfl) m_len (by decide +kernel) (pa_cons (pv 3) pa_nil))) pe_int))) rfl)))))))))))))), ?_⟩
  obtain ⟨ga, hG, tg⟩ := pa.gs
  obtain ⟨ca, hP, tp⟩ := pa.pr
  have lga : ga.length = S.gs.length := by rw [tg.len, List.length_map]
  have b10 := ok.b10
  have i4 := ok.i4
  have g24 := ok.g24
  have stl := ok.stl
  have pr8 := ok.p8
  refine ⟨_, rfl, _, rfl, S.b, S.i, rfl, ok.b1, b10, i4, ?_⟩
  refine ⟨_, rfl, _, rfl, _, rfl, _, _, rfl, rfl, G, ga, S.gs, S.b + S.i, congrArg (fun z => [V.ref G, V.int z]) (by show (S.b : Int) + (S.i : Int) = ((S.b + S.i : Nat) : Int); omega), hG, tg, g24, ok.ga, fun H1 s1 => ?_⟩
  refine ⟨_, rfl, _, rfl, _, rfl, _, rfl, _, _, rfl, rfl, _, rfl, G, _, rfl, .inl (s1.seq hG), _, _, rfl, rfl, N, S.nx, S.b, S.b + S.i + S.gs.length, congrArg (fun z => [V.ref N, V.int S.b, V.int z]) (by show (S.b : Int) + (S.i : Int) + ((ga.map V.ref).length : Nat) = ((S.b + S.i + S.gs.length : Nat) : Int); rw [List.length_map]; omega), s1.seq pa.nx, ok.nxl, ok.nxa, fun H2 s2 => ?_⟩
  have s02 := s1.trans s2
  refine ⟨_, rfl, _, rfl, bs, St, S.st, S.b, rfl, pa.st.same s02, by omega, ok.sta, ok.std, fun H3 s3 => ?_⟩
  have s03 := s02.trans s3
  refine ⟨_, rfl, _, rfl, _, rfl, bp, Pm, ca, S.pr, S.b, S.i, rfl, hP.same s03, tp.same s03, pr8, by omega, ok.pra, fun H4 s4 => ?_⟩
  have s04 := s03.trans s4
  clear s1 s2 s3 s4 s02 s03
  refine ⟨_, rfl, _, rfl, _, rfl, bp, Pm, ca, S.pr, S.b, S.i, rfl, hP.same s04, tp.same s04, pr8, b10, i4, ok.pra, ok.some, fun co wa H5 s5 nco eco tw => ?_⟩
  have s05 := s04.trans s5
  have ncoH : H co = none := s04.free nco
  have hcx : co ≠ x := fun z => by rw [z, hx] at ncoH; cases ncoH
  refine ⟨_, rfl, x, C, dx, _, rfl, s05 _ _ hx, T.cl, T.nCo, (by show 0 < 1000; decide), ?_⟩
  refine ⟨_, rfl, _, rfl, x, C, dx, _, rfl, upd_same, T.cl, T.nBo, Nat.lt_of_le_of_lt (length_putF _ _ _) (by show 1 < 1000; decide), ?_⟩
  refine ⟨_, rfl, _, rfl, x, C, dx, _, rfl, upd_same, T.cl, T.nIn, Nat.lt_of_le_of_lt (Nat.le_trans (length_putF _ _ _) (Nat.succ_le_succ (length_putF _ _ _))) (by show 2 < 1000; decide), ?_⟩
  generalize h6 : upd (upd (upd H5 x (.ins C dx (putF "coming" (.ref co) []))) x (.ins C dx (putF "box_count" (.int S.b) (putF "coming" (.ref co) [])))) x (.ins C dx (putF "input_count" (.int S.i) (putF "box_count" (.int S.b) (putF "coming" (.ref co) [])))) = H6
  have k6 : Kp x H5 H6 := fun b o nb hb => by rw [← h6, upd_ne nb, upd_ne nb, upd_ne nb]; exact hb
  have e6 : H6 x = some (.ins C dx (putF "input_count" (.int S.i) (putF "box_count" (.int S.b) (putF "coming" (.ref co) [])))) := by rw [← h6]; exact upd_same
  clear h6
  have l3 : (putF "input_count" (V.int S.i) (putF "box_count" (V.int S.b) (putF "coming" (.ref co) []))).length ≤ 3 := Nat.le_trans (length_putF _ _ _) (Nat.succ_le_succ (Nat.le_trans (length_putF _ _ _) (Nat.succ_le_succ (length_putF _ _ _))))
  generalize hf3 : putF "input_count" (V.int S.i) (putF "box_count" (V.int S.b) (putF "coming" (.ref co) [])) = f3 at *
  have sqL : ∀ {H' : Hp} {a : Addr} {xs : List V}, SqL K H a xs → Kp x H H' → SqL K H' a xs := fun h k => by
    rcases h with (h | ⟨o, h⟩) | h
    · exact .inl (.inl (k _ _ (ins_ne hx h (by intro _ z; cases z)) h))
    · exact .inl (.inr ⟨o, k _ _ (ins_ne hx h (by intro _ z; cases z)) h⟩)
    · exact .inr h
  have sqT : ∀ {H' : Hp} {a : Addr} {xs : List V}, SqT K H a xs → Kp x H H' → SqT K H' a xs := fun h k => by
    rcases h with (h | ⟨o, h⟩) | h
    · exact .inl (.inl (k _ _ (ins_ne hx h (by intro _ z; cases z)) h))
    · exact .inl (.inr ⟨o, k _ _ (ins_ne hx h (by intro _ z; cases z)) h⟩)
    · exact .inr h
  have sqB : ∀ {b : Bool} {H' : Hp} {a : Addr} {xs : List V}, SqB b K H a xs → Kp x H H' → SqB b K H' a xs := fun {b} {H'} {a} {xs} h k => by
    cases b
    · exact sqT h k
    · exact sqL h k
  have k06 : Kp x H H6 := fun b o nb hb => k6 _ _ nb (s05 _ _ hb)
  have eco6 := k6 _ _ hcx eco
  have tw6 : TupsV K H6 wa ((wordsOf S.b S.i S.pr).map fun f => f.map V.bl) := tw.mv fun a vs q => by
    rcases q with (h | ⟨o, h⟩) | h
    · exact .inl (.inl (k6 _ _ (ins_ne (s05 _ _ hx) h (by intro _ z; cases z)) h))
    · exact .inl (.inr ⟨o, k6 _ _ (ins_ne (s05 _ _ hx) h (by intro _ z; cases z)) h⟩)
    · exact .inr h
  clear k6 eco tw
  -- the lists
  refine ⟨_, rfl, G, _, rfl, .inl (sqL hG k06), fun gl ngl => ?_⟩
  have s7 : Same H6 (upd H6 gl (.lst (ga.map V.ref))) := same_new ngl
  have egl : (upd H6 gl (.lst (ga.map V.ref))) gl = some (.lst (ga.map V.ref)) := upd_same
  have hglx : gl ≠ x := fun z => by rw [z, e6] at ngl; cases ngl
  generalize (upd H6 gl (.lst (ga.map V.ref))) = H7 at *
  refine ⟨_, rfl, x, C, dx, _, rfl, s7 _ _ e6, T.cl, T.nGa, Nat.lt_of_le_of_lt l3 (by decide), ?_⟩
  generalize h8 : upd H7 x (.ins C dx (putF "gate_list" (.ref gl) f3)) = H8
  have k8 : Kp x H6 H8 := fun b o nb hb => by rw [← h8, upd_ne nb]; exact s7 _ _ hb
  have e8 : H8 x = some (.ins C dx (putF "gate_list" (.ref gl) f3)) := by rw [← h8]; exact upd_same
  have egl8 : H8 gl = some (.lst (ga.map V.ref)) := by rw [← h8, upd_ne hglx]; exact egl
  have l4 : (putF "gate_list" (V.ref gl) f3).length ≤ 4 := Nat.le_trans (length_putF _ _ _) (Nat.succ_le_succ l3)
  clear h8 s7 egl
  have k08 := k06.trans k8
  refine ⟨_, rfl, N, _, rfl, .inl (sqL pa.nx k08), fun nl nnl => ?_⟩
  have s9 : Same H8 (upd H8 nl (.lst (S.nx.map V.int))) := same_new nnl
  have enl : (upd H8 nl (.lst (S.nx.map V.int))) nl = some (.lst (S.nx.map V.int)) := upd_same
  have hnlx : nl ≠ x := fun z => by rw [z, e8] at nnl; cases nnl
  generalize (upd H8 nl (.lst (S.nx.map V.int))) = H9 at *
  refine ⟨_, rfl, x, C, dx, _, rfl, s9 _ _ e8, T.cl, T.nNx, Nat.lt_of_le_of_lt l4 (by decide), ?_⟩
  generalize hA : upd H9 x (.ins C dx (putF "next_signs" (.ref nl) (putF "gate_list" (.ref gl) f3))) = HA
  have kA : Kp x H8 HA := fun b o nb hb => by rw [← hA, upd_ne nb]; exact s9 _ _ hb
  have eA : HA x = some (.ins C dx (putF "next_signs" (.ref nl) (putF "gate_list" (.ref gl) f3))) := by rw [← hA]; exact upd_same
  have enlA : HA nl = some (.lst (S.nx.map V.int)) := by rw [← hA, upd_ne hnlx]; exact enl
  have l5 : (putF "next_signs" (V.ref nl) (putF "gate_list" (V.ref gl) f3)).length ≤ 5 := Nat.le_trans (length_putF _ _ _) (Nat.succ_le_succ l4)
  clear hA s9 enl
  have k0A := k08.trans kA
  refine ⟨_, rfl, St, _, rfl, (sqB pa.st k0A).or, fun sl nsl => ?_⟩
  have sB : Same HA (upd HA sl (.lst (S.st.map V.int))) := same_new nsl
  have esl : (upd HA sl (.lst (S.st.map V.int))) sl = some (.lst (S.st.map V.int)) := upd_same
  have hslx : sl ≠ x := fun z => by rw [z, eA] at nsl; cases nsl
  generalize (upd HA sl (.lst (S.st.map V.int))) = HB at *
  refine ⟨_, rfl, x, C, dx, _, rfl, sB _ _ eA, T.cl, T.nSt, Nat.lt_of_le_of_lt l5 (by decide), ?_⟩
  generalize hC : upd HB x (.ins C dx (putF "start_signs" (.ref sl) (putF "next_signs" (.ref nl) (putF "gate_list" (.ref gl) f3)))) = HC
  have kC : Kp x HA HC := fun b o nb hb => by rw [← hC, upd_ne nb]; exact sB _ _ hb
  have eC : HC x = some (.ins C dx (putF "start_signs" (.ref sl) (putF "next_signs" (.ref nl) (putF "gate_list" (.ref gl) f3)))) := by rw [← hC]; exact upd_same
  have eslC : HC sl = some (.lst (S.st.map V.int)) := by rw [← hC, upd_ne hslx]; exact esl
  have l6 : (putF "start_signs" (V.ref sl) (putF "next_signs" (V.ref nl) (putF "gate_list" (V.ref gl) f3))).length ≤ 6 := Nat.le_trans (length_putF _ _ _) (Nat.succ_le_succ l5)
  clear hC sB esl
  have k0C := k0A.trans kC
  refine ⟨_, rfl, Pm, _, rfl, (sqB hP k0C).or, fun pl npl => ?_⟩
  have sD : Same HC (upd HC pl (.lst (ca.map V.ref))) := same_new npl
  have epl : (upd HC pl (.lst (ca.map V.ref))) pl = some (.lst (ca.map V.ref)) := upd_same
  have hplx : pl ≠ x := fun z => by rw [z, eC] at npl; cases npl
  generalize (upd HC pl (.lst (ca.map V.ref))) = HD at *
  refine ⟨_, rfl, x, C, dx, _, rfl, sD _ _ eC, T.cl, T.nPr, Nat.lt_of_le_of_lt l6 (by decide), ?_⟩
  generalize hE : upd HD x (.ins C dx (putF "promise_list" (.ref pl) (putF "start_signs" (.ref sl) (putF "next_signs" (.ref nl) (putF "gate_list" (.ref gl) f3))))) = HE
  have kE : Kp x HC HE := fun b o nb hb => by rw [← hE, upd_ne nb]; exact sD _ _ hb
  have eE : HE x = some (.ins C dx (putF "promise_list" (.ref pl) (putF "start_signs" (.ref sl) (putF "next_signs" (.ref nl) (putF "gate_list" (.ref gl) f3))))) := by rw [← hE]; exact upd_same
  have eplE : HE pl = some (.lst (ca.map V.ref)) := by rw [← hE, upd_ne hplx]; exact epl
  have l7 : (putF "promise_list" (V.ref pl) (putF "start_signs" (V.ref sl) (putF "next_signs" (V.ref nl) (putF "gate_list" (V.ref gl) f3)))).length ≤ 7 := Nat.le_trans (length_putF _ _ _) (Nat.succ_le_succ l6)
  clear hE sD epl
  have k0E := k0C.trans kE
  -- the things
  refine ⟨_, rfl, _, rfl, _, _, rfl, rfl, _, rfl, G, _, rfl, .inl (sqL hG k0E), _, _, rfl, rfl, _, _, rfl, rfl, 1, (S.b : Int) + S.i + S.gs.length + 1, rfl, congrArg V.int (by show (S.b : Int) + (S.i : Int) + ((ga.map V.ref).length : Nat) + 1 = _; rw [List.length_map, lga]), RgOk.of_le (by omega) (by omega) (by omega) (by omega), fun th nth => ?_⟩
  have sF : Same HE (upd HE th (.tup (rgV 1 ((S.b : Int) + S.i + S.gs.length + 1)))) := same_new nth
  have eth : (upd HE th (.tup (rgV 1 ((S.b : Int) + S.i + S.gs.length + 1)))) th = some (.tup (rgV 1 ((S.b : Int) + S.i + S.gs.length + 1))) := upd_same
  have hthx : th ≠ x := fun z => by rw [z, eE] at nth; cases nth
  generalize (upd HE th (.tup (rgV 1 ((S.b : Int) + S.i + S.gs.length + 1)))) = HF at *
  refine ⟨_, rfl, x, C, dx, _, rfl, sF _ _ eE, T.cl, T.nTh, Nat.lt_of_le_of_lt l7 (by decide), ?_⟩
  generalize hG' : upd HF x (.ins C dx (putF "things" (.ref th) (putF "promise_list" (.ref pl) (putF "start_signs" (.ref sl) (putF "next_signs" (.ref nl) (putF "gate_list" (.ref gl) f3)))))) = HG
  have kG : Kp x HE HG := fun b o nb hb => by rw [← hG', upd_ne nb]; exact sF _ _ hb
  have eG : HG x = some (.ins C dx (mF co gl nl sl pl th S.b S.i)) := by rw [← hG', upd_same, ← hf3]; rfl
  have ethG : HG th = some (.tup (rgV 1 ((S.b : Int) + S.i + S.gs.length + 1))) := by rw [← hG', upd_ne hthx]; exact eth
  have k0G := k0E.trans kG
  have kCG := kE.trans kG
  have kAG := kC.trans kCG
  have k8G := kA.trans kAG
  have k6G := k8.trans k8G
  refine q HG [co, gl, nl, sl, pl, th] k0G ⟨dx, co, gl, nl, sl, pl, th, wa, ga, ca, rfl, eG, k6G _ _ hcx eco6, tw6.mv fun a vs q => ?_, k8G _ _ hglx egl8, tg.mv fun a vs q => sqT q k0G, kAG _ _ hnlx enlA, kCG _ _ hslx eslC, kG _ _ hplx eplE, tp.mv fun a vs q => sqT q k0G, ethG⟩ fun a ha => ?_
  · rcases q with (h | ⟨o, h⟩) | h
    · exact .inl (.inl (k6G _ _ (ins_ne e6 h (by intro _ z; cases z)) h))
    · exact .inl (.inr ⟨o, k6G _ _ (ins_ne e6 h (by intro _ z; cases z)) h⟩)
    · exact .inr h
  · simp only [List.mem_cons, List.not_mem_nil, or_false] at ha
    rcases ha with rfl | rfl | rfl | rfl | rfl | rfl
    · exact ncoH
    · exact k06.free hglx ngl
    · exact k08.free hnlx nnl
    · exact k0A.free hslx nsl
    · exact k0C.free hplx npl
    · exact k0E.free hthx nth

end
end K21
namespace K21
open PySem PySem.Spec PyProof.Rows L2 KL
section
variable {P : Program} {w : World} {K : PySem.W.Frag} {mg : Str → Option Value} {base : Heap}
/-! ### is it a filling -/
def isB : PyData → Bool
  | .bool _ => true
  | _ => false
def fillB (d : PyData) (m : Nat) : Bool := match d with
  | .tuple ds => decide (ds.length = m) && ds.all isB
  | _ => false
def spIsFill (K : PySem.W.Frag) : Sp := fun vs H Q _ => ∃ (x : V) (d : PyData) (m : Nat), vs = [x, .int m] ∧ (Dp K H x d ∨ (TyX K H x (.type "dict") ∧ d = .none)) ∧ (∀ ds, d = .tuple ds → ds.length ≤ 900) ∧ ∀ H', Same H H' → Q (.bl (fillB d m)) H'
theorem ok_isfill {f : Addr} {fd : FuncData} {k : Nat} (F : Fun K "is_filling" "is_filling" s_is_filling f fd) (m_isinstance : mg "isinstance" = none) (m_tuple : mg "tuple" = none) (m_len : mg "len" = none) (m_all : mg "all" = none) (m_bool : mg "bool" = none) :
    FnOk P w K mg base CX0 (k + 1) f fd ["thing", "many"] (spIsFill K) := by
  refine F.ok sc_is_filling (fun vs H Q E h => ?_) (fun cdv A outer s H vs Q E hr h => ?_)
  · obtain ⟨x, d, m, rfl, _⟩ := h
    rfl
  obtain ⟨x, d, m, rfl, hd, h9, q⟩ := h
  refine ⟨_, (pss_cons (ps_if (PW.pt (pw_or (pt_not (pt_val (pe_callB call_isi (by rfl) m_isinstance (by decide +kernel) (pa_cons (pv 0) (pa_cons (pe_bltn (v := .ty "tuple") (by rfl) m_tuple (by decide +kernel) rfl) pa_nil))))) (pw_or1 (pt_cmpR op_ne (pe_callB call_len_seq (by rfl) m_len (by decide +kernel) (pa_cons (pv 0) pa_nil)) (pv 1) (nomark _)))))
       (pss_one (ps_ret pe_bl))
       pss_nil)
       (pss_one (ps_ret (pe_callB (cr_all rfl) (by rfl) m_all (by decide +kernel) (pa_cons (pe_lc (own := [("truth", 2)]) (g := gName 2) (tt := tYes) (by rfl) sc_is_filling.nd (pi_tup (pv 0)) (blkOk_by (by kernel_rfl)) (fun _ _ _ _ _ => (pg_name (i := 2) sc_is_filling.nd rfl (.inl rfl))) (fun _ _ _ _ _ => pts_nil) (fun _ _ _ _ _ => (pe_callB (call_isi' (K := K) rfl) (by rfl) m_isinstance (by decide +kernel) (pa_cons (pv 2) (pa_cons (pe_bltn (v := .ty "bool") (by rfl) m_bool (by decide +kernel) rfl) pa_nil))))) pa_nil))))), ?_⟩
  have q0 := q H (Same.refl H)
  rcases hd with hd | ⟨ht, rfl⟩
  case inr => exact ⟨_, rfl, x, .ty "tuple", .type "dict", .type "tuple", false, rfl, .ty "tuple", ht, kit_ty (r := false) (by decide +kernel), _, rfl, iteT q0⟩
  refine ⟨_, rfl, _, _, _, _, _, rfl, .ty _, dpTy hd, kit_ty (kit_tuple d), _, rfl, ?_⟩
  cases d with
  | tuple ds =>
    cases hd with
    | @tup a xs _ hS hA =>
      have lx := dpA_len hA
      have l9 := h9 ds rfl
      refine iteF ⟨_, rfl, a, _, rfl, .inr hS, _, rfl, rfl, _, rfl, ite2 (fun z => ?_) (fun z => ?_)⟩
      · have ne : ds.length ≠ m := fun e => by
          rw [lx, e] at z; simp at z
        have : fillB (.tuple ds) m = false := by unfold fillB; simp [ne]
        rw [this] at q0; exact q0
      · have em : ds.length = m := by
          have := Bool.eq_false_iff.mpr z
          simp only [Bool.not_eq_false'] at this
          have := V.int.inj (of_decide_eq_true this)
          omega
        refine ⟨_, rfl, a, rfl, ⟨_, hS⟩, fun D nD => lc_tup (xs := xs) (fun j H' => Same H H' ∧ H' D = some (.lst (((ds.take j).map isB).map V.bl))) ⟨same_new nD, upd_same⟩ (fun j H' _ h => same_tup h.1 hS) ?_ ?_⟩
        · rintro j y H1 ey ⟨s1, e1⟩
          obtain ⟨dj, hdj, hy, hdr⟩ := dpA_at hA ey
          refine ⟨rfl, _, rfl, _, _, _, _, _, rfl, .ty _, dpTy (dpSame hy s1), kit_ty (kit_bool dj), _, e1, ?_, ?_, ?_⟩
          · simp only [List.length_map, List.length_take]; exact small1000 (by omega)
          · exact fun b o hb => by rw [upd_ne (ne_of_none hb nD)]; exact s1 _ _ hb
          · obtain ⟨hlt, e⟩ := List.getElem?_eq_some_iff.mp hdj
            rw [upd_same, List.take_succ_eq_append_getElem hlt, e, List.map_append, List.map_append]
            cases dj <;> rfl
        · rintro H1 ⟨s1, e1⟩
          refine ⟨D, ds.map isB, rfl, SqL.of ?_, ?_⟩
          · rw [e1, lx, List.take_length]
          · have : fillB (.tuple ds) m = (ds.map isB).all id := by
              show (decide (ds.length = m) && ds.all isB) = _; rw [decide_eq_true em, List.all_map]; rfl
            rw [← this]; exact q H1 s1
  | int i => exact iteT q0
  | bool b => exact iteT q0
  | none => exact iteT q0
  | str _ => exact iteT q0
  | list _ => exact iteT q0
  | dict _ => exact iteT q0
/-! ### what a machine tells -/
def spWords (C : Addr) (K : PySem.W.Frag) : Sp := fun vs H Q _ => ∃ (m : Addr) (S : MS), vs = [.ref m] ∧ MachAt K C H m S ∧ ∀ (r : Addr) (ws : List Addr) (H' : Hp), Same H H' → H r = none → H' r = some (.lst (ws.map V.ref)) → TupsV K H' ws ((wordsOf S.b S.i S.pr).map fun f => f.map V.bl) → Q (.ref r) H'
theorem ok_words {f C : Addr} {fd : FuncData} {k : Nat} (F : Fun K "words" "Machine.words" s_Machine_words f fd) (T : MTxt K C) (m_list : mg "list" = none) : FnOk P w K mg base CX0 (k + 1) f fd ["self"] (spWords C K) := by
  refine F.ok sc_Machine_words (fun vs H Q E h => ?_) (fun cdv A outer s H vs Q E hr h => ?_)
  · obtain ⟨m, S, rfl, _⟩ := h
    rfl
  obtain ⟨m, S, rfl, ⟨own, ⟨dx, co, gl, nl, sl, pl, th, wa, ga, ca, rfl, em, eco, tw, _⟩⟩, q⟩ := h
  refine ⟨_, (pss_one (ps_ret (pe_callTy call_list_of (by rfl) m_list (by decide +kernel) (pa_cons (pe_fld (pv 0) rfl) pa_nil)))), ?_⟩
  exact ⟨_, rfl, m, C, dx, _, _, rfl, em, T.cl, T.nCo, mF_coming, co, _, rfl, .inl (SqL.of eco), fun l nl => q l wa _ (same_new nl) nl upd_same (tw.same (same_new nl))⟩
open Classical in
/-- whether it is a word that may come -/
noncomputable def wordB (S : MS) (d : PyData) : Bool := decide (∃ f ∈ wordsOf S.b S.i S.pr, d = .tuple (f.map PyData.bool))
open Classical in
theorem wordB_iff {S : MS} {d : PyData} : wordB S d = true ↔ ∃ f ∈ wordsOf S.b S.i S.pr, d = .tuple (f.map PyData.bool) := by unfold wordB; exact decide_eq_true_iff
theorem shBools (bs : List Bool) : SeqAt.shaped (.tuple (bs.map PyData.bool)) = true := (Fine.tuple (n := 0) (m := 0) (l := bs.length) (fun d hd => by obtain ⟨b, _, rfl⟩ := List.mem_map.mp hd; exact Fine.bool b) (by simp)).shaped (by omega)
theorem dpBools {H : Hp} : ∀ bs : List Bool, DpAll K H (bs.map V.bl) (bs.map PyData.bool)
  | [] => .nil
  | b :: bs => .cons (.bl b) (dpBools bs)
theorem dpWords {H : Hp} : ∀ {ws : List Addr} {fs : List (List Bool)}, TupsV K H ws (fs.map fun f => f.map V.bl) → DpAll K H (ws.map V.ref) (fs.map fun f => PyData.tuple (f.map PyData.bool))
  | _, [], h => by cases h; exact .nil
  | _, f :: fs, h => by
    cases h with
    | cons q r => exact .cons (.tup q (dpBools f)) (dpWords r)
theorem fineWords {fs : List (List Bool)} {n l : Nat} (h : ∀ f ∈ fs, f.length ≤ n) (hl : fs.length ≤ l) : Fine (l * (n * 1 + 1)) 2 (.list (fs.map fun f => PyData.tuple (f.map PyData.bool))) := by
  refine Fine.list (n := n * 1) (m := 1) (l := l) (fun d hd => ?_) (by rw [List.length_map]; exact hl)
  obtain ⟨f, hf, rfl⟩ := List.mem_map.mp hd
  exact Fine.tuple (n := 0) (m := 0) (l := n) (fun d hd => by obtain ⟨b, _, rfl⟩ := List.mem_map.mp hd; exact Fine.bool b) (by rw [List.length_map]; exact h f hf)
theorem words_len {b i : Nat} {pr : List (List Int)} : (wordsOf b i pr).length ≤ 2 ^ i := by
  unfold KL.wordsOf; refine Nat.le_trans (List.length_filter_le _ _) ?_; rw [fills_len]; exact Nat.le_refl _
theorem words_mem {b i : Nat} {pr : List (List Int)} {f : List Bool} (h : f ∈ wordsOf b i pr) : f.length = i := fills_mem.mp (List.mem_filter.mp h).1
theorem all_bools : ∀ {ds : List PyData}, ds.all isB = true → ∃ bs : List Bool, ds = bs.map PyData.bool
  | [], _ => ⟨[], rfl⟩
  | d :: ds, h => by
    rw [List.all_cons, Bool.and_eq_true] at h
    obtain ⟨bs, rfl⟩ := all_bools h.2
    cases d with
    | bool b => exact ⟨b :: bs, rfl⟩
    | _ => exact absurd h.1 Bool.false_ne_true
def spIsWord (C : Addr) (K : PySem.W.Frag) : Sp := fun vs H Q _ => ∃ (m : Addr) (S : MS) (x : V) (d : PyData), vs = [.ref m, x] ∧ MachAt K C H m S ∧ S.i ≤ 4 ∧ (Dp K H x d ∨ (TyX K H x (.type "dict") ∧ d = .none)) ∧ (∀ ds, d = .tuple ds → ds.length ≤ 900) ∧ ∀ H', Same H H' → Q (.bl (wordB S d)) H'
theorem ok_isword {f C : Addr} {fd : FuncData} {k : Nat} (F : Fun K "is_word" "Machine.is_word" s_Machine_is_word f fd) (T : MTxt K C) (D_is_filling : Df P w K mg base k "is_filling" ["thing", "many"] (spIsFill K)) :
    FnOk P w K mg base CX0 (k + 1) f fd ["self", "thing"] (spIsWord C K) := by
  refine F.ok sc_Machine_is_word (fun vs H Q E h => ?_) (fun cdv A outer s H vs Q E hr h => ?_)
  · obtain ⟨m, S, x, d, rfl, _⟩ := h
    rfl
  obtain ⟨m, S, x, d, rfl, ⟨own, ⟨dx, co, gl, nl, sl, pl, th, wa, ga, ca, rfl, em, eco, tw, _⟩⟩, i4, hd, h9, q⟩ := h
  refine ⟨_, (pss_one (ps_ret (pe_and (pe_df D_is_filling hr (by rfl) (pa_cons (pv 1) (pa_cons (pe_fld (pv 0) rfl) pa_nil))) (pe_one (pe_cmpR (op_inD (units65 hr)) (pv 1) (pe_fld (pv 0) rfl) rfl))))), ?_⟩
  refine ⟨_, rfl, _, rfl, m, C, dx, _, _, rfl, em, T.cl, T.nIn, mF_input, x, d, S.i, rfl, hd, h9, fun H1 s1 => ⟨_, rfl, ite2 (fun z => ?_) (fun z => ?_)⟩⟩
  · obtain ⟨ds, rfl⟩ : ∃ ds, d = .tuple ds := by
      cases d with
      | tuple ds => exact ⟨ds, rfl⟩
      | _ => exact absurd z Bool.false_ne_true
    obtain ⟨z1, z2⟩ := Bool.and_eq_true_iff.mp (show (decide (ds.length = S.i) && ds.all isB) = true from z)
    obtain ⟨bs, rfl⟩ := all_bools z2
    have hd' : Dp K H x (.tuple (bs.map PyData.bool)) := hd.elim id fun h => by cases h.2
    have p4 : 2 ^ S.i ≤ 16 := Nat.le_trans (Nat.pow_le_pow_right (by decide) i4) (by decide)
    have fw := fineWords (fs := wordsOf S.b S.i S.pr) (n := 4) (l := 16) (fun f hf => by rw [words_mem hf]; exact i4) (Nat.le_trans words_len p4)
    refine ⟨_, rfl, _, rfl, m, C, dx, _, _, rfl, s1 _ _ em, T.cl, T.nCo, mF_coming, _, _, dpSame hd' s1, .lst (SqL.of (s1 _ _ eco)) (dpWords (tw.same s1)), shBools bs, fw.shaped (by omega), ?_⟩
    have : ((wordsOf S.b S.i S.pr).map fun f => PyData.tuple (f.map PyData.bool)).any (fun z => PyData.eqv z (.tuple (bs.map PyData.bool))) = wordB S (.tuple (bs.map PyData.bool)) := by
      rw [Bool.eq_iff_iff, List.any_map, List.any_eq_true, wordB_iff]
      constructor
      · rintro ⟨f, hf, e⟩
        refine ⟨f, hf, ?_⟩
        rw [eqv_bools e]
      · rintro ⟨f, hf, e⟩
        refine ⟨f, hf, ?_⟩
        show PyData.eqv (.tuple (f.map PyData.bool)) (.tuple (bs.map PyData.bool)) = true
        rw [e]; exact SeqAt.eqv_refl _ (SeqAt.canLay_of_shaped (shBools f))
    rw [this]; exact q H1 s1
  · have : wordB S d = false := by
      refine Bool.eq_false_iff.mpr fun y => ?_
      obtain ⟨f, hf, rfl⟩ := wordB_iff.mp y
      refine z ?_
      show (decide ((f.map PyData.bool).length = S.i) && (f.map PyData.bool).all isB) = true
      rw [List.length_map, words_mem hf, decide_eq_true rfl, List.all_map]
      exact List.all_eq_true.mpr fun b _ => rfl
    rw [← this]; exact q H1 s1

/-! ### what a machine is made of, told -/
def spBoxes (C : Addr) (K : PySem.W.Frag) : Sp := fun vs H Q _ => ∃ (m : Addr) (S : MS), vs = [.ref m] ∧ MachAt K C H m S ∧ Q (.int S.b) H
theorem ok_boxes {f C : Addr} {fd : FuncData} {k : Nat} (F : Fun K "boxes" "Machine.boxes" s_Machine_boxes f fd) (T : MTxt K C) : FnOk P w K mg base CX0 (k + 1) f fd ["self"] (spBoxes C K) := by
  refine F.ok sc_Machine_boxes (fun vs H Q E h => ?_) (fun cdv A outer s H vs Q E hr h => ?_)
  · obtain ⟨m, S, rfl, _⟩ := h
    rfl
  obtain ⟨m, S, rfl, ⟨own, ⟨dx, co, gl, nl, sl, pl, th, wa, ga, ca, rfl, em, _⟩⟩, q⟩ := h
  exact ⟨_, (pss_one (ps_ret (pe_fld (pv 0) rfl))), ⟨_, rfl, m, C, dx, _, _, rfl, em, T.cl, T.nBo, mF_box, q⟩⟩
def spInputs (C : Addr) (K : PySem.W.Frag) : Sp := fun vs H Q _ => ∃ (m : Addr) (S : MS), vs = [.ref m] ∧ MachAt K C H m S ∧ Q (.int S.i) H
theorem ok_inputs {f C : Addr} {fd : FuncData} {k : Nat} (F : Fun K "inputs" "Machine.inputs" s_Machine_inputs f fd) (T : MTxt K C) : FnOk P w K mg base CX0 (k + 1) f fd ["self"] (spInputs C K) := by
  refine F.ok sc_Machine_inputs (fun vs H Q E h => ?_) (fun cdv A outer s H vs Q E hr h => ?_)
  · obtain ⟨m, S, rfl, _⟩ := h
    rfl
  obtain ⟨m, S, rfl, ⟨own, ⟨dx, co, gl, nl, sl, pl, th, wa, ga, ca, rfl, em, _⟩⟩, q⟩ := h
  exact ⟨_, (pss_one (ps_ret (pe_fld (pv 0) rfl))), ⟨_, rfl, m, C, dx, _, _, rfl, em, T.cl, T.nIn, mF_input, q⟩⟩
def spGates (C : Addr) (K : PySem.W.Frag) : Sp := fun vs H Q _ => ∃ (m : Addr) (S : MS), vs = [.ref m] ∧ MachAt K C H m S ∧ ∀ (r : Addr) (ga : List Addr) (H' : Hp), Same H H' → H r = none → H' r = some (.lst (ga.map V.ref)) → TupsV K H' ga (S.gs.map gateV) → Q (.ref r) H'
theorem ok_gates {f C : Addr} {fd : FuncData} {k : Nat} (F : Fun K "gates" "Machine.gates" s_Machine_gates f fd) (T : MTxt K C) (m_list : mg "list" = none) : FnOk P w K mg base CX0 (k + 1) f fd ["self"] (spGates C K) := by
  refine F.ok sc_Machine_gates (fun vs H Q E h => ?_) (fun cdv A outer s H vs Q E hr h => ?_)
  · obtain ⟨m, S, rfl, _⟩ := h
    rfl
  obtain ⟨m, S, rfl, ⟨own, ⟨dx, co, gl, nl, sl, pl, th, wa, ga, ca, rfl, em, eco, tw, egl, tg, _⟩⟩, q⟩ := h
  exact ⟨_, (pss_one (ps_ret (pe_callTy call_list_of (by rfl) m_list (by decide +kernel) (pa_cons (pe_fld (pv 0) rfl) pa_nil)))), ⟨_, rfl, m, C, dx, _, _, rfl, em, T.cl, T.nGa, mF_gate, gl, _, rfl, .inl (SqL.of egl), fun l nl => q l ga _ (same_new nl) nl upd_same (tg.same (same_new nl))⟩⟩
def spNexts (C : Addr) (K : PySem.W.Frag) : Sp := fun vs H Q _ => ∃ (m : Addr) (S : MS), vs = [.ref m] ∧ MachAt K C H m S ∧ ∀ (r : Addr) (H' : Hp), Same H H' → H r = none → H' r = some (.lst (S.nx.map V.int)) → Q (.ref r) H'
theorem ok_nexts {f C : Addr} {fd : FuncData} {k : Nat} (F : Fun K "nexts" "Machine.nexts" s_Machine_nexts f fd) (T : MTxt K C) (m_list : mg "list" = none) : FnOk P w K mg base CX0 (k + 1) f fd ["self"] (spNexts C K) := by
  refine F.ok sc_Machine_nexts (fun vs H Q E h => ?_) (fun cdv A outer s H vs Q E hr h => ?_)
  · obtain ⟨m, S, rfl, _⟩ := h
    rfl
  obtain ⟨m, S, rfl, ⟨own, ⟨dx, co, gl, nl, sl, pl, th, wa, ga, ca, rfl, em, eco, tw, egl, tg, enl, _⟩⟩, q⟩ := h
  exact ⟨_, (pss_one (ps_ret (pe_callTy call_list_of (by rfl) m_list (by decide +kernel) (pa_cons (pe_fld (pv 0) rfl) pa_nil)))), ⟨_, rfl, m, C, dx, _, _, rfl, em, T.cl, T.nNx, mF_next, nl, _, rfl, .inl (SqL.of enl), fun l nl => q l _ (same_new nl) nl upd_same⟩⟩
def spStarts (C : Addr) (K : PySem.W.Frag) : Sp := fun vs H Q _ => ∃ (m : Addr) (S : MS), vs = [.ref m] ∧ MachAt K C H m S ∧ ∀ (r : Addr) (H' : Hp), Same H H' → H r = none → H' r = some (.lst (S.st.map V.int)) → Q (.ref r) H'
theorem ok_starts {f C : Addr} {fd : FuncData} {k : Nat} (F : Fun K "starts" "Machine.starts" s_Machine_starts f fd) (T : MTxt K C) (m_list : mg "list" = none) : FnOk P w K mg base CX0 (k + 1) f fd ["self"] (spStarts C K) := by
  refine F.ok sc_Machine_starts (fun vs H Q E h => ?_) (fun cdv A outer s H vs Q E hr h => ?_)
  · obtain ⟨m, S, rfl, _⟩ := h
    rfl
  obtain ⟨m, S, rfl, ⟨own, ⟨dx, co, gl, nl, sl, pl, th, wa, ga, ca, rfl, em, eco, tw, egl, tg, enl, esl, _⟩⟩, q⟩ := h
  exact ⟨_, (pss_one (ps_ret (pe_callTy call_list_of (by rfl) m_list (by decide +kernel) (pa_cons (pe_fld (pv 0) rfl) pa_nil)))), ⟨_, rfl, m, C, dx, _, _, rfl, em, T.cl, T.nSt, mF_start, sl, _, rfl, .inl (SqL.of esl), fun l nl => q l _ (same_new nl) nl upd_same⟩⟩
def spPromises (C : Addr) (K : PySem.W.Frag) : Sp := fun vs H Q _ => ∃ (m : Addr) (S : MS), vs = [.ref m] ∧ MachAt K C H m S ∧ ∀ (r : Addr) (ca : List Addr) (H' : Hp), Same H H' → H r = none → H' r = some (.lst (ca.map V.ref)) → TupsV K H' ca (S.pr.map fun c => c.map V.int) → Q (.ref r) H'
theorem ok_promises {f C : Addr} {fd : FuncData} {k : Nat} (F : Fun K "promises" "Machine.promises" s_Machine_promises f fd) (T : MTxt K C) (m_list : mg "list" = none) : FnOk P w K mg base CX0 (k + 1) f fd ["self"] (spPromises C K) := by
  refine F.ok sc_Machine_promises (fun vs H Q E h => ?_) (fun cdv A outer s H vs Q E hr h => ?_)
  · obtain ⟨m, S, rfl, _⟩ := h
    rfl
  obtain ⟨m, S, rfl, ⟨own, ⟨dx, co, gl, nl, sl, pl, th, wa, ga, ca, rfl, em, eco, tw, egl, tg, enl, esl, epl, tp, _⟩⟩, q⟩ := h
  exact ⟨_, (pss_one (ps_ret (pe_callTy call_list_of (by rfl) m_list (by decide +kernel) (pa_cons (pe_fld (pv 0) rfl) pa_nil)))), ⟨_, rfl, m, C, dx, _, _, rfl, em, T.cl, T.nPr, mF_promise, pl, _, rfl, .inl (SqL.of epl), fun l nl => q l ca _ (same_new nl) nl upd_same (tp.same (same_new nl))⟩⟩
def spMLen (C : Addr) (K : PySem.W.Frag) : Sp := fun vs H Q _ => ∃ (m : Addr) (S : MS), vs = [.ref m] ∧ MachAt K C H m S ∧ Q (.int ((S.b + S.i + S.gs.length : Nat) : Int)) H
theorem ok_mlen {f C : Addr} {fd : FuncData} {k : Nat} (F : Fun K "__len__" "Machine.__len__" s_Machine___len__ f fd) (T : MTxt K C) (m_len : mg "len" = none) : FnOk P w K mg base CX0 (k + 1) f fd ["self"] (spMLen C K) := by
  refine F.ok sc_Machine___len__ (fun vs H Q E h => ?_) (fun cdv A outer s H vs Q E hr h => ?_)
  · obtain ⟨m, S, rfl, _⟩ := h
    rfl
  obtain ⟨m, S, rfl, ⟨own, ⟨dx, co, gl, nl, sl, pl, th, wa, ga, ca, rfl, em, eco, tw, egl, tg, enl, esl, epl, tp, eth⟩⟩, q⟩ := h
  refine ⟨_, (pss_one (ps_ret (pe_callB call_len_seq (by rfl) m_len (by decide +kernel) (pa_cons (pe_fld (pv 0) rfl) pa_nil)))), ⟨_, rfl, m, C, dx, _, _, rfl, em, T.cl, T.nTh, mF_things, th, _, rfl, .inr (SqT.of eth), ?_⟩⟩
  rw [rgV_length, show ((S.b : Int) + (S.i : Int) + (S.gs.length : Int) + 1 - 1).toNat = S.b + S.i + S.gs.length by omega]
  exact q

def begOf (S : MS) : List (List Bool) := (fills S.b).filter fun f => S.st.all (sayB f)
theorem beg_len {S : MS} : (begOf S).length ≤ 2 ^ S.b := by
  unfold begOf; refine Nat.le_trans (List.length_filter_le _ _) ?_; rw [fills_len]; exact Nat.le_refl _
theorem beg_mem {S : MS} {f : List Bool} (h : f ∈ begOf S) : f.length = S.b := fills_mem.mp (List.mem_filter.mp h).1

end
end K21
namespace K21
open PySem PySem.Spec PyProof.Rows L2 KL
section
variable {P : Program} {w : World} {K : PySem.W.Frag} {mg : Str → Option Value} {base : Heap}
/-! ### a draw -/
def spTake (K : PySem.W.Frag) : Sp := fun vs H Q _ => ∃ (p : Addr) (m : Int), vs = [.ref p, .int m] ∧ Pl H p ∧ 1 ≤ m ∧ m < 1073741824 ∧
  ∀ (d : Int) (H' : Hp), Kp p H H' → Pl H' p → 0 ≤ d → d < m → Q (.int d) H'
theorem ok_take {f : Addr} {fd : FuncData} {k : Nat} (F : Fun K "_law_take" "_law_take" s_law_take f fd) : FnOk P w K mg base CX0 (k + 1) f fd ["_law_pool_here", "_law_many"] (spTake K) := by
  refine F.ok sc_law_take (fun vs H Q E h => ?_) (fun cdv A outer s H vs Q E hr h => ?_)
  · obtain ⟨p, m, rfl, _⟩ := h
    rfl
  obtain ⟨p, m, rfl, ⟨a, b, e, ha, hb, hb2⟩, h1, h2, q⟩ := h
  refine ⟨_, (pss_cons (ps_if (pt_cmpR op_gt (pe_ix ix_list (pv 0) pe_int (fun _ _ => rfl)) pe_int (nomark _))
       (pss_cons (ps_set (i := 2) sc_law_take.nd rfl (.inl rfl) (pe_op op_mod (pe_ix ix_list (pv 0) pe_int (fun _ _ => rfl)) (pv 1)))
       (pss_cons (ps_asg (pe_op op_fdiv (pe_ix ix_list (pv 0) pe_int (fun _ _ => rfl)) (pv 1)) (pg_sub (pv 0) pe_int set_list))
       (pss_one (ps_ret (pv 2)))))
       pss_nil)
       (pss_cons (ps_asg (pe_op op_mod (pe_op op_add (pe_op op_mul (pe_ix ix_list (pv 0) pe_int (fun _ _ => rfl)) pe_int) pe_int) pe_int) (pg_sub (pv 0) pe_int set_list))
       (pss_one (ps_ret (pe_op op_mod (pe_op op_fdiv (pe_op op_mod (pe_op op_mul (pe_ix ix_list (pv 0) pe_int (fun _ _ => rfl)) (pe_ix ix_list (pv 0) pe_int (fun _ _ => rfl))) pe_int) pe_int) (pv 1)))))), ?_⟩
  refine ⟨_, rfl, p, _, 0, .int a, rfl, rfl, SqL.of e, rfl, _, _, rfl, rfl, _, rfl, ite2 (fun c => ?_) (fun c => ?_)⟩
  · have c' : 0 < a := of_decide_eq_true c
    refine ⟨_, rfl, p, _, 0, .int a, rfl, rfl, SqL.of e, rfl, _, rfl, _, _, rfl, rfl, (by show 0 < m; omega), ?_⟩
    refine ⟨_, rfl, p, _, 0, .int a, rfl, rfl, SqL.of e, rfl, _, rfl, _, _, rfl, rfl, (by show 0 < m ∧ m < 1073741824; omega), ?_⟩
    refine ⟨_, rfl, p, _, 0, 0, rfl, rfl, e, rfl, ?_⟩
    refine ⟨_, rfl, q _ _ (Kp.upd _ _ _) ⟨a / m, b, upd_same, Int.ediv_nonneg ha (by omega), hb, hb2⟩ (Int.emod_nonneg _ (by omega)) (Int.emod_lt_of_pos _ (by omega))⟩
  · refine ⟨_, rfl, p, _, 1, .int b, rfl, rfl, SqL.of e, rfl, _, _, rfl, rfl, .inr ⟨by omega, by omega⟩, _, _, rfl, rfl, _, _, rfl, rfl, (by show (0 : Int) < 2147483647; omega), ?_⟩
    refine ⟨_, rfl, p, _, 1, 1, rfl, rfl, e, rfl, ?_⟩
    have hc0 := Int.emod_nonneg (b * 48271 + 11) (show (2147483647 : Int) ≠ 0 by omega)
    have hc1 := Int.emod_lt_of_pos (b * 48271 + 11) (show (0 : Int) < 2147483647 by omega)
    generalize hC : (b * 48271 + 11) % 2147483647 = c1 at hc0 hc1
    refine ⟨_, rfl, p, _, 1, .int c1, rfl, rfl, SqL.of upd_same, (by rw [← hC]; rfl), _, rfl, p, _, 1, .int c1, rfl, rfl, SqL.of upd_same, (by rw [← hC]; rfl), ?_⟩
    refine ⟨_, _, rfl, rfl, .inr ⟨by omega, by omega⟩, _, _, rfl, rfl, (by show (0 : Int) < 2147483629; omega), _, _, rfl, rfl, (by show (0 : Int) < 64 ∧ (64 : Int) < 1073741824; omega), _, rfl, _, _, rfl, rfl, (by show 0 < m; omega), ?_⟩
    refine q _ _ (Kp.upd _ _ _) ⟨a, c1, ?_, ha, hc0, hc1⟩ (Int.emod_nonneg _ (by omega)) (Int.emod_lt_of_pos _ (by omega))
    rw [upd_same, ← hC]; rfl

/-! ### the pool of a cell -/
def spPool (K : PySem.W.Frag) : Sp := fun vs H Q _ => ∃ (a : Addr) (ns : List Int) (k : Int), vs = [.ref a, .int k] ∧ SqL K H a (ns.map V.int) ∧ ns.length ≤ 1000 ∧ 0 ≤ k ∧
  ∀ (p : Addr) (H' : Hp), H p = none → Same H H' → Pl H' p → Q (.ref p) H'
theorem ok_pool {f : Addr} {fd : FuncData} {k : Nat} (F : Fun K "_law_pool" "_law_pool" s_law_pool f fd) (m_len : mg "len" = none) (m_int : mg "int" = none) :
    FnOk P w K mg base CX0 (k + 1) f fd ["_law_script", "_law_k"] (spPool K) := by
  refine F.ok sc_law_pool (fun vs H Q E h => ?_) (fun cdv A outer s H vs Q E hr h => ?_)
  · obtain ⟨a, ns, k, rfl, _⟩ := h
    rfl
  obtain ⟨a, ns, k, rfl, hS, hl, hk, q⟩ := h
  refine ⟨_, (pss_cons (ps_set (i := 2) sc_law_pool.nd rfl (.inl rfl) pe_int)
       (C8.pss_cut (ps_if (pt_cmpR (op_neD hr.units) (pv 0) (pe_lst pa_nil) (nomark _))
       (pss_one (ps_set (i := 2) sc_law_pool.nd rfl (.inl rfl) (pe_ix ix_list (pv 0) (pe_op op_mod (pv 1) (pe_callB call_len_seq (by rfl) m_len (by decide +kernel) (pa_cons (pv 0) pa_nil))) (fun _ _ => rfl))))
       pss_nil)
       (C8.pss_cut (ps_if (pt_cmpR op_ge (pv 1) (pe_callB call_len_seq (by rfl) m_len (by decide +kernel) (pa_cons (pv 0) pa_nil)) (nomark _))
       (pss_one (ps_set (i := 2) sc_law_pool.nd rfl (.inl rfl) (pe_ix ix_list (pe_lst (pa_cons (pe_op op_mod (pv 2) pe_int) (pa_cons (pe_op op_fdivW (pv 2) (pe_op op_pow pe_int pe_int)) pa_nil))) (pe_callTy call_int1 (by rfl) m_int (by decide +kernel) (pa_cons (pe_cmpR op_ge (pv 2) (pe_op op_pow pe_int pe_int) (nomark _)) pa_nil)) (fun _ _ => rfl))))
       pss_nil)
       (pss_cons (ps_set (i := 3) sc_law_pool.nd rfl (.inl rfl) (pe_op op_mod (pe_op op_mul (pe_op op_add (pe_op op_add (pe_op op_mod (pv 2) pe_int) (pe_op op_mul pe_int (pv 1))) pe_int) pe_int) pe_int))
       (pss_one (ps_ret (pe_lst (pa_cons (pe_op op_mul (pv 2) (pe_callTy call_int1 (by rfl) m_int (by decide +kernel) (pa_cons (pe_cmpR op_ge (pv 2) (pe_op op_pow pe_int pe_int) (nomark _)) pa_nil))) (pa_cons (pv 3) pa_nil))))))))), ?_⟩
  have hlen : (ns.map V.int).length = ns.length := List.length_map _
  -- if script != []
  refine ⟨fun σ' H' => ∃ c : Int, σ' = [some (.ref a), some (.int k), some (.int c), none] ∧ Same H H', ?_, ?_⟩
  · refine ⟨_, rfl, (by show 0 ≤ sizeLine; decide), fun l hl0 => ?_⟩
    have s1 : Same H (upd H l (.lst [])) := same_new hl0
    refine ⟨.list (ns.map PyData.int), .list [], .lst (s1.seq hS) (dpInts ns), .lst (SqL.of upd_same) .nil, shInts ns, shNil, _, rfl, ?_⟩
    rw [eqvNil]
    refine ite2 (fun c => ?_) (fun c => ⟨0, rfl, s1⟩)
    have hn : ns ≠ [] := fun z => by subst z; exact absurd c (by decide)
    have hp : 0 < ns.length := List.length_pos_iff.mpr hn
    have hlt := Int.emod_lt_of_pos k (show (0 : Int) < (ns.length : Int) by omega)
    have hge := Int.emod_nonneg k (show (ns.length : Int) ≠ 0 by omega)
    obtain ⟨v, hv, _⟩ := atI_ints (ns := ns) hge hlt
    refine ⟨_, rfl, _, rfl, _, rfl, a, _, rfl, .inl (s1.seq hS), _, _, rfl, rfl, (by rw [hlen]; show (0 : Int) < (ns.length : Int); omega), a, _, _, .int v, rfl, rfl, s1.seq hS, ?_, ?_⟩
    · rw [hlen]; exact hv
    · exact ⟨_, rfl, s1⟩
  rintro _ H1 ⟨c, rfl, s1⟩
  -- if k >= len(script)
  refine ⟨fun σ' H' => ∃ c : Int, σ' = [some (.ref a), some (.int k), some (.int c), none] ∧ Same H H', ?_, ?_⟩
  · refine ⟨_, rfl, _, rfl, a, _, rfl, .inl (s1.seq hS), _, _, rfl, rfl, _, rfl, ite2 (fun z => ?_) (fun z => ⟨c, rfl, s1⟩)⟩
    refine ⟨_, rfl, _, _, rfl, rfl, (by show (0 : Int) < 1000003; omega), _, rfl, _, _, rfl, rfl, ⟨by omega, by omega, by decide⟩, _, _, rfl, rfl, wide_div (b := 64) (by decide) (by decide) (by decide) (by decide), (by show 2 ≤ sizeLine; decide), fun l hl0 => ?_⟩
    have s2 : Same H1 (upd H1 l _) := same_new (o := .lst [.int (c % 1000003), .int (c / 10 ^ 18)]) hl0
    refine ⟨_, rfl, _, _, rfl, rfl, ⟨by omega, by omega, by decide⟩, _, _, rfl, rfl, .inr ⟨_, rfl, ?_⟩⟩
    by_cases z : (10 : Int) ^ 36 ≤ c
    · refine ⟨l, _, 1, .int (c / 10 ^ 18), rfl, ?_, SqL.of upd_same, rfl, ⟨_, rfl, s1.trans s2⟩⟩
      have e : decide ((10 : Int) ^ (Int.toNat 36) ≤ c) = true := decide_eq_true z
      rw [e]; rfl
    · refine ⟨l, _, 0, .int (c % 1000003), rfl, ?_, SqL.of upd_same, rfl, ⟨_, rfl, s1.trans s2⟩⟩
      have e : decide ((10 : Int) ^ (Int.toNat 36) ≤ c) = false := decide_eq_false z
      rw [e]; rfl
  clear s1 c H1
  rintro _ H1 ⟨c, rfl, s1⟩
  -- the seed
  refine ⟨_, rfl, _, _, rfl, rfl, (by show (0 : Int) < 2147483629; omega), _, rfl, _, _, rfl, rfl, .inl ⟨by omega, by omega⟩, _, _, rfl, rfl, _, _, rfl, rfl, _, _, rfl, rfl, .inr ⟨by omega, by omega⟩, _, _, rfl, rfl, (by show (0 : Int) < 2147483647; omega), ?_⟩
  generalize hs : ((c % 2147483629 + 104729 * k + 11) * 48271) % 2147483647 = sd
  have hs0 : 0 ≤ sd := by rw [← hs]; exact Int.emod_nonneg _ (by omega)
  have hs1 : sd < 2147483647 := by rw [← hs]; exact Int.emod_lt_of_pos _ (by omega)
  refine ⟨_, rfl, _, rfl, _, _, rfl, rfl, ⟨by omega, by omega, by decide⟩, _, _, rfl, rfl, .inr ⟨_, rfl, _, _, rfl, rfl, .inr ?_, _, rfl, (by show 2 ≤ sizeLine; decide), fun p hp => ?_⟩⟩
  · split <;> exact ⟨by omega, by omega⟩
  · refine q p _ (s1.free hp) (s1.trans (same_new hp)) ⟨_, sd, (by rw [← hs]; exact upd_same), ?_, hs0, hs1⟩
    split
    · rename_i z
      have z' : (10 : Int) ^ (Int.toNat 18) ≤ c := of_decide_eq_true z
      have : (0 : Int) ≤ 10 ^ (Int.toNat 18) := by decide
      omega
    · omega

/-! ### drawn signs -/
theorem pm_at {d : Int} (h0 : 0 ≤ d) (h1 : d < 2) : ∃ e : Int, atI [V.int 1, V.int (-1)] d = some (.int e) ∧ (e = 1 ∨ e = -1) := by
  obtain ⟨v, g1, g2⟩ := atI_at (xs := [V.int 1, V.int (-1)]) (i := d) h0 h1
  have m := List.mem_of_getElem? g2
  simp only [List.mem_cons, List.not_mem_nil, or_false] at m
  rcases m with rfl | rfl
  · exact ⟨1, g1, .inl rfl⟩
  · exact ⟨-1, g1, .inr rfl⟩
def spSigned (K : PySem.W.Frag) : Sp := fun vs H Q _ => ∃ (p : Addr) (m : Nat), vs = [.ref p, .int m] ∧ Pl H p ∧ 1 ≤ m ∧ m ≤ 1000 ∧ ∀ (n : Int) (H' : Hp), Kp p H H' → Pl H' p → Sgn n m → Q (.int n) H'
theorem ok_signed {f : Addr} {fd : FuncData} {k : Nat} (F : Fun K "_law_signed" "_law_signed" s_law_signed f fd) (D_law_take : Df P w K mg base k "_law_take" ["_law_pool_here", "_law_many"] (spTake K)) :
    FnOk P w K mg base CX0 (k + 1) f fd ["_law_pool_here", "_law_many"] (spSigned K) := by
  refine F.ok sc_law_signed (fun vs H Q E h => ?_) (fun cdv A outer s H vs Q E hr h => ?_)
  · obtain ⟨p, m, rfl, _⟩ := h
    rfl
  obtain ⟨p, m, rfl, hp, h1, h2, q⟩ := h
  refine ⟨_, (pss_one (ps_ret (pe_op op_mul (pe_op op_add pe_int (pe_df D_law_take hr (by rfl) (pa_cons (pv 0) (pa_cons (pv 1) pa_nil)))) (pe_ix ix_list (pe_lst (pa_cons pe_int (pa_cons (pe_un un_neg pe_int) pa_nil))) (pe_df D_law_take hr (by rfl) (pa_cons (pv 0) (pa_cons pe_int pa_nil))) (fun _ _ => rfl))))), ?_⟩
  refine ⟨_, rfl, _, rfl, p, m, rfl, hp, by omega, by omega, fun d H1 k1 hp1 d0 d1 => ⟨_, _, rfl, rfl, _, rfl, (by show 2 ≤ sizeLine; decide), fun l nl => ?_⟩⟩
  have s2 : Same H1 (upd H1 l (.lst [.int 1, .int (-1)])) := same_new nl
  have el : (upd H1 l (.lst [.int 1, .int (-1)])) l = some (.lst [.int 1, .int (-1)]) := upd_same
  have hlp : l ≠ p := fun z => hp1.at (z ▸ nl)
  have hp2 := hp1.same s2
  generalize (upd H1 l (.lst [.int 1, .int (-1)])) = H2 at *
  refine ⟨_, rfl, p, 2, rfl, hp2, by omega, by omega, fun d2 H3 k3 hp3 d20 d21 => ?_⟩
  obtain ⟨e, ge, he⟩ := pm_at d20 d21
  refine ⟨l, _, d2, .int e, rfl, rfl, SqL.of (k3 _ _ hlp el), ge, _, _, rfl, rfl, .inl ⟨by show (-(2 ^ 64) : Int) < 1 + d; omega, by show 1 + d < (2 ^ 64 : Int); omega⟩, ?_⟩
  refine q _ H3 (k1.trans ((Kp.of s2).trans k3)) hp3 ?_
  show Sgn ((1 + d) * e) m
  rcases he with rfl | rfl
  · rw [Int.mul_one]; exact ⟨by omega, by omega⟩
  · rw [Int.mul_neg, Int.mul_one]; exact ⟨by omega, by omega⟩
/-! ### some signs of unlike things -/
def spSome (K : PySem.W.Frag) : Sp := fun vs H Q _ => ∃ (p : Addr) (lo hi most : Nat), vs = [.ref p, .int lo, .int hi, .int most] ∧ Pl H p ∧ 1 ≤ lo ∧ lo ≤ hi + 1 ∧ hi ≤ 500 ∧ most ≤ 500 ∧
  ∀ (r : Addr) (ns : List Int) (H' : Hp), Kp p H H' → Pl H' p → H r = none → H' r = some (.lst (ns.map V.int)) → (∀ n ∈ ns, lo ≤ n.natAbs ∧ n.natAbs ≤ hi) → (ns.Pairwise fun a b => a.natAbs ≠ b.natAbs) → ns.length = min most (hi + 1 - lo) → Q (.ref r) H'
theorem rg_ints (lo hi : Nat) : rgV (lo : Int) ((hi : Int) + 1) = (((List.range (hi + 1 - lo)).map fun (i : Nat) => ((lo + i : Nat) : Int))).map V.int := by
  unfold rgV
  rw [show ((hi : Int) + 1 - (lo : Int)).toNat = hi + 1 - lo by omega, List.map_map]
  refine List.map_congr_left fun i _ => ?_
  show V.int _ = V.int _
  congr 1
theorem ok_some {f : Addr} {fd : FuncData} {k : Nat} (F : Fun K "_law_some_signs" "_law_some_signs" s_law_some_signs f fd) (D_law_take : Df P w K mg base k "_law_take" ["_law_pool_here", "_law_many"] (spTake K)) (m_list : mg "list" = none) (m_range : mg "range" = none) (m_min : mg "min" = none) (m_len : mg "len" = none) :
    FnOk P w K mg base CX0 (k + 1) f fd ["_law_pool_here", "_law_low", "_law_high", "_law_most"] (spSome K) := by
  refine F.ok sc_law_some_signs (fun vs H Q E h => ?_) (fun cdv A outer s H vs Q E hr h => ?_)
  · obtain ⟨p, lo, hi, most, rfl, _⟩ := h
    rfl
  obtain ⟨p, lo, hi, most, rfl, hp, h1, h2, h3, h4, q⟩ := h
  refine ⟨_, (pss_cons (ps_set (i := 4) sc_law_some_signs.nd rfl (.inl rfl) (pe_listRg rfl (by rfl) m_list (prg_2 (by rfl) m_range (pv 1) (pe_op op_add (pv 2) pe_int))))
       (pss_cons (ps_set (i := 5) sc_law_some_signs.nd rfl (.inl rfl) (pe_lst pa_nil))
       (pss_cons (ps_for PassesOwn.never rfl (pi_range1 (by rfl) m_range (pa_cons (pe_callB (call_min2 rfl) (by rfl) m_min (by decide +kernel) (pa_cons (pv 3) (pa_cons (pe_callB call_len_seq (by rfl) m_len (by decide +kernel) (pa_cons (pv 4) pa_nil)) pa_nil))) pa_nil)) (pg_name (i := 6) sc_law_some_signs.nd rfl (.inl rfl))
       (pss_cons (ps_set (i := 7) sc_law_some_signs.nd rfl (.inl rfl) (pe_bm PySem.F.plainAttrs_list PySem.F.slot_list_pop PySem.F.type_list_pop mt_popAt (pv 4) (pa_cons (pe_df D_law_take hr (by rfl) (pa_cons (pv 0) (pa_cons (pe_callB call_len_seq (by rfl) m_len (by decide +kernel) (pa_cons (pv 4) pa_nil)) pa_nil))) pa_nil)))
       (pss_one (ps_expr (pe_bm PySem.F.plainAttrs_list PySem.F.slot_list_append PySem.F.type_list_append mt_append (pv 5) (pa_cons (pe_op op_mul (pv 7) (pe_ix ix_list (pe_lst (pa_cons pe_int (pa_cons (pe_un un_neg pe_int) pa_nil))) (pe_df D_law_take hr (by rfl) (pa_cons (pv 0) (pa_cons pe_int pa_nil))) (fun _ _ => rfl))) pa_nil))))))
       (pss_one (ps_ret (pv 5)))))), ?_⟩
  refine ⟨_, rfl, _, rfl, _, _, rfl, rfl, lo, (hi : Int) + 1, rfl, rfl, RgOk.of_le (by omega) (by omega) (by omega) (by omega), fun l nl => ?_⟩
  have s0 : Same H (upd H l (.lst (rgV (lo : Int) ((hi : Int) + 1)))) := same_new nl
  have el : (upd H l (.lst (rgV (lo : Int) ((hi : Int) + 1)))) l = some (.lst ((((List.range (hi + 1 - lo)).map fun (i : Nat) => ((lo + i : Nat) : Int))).map V.int)) := by rw [upd_same, rg_ints]
  have hlp : l ≠ p := fun z => hp.at (z ▸ nl)
  have hp0 := hp.same s0
  generalize (upd H l (.lst (rgV (lo : Int) ((hi : Int) + 1)))) = H0 at *
  generalize hL : ((List.range (hi + 1 - lo)).map fun (i : Nat) => ((lo + i : Nat) : Int)) = L at el
  have Ll : L.length = hi + 1 - lo := by rw [← hL]; simp
  have Lm : ∀ n ∈ L, (lo : Int) ≤ n ∧ n ≤ hi := fun n hn => by
    rw [← hL] at hn
    obtain ⟨i, hi', rfl⟩ := List.mem_map.mp hn
    have := List.mem_range.mp hi'; omega
  have Ld : L.Nodup := by
    rw [← hL]
    exact List.pairwise_map.mpr (List.nodup_range.imp fun {a b} hab e => hab (by omega))
  refine ⟨(by show 0 ≤ sizeLine; decide), fun o no => ?_⟩
  have s1 : Same H0 (upd H0 o (.lst [])) := same_new no
  have eo : (upd H0 o (.lst [])) o = some (.lst []) := upd_same
  have hop : o ≠ p := fun z => hp0.at (z ▸ no)
  have hol : o ≠ l := fun z => by rw [z, el] at no; cases no
  have noH := s0.free no
  have hp1 := hp0.same s1
  have el1 := s1 _ _ el
  generalize (upd H0 o (.lst [])) = H1 at *
  have k01 : Kp p H H1 := Kp.of (s0.trans s1)
  refine ⟨_, rfl, _, rfl, l, _, rfl, .inl (SqL.of el1), _, _, rfl, _, rfl, ?_, ?_, for_range (lo := 0) (fun i σ' H' => ∃ (y6 y7 : Option V) (ls ns : List Int), σ' = [some (.ref p), some (.int lo), some (.int hi), some (.int most), some (.ref l), some (.ref o), y6, y7] ∧ Kp p H H' ∧ Pl H' p ∧ H' l = some (.lst (ls.map V.int)) ∧ H' o = some (.lst (ns.map V.int)) ∧ ls.length + i = hi + 1 - lo ∧ ns.length = i ∧ (∀ n ∈ ls, (lo : Int) ≤ n ∧ n ≤ hi) ∧ ls.Nodup ∧ (∀ n ∈ ns, lo ≤ n.natAbs ∧ n.natAbs ≤ hi ∧ ¬ (n.natAbs : Int) ∈ ls) ∧ ns.Pairwise fun a b => a.natAbs ≠ b.natAbs) ?_ ?_ ?_⟩
  · rw [List.length_map, Ll]; split <;> omega
  · rw [List.length_map, Ll]; split <;> omega
  · exact ⟨_, _, L, [], rfl, k01, hp1, el1, eo, by omega, rfl, Lm, Ld, (fun n hn => nomatch hn), .nil⟩
  · rintro i σ' H2 hi' ⟨y6, y7, ls, ns, rfl, k2, hp2, el2, eo2, hls, hns, hm, hd, hna, hpw⟩
    have hilt : i < hi + 1 - lo := by
      rw [List.length_map, Ll] at hi'
      split at hi' <;> omega
    have lpos : 1 ≤ ls.length := by omega
    refine ⟨_, rfl, .inl ⟨rfl, _, SqL.of el2⟩, _, rfl, _, rfl, l, _, rfl, .inl (SqL.of el2), p, _, rfl, hp2, ?_, ?_, fun d H3 k3 hp3 d0 d1 => ?_⟩
    · rw [List.length_map]; omega
    · rw [List.length_map]; omega
    rw [List.length_map] at d1
    have el3 := k3 _ _ hlp el2
    have eo3 := k3 _ _ hop eo2
    have hlt : d.toNat < ls.length := by omega
    refine ⟨l, _, d, d.toNat, .int ls[d.toNat], rfl, rfl, el3, by omega, by omega, seqIndex_of d0 (by rw [List.length_map]; exact d1), by rw [List.getElem?_map, List.getElem?_eq_getElem hlt]; rfl, ?_⟩
    have hmem : ls[d.toNat] ∈ ls := List.getElem_mem hlt
    generalize hn : ls[d.toNat] = n at *
    obtain ⟨n1, n2⟩ := hm n hmem
    have er : (ls.map V.int).eraseIdx d.toNat = (ls.eraseIdx d.toNat).map V.int := map_erase _ _ _
    rw [er]
    have k4 : Kp l H3 (upd H3 l (.lst ((ls.eraseIdx d.toNat).map V.int))) := Kp.upd l H3 _
    have el4 : (upd H3 l (.lst ((ls.eraseIdx d.toNat).map V.int))) l = some (.lst ((ls.eraseIdx d.toNat).map V.int)) := upd_same
    have eo4 := k4 _ _ hol eo3
    have hp4 : Pl (upd H3 l (.lst ((ls.eraseIdx d.toNat).map V.int))) p := by
      obtain ⟨x, y, e, r⟩ := hp3
      exact ⟨x, y, k4 _ _ hlp.symm e, r⟩
    have kH4 : Kp p H (upd H3 l (.lst ((ls.eraseIdx d.toNat).map V.int))) := fun b ob nb hb => k4 _ _ (ne_of_none hb nl) (k3 _ _ nb (k2 _ _ nb hb))
    generalize (upd H3 l (.lst ((ls.eraseIdx d.toNat).map V.int))) = H4 at *
    have sub : ∀ x ∈ ls.eraseIdx d.toNat, x ∈ ls := fun x hx => List.mem_of_mem_eraseIdx hx
    have nnot : ¬ n ∈ ls.eraseIdx d.toNat := fun z => by
      rw [← hn] at z
      exact nd_erase hd hlt z
    refine ⟨_, rfl, .inl ⟨rfl, _, SqL.of eo4⟩, _, rfl, _, rfl, (by show 2 ≤ sizeLine; decide), fun u nu => ?_⟩
    have s5 : Same H4 (upd H4 u (.lst [.int 1, .int (-1)])) := same_new nu
    have eu : (upd H4 u (.lst [.int 1, .int (-1)])) u = some (.lst [.int 1, .int (-1)]) := upd_same
    have hup : u ≠ p := fun z => hp4.at (z ▸ nu)
    have hp5 := hp4.same s5
    have kH5 := kH4.trans (Kp.of s5)
    have el5 := s5 _ _ el4
    have eo5 := s5 _ _ eo4
    generalize (upd H4 u (.lst [.int 1, .int (-1)])) = H5 at *
    refine ⟨_, rfl, p, 2, rfl, hp5, by omega, by omega, fun d2 H6 k6 hp6 d20 d21 => ?_⟩
    obtain ⟨e, ge, he⟩ := pm_at d20 d21
    refine ⟨u, _, d2, .int e, rfl, rfl, SqL.of (k6 _ _ hup eu), ge, _, _, rfl, rfl, .inl ⟨by show (-(2 ^ 64) : Int) < n; omega, by show n < (2 ^ 64 : Int); omega⟩, ?_⟩
    have eo6 := k6 _ _ hop eo5
    have el6 := k6 _ _ hlp el5
    have hab : (n * e).natAbs = n.natAbs := by
      rcases he with rfl | rfl
      · rw [Int.mul_one]
      · rw [Int.mul_neg, Int.mul_one, Int.natAbs_neg]
    refine ⟨o, _, _, rfl, rfl, eo6, ?_, _, _, ls.eraseIdx d.toNat, ns ++ [n * e], rfl, ?_, ?_, ?_, ?_, ?_, ?_, ?_, ?_, ?_, ?_⟩
    · rw [List.length_map, hns]; exact small1000 (by omega)
    · exact fun b ob nb hb => by rw [upd_ne (ne_of_none hb noH)]; exact k6 _ _ nb (kH5 _ _ nb hb)
    · obtain ⟨x, y, e, r⟩ := hp6
      exact ⟨x, y, by rw [upd_ne hop.symm]; exact e, r⟩
    · rw [upd_ne hol.symm]; exact el6
    · rw [upd_same, List.map_append]; rfl
    · rw [List.length_eraseIdx_of_lt hlt]; omega
    · rw [List.length_append, hns]; rfl
    · exact fun x hx => hm x (sub x hx)
    · exact hd.eraseIdx _
    · intro x hx
      rcases List.mem_append.mp hx with h | h
      · obtain ⟨a1, a2, a3⟩ := hna x h
        exact ⟨a1, a2, fun z => a3 (sub _ z)⟩
      · rw [List.mem_singleton] at h
        rw [h, hab]
        refine ⟨by omega, by omega, fun z => nnot ?_⟩
        rw [show ((n.natAbs : Nat) : Int) = n by omega] at z
        exact z
    · rw [List.pairwise_append]
      refine ⟨hpw, List.pairwise_singleton _ _, fun x hx y hy => ?_⟩
      rw [List.mem_singleton] at hy
      rw [hy, hab]
      intro z
      exact (hna x hx).2.2 (by rw [z, show ((n.natAbs : Nat) : Int) = n by omega]; exact hmem)
  · rintro σ' H2 ⟨y6, y7, ls, ns, rfl, k2, hp2, el2, eo2, hls, hns, hm, hd, hna, hpw⟩
    refine ⟨_, rfl, q o ns H2 k2 hp2 noH eo2 (fun n hn => ⟨(hna n hn).1, (hna n hn).2.1⟩) hpw ?_⟩
    rw [hns, List.length_map, Ll]
    split <;> omega
/-! ### by thing -/
def spByThing (K : PySem.W.Frag) : Sp := fun vs H Q _ => ∃ (D : Addr) (L : List Int), vs = [.ref D] ∧ H D = some (.lst (L.map V.int)) ∧ L.length ≤ 1000 ∧ (L.Pairwise fun a b => a.natAbs ≠ b.natAbs) ∧
  ∀ (r : Addr) (cs : List Int) (H' : Hp), Same H H' → H r = none → H' r = some (.tup (cs.map V.int)) → ClOf L cs → Q (.ref r) H'
theorem ok_bything {f : Addr} {fd : FuncData} {k : Nat} (F : Fun K "_law_by_thing" "_law_by_thing" s_law_by_thing f fd) (m_abs : mg "abs" = none) (m_tuple : mg "tuple" = none) (m_sorted : mg "sorted" = none) :
    FnOk P w K mg base CX0 (k + 1) f fd ["_law_signs"] (spByThing K) := by
  refine F.ok sc_law_by_thing (fun vs H Q E h => ?_) (fun cdv A outer s H vs Q E hr h => ?_)
  · obtain ⟨D, L, rfl, _⟩ := h
    rfl
  obtain ⟨D, L, rfl, e, hl, hpw, q⟩ := h
  refine ⟨_, (pss_cons (ps_set (i := 1) sc_law_by_thing.nd rfl (.inl rfl) (pe_callB cr_sortedPO (by rfl) m_sorted (by decide +kernel) (pa_cons (pe_lc (own := [("_law_sign", 2)]) (g := gName 2) (tt := tYes) (by rfl) sc_law_by_thing.nd (pi_list (pv 0)) (blkOk_by (by kernel_rfl)) (fun _ _ _ _ _ => (pg_name (i := 2) sc_law_by_thing.nd rfl (.inl rfl))) (fun _ _ _ _ _ => pts_nil) (fun _ _ _ _ _ => (pe_tup (pa_cons (pe_callB call_abs (by rfl) m_abs (by decide +kernel) (pa_cons (pv 2) pa_nil)) (pa_cons (pv 2) pa_nil))))) pa_nil)))
       (pss_one (ps_ret (pe_callTy call_tuple_of (by rfl) m_tuple (by decide +kernel) (pa_cons (pe_lc (own := [("_law_thing", 3), ("_law_sign", 2)]) (g := gTup K 2 (gCons (gName 3) (gCons (gName 2) gNil))) (tt := tYes) (by rfl) sc_law_by_thing.nd (pi_list (pv 1)) (blkOk_by (by kernel_rfl)) (fun _ _ _ _ _ => (pg_tup' (K := K) rfl rfl (pgs_cons (pg_name (i := 3) sc_law_by_thing.nd rfl (.inl rfl)) (pgs_cons (pg_name (i := 2) sc_law_by_thing.nd rfl (.inl rfl)) pgs_nil)))) (fun _ _ _ _ _ => pts_nil) (fun _ _ _ _ _ => (pv 2))) pa_nil))))), ?_⟩
  have dj : L.Pairwise fun a b => ab a ≠ ab b := hpw.imp fun {a b} hab z => hab (by rw [ab_nat, ab_nat] at z; omega)
  refine ⟨_, rfl, D, rfl, ⟨_, SqL.of e⟩, fun D1 nD1 => lc_list (xs := L.map V.int) (fun k H' => ∃ ts : List Addr, Same H H' ∧ H' D1 = some (.lst (ts.map V.ref)) ∧ Prs H' ts (L.take k)) ⟨[], same_new nD1, upd_same, .nil⟩ (fun k H' _ ⟨ts, s1, _⟩ => SqL.of (s1 _ _ e)) ?_ ?_⟩
  · rintro k x H1 ex ⟨ts, s1, e1, pr⟩
    obtain ⟨n, rfl, hn, htk⟩ := at_int ex
    have hk : k < 1000 := by
      have := (List.getElem?_eq_some_iff.mp ex).1
      rw [List.length_map] at this; omega
    refine ⟨rfl, _, rfl, n, rfl, _, rfl, (by show 2 ≤ sizeLine; decide), fun t nt => ?_⟩
    have s2 : Same H1 (upd H1 t (.tup [.int (ab n), .int n])) := same_new nt
    have et : (upd H1 t (.tup [.int (ab n), .int n])) t = some (.tup [.int (ab n), .int n]) := upd_same
    have eD := s2 _ _ e1
    have pr2 := pr.mv (H' := upd H1 t (.tup [.int (ab n), .int n])) fun a xs h => s2 _ _ h
    change ∃ acc, (upd H1 t (.tup [.int (ab n), .int n])) D1 = some (.lst acc) ∧ _
    generalize (upd H1 t (.tup [.int (ab n), .int n])) = H2 at *
    refine ⟨_, eD, ?_, ts ++ [t], ?_, ?_, ?_⟩
    · rw [List.length_map, pr.len, List.length_take]; exact small1000 (by omega)
    · exact fun b o hb => by rw [upd_ne (ne_of_none hb nD1)]; exact s2 _ _ (s1 _ _ hb)
    · rw [upd_same, List.map_append]; rfl
    · rw [htk]
      exact (pr2.snoc et).mv fun a xs h => by rw [upd_ne (ne_of h eD (by intro z; cases z))]; exact h
  rintro H1 ⟨ts, s1, e1, pr⟩
  rw [List.length_map, List.take_length] at pr
  refine ⟨D1, _, pairK H1, rfl, SqL.of e1, fun x hx => pr.at hx, fun ys p hs hb np => ?_⟩
  have s2 : Same H1 (upd H1 p (.lst ys)) := same_new np
  have ep : (upd H1 p (.lst ys)) p = some (.lst ys) := upd_same
  have hys : ∀ y ∈ ys, ∃ t, y = V.ref t ∧ (upd H1 p (.lst ys)) t = some (.tup [.int (pairK H1 y).1, .int (pairK H1 y).2]) := fun y hy => by
    obtain ⟨t, e1, e2⟩ := pr.at (hb.perm.mem_iff.mp hy)
    exact ⟨t, e1, s2 _ _ e2⟩
  have cl := srt_up pr.keys dj hs hb
  have lys : ys.length ≤ 1000 := by rw [hb.len, List.length_map, pr.len]; exact hl
  generalize (upd H1 p (.lst ys)) = H2 at *
  refine ⟨_, rfl, p, rfl, ⟨_, SqL.of ep⟩, fun D3 nD3 => lc_list (xs := ys) (fun k H' => Same H2 H' ∧ H' D3 = some (.lst (((ys.take k).map fun y => (pairK H1 y).2).map V.int))) ⟨same_new nD3, upd_same⟩ (fun k H' _ h => SqL.of (h.1 _ _ ep)) ?_ ?_⟩
  · rintro k x H3 ex ⟨s3, e3⟩
    obtain ⟨t, rfl, et⟩ := hys x (List.mem_of_getElem? ex)
    have hk : k < 1000 := by
      have := (List.getElem?_eq_some_iff.mp ex).1
      omega
    refine ⟨t, _, rfl, SqT.of (s3 _ _ et), rfl, _, _, rfl, _, _, rfl, rfl, rfl, _, rfl, _, e3, ?_, ?_, ?_⟩
    · rw [List.length_map, List.length_map, List.length_take]; exact small1000 (by omega)
    · exact fun b o hb => by rw [upd_ne (ne_of_none hb nD3)]; exact s3 _ _ hb
    · rw [upd_same, List.take_add_one, ex, List.map_append, List.map_append]; rfl
  rintro H3 ⟨s3, e3⟩
  rw [List.take_length] at e3
  exact ⟨D3, _, rfl, .inl ⟨SqL.of e3, fun r nr => q r _ _ (s1.trans (s2.trans (s3.trans (same_new nr)))) ((s1.trans (s2.trans s3)).free nr) upd_same cl⟩⟩

end
end K21
namespace K21
open PySem PySem.Spec PyProof.Rows L2 KL
section
variable {P : Program} {w : World} {K : PySem.W.Frag} {mg : Str → Option Value} {base : Heap}
/-! ### pledges, that some word keeps -/
theorem five_at {d : Int} (h0 : 0 ≤ d) (h1 : d < 5) : ∃ e : Int, atI [V.int 0, V.int 0, V.int 1, V.int 2, V.int 3] d = some (.int e) ∧ 0 ≤ e ∧ e ≤ 3 := by
  obtain ⟨v, g1, g2⟩ := atI_at (xs := [V.int 0, V.int 0, V.int 1, V.int 2, V.int 3]) (i := d) h0 h1
  have m := List.mem_of_getElem? g2
  simp only [List.mem_cons, List.not_mem_nil, or_false] at m
  rcases m with rfl | rfl | rfl | rfl | rfl
  all_goals exact ⟨_, g1, by omega, by omega⟩
theorem mp_at {d : Int} (h : d = 0 ∨ d = 1) : atI [V.int (-1), V.int 1] d = some (.int (if d = 1 then 1 else -1)) := by
  rcases h with rfl | rfl <;> rfl
def spPledges (K : PySem.W.Frag) : Sp := fun vs H Q _ => ∃ (p : Addr) (b i : Nat), vs = [.ref p, .int b, .int i] ∧ Pl H p ∧ 1 ≤ b ∧ b ≤ 10 ∧ i ≤ 4 ∧
  ∀ (r : Addr) (cs : List Addr) (pr : List (List Int)) (H' : Hp), Kp p H H' → Pl H' p → H r = none → H' r = some (.lst (cs.map V.ref)) → TupsV K H' cs (pr.map fun c => c.map V.int) → pr.length ≤ 3 → (∀ c ∈ pr, PrOk b i c) → wordsOf b i pr ≠ [] → Q (.ref r) H'
theorem Kp.tupsV {p : Addr} {H H' : Hp} {ts : List Addr} {vss : List (List V)} (k : Kp p H H') (hp : Pl H p) (h : TupsV K H ts vss) : TupsV K H' ts vss := h.mv fun _ _ q => k.tup hp q
theorem ok_pledges {f : Addr} {fd : FuncData} {k : Nat} (F : Fun K "_law_pledges" "_law_pledges" s_law_pledges f fd) (D_law_take : Df P w K mg base k "_law_take" ["_law_pool_here", "_law_many"] (spTake K)) (D_law_some_signs : Df P w K mg base k "_law_some_signs" ["_law_pool_here", "_law_low", "_law_high", "_law_most"] (spSome K))
    (D_law_by_thing : Df P w K mg base k "_law_by_thing" ["_law_signs"] (spByThing K)) (m_range : mg "range" = none) (m_int : mg "int" = none) (m_abs : mg "abs" = none) :
    FnOk P w K mg base CX0 (k + 1) f fd ["_law_pool_here", "_law_boxes", "_law_inputs"] (spPledges K) := by
  refine F.ok sc_law_pledges (fun vs H Q E h => ?_) (fun cdv A outer s H vs Q E hr h => ?_)
  · obtain ⟨p, b, i, rfl, _⟩ := h
    rfl
  obtain ⟨p, b, i, rfl, hp, b1, b10, i4, q⟩ := h
  refine ⟨_, (pss_cons (ps_setLc (i := 3) (own := [("_law_k", 4)]) (g := gName 4) (tt := tYes) rfl sc_law_pledges.nd rfl rfl (sw_true rfl rfl rfl (by decide +kernel)) (pi_range1 (by rfl) m_range (pa_cons (pv 2) pa_nil)) (blkOk_by (by kernel_rfl)) (fun _ _ _ _ _ => (pg_name (i := 4) sc_law_pledges.nd rfl (.inl rfl))) (fun _ _ _ _ _ => pts_nil) (fun _ _ _ _ _ => (pe_df D_law_take hr (by rfl) (pa_cons (pv 0) (pa_cons pe_int pa_nil)))))
       (pss_cons (ps_set (i := 5) sc_law_pledges.nd rfl (.inl rfl) (pe_lst pa_nil))
       (pss_cons (ps_for PassesOwn.never rfl (pi_range1 (by rfl) m_range (pa_cons (pe_op op_mul (pe_ix ix_list (pe_lst (pa_cons pe_int (pa_cons pe_int (pa_cons pe_int (pa_cons pe_int (pa_cons pe_int pa_nil)))))) (pe_df D_law_take hr (by rfl) (pa_cons (pv 0) (pa_cons pe_int pa_nil))) (fun _ _ => rfl)) (pe_callTy call_int1 (by rfl) m_int (by decide +kernel) (pa_cons (pe_cmpR op_gt (pv 2) pe_int (nomark _)) pa_nil))) pa_nil)) (pg_name (i := 6) sc_law_pledges.nd rfl (.inl rfl))
       (pss_cons (ps_set (i := 7) sc_law_pledges.nd rfl (.inl rfl) (pe_df D_law_some_signs hr (by rfl) (pa_cons (pv 0) (pa_cons (pe_op op_add (pv 1) pe_int) (pa_cons (pe_op op_add (pv 1) (pv 2)) (pa_cons (pe_op op_add pe_int (pe_df D_law_take hr (by rfl) (pa_cons (pv 0) (pa_cons (pv 2) pa_nil)))) pa_nil))))))
       (pss_cons (ps_set (i := 8) sc_law_pledges.nd rfl (.inl rfl) (pe_op op_sub (pe_op op_sub (pe_callB call_abs (by rfl) m_abs (by decide +kernel) (pa_cons (pe_ix ix_list (pv 7) pe_int (fun _ _ => rfl)) pa_nil)) (pv 1)) pe_int))
       (pss_cons (ps_asg (pe_op op_mul (pe_callB call_abs (by rfl) m_abs (by decide +kernel) (pa_cons (pe_ix ix_list (pv 7) pe_int (fun _ _ => rfl)) pa_nil)) (pe_ix ix_list (pe_lst (pa_cons (pe_un un_neg pe_int) (pa_cons pe_int pa_nil))) (pe_ix ix_list (pv 3) (pv 8) (fun _ _ => rfl)) (fun _ _ => rfl))) (pg_sub (pv 7) pe_int set_list))
       (pss_one (ps_expr (pe_bm PySem.F.plainAttrs_list PySem.F.slot_list_append PySem.F.type_list_append mt_append (pv 5) (pa_cons (pe_df D_law_by_thing hr (by rfl) (pa_cons (pv 7) pa_nil)) pa_nil))))))))
       (pss_one (ps_ret (pv 5)))))), ?_⟩
  refine ⟨_, rfl, (i : Int), rfl, by omega, by omega, fun D nD => lc_range (lo := 0) (n := (i : Int).toNat) (fun j H' => ∃ lk : List Int, Kp p H H' ∧ Pl H' p ∧ H' D = some (.lst (lk.map V.int)) ∧ lk.length = j ∧ ∀ x ∈ lk, x = 0 ∨ x = 1) ?_ ?_ ?_⟩
  · exact ⟨[], Kp.of (same_new nD), hp.same (same_new nD), upd_same, rfl, fun x hx => nomatch hx⟩
  · rintro j H1 hj ⟨lk, k1, hp1, eD, hl, hx⟩
    have hDp : D ≠ p := fun z => hp.at (z ▸ nD)
    refine ⟨rfl, _, rfl, p, 2, rfl, hp1, by omega, by omega, fun d H2 k2 hp2 d0 d1 => ⟨_, k2 _ _ hDp eD, ?_, lk ++ [d], ?_, ?_, ?_, ?_, ?_⟩⟩
    · rw [List.length_map, hl]; exact small1000 (by omega)
    · exact fun b o nb hb => by rw [upd_ne (ne_of_none hb nD)]; exact k2 _ _ nb (k1 _ _ nb hb)
    · obtain ⟨x, y, e, r⟩ := hp2
      exact ⟨x, y, by rw [upd_ne hDp.symm]; exact e, r⟩
    · rw [upd_same, List.map_append]; rfl
    · rw [List.length_append, hl]; rfl
    · intro x hx'
      rcases List.mem_append.mp hx' with h | h
      · exact hx x h
      · rw [List.mem_singleton] at h; omega
  rintro H1 ⟨lk, k1, hp1, eD, hl, hx⟩
  rw [Int.toNat_natCast] at hl
  have hDp : D ≠ p := fun z => hp.at (z ▸ nD)
  refine ⟨(by show 0 ≤ sizeLine; decide), fun o no => ?_⟩
  have s2 : Same H1 (upd H1 o (.lst [])) := same_new no
  have eo : (upd H1 o (.lst [])) o = some (.lst []) := upd_same
  have hop : o ≠ p := fun z => hp1.at (z ▸ no)
  have hoD : o ≠ D := fun z => by rw [z, eD] at no; cases no
  have noH : H o = none := k1.freeP hp1 no
  have hp2 := hp1.same s2
  have k2 := k1.trans (Kp.of s2)
  have eD2 := s2 _ _ eD
  generalize (upd H1 o (.lst [])) = H2 at *
  refine ⟨(by show 5 ≤ sizeLine; decide), fun l nl => ?_⟩
  have s3 : Same H2 (upd H2 l (.lst [.int 0, .int 0, .int 1, .int 2, .int 3])) := same_new nl
  have el : (upd H2 l (.lst [.int 0, .int 0, .int 1, .int 2, .int 3])) l = some (.lst [.int 0, .int 0, .int 1, .int 2, .int 3]) := upd_same
  have hlp : l ≠ p := fun z => hp2.at (z ▸ nl)
  have hp3 := hp2.same s3
  have k3 := k2.trans (Kp.of s3)
  have eD3 := s3 _ _ eD2
  have eo3 := s3 _ _ eo
  generalize (upd H2 l (.lst [.int 0, .int 0, .int 1, .int 2, .int 3])) = H3 at *
  refine ⟨_, rfl, p, 5, rfl, hp3, by omega, by omega, fun d H4 k4 hp4 d0 d1 => ?_⟩
  obtain ⟨e, ge, e0, e3⟩ := five_at d0 d1
  have hbi : b2i (decide ((0 : Int) < (i : Int))) = if 0 < i then 1 else 0 := by
    by_cases z : 0 < i
    · rw [if_pos z, decide_eq_true (by omega)]; rfl
    · rw [if_neg z, decide_eq_false (by omega)]; rfl
  have cnt : 0 ≤ e * b2i (decide ((0 : Int) < (i : Int))) ∧ e * b2i (decide ((0 : Int) < (i : Int))) ≤ 3 ∧ (i = 0 → e * b2i (decide ((0 : Int) < (i : Int))) = 0) := by
    rw [hbi]
    by_cases z : 0 < i
    · rw [if_pos z]; exact ⟨by omega, by omega, by omega⟩
    · rw [if_neg z]; exact ⟨by omega, by omega, by omega⟩
  refine ⟨l, _, d, .int e, rfl, rfl, SqL.of (k4 _ _ hlp el), ge, _, rfl, _, _, rfl, rfl, .inr ⟨_, rfl, _, _, rfl, rfl, .inl ⟨by show (-(2 ^ 64) : Int) < e; omega, by show e < (2 ^ 64 : Int); omega⟩, e * b2i (decide ((0 : Int) < (i : Int))), rfl, by omega, by omega, ?_⟩⟩
  have k04 := k3.trans k4
  have eD4 := k4 _ _ hDp eD3
  have eo4 := k4 _ _ hop eo3
  generalize hc : e * b2i (decide ((0 : Int) < (i : Int))) = c at *
  clear k3 k4 k2 k1 s2 s3 eD eD2 eD3 eo eo3 el nl ge
  let lw : List Bool := List.replicate b false ++ lk.map fun x => decide (x = 1)
  refine for_range (lo := 0) (n := c.toNat) (fun t σ' H' => ∃ (y4 y6 y7 y8 : Option V) (cs : List Addr) (pr : List (List Int)), σ' = [some (.ref p), some (.int b), some (.int i), some (.ref D), y4, some (.ref o), y6, y7, y8] ∧ Kp p H H' ∧ Pl H' p ∧ H' D = some (.lst (lk.map V.int)) ∧ H' o = some (.lst (cs.map V.ref)) ∧ TupsV K H' cs (pr.map fun c => c.map V.int) ∧ pr.length = t ∧ ∀ c ∈ pr, PrOk b i c ∧ c.any (sayB lw) = true) ?_ ?_ ?_
  · exact ⟨_, _, _, _, [], [], rfl, k04, hp4, eD4, eo4, .nil, rfl, fun c hc => nomatch hc⟩
  · rintro t σ' H5 ht ⟨y4, y6, y7, y8, cs, pr, rfl, k5, hp5, eD5, eo5, tp, hpl, hpr⟩
    have i1 : 1 ≤ i := by
      by_cases z : i = 0
      · have := cnt.2.2 z; omega
      · omega
    refine ⟨_, rfl, _, rfl, _, _, rfl, rfl, _, rfl, _, rfl, _, _, rfl, rfl, _, rfl, _, rfl, p, i, rfl, hp5, by omega, by omega, fun d H6 k6 hp6 d0 d1 => ⟨_, _, rfl, rfl, p, b + 1, b + i, (1 + d).toNat, ?_, hp6, by omega, by omega, by omega, by omega, fun r ns H7 k7 hp7 nr er hrg hpw hln => ?_⟩⟩
    · show [V.ref p, V.int ((b : Int) + 1), V.int ((b : Int) + (i : Int)), V.int (1 + d)] = [V.ref p, V.int ((b + 1 : Nat) : Int), V.int ((b + i : Nat) : Int), V.int (((1 + d).toNat : Nat) : Int)]
      rw [show (((1 + d).toNat : Nat) : Int) = 1 + d by omega, show ((b + 1 : Nat) : Int) = (b : Int) + 1 by omega, show ((b + i : Nat) : Int) = (b : Int) + (i : Int) by omega]
    have hrp : r ≠ p := fun z => hp6.at (z ▸ nr)
    have hrD : r ≠ D := fun z => by rw [z, k6 _ _ hDp eD5] at nr; cases nr
    have hro : r ≠ o := fun z => by rw [z, k6 _ _ hop eo5] at nr; cases nr
    have k57 := k6.trans k7
    have eD7 := k57 _ _ hDp eD5
    have eo7 := k57 _ _ hop eo5
    have tp7 := Kp.tupsV k57 hp5 tp
    have nrH : H r = none := (k5.trans k6).freeP hp6 nr
    cases ns with
    | nil => simp at hln; omega
    | cons n0 rest =>
    obtain ⟨g1, g2⟩ := hrg n0 List.mem_cons_self
    have hat : (if n0 < 0 then -n0 else n0) = (n0.natAbs : Int) := by split <;> omega
    refine ⟨_, rfl, r, _, 0, .int n0, rfl, rfl, SqL.of er, at0, _, rfl, _, rfl, _, _, rfl, rfl, _, _, rfl, rfl, ?_⟩
    -- the first sign, by the lucky word
    refine ⟨_, rfl, r, _, 0, .int n0, rfl, rfl, SqL.of er, at0, _, rfl, _, rfl, (by show 2 ≤ sizeLine; decide), fun u nu => ?_⟩
    have s8 : Same H7 (upd H7 u (.lst [.int (-1), .int 1])) := same_new nu
    have eu : (upd H7 u (.lst [.int (-1), .int 1])) u = some (.lst [.int (-1), .int 1]) := upd_same
    have er8 := s8 _ _ er
    have eD8 := s8 _ _ eD7
    have eo8 := s8 _ _ eo7
    have hp8 := hp7.same s8
    have tp8 := tp7.same s8
    have k8 := k57.trans (Kp.of s8)
    generalize (upd H7 u (.lst [.int (-1), .int 1])) = H8 at *
    rw [hat]
    have hjl : n0.natAbs - b - 1 < lk.length := by omega
    have hlm : lk[n0.natAbs - b - 1] ∈ lk := List.getElem_mem hjl
    generalize hlx : lk[n0.natAbs - b - 1] = lx at *
    have hat2 : atI (lk.map V.int) ((n0.natAbs : Int) - (b : Int) - 1) = some (.int lx) := by
      obtain ⟨v, a1, a2⟩ := atI_at (xs := lk.map V.int) (i := (n0.natAbs : Int) - (b : Int) - 1) (by omega) (by rw [List.length_map]; omega)
      rw [a1, ← a2, List.getElem?_map, show ((n0.natAbs : Int) - (b : Int) - 1).toNat = n0.natAbs - b - 1 by omega, List.getElem?_eq_getElem hjl, hlx]; rfl
    refine ⟨_, rfl, _, rfl, D, _, _, .int lx, rfl, rfl, SqL.of eD8, hat2, u, _, lx, _, rfl, rfl, SqL.of eu, mp_at (hx lx hlm), _, _, rfl, rfl, .inl ⟨by show (-(2 ^ 64) : Int) < (n0.natAbs : Int); omega, by show (n0.natAbs : Int) < (2 ^ 64 : Int); omega⟩, ?_⟩
    generalize hs0 : (n0.natAbs : Int) * (if lx = 1 then 1 else -1) = s0
    have s0ab : s0.natAbs = n0.natAbs := by
      rw [← hs0]; split
      · rw [Int.mul_one]; omega
      · rw [Int.mul_neg, Int.mul_one]; omega
    have s0sg : decide (0 < s0) = decide (lx = 1) := by
      rw [← hs0]; split
      · rename_i z; rw [Int.mul_one, decide_eq_true z]; exact decide_eq_true (by omega)
      · rename_i z; rw [Int.mul_neg, Int.mul_one, decide_eq_false z]; exact decide_eq_false (by omega)
    refine ⟨_, rfl, r, _, _, 0, rfl, rfl, er8, (by show ixN ((rest.map V.int).length + 1) 0 = some 0; unfold ixN; rw [if_pos (by omega), if_pos (by omega)]; rfl), ?_⟩
    have key : HO.lst (((n0 :: rest).map V.int).set 0 ((fun i j => V.int (i * j)) (n0.natAbs : Int) (if lx = 1 then 1 else -1))) = HO.lst ((s0 :: rest).map V.int) := by rw [← hs0]; rfl
    rw [key]
    have k9 : Kp r H8 (upd H8 r (.lst ((s0 :: rest).map V.int))) := Kp.upd r H8 _
    have er9 : (upd H8 r (.lst ((s0 :: rest).map V.int))) r = some (.lst ((s0 :: rest).map V.int)) := upd_same
    have eD9 := k9 _ _ hrD.symm eD8
    have eo9 := k9 _ _ hro.symm eo8
    have hp9 : Pl (upd H8 r (.lst ((s0 :: rest).map V.int))) p := by
      obtain ⟨x, y, e, z⟩ := hp8
      exact ⟨x, y, k9 _ _ hrp.symm e, z⟩
    have tp9 : TupsV K (upd H8 r (.lst ((s0 :: rest).map V.int))) cs (pr.map fun c => c.map V.int) := tp8.lst er8
    have k09 : Kp p H (upd H8 r (.lst ((s0 :: rest).map V.int))) := fun a ob na ha => k9 _ _ (ne_of_none ha nrH) (k8 _ _ na (k5 _ _ na ha))
    generalize (upd H8 r (.lst ((s0 :: rest).map V.int))) = H9 at *
    obtain ⟨pw1, pw2⟩ := List.pairwise_cons.mp hpw
    refine ⟨_, rfl, .inl ⟨rfl, _, SqL.of eo9⟩, _, rfl, r, s0 :: rest, rfl, er9, ?_, ?_, fun c9 cc HA sA nc ec cl => ?_⟩
    · rw [List.length_cons] at hln ⊢; omega
    · exact List.pairwise_cons.mpr ⟨fun y hy => by rw [s0ab]; exact pw1 y hy, pw2⟩
    have eoA := sA _ _ eo9
    have eDA := sA _ _ eD9
    have hpA := hp9.same sA
    refine ⟨o, _, _, rfl, rfl, eoA, ?_, _, _, _, _, cs ++ [c9], pr ++ [cc], rfl, ?_, ?_, ?_, ?_, ?_, ?_, ?_⟩
    · rw [List.length_map, tp.len, List.length_map, hpl]; exact small1000 (by omega)
    · exact fun a ob na ha => by rw [upd_ne (ne_of_none ha noH)]; exact sA _ _ (k09 _ _ na ha)
    · obtain ⟨x, y, e, z⟩ := hpA
      exact ⟨x, y, by rw [upd_ne hop.symm]; exact e, z⟩
    · rw [upd_ne hoD.symm]; exact eDA
    · rw [upd_same, List.map_append]; rfl
    · rw [List.map_append]
      exact ((tp9.same sA).snoc (SqT.of ec)).lst eoA
    · rw [List.length_append, hpl]; rfl
    · intro c' hc'
      rcases List.mem_append.mp hc' with h | h
      · exact hpr c' h
      · rw [List.mem_singleton] at h
        rw [h]
        refine ⟨⟨cl.up, fun n hn => ?_⟩, ?_⟩
        · rcases List.mem_cons.mp ((cl.mem n).mp hn) with z | z
          · rw [z, s0ab]; omega
          · have := hrg n (List.mem_cons_of_mem _ z); omega
        · refine List.any_eq_true.mpr ⟨s0, (cl.mem s0).mpr List.mem_cons_self, ?_⟩
          unfold sayB
          rw [s0ab, s0sg]
          show ((List.replicate b false ++ lk.map fun x => decide (x = 1)).getD (n0.natAbs - 1) false == decide (lx = 1)) = true
          rw [List.getD_eq_getElem?_getD, List.getElem?_append_right (by rw [List.length_replicate]; omega), List.length_replicate, show n0.natAbs - 1 - b = n0.natAbs - b - 1 by omega, List.getElem?_map, List.getElem?_eq_getElem hjl, hlx]
          simp
  · rintro σ' H5 ⟨y4, y6, y7, y8, cs, pr, rfl, k5, hp5, eD5, eo5, tp, hpl, hpr⟩
    refine ⟨_, rfl, q o cs pr H5 k5 hp5 noH eo5 tp (by omega) (fun c hc => (hpr c hc).1) fun z => ?_⟩
    have : (lk.map fun x => decide (x = 1)) ∈ wordsOf b i pr := by
      unfold KL.wordsOf
      refine List.mem_filter.mpr ⟨fills_mem.mpr (by rw [List.length_map, hl]), ?_⟩
      unfold sayAll
      exact List.all_eq_true.mpr fun c hc => (hpr c hc).2
    rw [z] at this; cases this

end
end K21
namespace K21
open PySem PySem.Spec PyProof.Rows L2 KL
section
variable {P : Program} {w : World} {K : PySem.W.Frag} {mg : Str → Option Value} {base : Heap}
/-! ### a drawn machine's parts -/
def spSpec (K : PySem.W.Frag) : Sp := fun vs H Q _ => ∃ (p : Addr) (mb mi mg : Nat), vs = [.ref p, .int mb, .int mi, .int mg] ∧ Pl H p ∧ 1 ≤ mb ∧ mb ≤ 10 ∧ mi ≤ 4 ∧ mg ≤ 24 ∧
  ∀ (r : Addr) (S : MS) (H' : Hp), Kp p H H' → Pl H' p → MOk S → S.b ≤ mb → S.i ≤ mi → S.gs.length ≤ mg → S.pr.length ≤ 3 → SpecAt K (hid p H') r S → Q (.ref r) H'
theorem ok_spec {f : Addr} {fd : FuncData} {k : Nat} (F : Fun K "_law_spec" "_law_spec" s_law_spec f fd) (D_law_take : Df P w K mg base k "_law_take" ["_law_pool_here", "_law_many"] (spTake K)) (D_law_signed : Df P w K mg base k "_law_signed" ["_law_pool_here", "_law_many"] (spSigned K)) (D_law_some_signs : Df P w K mg base k "_law_some_signs" ["_law_pool_here", "_law_low", "_law_high", "_law_most"] (spSome K))
    (D_law_pledges : Df P w K mg base k "_law_pledges" ["_law_pool_here", "_law_boxes", "_law_inputs"] (spPledges K)) (m_range : mg "range" = none) (m_len : mg "len" = none) :
    FnOk P w K mg base CX0 (k + 1) f fd ["_law_pool_here", "_law_most_boxes", "_law_most_inputs", "_law_most_gates"] (spSpec K) := by
  refine F.ok sc_law_spec (fun vs H Q E h => ?_) (fun cdv A outer s H vs Q E hr h => ?_)
  · obtain ⟨p, mb, mi, mg, rfl, _⟩ := h
    rfl
  obtain ⟨p, mb, mi, mg, rfl, hp, b1, b10, i4, g24, q⟩ := h
  refine ⟨_, (pss_cons (ps_set (i := 4) sc_law_spec.nd rfl (.inl rfl) (pe_op op_add pe_int (pe_df D_law_take hr (by rfl) (pa_cons (pv 0) (pa_cons (pv 1) pa_nil)))))
       (pss_cons (ps_set (i := 5) sc_law_spec.nd rfl (.inl rfl) (pe_df D_law_take hr (by rfl) (pa_cons (pv 0) (pa_cons (pe_op op_add (pv 2) pe_int) pa_nil))))
       (pss_cons (ps_set (i := 6) sc_law_spec.nd rfl (.inl rfl) (pe_lst pa_nil))
       (pss_cons (ps_for PassesOwn.never rfl (pi_range1 (by rfl) m_range (pa_cons (pe_df D_law_take hr (by rfl) (pa_cons (pv 0) (pa_cons (pe_op op_add (pv 3) pe_int) pa_nil))) pa_nil)) (pg_name (i := 7) sc_law_spec.nd rfl (.inl rfl))
       (pss_cons (ps_set (i := 8) sc_law_spec.nd rfl (.inl rfl) (pe_op op_add (pe_op op_add (pv 4) (pv 5)) (pv 7)))
       (pss_cons (ps_set (i := 9) sc_law_spec.nd rfl (.inl rfl) (pe_ix ix_list (pe_lst (pa_cons pe_str (pa_cons pe_str (pa_cons pe_str pa_nil)))) (pe_df D_law_take hr (by rfl) (pa_cons (pv 0) (pa_cons pe_int pa_nil))) (fun _ _ => rfl)))
       (pss_one (ps_expr (pe_bm PySem.F.plainAttrs_list PySem.F.slot_list_append PySem.F.type_list_append mt_append (pv 6) (pa_cons (pe_tup (pa_cons (pv 9) (pa_cons (pe_df D_law_signed hr (by rfl) (pa_cons (pv 0) (pa_cons (pv 8) pa_nil))) (pa_cons (pe_df D_law_signed hr (by rfl) (pa_cons (pv 0) (pa_cons (pv 8) pa_nil))) pa_nil)))) pa_nil)))))))
       (pss_cons (ps_set (i := 10) sc_law_spec.nd rfl (.inr rfl) (pe_op op_add (pe_op op_add (pv 4) (pv 5)) (pe_callB call_len_seq (by rfl) m_len (by decide +kernel) (pa_cons (pv 6) pa_nil))))
       (pss_cons (ps_setLc (i := 11) (own := [("_law_box", 12)]) (g := gName 12) (tt := tYes) rfl sc_law_spec.nd rfl rfl (sw_true rfl rfl rfl (by decide +kernel)) (pi_range1 (by rfl) m_range (pa_cons (pv 4) pa_nil)) (blkOk_by (by kernel_rfl)) (fun _ _ _ _ _ => (pg_name (i := 12) sc_law_spec.nd rfl (.inl rfl))) (fun _ _ _ _ _ => pts_nil) (fun _ _ _ _ _ => (pe_df D_law_signed hr (by rfl) (pa_cons (pv 0) (pa_cons (pv 10) pa_nil)))))
       (C8.pss_cut (ps_if (PW.pt (pw_and (pt_cmpR (op_neD hr.units) (pv 6) (pe_lst pa_nil) (nomark _)) (pw_and1 (pt_cmpR op_gt (pe_df D_law_take hr (by rfl) (pa_cons (pv 0) (pa_cons pe_int pa_nil))) pe_int (nomark _)))))
       (pss_cons (ps_set (i := 13) sc_law_spec.nd rfl (.inl rfl) (pe_op op_add (pe_op op_add (pe_op op_add (pv 4) (pv 5)) pe_int) (pe_df D_law_take hr (by rfl) (pa_cons (pv 0) (pa_cons (pe_callB call_len_seq (by rfl) m_len (by decide +kernel) (pa_cons (pv 6) pa_nil)) pa_nil)))))
       (pss_one (ps_asg (pe_op op_mul (pv 13) (pe_ix ix_list (pe_lst (pa_cons pe_int (pa_cons (pe_un un_neg pe_int) pa_nil))) (pe_df D_law_take hr (by rfl) (pa_cons (pv 0) (pa_cons pe_int pa_nil))) (fun _ _ => rfl))) (pg_sub (pv 11) (pe_df D_law_take hr (by rfl) (pa_cons (pv 0) (pa_cons (pv 4) pa_nil))) set_list))))
       pss_nil)
       (pss_cons (ps_set (i := 14) sc_law_spec.nd rfl (.inl rfl) (pe_df D_law_some_signs hr (by rfl) (pa_cons (pv 0) (pa_cons pe_int (pa_cons (pv 4) (pa_cons (pe_ix ix_list (pe_lst (pa_cons (pv 4) (pa_cons (pv 4) (pa_cons (pe_df D_law_take hr (by rfl) (pa_cons (pv 0) (pa_cons (pe_op op_add (pv 4) pe_int) pa_nil))) pa_nil)))) (pe_df D_law_take hr (by rfl) (pa_cons (pv 0) (pa_cons pe_int pa_nil))) (fun _ _ => rfl)) pa_nil))))))
       (pss_one (ps_ret (pe_lst (pa_cons (pv 4) (pa_cons (pv 5) (pa_cons (pv 6) (pa_cons (pv 11) (pa_cons (pv 14) (pa_cons (pe_df D_law_pledges hr (by rfl) (pa_cons (pv 0) (pa_cons (pv 4) (pa_cons (pv 5) pa_nil)))) pa_nil))))))))))))))))), ?_⟩
  refine ⟨_, rfl, _, rfl, p, mb, rfl, hp, by omega, by omega, fun d H1 k1 hp1 d0 d1 => ⟨_, _, rfl, rfl, ?_⟩⟩
  obtain ⟨b, hb⟩ : ∃ b : Nat, (1 : Int) + d = (b : Int) := ⟨(1 + d).toNat, by omega⟩
  refine ⟨_, rfl, _, rfl, _, _, rfl, rfl, p, _, rfl, hp1, (by show (1 : Int) ≤ (mi : Int) + 1; omega), (by show (mi : Int) + 1 < 1073741824; omega), fun d2 H2 k2 hp2 d20 d21 => ?_⟩
  obtain ⟨i, rfl⟩ : ∃ i : Nat, d2 = (i : Int) := ⟨d2.toNat, by omega⟩
  have hi : i ≤ mi := by omega
  refine ⟨(by show 0 ≤ sizeLine; decide), fun G nG => ?_⟩
  have s3 : Same H2 (upd H2 G (.lst [])) := same_new nG
  have eG : (upd H2 G (.lst [])) G = some (.lst []) := upd_same
  have hGp : G ≠ p := fun z => hp2.at (z ▸ nG)
  have hp3 := hp2.same s3
  have k03 : Kp p H (upd H2 G (.lst [])) := k1.trans (k2.trans (Kp.of s3))
  have nGH : H G = none := (k1.trans k2).freeP hp2 nG
  generalize (upd H2 G (.lst [])) = H3 at *
  refine ⟨_, rfl, _, rfl, _, _, rfl, rfl, p, _, rfl, hp3, (by show (1 : Int) ≤ (mg : Int) + 1; omega), (by show (mg : Int) + 1 < 1073741824; omega), fun d3 H4 k4 hp4 d30 d31 => ?_⟩
  obtain ⟨ng, rfl⟩ : ∃ n : Nat, d3 = (n : Int) := ⟨d3.toNat, by omega⟩
  have k04 := k03.trans k4
  have eG4 := k4 _ _ hGp eG
  have bi14 : b + i ≤ 14 := by omega
  have hb1 : 1 ≤ b := by omega
  have hbm : b ≤ mb := by omega
  clear k1 k2 s3 k03 k4 eG hp1 hp2 hp3 nG
  refine ⟨_, rfl, by omega, by omega, for_range (lo := 0) (n := (ng : Int).toNat) (fun j σ' H' => ∃ (y7 y8 y9 : Option V) (ga : List Addr) (gs : List (Str × Int × Int)), σ' = [some (.ref p), some (.int mb), some (.int mi), some (.int mg), some (.int b), some (.int i), some (.ref G), y7, y8, y9, none, none, none, none, none] ∧ Kp p H H' ∧ Pl H' p ∧ H' G = some (.lst (ga.map V.ref)) ∧ TupsV K H' ga (gs.map gateV) ∧ gs.length = j ∧ ∀ (m : Nat) g, gs[m]? = some g → isWord g.1 ∧ Sgn g.2.1 (b + i + m) ∧ Sgn g.2.2 (b + i + m)) ?_ ?_ ?_⟩
  · exact ⟨_, _, _, [], [], by rw [← hb]; rfl, k04, hp4, eG4, .nil, rfl, fun m g hg => by simp at hg⟩
  · rintro j σ' H5 hj ⟨y7, y8, y9, ga, gs, rfl, k5, hp5, eG5, tg, hgl, hga⟩
    have hj24 : j < 24 := by rw [Int.toNat_natCast] at hj; omega
    refine ⟨_, rfl, _, rfl, _, _, rfl, rfl, _, rfl, _, _, rfl, rfl, ?_⟩
    refine ⟨(by show 3 ≤ sizeLine; decide), fun l nl => ?_⟩
    have s6 : Same H5 (upd H5 l (.lst [.str (Str.ofString "and"), .str (Str.ofString "or"), .str (Str.ofString "odd")])) := same_new nl
    have el : (upd H5 l (.lst [.str (Str.ofString "and"), .str (Str.ofString "or"), .str (Str.ofString "odd")])) l = some (.lst [.str (Str.ofString "and"), .str (Str.ofString "or"), .str (Str.ofString "odd")]) := upd_same
    have hlp : l ≠ p := fun z => hp5.at (z ▸ nl)
    have hp6 := hp5.same s6
    have eG6 := s6 _ _ eG5
    have tg6 := tg.same s6
    generalize (upd H5 l (.lst [.str (Str.ofString "and"), .str (Str.ofString "or"), .str (Str.ofString "odd")])) = H6 at *
    refine ⟨_, rfl, p, 3, rfl, hp6, by omega, by omega, fun d4 H7 k7 hp7 d40 d41 => ?_⟩
    obtain ⟨wd, gw, hw⟩ := three_at d40 d41
    refine ⟨l, _, d4, .str wd, rfl, rfl, SqL.of (k7 _ _ hlp el), gw, ?_⟩
    have eah : (b : Int) + (i : Int) + (0 + ((j : Nat) : Int)) = ((b + i + j : Nat) : Int) := by omega
    have eG7 := k7 _ _ hGp eG6
    refine ⟨_, rfl, .inl ⟨rfl, _, SqL.of eG7⟩, _, rfl, _, rfl, _, rfl, p, b + i + j, congrArg (fun z => [V.ref p, V.int z]) eah, hp7, by omega, by omega, fun n1 H8 k8 hp8 sg1 => ?_⟩
    refine ⟨_, rfl, _, rfl, p, b + i + j, congrArg (fun z => [V.ref p, V.int z]) eah, hp8, by omega, by omega, fun n2 H9 k9 hp9 sg2 => ?_⟩
    have k69 := k7.trans (k8.trans k9)
    have eG9 := k69 _ _ hGp eG6
    have tg9 := Kp.tupsV k69 hp6 tg6
    refine ⟨(by show 3 ≤ sizeLine; decide), fun t nt => ?_⟩
    have sA : Same H9 (upd H9 t (.tup [.str wd, .int n1, .int n2])) := same_new nt
    have et : (upd H9 t (.tup [.str wd, .int n1, .int n2])) t = some (.tup [.str wd, .int n1, .int n2]) := upd_same
    have eGA := sA _ _ eG9
    have hpA := hp9.same sA
    have kA : Kp p H (upd H9 t (.tup [.str wd, .int n1, .int n2])) := k5.trans ((Kp.of s6).trans (k69.trans (Kp.of sA)))
    have tgA := tg9.same sA
    generalize (upd H9 t (.tup [.str wd, .int n1, .int n2])) = HA at *
    refine ⟨G, _, _, rfl, rfl, eGA, ?_, _, _, _, ga ++ [t], gs ++ [(wd, n1, n2)], rfl, ?_, ?_, ?_, ?_, ?_, ?_⟩
    · rw [List.length_map, tg.len, List.length_map, hgl]; exact small1000 (by omega)
    · exact fun a ob na ha => by rw [upd_ne (ne_of_none ha nGH)]; exact kA _ _ na ha
    · obtain ⟨x, y, e, z⟩ := hpA
      exact ⟨x, y, by rw [upd_ne hGp.symm]; exact e, z⟩
    · rw [upd_same, List.map_append]; rfl
    · rw [List.map_append]
      exact (tgA.snoc (SqT.of et)).lst eGA
    · rw [List.length_append, hgl]; rfl
    · intro m g hg
      by_cases z : m < gs.length
      · rw [List.getElem?_append_left z] at hg
        exact hga m g hg
      · rw [List.getElem?_append_right (by omega)] at hg
        have : m - gs.length = 0 := by
          cases q : m - gs.length with
          | zero => rfl
          | succ r => rw [q] at hg; simp at hg
        rw [this] at hg
        cases hg
        have : m = j := by omega
        subst this
        exact ⟨hw, sg1, sg2⟩
  rintro σ' H5 ⟨y7, y8, y9, ga, gs, rfl, k5, hp5, eG5, tg, hgl, hga⟩
  rw [Int.toNat_natCast] at hgl
  have lga : ga.length = gs.length := by rw [tg.len, List.length_map]
  have hg24 : gs.length ≤ 24 := by omega
  have hgm : ∀ g ∈ gs, isWord g.1 ∧ g.2.1.natAbs ≤ 100 ∧ g.2.2.natAbs ≤ 100 := fun g hg => by
    obtain ⟨m, hm⟩ := List.mem_iff_getElem?.mp hg
    have hml : m < gs.length := (List.getElem?_eq_some_iff.mp hm).1
    obtain ⟨h1, h2, h3⟩ := hga m g hm
    exact ⟨h1, by have := h2.2; omega, by have := h3.2; omega⟩
  refine ⟨_, rfl, _, rfl, _, _, rfl, rfl, _, rfl, G, _, rfl, .inl (SqL.of eG5), _, _, rfl, rfl, ?_⟩
  have eth : (b : Int) + (i : Int) + (((ga.map V.ref).length : Nat) : Int) = ((b + i + gs.length : Nat) : Int) := by rw [List.length_map, lga]; omega
  generalize hth : b + i + gs.length = th at *
  -- nexts
  refine ⟨_, rfl, (b : Int), rfl, by omega, by omega, fun N nN => lc_range (lo := 0) (n := (b : Int).toNat) (fun j H' => ∃ nx : List Int, Kp p H5 H' ∧ Pl H' p ∧ H' N = some (.lst (nx.map V.int)) ∧ nx.length = j ∧ ∀ n ∈ nx, Sgn n th) ?_ ?_ ?_⟩
  · exact ⟨[], Kp.of (same_new nN), hp5.same (same_new nN), upd_same, rfl, fun n hn => nomatch hn⟩
  · rintro j H6 hj ⟨nx, k6, hp6, eN, hnl, hna⟩
    have hNp : N ≠ p := fun z => hp5.at (z ▸ nN)
    refine ⟨rfl, _, rfl, _, rfl, p, th, congrArg (fun z => [V.ref p, V.int z]) eth, hp6, by omega, by omega, fun n H7 k7 hp7 sg => ⟨_, k7 _ _ hNp eN, ?_, nx ++ [n], ?_, ?_, ?_, ?_, ?_⟩⟩
    · rw [List.length_map, hnl]; exact small1000 (by omega)
    · exact fun a o na ha => by rw [upd_ne (ne_of_none ha nN)]; exact k7 _ _ na (k6 _ _ na ha)
    · obtain ⟨x, y, e, r⟩ := hp7
      exact ⟨x, y, by rw [upd_ne hNp.symm]; exact e, r⟩
    · rw [upd_same, List.map_append]; rfl
    · rw [List.length_append, hnl]; rfl
    · intro x hx
      rcases List.mem_append.mp hx with h | h
      · exact hna x h
      · rw [List.mem_singleton] at h; rw [h]; exact sg
  rintro H6 ⟨nx, k6, hp6, eN, hnl, hna⟩
  rw [Int.toNat_natCast] at hnl
  have hNp : N ≠ p := fun z => hp5.at (z ▸ nN)
  have hNG : N ≠ G := fun z => by rw [z, eG5] at nN; cases nN
  have nNH : H N = none := k5.freeP hp5 nN
  have eG6 := k6 _ _ hGp eG5
  have tg6 := Kp.tupsV k6 hp5 tg
  have k06 := k5.trans k6
  have gok : ∀ m g, gs[m]? = some g → isWord g.1 ∧ Sgn g.2.1 (b + i + m) ∧ Sgn g.2.2 (b + i + m) := hga
  clear k5 k6 tg eG5 hp5 k04 eG4 hp4 nN
  refine ⟨fun σ' H' => ∃ (y12 y13 : Option V) (nx : List Int), σ' = [some (.ref p), some (.int mb), some (.int mi), some (.int mg), some (.int b), some (.int i), some (.ref G), y7, y8, y9, some (.int ((b : Int) + (i : Int) + (((ga.map V.ref).length : Nat) : Int))), some (.ref N), y12, y13, none] ∧ Kp p H H' ∧ Pl H' p ∧ H' G = some (.lst (ga.map V.ref)) ∧ TupsV K H' ga (gs.map gateV) ∧ H' N = some (.lst (nx.map V.int)) ∧ nx.length = b ∧ ∀ n ∈ nx, Sgn n th, ?_, ?_⟩
  · refine ⟨_, rfl, (by show 0 ≤ sizeLine; decide), fun l nl => ?_⟩
    have s7 : Same H6 (upd H6 l (.lst [])) := same_new nl
    refine ⟨.list (gs.map gateD), .list [], .lst (SqL.of (s7 _ _ eG6)) (dpGates (tg6.same s7)), .lst (SqL.of upd_same) .nil, (fineGates hgm hg24).shaped (by omega), shNil, _, rfl, ?_⟩
    rw [eqvNilD]
    have eG7 := s7 _ _ eG6
    have eN7 := s7 _ _ eN
    have tg7 := tg6.same s7
    have hp7 := hp6.same s7
    have k07 := k06.trans (Kp.of s7)
    generalize (upd H6 l (.lst [])) = H7 at *
    have out : ∀ {H' : Hp}, Kp p H7 H' → Pl H' p → ∃ (y12 y13 : Option V) (nx' : List Int), [some (V.ref p), some (.int mb), some (.int mi), some (.int mg), some (.int b), some (.int i), some (.ref G), y7, y8, y9, some (.int ((b : Int) + (i : Int) + (((ga.map V.ref).length : Nat) : Int))), some (.ref N), none, none, none] = [some (.ref p), some (.int mb), some (.int mi), some (.int mg), some (.int b), some (.int i), some (.ref G), y7, y8, y9, some (.int ((b : Int) + (i : Int) + (((ga.map V.ref).length : Nat) : Int))), some (.ref N), y12, y13, none] ∧ Kp p H H' ∧ Pl H' p ∧ H' G = some (.lst (ga.map V.ref)) ∧ TupsV K H' ga (gs.map gateV) ∧ H' N = some (.lst (nx'.map V.int)) ∧ nx'.length = b ∧ ∀ n ∈ nx', Sgn n th := fun k hp' =>
      ⟨_, _, nx, rfl, k07.trans k, hp', k _ _ hGp eG7, Kp.tupsV k hp7 tg7, k _ _ hNp eN7, hnl, hna⟩
    refine ite2 (fun z => ?_) (fun z => out (Kp.refl _ _) hp7)
    have gne : gs ≠ [] := fun e => by rw [e] at z; simp at z
    have g1 : 1 ≤ gs.length := by
      cases gs with
      | nil => exact absurd rfl gne
      | cons _ _ => simp
    refine ⟨_, rfl, p, 3, rfl, hp7, by omega, by omega, fun d5 H8 k8 hp8 d50 d51 => ⟨_, _, rfl, rfl, _, rfl, ite2 (fun z2 => ?_) (fun z2 => out k8 hp8)⟩⟩
    have eG8 := k8 _ _ hGp eG7
    refine ⟨_, rfl, _, rfl, _, _, rfl, rfl, _, _, rfl, rfl, _, rfl, _, rfl, G, _, rfl, .inl (SqL.of eG8), p, _, rfl, hp8, (by rw [List.length_map]; omega), (by rw [List.length_map]; omega), fun d6 H9 k9 hp9 d60 d61 => ⟨_, _, rfl, rfl, ?_⟩⟩
    rw [List.length_map, lga] at d61
    refine ⟨_, rfl, _, rfl, (by show 2 ≤ sizeLine; decide), fun u nu => ?_⟩
    have sA : Same H9 (upd H9 u (.lst [.int 1, .int (-1)])) := same_new nu
    have eu : (upd H9 u (.lst [.int 1, .int (-1)])) u = some (.lst [.int 1, .int (-1)]) := upd_same
    have hup : u ≠ p := fun z => hp9.at (z ▸ nu)
    have hpA := hp9.same sA
    generalize (upd H9 u (.lst [.int 1, .int (-1)])) = HA at *
    refine ⟨_, rfl, p, 2, rfl, hpA, by omega, by omega, fun d7 HB kB hpB d70 d71 => ?_⟩
    obtain ⟨e, ge, he⟩ := pm_at d70 d71
    refine ⟨u, _, d7, .int e, rfl, rfl, SqL.of (kB _ _ hup eu), ge, _, _, rfl, rfl, .inl ⟨by show (-(2 ^ 64) : Int) < (b : Int) + (i : Int) + 1 + d6; omega, by show (b : Int) + (i : Int) + 1 + d6 < (2 ^ 64 : Int); omega⟩, ?_⟩
    refine ⟨_, rfl, _, rfl, _, rfl, p, (b : Int), rfl, hpB, by omega, by omega, fun d8 HC kC hpC d80 d81 => ?_⟩
    have k7C : Kp p H7 HC := k8.trans (k9.trans ((Kp.of sA).trans (kB.trans kC)))
    have eNC := k7C _ _ hNp eN7
    have hix : ixN (nx.map V.int).length d8 = some d8.toNat := by
      unfold ixN; rw [if_pos d80, if_pos (by rw [List.length_map]; omega)]
    refine ⟨N, _, d8, d8.toNat, rfl, rfl, eNC, hix, ?_⟩
    generalize hs0 : ((b : Int) + (i : Int) + 1 + d6) * e = s0
    have s0sg : Sgn s0 th := by
      rw [← hs0]
      rcases he with rfl | rfl
      · rw [Int.mul_one]; exact ⟨by omega, by omega⟩
      · rw [Int.mul_neg, Int.mul_one]; exact ⟨by omega, by omega⟩
    have key : HO.lst ((nx.map V.int).set d8.toNat ((fun i j => V.int (i * j)) ((b : Int) + (i : Int) + 1 + d6) e)) = HO.lst ((nx.set d8.toNat s0).map V.int) := by
      rw [← hs0, List.map_set]
    refine ⟨_, _, nx.set d8.toNat s0, rfl, ?_, ?_, ?_, ?_, ?_, ?_, ?_⟩
    · exact fun a ob na ha => by rw [upd_ne (ne_of_none ha nNH)]; exact k7C _ _ na (k07 _ _ na ha)
    · obtain ⟨x, y, e, r⟩ := hpC
      exact ⟨x, y, by rw [upd_ne hNp.symm]; exact e, r⟩
    · rw [upd_ne hNG.symm]; exact k7C _ _ hGp eG7
    · exact (Kp.tupsV k7C hp7 tg7).lst eNC
    · rw [upd_same]; exact congrArg some key
    · rw [List.length_set]; exact hnl
    · intro n hn
      rcases List.mem_or_eq_of_mem_set hn with h | h
      · exact hna n h
      · rw [h]; exact s0sg
  rintro σ' H7 ⟨y12, y13, nx', rfl, k7, hp7, eG7, tg7, eN7, hnl', hna'⟩
  -- starts
  refine ⟨_, rfl, _, rfl, _, rfl, _, rfl, _, rfl, _, rfl, _, _, rfl, rfl, p, _, rfl, hp7, (by show (1 : Int) ≤ (b : Int) + 1; omega), (by show (b : Int) + 1 < 1073741824; omega), fun d9 H8 k8 hp8 d90 d91 => ?_⟩
  refine ⟨(by show 3 ≤ sizeLine; decide), fun l nl => ?_⟩
  have s9 : Same H8 (upd H8 l (.lst [.int b, .int b, .int d9])) := same_new nl
  have el : (upd H8 l (.lst [.int b, .int b, .int d9])) l = some (.lst [.int b, .int b, .int d9]) := upd_same
  have hlp : l ≠ p := fun z => hp8.at (z ▸ nl)
  have hp9 := hp8.same s9
  have k79 : Kp p H7 (upd H8 l (.lst [.int b, .int b, .int d9])) := k8.trans (Kp.of s9)
  generalize (upd H8 l (.lst [.int b, .int b, .int d9])) = H9 at *
  refine ⟨_, rfl, p, 3, rfl, hp9, by omega, by omega, fun dA HA kA hpA dA0 dA1 => ?_⟩
  obtain ⟨most, gm, hm⟩ : ∃ m : Nat, atI [V.int b, V.int b, V.int d9] dA = some (.int m) ∧ m ≤ 500 := by
    obtain ⟨v, g1, g2⟩ := atI_at (xs := [V.int b, V.int b, V.int d9]) (i := dA) dA0 dA1
    have m := List.mem_of_getElem? g2
    simp only [List.mem_cons, List.not_mem_nil, or_false] at m
    rcases m with rfl | rfl | rfl
    · exact ⟨b, g1, by omega⟩
    · exact ⟨b, g1, by omega⟩
    · exact ⟨d9.toNat, by rw [g1]; congr 2; omega, by omega⟩
  refine ⟨l, _, dA, .int most, rfl, rfl, SqL.of (kA _ _ hlp el), gm, p, 1, b, most, rfl, hpA, by omega, by omega, by omega, hm, fun St st HB kB hpB nSt eSt hst hstd hstl => ?_⟩
  have hSp : St ≠ p := fun z => hpA.at (z ▸ nSt)
  have k7B : Kp p H7 HB := k79.trans (kA.trans kB)
  refine ⟨_, rfl, _, rfl, _, rfl, _, rfl, _, rfl, _, rfl, _, rfl, _, rfl, p, b, i, rfl, hpB, by omega, by omega, by omega, fun Pm cs pr HC kC hpC nPm ePm tp pr3 hpr hwn => ?_⟩
  have hPp : Pm ≠ p := fun z => hpB.at (z ▸ nPm)
  refine ⟨(by show 6 ≤ sizeLine; decide), fun r nr => ?_⟩
  have sD : Same HC (upd HC r (.lst [.int b, .int i, .ref G, .ref N, .ref St, .ref Pm])) := same_new nr
  have er : (upd HC r (.lst [.int b, .int i, .ref G, .ref N, .ref St, .ref Pm])) r = some (.lst [.int b, .int i, .ref G, .ref N, .ref St, .ref Pm]) := upd_same
  have hrp : r ≠ p := fun z => hpC.at (z ▸ nr)
  have k7D : Kp p H7 (upd HC r (.lst [.int b, .int i, .ref G, .ref N, .ref St, .ref Pm])) := k7B.trans (kC.trans (Kp.of sD))
  have hpD := hpC.same sD
  have kBD : Kp p HB (upd HC r (.lst [.int b, .int i, .ref G, .ref N, .ref St, .ref Pm])) := kC.trans (Kp.of sD)
  have ePmD := sD _ _ ePm
  have tpD := tp.same sD
  generalize (upd HC r (.lst [.int b, .int i, .ref G, .ref N, .ref St, .ref Pm])) = HD at *
  refine q r ⟨b, i, gs, nx', st, pr⟩ HD (k7.trans k7D) hpD ⟨hb1, by show b ≤ 10; omega, by show i ≤ 4; omega, hg24, gok, hnl', fun n hn => by show Sgn n (b + i + gs.length); rw [hth]; exact hna' n hn, fun n hn => ?_, hstd, by show pr.length ≤ 8; omega, fun c hc => hpr c hc, hwn⟩ hbm hi (by show gs.length ≤ mg; omega) pr3 ⟨G, N, St, Pm, SqL.of (hid_of hrp er), ⟨⟨ga, SqL.of (hid_of hGp (k7D _ _ hGp eG7)), (Kp.tupsV k7D hp7 tg7).mv fun a xs q => hidT hpD q⟩, SqL.of (hid_of hNp (k7D _ _ hNp eN7)), SqL.of (hid_of hSp (kBD _ _ hSp eSt)), ⟨cs, SqL.of (hid_of hPp ePmD), tpD.mv fun a xs q => hidT hpD q⟩⟩⟩
  have := hst n hn
  exact ⟨fun z => by rw [z] at this; simp at this, this.2⟩

end
end K21
namespace K21
open PySem PySem.Spec PyProof.Rows L2 KL
section
variable {P : Program} {w : World} {K : PySem.W.Frag} {mg : Str → Option Value} {base : Heap}
/-! ### the law's own fillings -/
/-! ### all fillings -/
def spFills (K : PySem.W.Frag) : Sp := fun vs H Q _ => ∃ (n : Nat), vs = [.int n] ∧ n ≤ 9 ∧
  ∀ (r : Addr) (ts : List Addr) (H' : Hp), Same H H' → H r = none → H' r = some (.lst (ts.map V.ref)) → ts.length = 2 ^ n → (∀ j t, ts[j]? = some t → H' t = some (.tup ((rowB n j).map V.bl))) → Q (.ref r) H'
theorem ok_fills {f : Addr} {fd : FuncData} {k : Nat} (F : Fun K "_law_all" "_law_all" s_law_all f fd) (m_range : mg "range" = none) (m_tuple : mg "tuple" = none) :
    FnOk P w K mg base CX0 (k + 1) f fd ["_law_many"] (spFills K) := by
  refine F.ok sc_law_all (fun vs H Q E h => ?_) (fun cdv A outer s H vs Q E hr h => ?_)
  · obtain ⟨n, rfl, _⟩ := h
    rfl
  obtain ⟨n, rfl, hn, q⟩ := h
  refine ⟨_, (pss_one (ps_ret (pe_lc (own := [("_law_number", 2)]) (g := gName 2) (tt := tYes) (by rfl) sc_law_all.nd (pi_range1 (by rfl) m_range (pa_cons (pe_op op_shl pe_int (pv 0)) pa_nil)) (blkOk_by (by kernel_rfl)) (fun _ _ _ _ _ => (pg_name (i := 2) sc_law_all.nd rfl (.inr rfl))) (fun _ _ _ _ _ => pts_nil) (fun _ _ _ _ _ => (pe_callTy (call_tuple_of' (K := K) rfl) (by rfl) m_tuple (by decide +kernel) (pa_cons (pe_lc (own := [("_law_k", 1)]) (g := gName 1) (tt := tYes) (by rfl) sc_law_all.nd (pi_range1 (by rfl) m_range (pa_cons (pv 0) pa_nil)) (blkOk_by (by kernel_rfl)) (fun _ _ _ _ _ => (pg_name (i := 1) sc_law_all.nd rfl (.inl rfl))) (fun _ _ _ _ _ => pts_nil) (fun _ _ _ _ _ => (pe_cmpR op_eq (pe_op op_and (pe_op op_shr (pv 2) (pe_op op_sub (pe_op op_sub (pv 0) pe_int) (pv 1))) pe_int) pe_int (nomark _)))) pa_nil)))))), ?_⟩
  have e2 : (1 : Int) * 2 ^ ((n : Int)).toNat = ((2 ^ n : Nat) : Int) := by
    rw [Int.toNat_natCast]; simp
  have p9 : 2 ^ n ≤ 512 := Nat.le_trans (Nat.pow_le_pow_right (by decide) hn) (by decide)
  generalize hN : 2 ^ n = N at *
  refine ⟨_, rfl, _, _, rfl, rfl, ⟨by omega, by omega, by decide⟩, (N : Int), congrArg (fun z => [V.int z]) e2, by omega, by omega, fun D nD => lc_range (lo := 0) (n := ((N : Int)).toNat) (fun i H' => ∃ ts : List Addr, Same H H' ∧ H' D = some (.lst (ts.map V.ref)) ∧ ts.length = i ∧ ∀ j t, ts[j]? = some t → H' t = some (.tup ((rowB n j).map V.bl))) ?_ ?_ ?_⟩
  · exact ⟨[], same_new nD, upd_same, rfl, fun j t h => by simp at h⟩
  · rintro i H1 hi ⟨ts, s1, eD, hl, ht⟩
    refine ⟨rfl, _, rfl, _, rfl, by omega, by omega, fun D2 nD2 => lc_range (lo := 0) (n := ((n : Int)).toNat) (fun k H' => Same H1 H' ∧ H' D2 = some (.lst (((rowB n i).take k).map V.bl))) ?_ ?_ ?_⟩
    · exact ⟨same_new nD2, upd_same⟩
    · rintro k H2 hk ⟨s2, e2⟩
      have hk' : k < n := by rw [Int.toNat_natCast] at hk; exact hk
      refine ⟨rfl, _, rfl, _, rfl, _, _, rfl, rfl, _, rfl, _, _, rfl, rfl, _, _, rfl, rfl, (by show (0 : Int) ≤ (n : Int) - 1 - (0 + (k : Int)); omega), _, _, rfl, rfl, rfl, _, e2, ?_, ?_, ?_⟩
      · simp only [List.length_map, List.length_take]; exact small1000 (by omega)
      · exact fun b o hb => by rw [upd_ne (ne_of_none hb nD2)]; exact s2 _ _ hb
      · rw [upd_same, rowB_take hk', List.map_append]
        show some (HO.lst _) = some (HO.lst _)
        rw [Int.zero_add, Int.zero_add]
        rfl
    · rintro H2 ⟨s2, e2⟩
      have e3 : (rowB n i).take ((n : Int)).toNat = rowB n i := List.take_of_length_le (by unfold rowB; simp)
      rw [e3] at e2
      refine ⟨D2, _, rfl, .inl ⟨SqL.of e2, fun t nt => ?_⟩⟩
      have s3 : Same H2 (upd H2 t (.tup ((rowB n i).map V.bl))) := same_new nt
      have eD3 := s3 _ _ (s2 _ _ eD)
      have et : (upd H2 t (.tup ((rowB n i).map V.bl))) t = some (.tup ((rowB n i).map V.bl)) := upd_same
      generalize (upd H2 t (.tup ((rowB n i).map V.bl))) = H3 at *
      have keep : ∀ b xs, H3 b = some (.tup xs) → (upd H3 D (.lst (ts.map V.ref ++ [.ref t]))) b = some (.tup xs) := fun b xs hb => by rw [upd_ne (ne_of hb eD3 (by intro z; cases z))]; exact hb
      refine ⟨_, eD3, ?_, ts ++ [t], ?_, ?_, ?_, fun j u hu => ?_⟩
      · rw [List.length_map, hl]; rw [Int.toNat_natCast] at hi; exact small1000 (by omega)
      · exact fun b o hb => by rw [upd_ne (ne_of_none hb nD)]; exact s3 _ _ (s2 _ _ (s1 _ _ hb))
      · rw [upd_same, List.map_append]; rfl
      · rw [List.length_append, hl]; rfl
      · by_cases hj : j < ts.length
        · rw [List.getElem?_append_left hj] at hu
          exact keep _ _ (s3 _ _ (s2 _ _ (ht j u hu)))
        · rw [List.getElem?_append_right (by omega)] at hu
          have : j - ts.length = 0 := by
            cases q : j - ts.length with
            | zero => rfl
            | succ m => rw [q] at hu; simp at hu
          rw [this] at hu
          cases hu
          have : j = i := by omega
          subst this
          exact keep _ _ et
  · rintro H1 ⟨ts, s1, eD, hl, ht⟩
    rw [Int.toNat_natCast] at hl
    exact q D ts H1 s1 nD eD hl ht

def spLAll (K : PySem.W.Frag) : Sp := fun vs H Q _ => ∃ n : Nat, vs = [.int n] ∧ n ≤ 6 ∧ ∀ (r : Addr) (ts : List Addr) (H' : Hp), Same H H' → H r = none → H' r = some (.lst (ts.map V.ref)) → TupsV K H' ts ((fills n).map fun f => f.map V.bl) → Q (.ref r) H'
theorem ok_lall {f : Addr} {fd : FuncData} {k : Nat} (F : Fun K "_law_all" "_law_all" s_law_all f fd) (m_range : mg "range" = none) (m_tuple : mg "tuple" = none) : FnOk P w K mg base CX0 (k + 1) f fd ["_law_many"] (spLAll K) := by
  refine (ok_fills F m_range m_tuple).imp fun vs H Q E h => ?_
  obtain ⟨n, rfl, hn, q⟩ := h
  refine ⟨n, rfl, by omega, fun r ts H' s nr er lt ht => q r ts H' s nr er ?_⟩
  rw [fills_rows n hn]
  refine tupsV_of (by simp [lt]) fun j t vs h1 h2 => ?_
  have hj : j < 2 ^ n := by rw [← lt]; exact (List.getElem?_eq_some_iff.mp h1).1
  rw [List.map_map, List.getElem?_map, List.getElem?_range hj] at h2
  cases h2
  exact SqT.of (ht j t h1)

theorem made_same {C x dx : Addr} {H H' : Hp} (nx : H x = none) (ndx : H dx = none) (k : Kp x (upd (upd H dx (.own x)) x (.ins C dx [])) H') : Same H H' := fun b o hb =>
  k b o (ne_of_none hb nx) (by rw [upd_ne (ne_of_none hb nx), upd_ne (ne_of_none hb ndx)]; exact hb)
theorem made_new {C x dx a : Addr} {H : Hp} (h : (upd (upd H dx (.own x)) x (.ins C dx [])) a = none) : H a = none := by
  by_cases h1 : a = x
  · rw [h1, upd_same] at h; cases h
  · rw [upd_ne h1] at h
    by_cases h2 : a = dx
    · rw [h2, upd_same] at h; cases h
    · rw [upd_ne h2] at h; exact h
theorem made_up {C x dx : Addr} {H : Hp} (nx : H x = none) (ndx : H dx = none) : Same H (upd (upd H dx (.own x)) x (.ins C dx [])) := fun b o hb => by rw [upd_ne (ne_of_none hb nx), upd_ne (ne_of_none hb ndx)]; exact hb

/-! ### a machine made of drawn parts -/
def spMade (C : Addr) (K : PySem.W.Frag) : Sp := fun vs H Q _ => ∃ (r : Addr) (S : MS), vs = [.ref r] ∧ SpecAt K H r S ∧ MOk S ∧ ∀ (m : Addr) (own : List Addr) (H' : Hp), Same H H' → MachO K C H' m S own → (∀ a ∈ own, H a = none) → Q (.ref m) H'
theorem ok_made {f C : Addr} {fd : FuncData} {k : Nat} (F : Fun K "_law_made" "_law_made" s_law_made f fd) (DC_Machine : Dc P w K mg base k "Machine" C ["self", "boxes", "inputs", "gates", "nexts", "starts", "promises"] (spInit C K) 4 ["starts", "promises"] (· ++ ·)) (m_list : mg "list" = none) :
    FnOk P w K mg base CX0 (k + 2) f fd ["_law_spec_here"] (spMade C K) := by
  refine F.ok sc_law_made (fun vs H Q E h => ?_) (fun cdv A outer s H vs Q E hr h => ?_)
  · obtain ⟨r, S, rfl, _⟩ := h
    rfl
  obtain ⟨r, S, rfl, ⟨G, N, S1, Pm, hr', pa⟩, ok, q⟩ := h
  refine ⟨_, (pss_cons (ps_asg (pv 0) (pg_unl rfl (pgs_cons (pg_name (i := 1) sc_law_made.nd rfl (.inl rfl)) (pgs_cons (pg_name (i := 2) sc_law_made.nd rfl (.inl rfl)) (pgs_cons (pg_name (i := 3) sc_law_made.nd rfl (.inl rfl)) (pgs_cons (pg_name (i := 4) sc_law_made.nd rfl (.inl rfl)) (pgs_cons (pg_name (i := 5) sc_law_made.nd rfl (.inl rfl)) (pgs_cons (pg_name (i := 6) sc_law_made.nd rfl (.inl rfl)) pgs_nil))))))))
       (pss_one (ps_ret (pe_dc DC_Machine hr (by rfl) (pa_cons (pv 1) (pa_cons (pv 2) (pa_cons (pe_callTy call_list_of (by rfl) m_list (by decide +kernel) (pa_cons (pv 3) pa_nil)) (pa_cons (pe_callTy call_list_of (by rfl) m_list (by decide +kernel) (pa_cons (pv 4) pa_nil)) pa_nil)))) (pk_cons (pe_callTy call_list_of (by rfl) m_list (by decide +kernel) (pa_cons (pv 5) pa_nil)) (pk_cons (pe_callTy call_list_of (by rfl) m_list (by decide +kernel) (pa_cons (pv 6) pa_nil)) pk_nil)))))), ?_⟩
  obtain ⟨ga, hG, tg⟩ := pa.gs
  obtain ⟨ca, hP, tp⟩ := pa.pr
  refine ⟨_, rfl, r, _, rfl, hr', rfl, _, _, rfl, _, _, rfl, _, _, rfl, _, _, rfl, _, _, rfl, _, _, rfl, rfl, ?_⟩
  refine ⟨_, rfl, _, rfl, _, rfl, G, _, rfl, .inl hG, fun g1 n1 => ?_⟩
  have s1 : Same H (upd H g1 (.lst (ga.map V.ref))) := same_new n1
  have e1 : (upd H g1 (.lst (ga.map V.ref))) g1 = some (.lst (ga.map V.ref)) := upd_same
  generalize (upd H g1 (.lst (ga.map V.ref))) = H1 at *
  refine ⟨_, rfl, N, _, rfl, .inl (s1.seq pa.nx), fun g2 n2 => ?_⟩
  have s2 : Same H1 (upd H1 g2 (.lst (S.nx.map V.int))) := same_new n2
  have e2 : (upd H1 g2 (.lst (S.nx.map V.int))) g2 = some (.lst (S.nx.map V.int)) := upd_same
  generalize (upd H1 g2 (.lst (S.nx.map V.int))) = H2 at *
  have s02 := s1.trans s2
  refine ⟨_, rfl, S1, _, rfl, (pa.st.same s02).or, fun g3 n3 => ?_⟩
  have s3 : Same H2 (upd H2 g3 (.lst (S.st.map V.int))) := same_new n3
  have e3 : (upd H2 g3 (.lst (S.st.map V.int))) g3 = some (.lst (S.st.map V.int)) := upd_same
  generalize (upd H2 g3 (.lst (S.st.map V.int))) = H3 at *
  have s03 := s02.trans s3
  refine ⟨_, rfl, Pm, _, rfl, (hP.same s03).or, fun g4 n4 => ?_⟩
  have s4 : Same H3 (upd H3 g4 (.lst (ca.map V.ref))) := same_new n4
  have e4 : (upd H3 g4 (.lst (ca.map V.ref))) g4 = some (.lst (ca.map V.ref)) := upd_same
  generalize (upd H3 g4 (.lst (ca.map V.ref))) = H4 at *
  have s04 := s03.trans s4
  have s34 := s3.trans s4
  have s24 := s2.trans s34
  refine ⟨rfl, rfl, fun x dx nx ndx nex => ?_⟩
  have s5 : Same H4 (upd (upd H4 dx (.own x)) x (.ins C dx [])) := fun b o e => by
    rw [upd_ne (ne_of_none e nx), upd_ne (ne_of_none e ndx)]
    exact e
  refine ⟨x, dx, g1, g2, g3, g4, true, true, S, rfl, upd_same, ok, ⟨⟨ga, SqL.of (s5 _ _ (s24 _ _ e1)), (tg.same s04).same s5⟩, SqL.of (s5 _ _ (s34 _ _ e2)), SqL.of (s5 _ _ (s4 _ _ e3)), ⟨ca, SqL.of (s5 _ _ e4), (tp.same s04).same s5⟩⟩, fun H' own kx mo fr => ⟨rfl, q x own H' (s04.trans (made_same nx ndx kx)) mo fun a ha => s04.free (made_new (fr a ha))⟩⟩

def spLSays (K : PySem.W.Frag) : Sp := fun vs H Q _ => ∃ (t : Addr) (bs : List Bool) (n : Int), vs = [.int n, .ref t] ∧ SqT K H t (bs.map V.bl) ∧ 1 ≤ n.natAbs ∧ n.natAbs ≤ bs.length ∧ Q (.bl (sayB bs n)) H
theorem ok_lsays {f : Addr} {fd : FuncData} {k : Nat} (F : Fun K "_law_says" "_law_says" s_law_says f fd) (m_abs : mg "abs" = none) : FnOk P w K mg base CX0 (k + 1) f fd ["_law_sign", "_law_truths"] (spLSays K) := by
  refine F.ok sc_law_says (fun vs H Q E h => ?_) (fun cdv A outer s H vs Q E hr h => ?_)
  · obtain ⟨t, bs, n, rfl, _⟩ := h
    rfl
  obtain ⟨t, bs, n, rfl, hS, h1, h2, q⟩ := h
  refine ⟨_, (pss_one (ps_ret (pe_cmpR op_eq (pe_ix ix_tup (pv 1) (pe_op op_sub (pe_callB call_abs (by rfl) m_abs (by decide +kernel) (pa_cons (pv 0) pa_nil)) pe_int) (fun _ _ => rfl)) (pe_cmpR op_gt (pv 0) pe_int (nomark _)) (nomark _)))), ?_⟩
  obtain ⟨b, hb, e⟩ := say_at h1 h2
  exact ⟨_, rfl, _, rfl, _, rfl, _, _, rfl, rfl, t, _, _, .bl b, rfl, rfl, hS, hb, _, rfl, _, _, rfl, rfl, rfl, by rw [say_eq, ← e]; exact q⟩
def spClauseIs (K : PySem.W.Frag) : Sp := fun vs H Q _ => ∃ (c t : Addr) (ns : List Int) (bs : List Bool), vs = [.ref c, .ref t] ∧ SqT K H c (ns.map V.int) ∧ SqT K H t (bs.map V.bl) ∧ ns.length ≤ 900 ∧ (∀ n ∈ ns, 1 ≤ n.natAbs ∧ n.natAbs ≤ bs.length) ∧ ∀ H', Same H H' → Q (.bl (ns.any (sayB bs))) H'
theorem ok_clauseis {f : Addr} {fd : FuncData} {k : Nat} (F : Fun K "_law_clause_is" "_law_clause_is" s_law_clause_is f fd) (D_law_says : Df P w K mg base k "_law_says" ["_law_sign", "_law_truths"] (spLSays K)) :
    FnOk P w K mg base CX0 (k + 1) f fd ["_law_clause", "_law_truths"] (spClauseIs K) := by
  refine F.ok sc_law_clause_is (fun vs H Q E h => ?_) (fun cdv A outer s H vs Q E hr h => ?_)
  · obtain ⟨c, t, ns, bs, rfl, _⟩ := h
    rfl
  obtain ⟨c, t, ns, bs, rfl, hc, ht, hl, hn, q⟩ := h
  refine ⟨_, (pss_one (ps_ret (pe_cmpR (op_neD hr.units) (pe_lc (own := [("_law_sign", 2)]) (g := gName 2) (by rfl) sc_law_clause_is.nd (pi_tup (pv 0)) (blkOk_by (by kernel_rfl)) (fun _ _ _ _ _ => (pg_name (i := 2) sc_law_clause_is.nd rfl (.inl rfl))) (fun _ _ _ _ _ => (pts_one (pt_val (pe_df D_law_says hr (by rfl) (pa_cons (pv 2) (pa_cons (pv 1) pa_nil)))))) (fun _ _ _ _ _ => (pv 2))) (pe_lst pa_nil) (nomark _)))), ?_⟩
  refine ⟨_, rfl, c, rfl, ⟨_, hc⟩, fun D nD => lc_tup (xs := ns.map V.int) (fun j H' => Same H H' ∧ H' D = some (.lst (((ns.take j).filter (sayB bs)).map V.int))) ⟨same_new nD, upd_same⟩ (fun j H' _ h => same_tup h.1 hc) ?_ ?_⟩
  · rintro j x H1 ex ⟨s1, e1⟩
    obtain ⟨n, rfl, hin, htk⟩ := at_int ex
    refine ⟨rfl, _, rfl, _, rfl, t, bs, n, rfl, same_tup s1 ht, (hn n hin).1, (hn n hin).2, _, rfl, ite2 (fun z => ?_) (fun z => ?_)⟩
    · refine ⟨_, rfl, _, e1, ?_, ?_, ?_⟩
      · rw [List.length_map]; exact small1000 (Nat.le_trans (List.length_filter_le _ _) (by rw [List.length_take]; omega))
      · exact fun b o hb => by rw [upd_ne (ne_of_none hb nD)]; exact s1 _ _ hb
      · rw [upd_same, htk, List.filter_append, List.map_append, List.filter_cons, z]; rfl
    · refine ⟨s1, ?_⟩
      rw [htk, List.filter_append, List.map_append, e1, List.filter_cons, if_neg z]; simp
  · rintro H1 ⟨s1, e1⟩
    rw [List.length_map, List.take_length] at e1
    refine ⟨(by show 0 ≤ sizeLine; decide), fun l nl => ?_⟩
    have s2 : Same H1 (upd H1 l (.lst [])) := same_new nl
    refine ⟨.list ((ns.filter (sayB bs)).map PyData.int), .list [], .lst (SqL.of (s2 _ _ e1)) (dpInts _), .lst (SqL.of upd_same) .nil, shInts _, shNil, ?_⟩
    rw [eqvNil]
    have : (!decide (ns.filter (sayB bs) = [])) = ns.any (sayB bs) := by
      rw [Bool.eq_iff_iff]; simp
    rw [this]
    exact q _ (s1.trans s2)
def spLWords (K : PySem.W.Frag) : Sp := fun vs H Q _ => ∃ (r : Addr) (S : MS), vs = [.ref r] ∧ SpecAt K H r S ∧ MOk S ∧ ∀ (l : Addr) (ws : List Addr) (H' : Hp), Same H H' → H l = none → H' l = some (.lst (ws.map V.ref)) → TupsV K H' ws ((wordsOf S.b S.i S.pr).map fun f => f.map V.bl) → Q (.ref l) H'
theorem ok_lwords {f : Addr} {fd : FuncData} {k : Nat} (F : Fun K "_law_words" "_law_words" s_law_words f fd) (D_law_all : Df P w K mg base k "_law_all" ["_law_many"] (spLAll K)) (D_law_clause_is : Df P w K mg base k "_law_clause_is" ["_law_clause", "_law_truths"] (spClauseIs K)) :
    FnOk P w K mg base CX0 (k + 1) f fd ["_law_spec_here"] (spLWords K) := by
  refine F.ok sc_law_words (fun vs H Q E h => ?_) (fun cdv A outer s H vs Q E hr h => ?_)
  · obtain ⟨r, S, rfl, _⟩ := h
    rfl
  obtain ⟨r, S, rfl, ⟨G, N, S1, Pm, hR, pa⟩, ok, q⟩ := h
  refine ⟨_, (pss_cons (ps_set (i := 1) sc_law_words.nd rfl (.inl rfl) (pe_lst pa_nil))
       (pss_cons (ps_for PassesOwn.never rfl (pi_list (pe_df D_law_all hr (by rfl) (pa_cons (pe_ix ix_list (pv 0) pe_int (fun _ _ => rfl)) pa_nil))) (pg_name (i := 2) sc_law_words.nd rfl (.inl rfl))
       (pss_cons (ps_set (i := 3) sc_law_words.nd rfl (.inr rfl) (pe_op op_catK (pe_op op_repK (pe_tup (pa_cons pe_bl pa_nil)) (pe_ix ix_list (pv 0) pe_int (fun _ _ => rfl))) (pv 2)))
       (pss_one (ps_if (pt_cmpR (op_eqD hr.units) (pe_lc (own := [("_law_clause", 4)]) (g := gName 4) (by rfl) sc_law_words.nd (pi_list (pe_ix ix_list (pv 0) pe_int (fun _ _ => rfl))) (blkOk_by (by kernel_rfl)) (fun _ _ _ _ _ => (pg_name (i := 4) sc_law_words.nd rfl (.inl rfl))) (fun _ _ _ _ _ => (pts_one (pt_not (pt_val (pe_df D_law_clause_is hr (by rfl) (pa_cons (pv 4) (pa_cons (pv 3) pa_nil))))))) (fun _ _ _ _ _ => (pv 4))) (pe_lst pa_nil) (nomark _))
       (pss_one (ps_expr (pe_bm PySem.F.plainAttrs_list PySem.F.slot_list_append PySem.F.type_list_append mt_append (pv 1) (pa_cons (pv 2) pa_nil))))
       pss_nil))))
       (pss_one (ps_ret (pv 1))))), ?_⟩
  obtain ⟨cs, hS, tt⟩ := pa.pr
  have b10 := ok.b10
  have i4 := ok.i4
  have p8 := ok.p8
  refine ⟨(by show 0 ≤ sizeLine; decide), fun D nD => ?_⟩
  have s0 : Same H (upd H D (.lst [])) := same_new nD
  have eD0 : (upd H D (.lst [])) D = some (.lst []) := upd_same
  generalize (upd H D (.lst [])) = H0 at *
  refine ⟨_, rfl, r, _, 1, .int S.i, rfl, rfl, s0.seq hR, rfl, S.i, rfl, by omega, fun a ts H1 s1 na ea tf => ?_⟩
  have haD : a ≠ D := fun z => by rw [z, eD0] at na; cases na
  have lts : ts.length = 2 ^ S.i := by rw [tf.len, List.length_map, fills_len]
  have p16 : 2 ^ S.i ≤ 16 := Nat.le_trans (Nat.pow_le_pow_right (by decide) i4) (by decide)
  have kt : ∀ {H' : Hp} {t : Addr} {vs : List V}, Kp D H1 H' → SqT K H1 t vs → SqT K H' t vs := fun k q => by
    rcases q with (q | ⟨o, q⟩) | q
    · exact .inl (.inl (k _ _ (ne_of q (s1 _ _ eD0) (by intro z; cases z)) q))
    · exact .inl (.inr ⟨o, k _ _ (ne_of q (s1 _ _ eD0) (by intro z; cases z)) q⟩)
    · exact .inr q
  have sH : ∀ {H' : Hp}, Kp D H1 H' → Same H H' := fun k b o hb => k _ _ (ne_of_none hb nD) (s1 _ _ (s0 _ _ hb))
  refine ⟨a, rfl, ⟨_, SqL.of ea⟩, for_list (xs := ts.map V.ref) (fun j σ' H' => ∃ (y2 y3 y4 : Option V) (ws : List Addr), σ' = [some (.ref r), some (.ref D), y2, y3, y4] ∧ Kp D H1 H' ∧ H' D = some (.lst (ws.map V.ref)) ∧ TupsV K H' ws ((((fills S.i).take j).filter fun w => sayAll (List.replicate S.b false ++ w) S.pr).map fun f => f.map V.bl)) ?_ ?_ ?_ ?_⟩
  · exact ⟨_, _, _, [], rfl, Kp.refl _ _, s1 _ _ eD0, by simpa using TupsV.nil⟩
  · rintro j σ' H' _ ⟨_, _, _, _, _, kX, _⟩
    exact SqL.of (kX _ _ haD ea)
  · rintro j x σ' H2 ex ⟨y2, y3, y4, ws, rfl, k2, eD, tw⟩
    obtain ⟨c, vs, rfl, hc, hvs, hq⟩ := tf.at ex
    obtain ⟨fl, hfl, rfl⟩ : ∃ fl, (fills S.i)[j]? = some fl ∧ fl.map V.bl = vs := by
      rw [List.getElem?_map] at hvs
      cases z : (fills S.i)[j]? with
      | none => rw [z] at hvs; cases hvs
      | some fl => rw [z] at hvs; exact ⟨fl, rfl, Option.some.inj hvs⟩
    have hfll : fl.length = S.i := fills_mem.mp (List.mem_of_getElem? hfl)
    have lws : ws.length ≤ 16 := by
      rw [tw.len, List.length_map]
      refine Nat.le_trans (List.length_filter_le _ _) ?_
      rw [List.length_take, fills_len]; omega
    have hq2 := kt k2 hq
    refine ⟨(by show 1 ≤ sizeLine; decide), fun t0 nt0 => ?_⟩
    have s3 : Same H2 (upd H2 t0 (.tup [.bl false])) := same_new nt0
    refine ⟨_, rfl, r, _, 0, .int S.b, rfl, rfl, s3.seq ((sH k2).seq hR), rfl, t0, S.b, [.bl false], rfl, rfl, SqT.of upd_same, by simp, by omega, by omega, by simp, fun t1 H3 s4 q4 => ?_⟩
    rw [rep_false] at q4
    refine ⟨_, rfl, t1, c, _, _, rfl, rfl, q4, same_tup (s3.trans s4) hq2, small (by simp; omega), fun t2 H4 s5 q5 => ?_⟩
    rw [← List.map_append] at q5
    have s24 : Same H2 H4 := s3.trans (s4.trans s5)
    generalize hbs : List.replicate S.b false ++ fl = bs at q5
    have lbs : bs.length = S.b + S.i := by rw [← hbs]; simp [hfll]
    have s04 : Same H H4 := (sH k2).trans s24
    have hS4 : SqL K H4 Pm (cs.map V.ref) := s04.seq hS
    have tt4 := tt.same s04
    refine ⟨_, rfl, r, _, 5, .ref Pm, rfl, rfl, s04.seq hR, rfl, Pm, rfl, ⟨_, hS4⟩, fun D2 nD2 => lc_list (xs := cs.map V.ref) (fun m H' => Same H4 H' ∧ ∃ (ds : List Addr) (mss : List (List Int)), H' D2 = some (.lst (ds.map V.ref)) ∧ TupsV K H' ds (mss.map fun c => c.map V.int) ∧ mss = (S.pr.take m).filter fun c => !c.any (sayB bs)) ⟨same_new nD2, [], [], upd_same, .nil, rfl⟩ (fun m H' _ h => h.1.seq hS4) ?_ ?_⟩
    · rintro m y H5 hy ⟨s6, ds, mss, e6, td, em⟩
      obtain ⟨cc, vs, rfl, hcc, hvs, hqc⟩ := tt4.at hy
      obtain ⟨ns, hns, rfl⟩ : ∃ ns, S.pr[m]? = some ns ∧ ns.map V.int = vs := by
        rw [List.getElem?_map] at hvs
        cases z : S.pr[m]? with
        | none => rw [z] at hvs; cases hvs
        | some ns => rw [z] at hvs; exact ⟨ns, rfl, Option.some.inj hvs⟩
      have hpr : PrOk S.b S.i ns := ok.pra ns (List.mem_of_getElem? hns)
      have hln := hpr.len
      have tk : S.pr.take (m + 1) = S.pr.take m ++ [ns] := by
        obtain ⟨hlt, e⟩ := List.getElem?_eq_some_iff.mp hns
        rw [List.take_succ_eq_append_getElem hlt, e]
      refine ⟨rfl, _, rfl, _, rfl, cc, t2, ns, bs, rfl, same_tup s6 hqc, same_tup s6 q5, by omega, fun n hn => by have := hpr.2 n hn; omega, fun H6 s7 => ⟨_, rfl, ite2 (fun z => ?_) (fun z => ?_)⟩⟩
      · refine ⟨_, rfl, _, s7 _ _ e6, ?_, ?_, ds ++ [cc], mss ++ [ns], ?_, ?_, ?_⟩
        · rw [List.length_map, td.len, List.length_map, em]
          exact small1000 (Nat.le_trans (List.length_filter_le _ _) (by rw [List.length_take]; omega))
        · exact fun b o hb => by rw [upd_ne (ne_of_none hb nD2)]; exact s7 _ _ (s6 _ _ hb)
        · rw [upd_same, List.map_append]; rfl
        · rw [List.map_append]; exact ((td.same s7).snoc (same_tup s7 (same_tup s6 hqc))).lst (s7 _ _ e6)
        · rw [tk, List.filter_append, ← em, List.filter_cons, z]; rfl
      · refine ⟨s6.trans s7, ds, mss, s7 _ _ e6, td.same s7, ?_⟩
        rw [tk, List.filter_append, ← em, List.filter_cons, if_neg z]; simp
    · rintro H5 ⟨s6, ds, mss, e6, td, em⟩
      rw [List.length_map, tt4.len, List.length_map, List.take_length] at em
      refine ⟨(by show 0 ≤ sizeLine; decide), fun l nl => ?_⟩
      have s7 : Same H5 (upd H5 l (.lst [])) := same_new nl
      refine ⟨.list (mss.map fun (ns : List Int) => PyData.tuple (ns.map PyData.int)), .list [], .lst (SqL.of (s7 _ _ e6)) (TupsI.dp (TupsV.ints.mpr (td.same s7))), .lst (SqL.of upd_same) .nil, shTups _, shNil, _, rfl, ?_⟩
      have key : PyData.eqv (.list (mss.map fun (ns : List Int) => PyData.tuple (ns.map PyData.int))) (.list []) = sayAll bs S.pr := by
        unfold sayAll
        rw [eqvNilD, em, Bool.eq_iff_iff]; simp
      rw [key]
      have s25 : Same H2 (upd H5 l (.lst [])) := s24.trans (s6.trans s7)
      generalize (upd H5 l (.lst [])) = H6 at *
      have eD5 := s25 _ _ eD
      have tk : (fills S.i).take (j + 1) = (fills S.i).take j ++ [fl] := by
        obtain ⟨hlt, e⟩ := List.getElem?_eq_some_iff.mp hfl
        rw [List.take_succ_eq_append_getElem hlt, e]
      refine ite2 (fun z => ?_) (fun z => ?_)
      · refine ⟨_, rfl, .inl ⟨rfl, _, SqL.of eD5⟩, _, rfl, D, _, _, rfl, rfl, eD5, ?_, _, _, _, ws ++ [c], rfl, ?_, ?_, ?_⟩
        · rw [List.length_map]; exact small1000 (by omega)
        · exact fun b' o nb hb' => by rw [upd_ne nb]; exact s25 _ _ (k2 _ _ nb hb')
        · rw [upd_same, List.map_append]; rfl
        · rw [tk, List.filter_append, List.map_append, List.filter_cons, hbs, z]
          exact ((tw.same s25).snoc (same_tup s25 hq2)).lst eD5
      · refine ⟨_, _, _, ws, rfl, fun b' o nb hb' => s25 _ _ (k2 _ _ nb hb'), eD5, ?_⟩
        rw [tk, List.filter_append, List.filter_cons, hbs, if_neg z]
        simpa using tw.same s25
  · rintro σ' H2 ⟨y2, y3, y4, ws, rfl, k2, eD, tw⟩
    rw [List.length_map, lts, List.take_of_length_le (by rw [fills_len]; exact Nat.le_refl _)] at tw
    exact ⟨_, rfl, q D ws H2 (sH k2) nD eD tw⟩

def spLBegins (K : PySem.W.Frag) : Sp := fun vs H Q _ => ∃ (r : Addr) (S : MS), vs = [.ref r] ∧ SpecAt K H r S ∧ MOk S ∧ S.b ≤ 6 ∧ ∀ (l : Addr) (ws : List Addr) (H' : Hp), Same H H' → H l = none → H' l = some (.lst (ws.map V.ref)) → TupsV K H' ws ((begOf S).map fun f => f.map V.bl) → Q (.ref l) H'
theorem ok_lbegins {f : Addr} {fd : FuncData} {k : Nat} (F : Fun K "_law_begins" "_law_begins" s_law_begins f fd) (D_law_all : Df P w K mg base k "_law_all" ["_law_many"] (spLAll K)) (D_law_says : Df P w K mg base k "_law_says" ["_law_sign", "_law_truths"] (spLSays K)) :
    FnOk P w K mg base CX0 (k + 1) f fd ["_law_spec_here"] (spLBegins K) := by
  refine F.ok sc_law_begins (fun vs H Q E h => ?_) (fun cdv A outer s H vs Q E hr h => ?_)
  · obtain ⟨r, S, rfl, _⟩ := h
    rfl
  obtain ⟨r, S, rfl, ⟨G, N, S1, Pm, hR, pa⟩, ok, b6, q⟩ := h
  refine ⟨_, (pss_cons (ps_set (i := 1) sc_law_begins.nd rfl (.inl rfl) (pe_lst pa_nil))
       (pss_cons (ps_for PassesOwn.never rfl (pi_list (pe_df D_law_all hr (by rfl) (pa_cons (pe_ix ix_list (pv 0) pe_int (fun _ _ => rfl)) pa_nil))) (pg_name (i := 2) sc_law_begins.nd rfl (.inr rfl))
       (pss_one (ps_if (pt_cmpR (op_eqD hr.units) (pe_lc (own := [("_law_sign", 3)]) (g := gName 3) (by rfl) sc_law_begins.nd (pi_list (pe_ix ix_list (pv 0) pe_int (fun _ _ => rfl))) (blkOk_by (by kernel_rfl)) (fun _ _ _ _ _ => (pg_name (i := 3) sc_law_begins.nd rfl (.inl rfl))) (fun _ _ _ _ _ => (pts_one (pt_not (pt_val (pe_df D_law_says hr (by rfl) (pa_cons (pv 3) (pa_cons (pv 2) pa_nil))))))) (fun _ _ _ _ _ => (pv 3))) (pe_lst pa_nil) (nomark _))
       (pss_one (ps_expr (pe_bm PySem.F.plainAttrs_list PySem.F.slot_list_append PySem.F.type_list_append mt_append (pv 1) (pa_cons (pv 2) pa_nil))))
       pss_nil)))
       (pss_one (ps_ret (pv 1))))), ?_⟩
  have hS : SqL K H S1 (S.st.map V.int) := pa.st
  have stl := ok.stl
  refine ⟨(by show 0 ≤ sizeLine; decide), fun D nD => ?_⟩
  have s0 : Same H (upd H D (.lst [])) := same_new nD
  have eD0 : (upd H D (.lst [])) D = some (.lst []) := upd_same
  generalize (upd H D (.lst [])) = H0 at *
  refine ⟨_, rfl, r, _, 0, .int S.b, rfl, rfl, s0.seq hR, rfl, S.b, rfl, by omega, fun a ts H1 s1 na ea tf => ?_⟩
  have haD : a ≠ D := fun z => by rw [z, eD0] at na; cases na
  have lts : ts.length = 2 ^ S.b := by rw [tf.len, List.length_map, fills_len]
  have p16 : 2 ^ S.b ≤ 64 := Nat.le_trans (Nat.pow_le_pow_right (by decide) b6) (by decide)
  have kt : ∀ {H' : Hp} {t : Addr} {vs : List V}, Kp D H1 H' → SqT K H1 t vs → SqT K H' t vs := fun k q => by
    rcases q with (q | ⟨o, q⟩) | q
    · exact .inl (.inl (k _ _ (ne_of q (s1 _ _ eD0) (by intro z; cases z)) q))
    · exact .inl (.inr ⟨o, k _ _ (ne_of q (s1 _ _ eD0) (by intro z; cases z)) q⟩)
    · exact .inr q
  have sH : ∀ {H' : Hp}, Kp D H1 H' → Same H H' := fun k b o hb => k _ _ (ne_of_none hb nD) (s1 _ _ (s0 _ _ hb))
  refine ⟨a, rfl, ⟨_, SqL.of ea⟩, for_list (xs := ts.map V.ref) (fun j σ' H' => ∃ (y2 y3 : Option V) (ws : List Addr), σ' = [some (.ref r), some (.ref D), y2, y3] ∧ Kp D H1 H' ∧ H' D = some (.lst (ws.map V.ref)) ∧ TupsV K H' ws ((((fills S.b).take j).filter fun f => S.st.all (sayB f)).map fun f => f.map V.bl)) ?_ ?_ ?_ ?_⟩
  · exact ⟨_, _, [], rfl, Kp.refl _ _, s1 _ _ eD0, by simpa using TupsV.nil⟩
  · rintro j σ' H' _ ⟨_, _, _, _, kX, _⟩
    exact SqL.of (kX _ _ haD ea)
  · rintro j x σ' H2 ex ⟨y2, y3, ws, rfl, k2, eD, tw⟩
    obtain ⟨c, vs, rfl, hc, hvs, hq⟩ := tf.at ex
    obtain ⟨fl, hfl, rfl⟩ : ∃ fl, (fills S.b)[j]? = some fl ∧ fl.map V.bl = vs := by
      rw [List.getElem?_map] at hvs
      cases z : (fills S.b)[j]? with
      | none => rw [z] at hvs; cases hvs
      | some fl => rw [z] at hvs; exact ⟨fl, rfl, Option.some.inj hvs⟩
    have hfll : fl.length = S.b := fills_mem.mp (List.mem_of_getElem? hfl)
    have lws : ws.length ≤ 64 := by
      rw [tw.len, List.length_map]
      refine Nat.le_trans (List.length_filter_le _ _) ?_
      rw [List.length_take, fills_len]; omega
    have hq2 := kt k2 hq
    have s04 : Same H H2 := sH k2
    have hS4 := s04.seq hS
    refine ⟨_, rfl, r, _, 4, .ref S1, rfl, rfl, s04.seq hR, rfl, S1, rfl, ⟨_, hS4⟩, fun D2 nD2 => lc_list (xs := S.st.map V.int) (fun m H' => Same H2 H' ∧ H' D2 = some (.lst (((S.st.take m).filter fun n => !sayB fl n).map V.int))) ⟨same_new nD2, upd_same⟩ (fun m H' _ h => h.1.seq hS4) ?_ ?_⟩
    · rintro m y H5 hy ⟨s6, e6⟩
      obtain ⟨n, rfl, hin, htk⟩ := at_int hy
      obtain ⟨n0, nb⟩ := ok.sta n hin
      refine ⟨rfl, _, rfl, _, rfl, c, fl, n, rfl, same_tup s6 hq2, by omega, by omega, _, rfl, ite2 (fun z => ?_) (fun z => ?_)⟩
      · refine ⟨_, rfl, _, e6, ?_, ?_, ?_⟩
        · rw [List.length_map]; exact small1000 (Nat.le_trans (List.length_filter_le _ _) (by rw [List.length_take]; omega))
        · exact fun b o hb => by rw [upd_ne (ne_of_none hb nD2)]; exact s6 _ _ hb
        · rw [upd_same, htk, List.filter_append, List.map_append, List.filter_cons, z]; rfl
      · refine ⟨s6, ?_⟩
        rw [htk, List.filter_append, List.map_append, e6, List.filter_cons, if_neg z]; simp
    · rintro H5 ⟨s6, e6⟩
      rw [List.length_map, List.take_length] at e6
      refine ⟨(by show 0 ≤ sizeLine; decide), fun l nl => ?_⟩
      have s7 : Same H5 (upd H5 l (.lst [])) := same_new nl
      refine ⟨.list ((S.st.filter fun n => !sayB fl n).map PyData.int), .list [], .lst (SqL.of (s7 _ _ e6)) (dpInts _), .lst (SqL.of upd_same) .nil, shInts _, shNil, _, rfl, ?_⟩
      have key : PyData.eqv (.list ((S.st.filter fun n => !sayB fl n).map PyData.int)) (.list []) = S.st.all (sayB fl) := by
        rw [eqvNil, Bool.eq_iff_iff]; simp
      rw [key]
      have s25 : Same H2 (upd H5 l (.lst [])) := s6.trans s7
      generalize (upd H5 l (.lst [])) = H6 at *
      have eD5 := s25 _ _ eD
      have tk : (fills S.b).take (j + 1) = (fills S.b).take j ++ [fl] := by
        obtain ⟨hlt, e⟩ := List.getElem?_eq_some_iff.mp hfl
        rw [List.take_succ_eq_append_getElem hlt, e]
      refine ite2 (fun z => ?_) (fun z => ?_)
      · refine ⟨_, rfl, .inl ⟨rfl, _, SqL.of eD5⟩, _, rfl, D, _, _, rfl, rfl, eD5, ?_, _, _, ws ++ [c], rfl, ?_, ?_, ?_⟩
        · rw [List.length_map]; exact small1000 (by omega)
        · exact fun b' o nb hb' => by rw [upd_ne nb]; exact s25 _ _ (k2 _ _ nb hb')
        · rw [upd_same, List.map_append]; rfl
        · rw [tk, List.filter_append, List.map_append, List.filter_cons, z]
          exact ((tw.same s25).snoc (same_tup s25 hq2)).lst eD5
      · refine ⟨_, _, ws, rfl, fun b' o nb hb' => s25 _ _ (k2 _ _ nb hb'), eD5, ?_⟩
        rw [tk, List.filter_append, List.filter_cons, if_neg z]
        simpa using tw.same s25
  · rintro σ' H2 ⟨y2, y3, ws, rfl, k2, eD, tw⟩
    rw [List.length_map, lts, List.take_of_length_le (by rw [fills_len]; exact Nat.le_refl _)] at tw
    exact ⟨_, rfl, q D ws H2 (sH k2) nD eD tw⟩


end
end K21
namespace K21
open PySem PySem.Spec PyProof.Rows L2 KL
section
variable {P : Program} {w : World} {K : PySem.W.Frag} {mg : Str → Option Value} {base : Heap}
theorem machIns {C : Addr} {H : Hp} {m : Addr} {S : MS} (h : MachAt K C H m S) : ∃ dx fs, H m = some (.ins C dx fs) ∧ ∀ f : Str, (∀ g ∈ (["things", "promise_list", "start_signs", "next_signs", "gate_list", "input_count", "box_count", "coming"] : List Str), ¬ f = g) → fs.lookup f = none :=
  let ⟨_, ⟨dx, _, _, _, _, _, _, _, _, _, _, em, _⟩⟩ := h; ⟨dx, _, em, fun _ hf => mF_no hf⟩
/-! ### a beat: the filling of a stand and a word -/
theorem ok_saysL {f : Addr} {fd : FuncData} {k : Nat} (F : Fun K "says" "says" s_says f fd) (m_abs : mg "abs" = none) : FnOk P w K mg base CX0 (k + 1) f fd ["filling", "sign"] (fun vs H Q _ => ∃ (t : Addr) (bs : List Bool) (n : Int), vs = [.ref t, .int n] ∧ SqL K H t (bs.map V.bl) ∧ 1 ≤ n.natAbs ∧ n.natAbs ≤ bs.length ∧ Q (.bl (sayB bs n)) H) := by
  refine F.ok sc_says (fun vs H Q E h => ?_) (fun cdv A outer s H vs Q E hr h => ?_)
  · obtain ⟨t, bs, n, rfl, _⟩ := h
    rfl
  obtain ⟨t, bs, n, rfl, hS, h1, h2, q⟩ := h
  refine ⟨_, (pss_one (ps_ret (pe_cmpR op_eq (pe_ix ix_list (pv 0) (pe_op op_sub (pe_callB call_abs (by rfl) m_abs (by decide +kernel) (pa_cons (pv 1) pa_nil)) pe_int) (fun _ _ => rfl)) (pe_cmpR op_gt (pv 1) pe_int (nomark _)) (nomark _)))), ?_⟩
  obtain ⟨b, hb, e⟩ := say_at h1 h2
  exact ⟨_, rfl, _, rfl, _, rfl, _, _, rfl, rfl, t, _, _, .bl b, rfl, rfl, hS, hb, _, rfl, _, _, rfl, rfl, rfl, by rw [say_eq, ← e]; exact q⟩
def spSaysL (K : PySem.W.Frag) : Sp := fun vs H Q _ => ∃ (t : Addr) (bs : List Bool) (n : Int), vs = [.ref t, .int n] ∧ SqL K H t (bs.map V.bl) ∧ 1 ≤ n.natAbs ∧ n.natAbs ≤ bs.length ∧ Q (.bl (sayB bs n)) H
/-- what a gate tells -/
def gateF (wd : Str) (b c : Bool) : Bool := if wd = Str.ofString "and" then b && c else if wd = Str.ofString "or" then b || c else b != c
def spReck (wd : Str) : Sp := fun vs H Q _ => ∃ b c : Bool, vs = [.bl b, .bl c] ∧ Q (.bl (gateF wd b c)) H
theorem ok_both {f : Addr} {fd : FuncData} {k : Nat} (F : Fun K "both" "both" s_both f fd) : FnOk P w K mg base CX0 (k + 1) f fd ["one", "other"] (spReck "and") := by
  refine F.ok sc_both (fun vs H Q E h => ?_) (fun cdv A outer s H vs Q E hr h => ?_)
  · obtain ⟨b, c, rfl, _⟩ := h
    rfl
  obtain ⟨b, c, rfl, q⟩ := h
  refine ⟨_, (pss_one (ps_ret (pe_and (pv 0) (pe_one (pv 1))))), ?_⟩
  cases b
  · exact ⟨_, rfl, _, rfl, iteF q⟩
  · exact ⟨_, rfl, _, rfl, iteT ⟨_, rfl, by cases c <;> exact q⟩⟩
theorem ok_either {f : Addr} {fd : FuncData} {k : Nat} (F : Fun K "either" "either" s_either f fd) : FnOk P w K mg base CX0 (k + 1) f fd ["one", "other"] (spReck "or") := by
  refine F.ok sc_either (fun vs H Q E h => ?_) (fun cdv A outer s H vs Q E hr h => ?_)
  · obtain ⟨b, c, rfl, _⟩ := h
    rfl
  obtain ⟨b, c, rfl, q⟩ := h
  refine ⟨_, (pss_one (ps_ret (pe_or (pv 0) (pe_one (pv 1))))), ?_⟩
  cases b
  · exact ⟨_, rfl, _, rfl, iteF ⟨_, rfl, by cases c <;> exact q⟩⟩
  · exact ⟨_, rfl, _, rfl, iteT q⟩
theorem ok_justone {f : Addr} {fd : FuncData} {k : Nat} (F : Fun K "just_one" "just_one" s_just_one f fd) : FnOk P w K mg base CX0 (k + 1) f fd ["one", "other"] (spReck "odd") := by
  refine F.ok sc_just_one (fun vs H Q E h => ?_) (fun cdv A outer s H vs Q E hr h => ?_)
  · obtain ⟨b, c, rfl, _⟩ := h
    rfl
  obtain ⟨b, c, rfl, q⟩ := h
  refine ⟨_, (pss_one (ps_ret (pe_cmpR op_ne (pv 0) (pv 1) (nomark _)))), ?_⟩
  refine ⟨_, rfl, _, rfl, rfl, ?_⟩
  cases b <;> cases c <;> exact q
def fillOf (gs : List (Str × Int × Int)) (ts : List Bool) : List Bool := gs.foldl (fun ts g => ts ++ [gateF g.1 (sayB ts g.2.1) (sayB ts g.2.2)]) ts
theorem fillOf_len (gs : List (Str × Int × Int)) : ∀ ts : List Bool, (fillOf gs ts).length = ts.length + gs.length := by
  induction gs with
  | nil => intro ts; rfl
  | cons g gs ih =>
    intro ts
    show (fillOf gs (ts ++ [_])).length = _
    rw [ih, List.length_append, List.length_cons]; simp; omega
theorem fillOf_snoc (gs : List (Str × Int × Int)) (g : Str × Int × Int) (ts : List Bool) : fillOf (gs ++ [g]) ts = fillOf gs ts ++ [gateF g.1 (sayB (fillOf gs ts) g.2.1) (sayB (fillOf gs ts) g.2.2)] := by
  unfold fillOf; rw [List.foldl_append]; rfl
def spFilling (C : Addr) (K : PySem.W.Frag) : Sp := fun vs H Q _ => ∃ (m ts tw : Addr) (S : MS) (bs ws : List Bool), vs = [.ref m, .ref ts, .ref tw] ∧ MachAt K C H m S ∧ MOk S ∧ SqT K H ts (bs.map V.bl) ∧ SqT K H tw (ws.map V.bl) ∧ bs.length = S.b ∧ ws ∈ wordsOf S.b S.i S.pr ∧
  ∀ (r : Addr) (H' : Hp), Same H H' → H r = none → H' r = some (.tup ((fillOf S.gs (bs ++ ws)).map V.bl)) → Q (.ref r) H'
theorem fillB_ok {bs : List Bool} {n : Nat} (h : bs.length = n) : fillB (.tuple (bs.map PyData.bool)) n = true := by
  unfold fillB
  show (decide ((bs.map PyData.bool).length = n) && (bs.map PyData.bool).all isB) = true
  rw [List.length_map, decide_eq_true h, List.all_map]
  exact List.all_eq_true.mpr fun _ _ => rfl
theorem ok_filling {f C R_RECK : Addr} {fd : FuncData} {k : Nat} {RS : Addr → Option Sp} (F : Fun K "filling" "Machine.filling" s_Machine_filling f fd) (T : MTxt K C) (D_is_filling : Df P w K mg base k "is_filling" ["thing", "many"] (spIsFill K)) (DM_is_word : Dm P w K mg base k C "is_word" ["self", "thing"] (spIsWord C K))
    (D_saysL : Df P w K mg base k "says" ["filling", "sign"] (spSaysL K)) (A_reck : ∀ f sp, RS f = some sp → Held P w K mg base k f sp) (g_RECK : mg "RECKONINGS" = some (.ref R_RECK)) (hRS : ∀ wd, isWord wd → ∃ f, KDct K w R_RECK wd (.ref f) ∧ RS f = some (spReck wd)) (m_tuple : mg "tuple" = none) :
    FnOk P w K mg base CX0 (k + 1) f fd ["self", "stand", "word"] (spFilling C K) := by
  refine F.ok sc_Machine_filling (fun vs H Q E h => ?_) (fun cdv A outer s H vs Q E hr h => ?_)
  · obtain ⟨m, ts, tw, S, bs, ws, rfl, _⟩ := h
    rfl
  obtain ⟨m, ts, tw, S, bs, ws, rfl, ma, ok, hT, hW, hb, hw, q⟩ := h
  refine ⟨_, (pss_cons (ps_if (pt_not (pt_val (pe_df D_is_filling hr (by rfl) (pa_cons (pv 1) (pa_cons (pe_fld (pv 0) rfl) pa_nil)))))
       (pss_one ps_never)
       pss_nil)
       (pss_cons (ps_if (pt_not (pt_val (pe_dm DM_is_word hr (pv 0) (pa_cons (pv 2) pa_nil))))
       (pss_one ps_never)
       pss_nil)
       (pss_cons (ps_set (i := 3) sc_Machine_filling.nd rfl (.inl rfl) (pe_lst (StX.pa_star (pv 1) (StX.pa_star (pv 2) pa_nil))))
       (pss_cons (ps_for PassesOwn.never rfl (pi_list (pe_fld (pv 0) rfl)) (pg_tup rfl (pgs_cons (pg_name (i := 4) sc_Machine_filling.nd rfl (.inl rfl)) (pgs_cons (pg_name (i := 5) sc_Machine_filling.nd rfl (.inl rfl)) (pgs_cons (pg_name (i := 6) sc_Machine_filling.nd rfl (.inl rfl)) pgs_nil))))
       (pss_cons (ps_set (i := 7) sc_Machine_filling.nd rfl (.inl rfl) (pe_ix ix_kdict (pe_glob (v := .ref R_RECK) (by rfl) g_RECK rfl) (pv 4) (fun _ _ => rfl)))
       (pss_one (ps_expr (pe_bm PySem.F.plainAttrs_list PySem.F.slot_list_append PySem.F.type_list_append mt_append (pv 3) (pa_cons (pe_callA (i := 7) (S := RS) A_reck hr rfl (.inl rfl) (pa_cons (pe_df D_saysL hr (by rfl) (pa_cons (pv 3) (pa_cons (pv 5) pa_nil))) (pa_cons (pe_df D_saysL hr (by rfl) (pa_cons (pv 3) (pa_cons (pv 6) pa_nil))) pa_nil))) pa_nil))))))
       (pss_one (ps_ret (pe_callTy call_tuple_of (by rfl) m_tuple (by decide +kernel) (pa_cons (pv 3) pa_nil)))))))), ?_⟩
  obtain ⟨own, ⟨dx, co, gl, nl, sl, pl, th, wa, ga, ca, e0, em, eco, tw', egl, tg, rest⟩⟩ := id ma
  have lw := words_mem hw
  have b10 := ok.b10
  have i4 := ok.i4
  have g24 := ok.g24
  refine ⟨_, rfl, _, rfl, m, C, dx, _, _, rfl, em, T.cl, T.nBo, mF_box, .ref ts, .tuple (bs.map PyData.bool), S.b, rfl, .inl (.tup hT (dpBools bs)), (fun ds e => by cases e; rw [List.length_map]; omega), fun H1 s1 => ⟨_, rfl, ?_⟩⟩
  rw [fillB_ok hb]
  refine iteF ?_
  have ma1 := ma.same s1
  obtain ⟨dx1, fs1, em1, hno1⟩ := machIns ma1
  have wb : wordB S (.tuple (ws.map PyData.bool)) = true := wordB_iff.mpr ⟨ws, hw, rfl⟩
  refine ⟨_, rfl, m, dx1, fs1, rfl, em1, hno1 _ (by decide +kernel), _, rfl, m, S, .ref tw, .tuple (ws.map PyData.bool), rfl, ma1, i4, .inl (.tup (same_tup s1 hW) (dpBools ws)), (fun ds e => by cases e; rw [List.length_map]; omega), fun H2 s2 => ⟨_, rfl, ?_⟩⟩
  rw [wb]
  refine iteF ?_
  have s02 := s1.trans s2
  have key : HO.lst (bs.map V.bl ++ (ws.map V.bl ++ [])) = HO.lst ((fillOf (S.gs.take 0) (bs ++ ws)).map V.bl) := by rw [List.append_nil, ← List.map_append]; rfl
  refine ⟨_, rfl, ts, bs.map V.bl, rfl, .inl (same_tup s02 hT), _, rfl, tw, ws.map V.bl, rfl, .inl (same_tup s02 hW), ?_, fun t nt => ?_⟩
  · rw [List.append_nil, List.length_append, List.length_map, List.length_map]; exact Nat.le_of_lt (small1000 (by omega))
  rw [key]
  have s3 : Same H2 (upd H2 t (.lst ((fillOf (S.gs.take 0) (bs ++ ws)).map V.bl))) := same_new nt
  have et : (upd H2 t (.lst ((fillOf (S.gs.take 0) (bs ++ ws)).map V.bl))) t = some (.lst ((fillOf (S.gs.take 0) (bs ++ ws)).map V.bl)) := upd_same
  generalize (upd H2 t (.lst ((fillOf (S.gs.take 0) (bs ++ ws)).map V.bl))) = H3 at *
  have s03 := s02.trans s3
  have ntH : H t = none := s02.free nt
  have lga : (ga.map V.ref).length = S.gs.length := by rw [List.length_map, tg.len, List.length_map]
  refine ⟨_, rfl, m, C, dx, _, _, rfl, s03 _ _ em, T.cl, T.nGa, mF_gate, gl, rfl, ⟨_, SqL.of (s03 _ _ egl)⟩, for_list (xs := ga.map V.ref) (fun j σ' H' => ∃ y4 y5 y6 y7 : Option V, σ' = [some (.ref m), some (.ref ts), some (.ref tw), some (.ref t), y4, y5, y6, y7] ∧ Same H H' ∧ H' t = some (.lst ((fillOf (S.gs.take j) (bs ++ ws)).map V.bl))) ?_ ?_ ?_ ?_⟩
  · exact ⟨_, _, _, _, rfl, s03, et⟩
  · rintro j σ' H' _ ⟨_, _, _, _, _, sX, _⟩
    exact SqL.of (sX _ _ egl)
  · rintro j x σ' H4 ex ⟨y4, y5, y6, y7, rfl, s4, e4⟩
    obtain ⟨ta, vs, rfl, _, hvs, hq⟩ := tg.at ex
    have hjl : j < S.gs.length := by
      have := (List.getElem?_eq_some_iff.mp ex).1
      rw [lga] at this; exact this
    have hg : S.gs[j]? = some S.gs[j] := List.getElem?_eq_getElem hjl
    rw [List.getElem?_map, hg] at hvs
    obtain rfl := Option.some.inj hvs
    obtain ⟨hwd, sg1, sg2⟩ := ok.ga j _ hg
    have lf : (fillOf (S.gs.take j) (bs ++ ws)).length = S.b + S.i + j := by rw [fillOf_len, List.length_append, hb, lw, List.length_take]; omega
    have tk : S.gs.take (j + 1) = S.gs.take j ++ [S.gs[j]] := List.take_succ_eq_append_getElem hjl
    have fin := fillOf_snoc (S.gs.take j) S.gs[j] (bs ++ ws)
    rw [← tk] at fin
    generalize S.gs[j] = g at *
    obtain ⟨wd, n1, n2⟩ := g
    obtain ⟨fr, kd, hRf⟩ := hRS wd hwd
    generalize fillOf (S.gs.take j) (bs ++ ws) = fl at *
    have hq4 : SqT K H4 ta [.str wd, .int n1, .int n2] := same_tup s4 hq
    refine ⟨ta, _, rfl, hq4, rfl, _, _, rfl, _, _, rfl, _, _, rfl, rfl, ?_⟩
    refine ⟨_, rfl, R_RECK, wd, .ref fr, rfl, rfl, kd, ?_⟩
    have sg1 : Sgn n1 (S.b + S.i + j) := sg1
    have sg2 : Sgn n2 (S.b + S.i + j) := sg2
    have n1b : 1 ≤ n1.natAbs ∧ n1.natAbs ≤ fl.length := ⟨by have := sg1.1; omega, by have := sg1.2; omega⟩
    have n2b : 1 ≤ n2.natAbs ∧ n2.natAbs ≤ fl.length := ⟨by have := sg2.1; omega, by have := sg2.2; omega⟩
    refine ⟨_, rfl, .inl ⟨rfl, _, SqL.of e4⟩, fr, spReck wd, rfl, hRf, _, rfl, _, rfl, t, fl, n1, rfl, SqL.of e4, n1b.1, n1b.2, _, rfl, _, rfl, t, fl, n2, rfl, SqL.of e4, n2b.1, n2b.2, _, _, rfl, t, _, _, rfl, rfl, e4, ?_, _, _, _, _, rfl, ?_, ?_⟩
    · rw [List.length_map, lf]; exact small1000 (by omega)
    · exact fun b o hb => by rw [upd_ne (ne_of_none hb ntH)]; exact s4 _ _ hb
    · rw [upd_same, fin, List.map_append]; rfl
  rintro σ' H4 ⟨y4, y5, y6, y7, rfl, s4, e4⟩
  rw [lga, List.take_length] at e4
  refine ⟨_, rfl, t, _, rfl, .inl ⟨SqL.of e4, fun r nr => q r _ (s4.trans (same_new nr)) (s4.free nr) upd_same⟩⟩
def spBeat (C : Addr) (K : PySem.W.Frag) : Sp := fun vs H Q _ => ∃ (m ts tw : Addr) (S : MS) (bs ws : List Bool), vs = [.ref m, .ref ts, .ref tw] ∧ MachAt K C H m S ∧ MOk S ∧ SqT K H ts (bs.map V.bl) ∧ SqT K H tw (ws.map V.bl) ∧ bs.length = S.b ∧ ws ∈ wordsOf S.b S.i S.pr ∧
  ∀ (r : Addr) (H' : Hp), Same H H' → H r = none → H' r = some (.tup ((S.nx.map (sayB (fillOf S.gs (bs ++ ws)))).map V.bl)) → Q (.ref r) H'
theorem ok_beat {f C : Addr} {fd : FuncData} {k : Nat} (F : Fun K "behind" "Machine.behind" s_Machine_behind f fd) (T : MTxt K C) (DM_filling : Dm P w K mg base k C "filling" ["self", "stand", "word"] (spFilling C K)) (D_says : Df P w K mg base k "says" ["filling", "sign"] (spSays K)) (m_tuple : mg "tuple" = none) :
    FnOk P w K mg base CX0 (k + 1) f fd ["self", "stand", "word"] (spBeat C K) := by
  refine F.ok sc_Machine_behind (fun vs H Q E h => ?_) (fun cdv A outer s H vs Q E hr h => ?_)
  · obtain ⟨m, ts, tw, S, bs, ws, rfl, _⟩ := h
    rfl
  obtain ⟨m, ts, tw, S, bs, ws, rfl, ma, ok, hT, hW, hb, hw, q⟩ := h
  refine ⟨_, (pss_cons (ps_set (i := 3) sc_Machine_behind.nd rfl (.inr rfl) (pe_dm DM_filling hr (pv 0) (pa_cons (pv 1) (pa_cons (pv 2) pa_nil))))
       (pss_one (ps_ret (pe_callTy call_tuple_of (by rfl) m_tuple (by decide +kernel) (pa_cons (pe_lc (own := [("sign", 4)]) (g := gName 4) (tt := tYes) (by rfl) sc_Machine_behind.nd (pi_list (pe_fld (pv 0) rfl)) (blkOk_by (by kernel_rfl)) (fun _ _ _ _ _ => (pg_name (i := 4) sc_Machine_behind.nd rfl (.inl rfl))) (fun _ _ _ _ _ => pts_nil) (fun _ _ _ _ _ => (pe_df D_says hr (by rfl) (pa_cons (pv 3) (pa_cons (pv 4) pa_nil))))) pa_nil))))), ?_⟩
  obtain ⟨own, ⟨dx, co, gl, nl, sl, pl, th, wa, ga, ca, e0, em, eco, tw', egl, tg, enl, rest⟩⟩ := id ma
  obtain ⟨dx1, fs1, em1, hno1⟩ := machIns ma
  have lw := words_mem hw
  have b10 := ok.b10
  have nxl := ok.nxl
  refine ⟨_, rfl, m, dx1, fs1, rfl, em1, hno1 _ (by decide +kernel), _, rfl, _, rfl, m, ts, tw, S, bs, ws, rfl, ma, ok, hT, hW, hb, hw, fun r1 H1 s1 n1 e1 => ?_⟩
  have lf : (fillOf S.gs (bs ++ ws)).length = S.b + S.i + S.gs.length := by rw [fillOf_len, List.length_append, hb, lw]
  generalize fillOf S.gs (bs ++ ws) = fl at *
  refine ⟨_, rfl, m, C, dx, _, _, rfl, s1 _ _ em, T.cl, T.nNx, mF_next, nl, rfl, ⟨_, SqL.of (s1 _ _ enl)⟩, fun D nD => lc_list (xs := S.nx.map V.int) (fun j H' => Same H1 H' ∧ H' D = some (.lst (((S.nx.take j).map (sayB fl)).map V.bl))) ⟨same_new nD, upd_same⟩ (fun j H' _ h => SqL.of (h.1 _ _ (s1 _ _ enl))) ?_ ?_⟩
  · rintro j x H2 ex ⟨s2, e2⟩
    obtain ⟨n, rfl, hn, htk⟩ := at_int ex
    have sg := ok.nxa n hn
    refine ⟨rfl, _, rfl, _, rfl, r1, fl, n, rfl, SqT.of (s2 _ _ e1), (by have := sg.1; omega), (by rw [lf]; exact sg.2), _, e2, ?_, ?_, ?_⟩
    · rw [List.length_map, List.length_map, List.length_take]; exact small1000 (by omega)
    · exact fun b o hb => by rw [upd_ne (ne_of_none hb nD)]; exact s2 _ _ hb
    · rw [upd_same, htk, List.map_append, List.map_append]; rfl
  rintro H2 ⟨s2, e2⟩
  rw [List.length_map, List.take_length] at e2
  have s02 := s1.trans s2
  refine ⟨D, _, rfl, .inl ⟨SqL.of e2, fun r nr => q r _ (s02.trans (same_new nr)) (s02.free nr) upd_same⟩⟩

end
end K21
namespace K21
open PySem PySem.Spec PyProof.Rows L2 KL
section
variable {P : Program} {w : World} {K : PySem.W.Frag} {mg : Str → Option Value} {base : Heap}
/-! ### is it a run -/
theorem fillB_is {d : PyData} {n : Nat} (h : fillB d n = true) : ∃ bs : List Bool, d = .tuple (bs.map PyData.bool) ∧ bs.length = n := by
  obtain ⟨ds, rfl⟩ : ∃ ds, d = .tuple ds := by
    cases d with
    | tuple ds => exact ⟨ds, rfl⟩
    | _ => exact absurd h Bool.false_ne_true
  obtain ⟨z1, z2⟩ := Bool.and_eq_true_iff.mp (show (decide (ds.length = n) && ds.all isB) = true from h)
  obtain ⟨bs, rfl⟩ := all_bools z2
  exact ⟨bs, rfl, by have := of_decide_eq_true z1; rwa [List.length_map] at this⟩
theorem bools_inj : ∀ {f g : List Bool}, f.map PyData.bool = g.map PyData.bool → f = g
  | [], [], _ => rfl
  | [], _ :: _, h => by cases h
  | _ :: _, [], h => by cases h
  | a :: f, b :: g, h => by
    rw [List.map_cons, List.map_cons] at h
    obtain ⟨h1, h2⟩ := List.cons.inj h
    cases h1
    rw [bools_inj h2]
open Classical in
noncomputable def begB (S : MS) (d : PyData) : Bool := decide (∃ f ∈ begOf S, d = .tuple (f.map PyData.bool))
open Classical in
theorem begB_iff {S : MS} {d : PyData} : begB S d = true ↔ ∃ f ∈ begOf S, d = .tuple (f.map PyData.bool) := by unfold begB; exact decide_eq_true_iff
theorem begB_of {S : MS} {f : List Bool} (h : f.length = S.b) : begB S (.tuple (f.map PyData.bool)) = S.st.all (sayB f) := by
  rw [Bool.eq_iff_iff, begB_iff]
  constructor
  · rintro ⟨g, hg, e⟩
    obtain rfl := bools_inj (PyData.tuple.inj e)
    exact (List.mem_filter.mp hg).2
  · exact fun z => ⟨f, List.mem_filter.mpr ⟨fills_mem.mpr h, z⟩, rfl⟩
noncomputable def wordsB (S : MS) (d : PyData) (most : Int) : Bool := match d with
  | .list ws => decide ((ws.length : Int) ≤ most) && ws.all (wordB S)
  | _ => false
noncomputable def runB (S : MS) (d : PyData) : Bool := match d with
  | .tuple [a, .list ws] => begB S a && wordsB S (.list ws) 2000 && decide (0 < ws.length)
  | _ => false
/-- a thing that may be handed in -/
def Tg (K : PySem.W.Frag) (H : Hp) (x : V) (d : PyData) : Prop := (Dp K H x d ∨ ∃ a kvs, x = .ref a ∧ H a = some (.dK kvs) ∧ d = .none) ∧ Sm d
theorem Tg.same {H H' : Hp} {x : V} {d : PyData} (h : Tg K H x d) (s : Same H H') : Tg K H' x d := ⟨h.1.imp (fun q => dpSame q s) fun ⟨a, kvs, e, q, z⟩ => ⟨a, kvs, e, s _ _ q, z⟩, h.2⟩
theorem Tg.ty {H : Hp} {x : V} {d : PyData} (h : Tg K H x d) : Dp K H x d ∨ (TyX K H x (.type "dict") ∧ d = .none) := h.1.imp id fun ⟨a, kvs, e, q, z⟩ => ⟨by rw [e]; exact .base (.dK q), z⟩
theorem Tg.l9 {H : Hp} {x : V} {d : PyData} (h : Tg K H x d) : ∀ ds, d = .tuple ds → ds.length ≤ 900 := fun ds e => by have := h.2; rw [e] at this; exact this.tup.1
def spIsBeg (C : Addr) (K : PySem.W.Frag) : Sp := fun vs H Q _ => ∃ (m : Addr) (S : MS) (x : V) (d : PyData), vs = [.ref m, x] ∧ MachAt K C H m S ∧ MOk S ∧ Tg K H x d ∧ ∀ H', Same H H' → Q (.bl (begB S d)) H'
theorem ok_isbeg {f C : Addr} {fd : FuncData} {k : Nat} (F : Fun K "is_beginning" "is_beginning" s_is_beginning f fd) (D_is_filling : Df P w K mg base k "is_filling" ["thing", "many"] (spIsFill K)) (DM_boxes : Dm P w K mg base k C "boxes" ["self"] (spBoxes C K)) (DM_starts : Dm P w K mg base k C "starts" ["self"] (spStarts C K)) (D_says : Df P w K mg base k "says" ["filling", "sign"] (spSays K)) (m_all : mg "all" = none) :
    FnOk P w K mg base CX0 (k + 1) f fd ["machine", "thing"] (spIsBeg C K) := by
  refine F.ok sc_is_beginning (fun vs H Q E h => ?_) (fun cdv A outer s H vs Q E hr h => ?_)
  · obtain ⟨m, S, x, d, rfl, _⟩ := h
    rfl
  obtain ⟨m, S, x, d, rfl, ma, ok, tx, q⟩ := h
  refine ⟨_, (pss_one (ps_ret (pe_and (pe_df D_is_filling hr (by rfl) (pa_cons (pv 1) (pa_cons (pe_dm0 DM_boxes hr (pv 0)) pa_nil))) (pe_one (pe_callB (cr_all rfl) (by rfl) m_all (by decide +kernel) (pa_cons (pe_lc (own := [("sign", 2)]) (g := gName 2) (tt := tYes) (by rfl) sc_is_beginning.nd (pi_list (pe_dm0 DM_starts hr (pv 0))) (blkOk_by (by kernel_rfl)) (fun _ _ _ _ _ => (pg_name (i := 2) sc_is_beginning.nd rfl (.inl rfl))) (fun _ _ _ _ _ => pts_nil) (fun _ _ _ _ _ => (pe_df D_says hr (by rfl) (pa_cons (pv 1) (pa_cons (pv 2) pa_nil))))) pa_nil)))))), ?_⟩
  obtain ⟨dx, fs, em, hno⟩ := machIns ma
  refine ⟨_, rfl, _, rfl, m, dx, fs, rfl, em, hno _ (by decide +kernel), m, S, rfl, ma, x, d, S.b, rfl, tx.ty, tx.l9, fun H1 s1 => ⟨_, rfl, ite2 (fun z => ?_) (fun z => ?_)⟩⟩
  · obtain ⟨bs, rfl, hb⟩ := fillB_is z
    have hd : Dp K H x (.tuple (bs.map PyData.bool)) := tx.1.elim id fun ⟨_, _, _, _, e⟩ => by cases e
    obtain ⟨ta, rfl, hT⟩ : ∃ ta, x = .ref ta ∧ SqT K H ta (bs.map V.bl) := by
      generalize e : bs.map PyData.bool = ds at hd
      cases hd with
      | @tup a xs _ hS hA =>
        subst e
        refine ⟨a, rfl, ?_⟩
        have : xs = bs.map V.bl := by
          clear z hb hS ma q tx
          induction bs generalizing xs with
          | nil => cases hA; rfl
          | cons b bs ih =>
            cases hA with
            | cons h1 h2 => cases h1; rw [ih h2]; rfl
        rw [← this]; exact hS
    have ma1 := ma.same s1
    obtain ⟨dx1, fs1, em1, hno1⟩ := machIns ma1
    have stl := ok.stl
    refine ⟨_, rfl, m, dx1, fs1, rfl, em1, hno1 _ (by decide +kernel), m, S, rfl, ma1, fun sl H2 s2 nsl esl => ?_⟩
    have s02 := s1.trans s2
    refine ⟨sl, rfl, ⟨_, SqL.of esl⟩, fun D nD => lc_list (xs := S.st.map V.int) (fun j H' => Same H2 H' ∧ H' D = some (.lst (((S.st.take j).map (sayB bs)).map V.bl))) ⟨same_new nD, upd_same⟩ (fun j H' _ h => SqL.of (h.1 _ _ esl)) ?_ ?_⟩
    · rintro j x H3 ex ⟨s3, e3⟩
      obtain ⟨n, rfl, hn, htk⟩ := at_int ex
      have hs := ok.sta n hn
      refine ⟨rfl, _, rfl, _, rfl, ta, bs, n, rfl, same_tup (s02.trans s3) hT, by have := hs.1; omega, by have := hs.2; omega, _, e3, ?_, ?_, ?_⟩
      · rw [List.length_map, List.length_map, List.length_take]; exact small1000 (by omega)
      · exact fun b o hb => by rw [upd_ne (ne_of_none hb nD)]; exact s3 _ _ hb
      · rw [upd_same, htk, List.map_append, List.map_append]; rfl
    rintro H3 ⟨s3, e3⟩
    rw [List.length_map, List.take_length] at e3
    refine ⟨D, S.st.map (sayB bs), rfl, SqL.of e3, ?_⟩
    have : (S.st.map (sayB bs)).all id = begB S (.tuple (bs.map PyData.bool)) := by rw [begB_of hb, List.all_map]; rfl
    rw [this]
    exact q H3 (s02.trans s3)
  · have : begB S d = false := by
      refine Bool.eq_false_iff.mpr fun y => ?_
      obtain ⟨f, hf, rfl⟩ := begB_iff.mp y
      exact z (fillB_ok (beg_mem hf))
    rw [← this]; exact q H1 s1
def spAreW (C : Addr) (K : PySem.W.Frag) : Sp := fun vs H Q _ => ∃ (m : Addr) (S : MS) (x : V) (d : PyData) (most : Int), vs = [.ref m, x, .int most] ∧ MachAt K C H m S ∧ S.i ≤ 4 ∧ Tg K H x d ∧ ∀ H', Same H H' → Q (.bl (wordsB S d most)) H'
theorem ok_arew {f C : Addr} {fd : FuncData} {k : Nat} (F : Fun K "are_words" "are_words" s_are_words f fd) (DM_is_word : Dm P w K mg base k C "is_word" ["self", "thing"] (spIsWord C K)) (m_isinstance : mg "isinstance" = none) (m_list : mg "list" = none) (m_len : mg "len" = none) (m_all : mg "all" = none) :
    FnOk P w K mg base CX0 (k + 1) f fd ["machine", "thing", "most"] (spAreW C K) := by
  refine F.ok sc_are_words (fun vs H Q E h => ?_) (fun cdv A outer s H vs Q E hr h => ?_)
  · obtain ⟨m, S, x, d, most, rfl, _⟩ := h
    rfl
  obtain ⟨m, S, x, d, most, rfl, ma, i4, tx, q⟩ := h
  refine ⟨_, (pss_cons (ps_if (PW.pt (pw_or (pt_not (pt_val (pe_callB call_isi (by rfl) m_isinstance (by decide +kernel) (pa_cons (pv 1) (pa_cons (pe_bltn (v := .ty "list") (by rfl) m_list (by decide +kernel) rfl) pa_nil))))) (pw_or1 (pt_cmpR op_gt (pe_callB call_len_seq (by rfl) m_len (by decide +kernel) (pa_cons (pv 1) pa_nil)) (pv 2) (nomark _)))))
       (pss_one (ps_ret pe_bl))
       pss_nil)
       (pss_one (ps_ret (pe_callB (cr_all rfl) (by rfl) m_all (by decide +kernel) (pa_cons (pe_lc (own := [("word", 3)]) (g := gName 3) (tt := tYes) (by rfl) sc_are_words.nd (pi_list (pv 1)) (blkOk_by (by kernel_rfl)) (fun _ _ _ _ _ => (pg_name (i := 3) sc_are_words.nd rfl (.inl rfl))) (fun _ _ _ _ _ => pts_nil) (fun _ _ _ _ _ => (pe_dm DM_is_word hr (pv 0) (pa_cons (pv 3) pa_nil)))) pa_nil))))), ?_⟩
  have q0 := q H (Same.refl H)
  rcases tx.ty with hd | ⟨ht, rfl⟩
  case inr => exact ⟨_, rfl, x, .ty "list", .type "dict", .type "list", false, rfl, .ty "list", ht, kit_ty (r := false) (by decide +kernel), _, rfl, iteT q0⟩
  refine ⟨_, rfl, _, _, _, _, _, rfl, .ty _, dpTy hd, kit_ty (kit_list d), _, rfl, ?_⟩
  cases d with
  | list ds =>
    have hsm := tx.2.lst
    cases hd with
    | @lst a xs _ hS hA =>
      have lx := dpA_len hA
      refine iteF ⟨_, rfl, a, _, rfl, .inl hS, _, rfl, _, _, rfl, rfl, _, rfl, ite2 (fun z => ?_) (fun z => ?_)⟩
      · have z' : most < ((xs.length : Nat) : Int) := of_decide_eq_true z
        have : wordsB S (.list ds) most = false := by
          show (decide ((ds.length : Int) ≤ most) && _) = false
          rw [decide_eq_false (by rw [← lx]; omega)]; rfl
        rw [this] at q0; exact q0
      · have z' : ¬ most < ((xs.length : Nat) : Int) := fun h => z (decide_eq_true h)
        refine ⟨_, rfl, a, rfl, ⟨_, hS⟩, fun D nD => lc_list (xs := xs) (fun j H' => Same H H' ∧ H' D = some (.lst (((ds.take j).map (wordB S)).map V.bl))) ⟨same_new nD, upd_same⟩ (fun j H' _ h => h.1.seq hS) ?_ ?_⟩
        · rintro j y H1 ey ⟨s1, e1⟩
          obtain ⟨dj, hdj, hy, hdr⟩ := dpA_at hA ey
          obtain ⟨hlt, e⟩ := List.getElem?_eq_some_iff.mp hdj
          have smj := hsm.2 dj (List.mem_of_getElem? hdj)
          have ma1 := ma.same s1
          obtain ⟨dx1, fs1, em1, hno1⟩ := machIns ma1
          refine ⟨rfl, _, rfl, m, dx1, fs1, rfl, em1, hno1 _ (by decide +kernel), _, rfl, m, S, y, dj, rfl, ma1, i4, .inl (dpSame hy s1), (fun es ee => by rw [ee] at smj; exact smj.tup.1), fun H2 s2 => ⟨_, s2 _ _ e1, ?_, ?_, ?_⟩⟩
          · rw [List.length_map, List.length_map, List.length_take]; exact small5000 (by omega)
          · exact fun b o hb => by rw [upd_ne (ne_of_none hb nD)]; exact s2 _ _ (s1 _ _ hb)
          · rw [upd_same, List.take_succ_eq_append_getElem hlt, e, List.map_append, List.map_append]; rfl
        · rintro H1 ⟨s1, e1⟩
          rw [lx, List.take_length] at e1
          refine ⟨D, ds.map (wordB S), rfl, SqL.of e1, ?_⟩
          have : (ds.map (wordB S)).all id = wordsB S (.list ds) most := by
            show _ = (decide ((ds.length : Int) ≤ most) && ds.all (wordB S))
            rw [decide_eq_true (by rw [← lx]; omega), List.all_map]; rfl
          rw [this]; exact q H1 s1
  | int i => exact iteT q0
  | bool b => exact iteT q0
  | none => exact iteT q0
  | str _ => exact iteT q0
  | tuple _ => exact iteT q0
  | dict _ => exact iteT q0
def spIsRun (C : Addr) (K : PySem.W.Frag) : Sp := fun vs H Q _ => ∃ (m : Addr) (S : MS) (x : V) (d : PyData), vs = [.ref m, x] ∧ MachAt K C H m S ∧ MOk S ∧ Tg K H x d ∧ ∀ H', Same H H' → Q (.bl (runB S d)) H'
theorem run_no {S : MS} {ds : List PyData} (h : ds.length ≠ 2) : runB S (.tuple ds) = false := by
  match ds, h with
  | [], _ => rfl
  | [_], _ => rfl
  | [_, _], h => exact absurd rfl h
  | _ :: b :: _ :: _, _ => cases b <;> rfl
theorem ok_isrun {f C : Addr} {fd : FuncData} {k : Nat} {t1 : Tok} (F : Fun K "is_run" "is_run" s_is_run f fd) (D_is_beginning : Df P w K mg base k "is_beginning" ["machine", "thing"] (spIsBeg C K)) (D_are_words : Df P w K mg base k "are_words" ["machine", "thing", "most"] (spAreW C K)) (g_MOST_BEATS : mg "MOST_BEATS" = some (.int 2000 t1))
    (m_isinstance : mg "isinstance" = none) (m_tuple : mg "tuple" = none) (m_len : mg "len" = none) :
    FnOk P w K mg base CX0 (k + 1) f fd ["machine", "thing"] (spIsRun C K) := by
  refine F.ok sc_is_run (fun vs H Q E h => ?_) (fun cdv A outer s H vs Q E hr h => ?_)
  · obtain ⟨m, S, x, d, rfl, _⟩ := h
    rfl
  obtain ⟨m, S, x, d, rfl, ma, ok, tx, q⟩ := h
  refine ⟨_, (pss_cons (ps_if (PW.pt (pw_or (pt_not (pt_val (pe_callB call_isi (by rfl) m_isinstance (by decide +kernel) (pa_cons (pv 1) (pa_cons (pe_bltn (v := .ty "tuple") (by rfl) m_tuple (by decide +kernel) rfl) pa_nil))))) (pw_or1 (pt_cmpR op_ne (pe_callB call_len_seq (by rfl) m_len (by decide +kernel) (pa_cons (pv 1) pa_nil)) pe_int (nomark _)))))
       (pss_one (ps_ret pe_bl))
       pss_nil)
       (pss_cons (ps_asg (pv 1) (pg_tup rfl (pgs_cons (pg_name (i := 2) sc_is_run.nd rfl (.inl rfl)) (pgs_cons (pg_name (i := 3) sc_is_run.nd rfl (.inl rfl)) pgs_nil))))
       (pss_one (ps_ret (pe_and (pe_df D_is_beginning hr (by rfl) (pa_cons (pv 0) (pa_cons (pv 2) pa_nil))) (pe_and (pe_df D_are_words hr (by rfl) (pa_cons (pv 0) (pa_cons (pv 3) (pa_cons (pe_glob (v := .int 2000) (by rfl) g_MOST_BEATS ⟨_, rfl⟩) pa_nil)))) (pe_one (pe_cmpR op_gt (pe_callB call_len_seq (by rfl) m_len (by decide +kernel) (pa_cons (pv 3) pa_nil)) pe_int (nomark _))))))))), ?_⟩
  have q0 := q H (Same.refl H)
  rcases tx.ty with hd | ⟨ht, rfl⟩
  case inr => exact ⟨_, rfl, x, .ty "tuple", .type "dict", .type "tuple", false, rfl, .ty "tuple", ht, kit_ty (r := false) (by decide +kernel), _, rfl, iteT q0⟩
  refine ⟨_, rfl, _, _, _, _, _, rfl, .ty _, dpTy hd, kit_ty (kit_tuple d), _, rfl, ?_⟩
  cases d with
  | tuple ds =>
    have hsm := tx.2.tup
    cases hd with
    | @tup a xs _ hS hA =>
      have lx := dpA_len hA
      refine iteF ⟨_, rfl, a, _, rfl, .inr hS, rfl, _, rfl, ite2 (fun z => ?_) (fun z => ?_)⟩
      · have : ds.length ≠ 2 := fun e => by rw [lx, e] at z; simp at z
        rw [run_no this] at q0; exact q0
      · have e2 : xs.length = 2 := by
          have := Bool.eq_false_iff.mpr z
          simp only [Bool.not_eq_false'] at this
          have := V.int.inj (of_decide_eq_true this)
          omega
        obtain ⟨x1, x2, d1, d2, rfl, rfl, h1, h2⟩ := dp_two hA e2
        refine ⟨_, rfl, a, _, rfl, hS, rfl, _, _, rfl, _, _, rfl, rfl, ?_⟩
        refine ⟨_, rfl, _, rfl, m, S, x1, d1, rfl, ma, ok, ⟨.inl h1, hsm.2 d1 (by simp)⟩, fun H1 s1 => ⟨_, rfl, ite2 (fun z1 => ?_) (fun z1 => ?_)⟩⟩
        · refine ⟨_, rfl, _, rfl, m, S, x2, d2, 2000, rfl, ma.same s1, ok.i4, ⟨.inl (dpSame h2 s1), hsm.2 d2 (by simp)⟩, fun H2 s2 => ⟨_, rfl, ite2 (fun z2 => ?_) (fun z2 => ?_)⟩⟩
          · cases d2 with
            | list ws =>
              cases h2 with
              | @lst b ys _ hL hB =>
                have lb := dpA_len hB
                refine ⟨_, rfl, b, _, rfl, .inl ((s1.trans s2).seq hL), _, _, rfl, rfl, ?_⟩
                have : runB S (.tuple [d1, .list ws]) = decide ((0 : Int) < ((ys.length : Nat) : Int)) := by
                  show (begB S d1 && wordsB S (.list ws) 2000 && decide (0 < ws.length)) = _
                  rw [show begB S d1 = true from z1, show wordsB S (.list ws) 2000 = true from z2, lb]
                  simp
                have q2 := q H2 (s1.trans s2)
                rw [this] at q2; exact q2
            | _ => exact absurd z2 Bool.false_ne_true
          · have : runB S (.tuple [d1, d2]) = false := by
              cases d2 with
              | list ws =>
                show (begB S d1 && wordsB S (.list ws) 2000 && decide (0 < ws.length)) = false
                rw [show wordsB S (.list ws) 2000 = false from Bool.eq_false_iff.mpr z2, Bool.and_false, Bool.false_and]
              | _ => rfl
            have q2 := q H2 (s1.trans s2)
            rw [this] at q2; exact q2
        · have : runB S (.tuple [d1, d2]) = false := by
            cases d2 with
            | list ws =>
              show (begB S d1 && wordsB S (.list ws) 2000 && decide (0 < ws.length)) = false
              rw [show begB S d1 = false from Bool.eq_false_iff.mpr z1, Bool.false_and, Bool.false_and]
            | _ => rfl
          have q2 := q H1 s1
          rw [this] at q2; exact q2
  | int i => exact iteT q0
  | bool b => exact iteT q0
  | none => exact iteT q0
  | str _ => exact iteT q0
  | list _ => exact iteT q0
  | dict _ => exact iteT q0

end
end K21
namespace K21
open PySem PySem.Spec PyProof.Rows L2 KL
section
variable {P : Program} {w : World} {K : PySem.W.Frag} {mg : Str → Option Value} {base : Heap}
/-! ### the law's own runs -/
theorem hid_kp {p : Addr} {H H' : Hp} (k : Kp p H H') : Same (hid p H) H' := fun b o h => by
  by_cases z : b = p
  · rw [z] at h; unfold hid at h; rw [if_pos rfl] at h; cases h
  · unfold hid at h; rw [if_neg z] at h; exact k _ _ z h
theorem mach_kp {C p m : Addr} {S : MS} {own : List Addr} {H H' : Hp} (h : MachO K C H m S own) (hp : Pl H p) (ho : p ∉ own) (k : Kp p H H') : MachO K C H' m S own :=
  h.kpM (M := [p]) (fun b o hb e => k _ _ (fun z => hb (by rw [z]; exact List.mem_singleton.mpr rfl)) e) (fun x hx => by rw [List.mem_singleton] at hx; subst hx; obtain ⟨x, y, e, _⟩ := hp; exact ⟨_, e⟩) (fun a ha hx => by rw [List.mem_singleton] at hx; exact ho (hx ▸ ha))
theorem beg_ne {S : MS} (ok : MOk S) : begOf S ≠ [] := by
  let f : List Bool := (List.range S.b).map fun i => decide (((i + 1 : Nat) : Int) ∈ S.st)
  have hf : f ∈ begOf S := by
    refine List.mem_filter.mpr ⟨fills_mem.mpr (by simp [f]), List.all_eq_true.mpr fun n hn => ?_⟩
    have hs := ok.sta n hn
    have h1 := hs.1
    have h2 := hs.2
    have e : f.getD (n.natAbs - 1) false = decide (((n.natAbs : Nat) : Int) ∈ S.st) := by
      have hlt : n.natAbs - 1 < S.b := by omega
      rw [List.getD_eq_getElem?_getD]
      simp only [f, List.getElem?_map, List.getElem?_range hlt, Option.map_some, Option.getD_some]
      rw [show n.natAbs - 1 + 1 = n.natAbs by omega]
    unfold sayB
    rw [e]
    by_cases hp : 0 < n
    · rw [decide_eq_true hp, show ((n.natAbs : Nat) : Int) = n by omega, decide_eq_true hn]; rfl
    · rw [decide_eq_false hp]
      have hno : ¬ ((n.natAbs : Nat) : Int) ∈ S.st := fun hm => by
        have e2 : ((n.natAbs : Nat) : Int) = -n := by omega
        rw [e2] at hm
        have : ∀ (l : List Int), l.Pairwise (fun a b => a.natAbs ≠ b.natAbs) → n ∈ l → -n ∈ l → n = -n := by
          intro l
          induction l with
          | nil => intro _ h; cases h
          | cons x l ih =>
            intro hp ha hb
            obtain ⟨p1, p2⟩ := List.pairwise_cons.mp hp
            rcases List.mem_cons.mp ha with ea | ha
            · rcases List.mem_cons.mp hb with eb | hb
              · rw [ea, ← eb]; omega
              · exact absurd (by rw [← ea]; omega) (p1 _ hb)
            · rcases List.mem_cons.mp hb with eb | hb
              · exact absurd (by rw [← eb]; omega) (p1 _ ha)
              · exact ih p2 ha hb
        have := this S.st ok.std hn hm
        omega
      rw [decide_eq_false hno]; rfl
  intro z; rw [z] at hf; cases hf
theorem tups_fill {H : Hp} {ts : List Addr} {fs : List (List Bool)} (h : TupsV K H ts (fs.map fun f => f.map V.bl)) {i : Nat} {x : V} (e : (ts.map V.ref)[i]? = some x) : ∃ (a : Addr) (f : List Bool), x = .ref a ∧ f ∈ fs ∧ SqT K H a (f.map V.bl) ∧ fs.take (i + 1) = fs.take i ++ [f] := by
  obtain ⟨a, vs, rfl, _, hv, hq⟩ := h.at e
  rw [List.getElem?_map] at hv
  cases hf : fs[i]? with
  | none => rw [hf] at hv; cases hv
  | some f =>
    rw [hf] at hv; cases hv
    obtain ⟨hlt, e⟩ := List.getElem?_eq_some_iff.mp hf
    exact ⟨a, f, rfl, List.mem_of_getElem? hf, hq, by rw [List.take_succ_eq_append_getElem hlt, e]⟩
def spOne (K : PySem.W.Frag) : Sp := fun vs H Q _ => ∃ (p l : Addr) (xs : List V), vs = [.ref p, .ref l] ∧ Pl H p ∧ l ≠ p ∧ H l = some (.lst xs) ∧ 0 < xs.length ∧ xs.length ≤ 1000 ∧ ∀ (x : V) (H' : Hp), x ∈ xs → Kp p H H' → Pl H' p → Q x H'
theorem ok_one {f : Addr} {fd : FuncData} {k : Nat} (F : Fun K "_law_one" "_law_one" s_law_one f fd) (D_law_take : Df P w K mg base k "_law_take" ["_law_pool_here", "_law_many"] (spTake K)) (m_len : mg "len" = none) :
    FnOk P w K mg base CX0 (k + 1) f fd ["_law_pool_here", "_law_some"] (spOne K) := by
  refine F.ok sc_law_one (fun vs H Q E h => ?_) (fun cdv A outer s H vs Q E hr h => ?_)
  · obtain ⟨p, l, xs, rfl, _⟩ := h
    rfl
  obtain ⟨p, l, xs, rfl, hp, hlp, hl, l0, l1, q⟩ := h
  refine ⟨_, (pss_one (ps_ret (pe_ix ix_list (pv 1) (pe_df D_law_take hr (by rfl) (pa_cons (pv 0) (pa_cons (pe_callB call_len_seq (by rfl) m_len (by decide +kernel) (pa_cons (pv 1) pa_nil)) pa_nil))) (fun _ _ => rfl)))), ?_⟩
  refine ⟨_, rfl, _, rfl, _, rfl, l, _, rfl, .inl (SqL.of hl), p, xs.length, rfl, hp, by omega, by omega, fun d H2 k2 hp2 d0 d1 => ?_⟩
  obtain ⟨v, h1, h2⟩ := atI_at (xs := xs) (i := d) d0 d1
  exact ⟨l, _, d, v, rfl, rfl, SqL.of (k2 _ _ hlp hl), h1, q v H2 (List.mem_of_getElem? h2) k2 hp2⟩
/-- a drawn run -/
structure RunAt (K : PySem.W.Frag) (p : Addr) (H : Hp) (S : MS) (ru st wl : Addr) (f : List Bool) (wa : List Addr) (ws : List (List Bool)) : Prop where
  er : H ru = some (.tup [.ref st, .ref wl])
  hs : SqT K H st (f.map V.bl)
  hf : f ∈ begOf S
  ew : H wl = some (.lst (wa.map V.ref))
  tw : TupsV K H wa (ws.map fun g => g.map V.bl)
  hw : ∀ g ∈ ws, g ∈ wordsOf S.b S.i S.pr
  l1 : 1 ≤ ws.length
  l30 : ws.length ≤ 30
  wp : wl ≠ p
theorem RunAt.kp {p : Addr} {H H' : Hp} {S : MS} {ru st wl : Addr} {f : List Bool} {wa : List Addr} {ws : List (List Bool)} (h : RunAt K p H S ru st wl f wa ws) (hp : Pl H p) (k : Kp p H H') : RunAt K p H' S ru st wl f wa ws :=
  ⟨k.tp hp _ _ h.er, k.tup hp h.hs, h.hf, k _ _ h.wp h.ew, h.tw.mv fun _ _ q => k.tup hp q, h.hw, h.l1, h.l30, h.wp⟩
def spLRun (K : PySem.W.Frag) : Sp := fun vs H Q _ => ∃ (p r : Addr) (S : MS) (most : Int), vs = [.ref p, .ref r, .int most] ∧ Pl H p ∧ SpecAt K (hid p H) r S ∧ MOk S ∧ S.b ≤ 6 ∧ 1 ≤ most ∧ most ≤ 30 ∧
  ∀ (ru st wl : Addr) (f : List Bool) (wa : List Addr) (ws : List (List Bool)) (H' : Hp), Kp p H H' → Pl H' p → RunAt K p H' S ru st wl f wa ws → Q (.ref ru) H'
theorem ok_lrun {f : Addr} {fd : FuncData} {k : Nat} (F : Fun K "_law_run" "_law_run" s_law_run f fd) (D_law_words : Df P w K mg base k "_law_words" ["_law_spec_here"] (spLWords K)) (D_law_begins : Df P w K mg base k "_law_begins" ["_law_spec_here"] (spLBegins K)) (D_law_one : Df P w K mg base k "_law_one" ["_law_pool_here", "_law_some"] (spOne K)) (D_law_take : Df P w K mg base k "_law_take" ["_law_pool_here", "_law_many"] (spTake K)) (m_range : mg "range" = none) :
    FnOk P w K mg base CX0 (k + 1) f fd ["_law_pool_here", "_law_spec_here", "_law_most"] (spLRun K) := by
  refine F.ok sc_law_run (fun vs H Q E h => ?_) (fun cdv A outer s H vs Q E hr h => ?_)
  · obtain ⟨p, r, S, most, rfl, _⟩ := h
    rfl
  obtain ⟨p, r, S, most, rfl, hp, sp0, ok, b6, m1, m30, q⟩ := h
  refine ⟨_, (pss_cons (ps_set (i := 3) sc_law_run.nd rfl (.inr rfl) (pe_df D_law_words hr (by rfl) (pa_cons (pv 1) pa_nil)))
       (pss_one (ps_ret (pe_tup (pa_cons (pe_df D_law_one hr (by rfl) (pa_cons (pv 0) (pa_cons (pe_df D_law_begins hr (by rfl) (pa_cons (pv 1) pa_nil)) pa_nil))) (pa_cons (pe_lc (own := [("_law_turn", 4)]) (g := gName 4) (tt := tYes) (by rfl) sc_law_run.nd (pi_range1 (by rfl) m_range (pa_cons (pe_op op_add pe_int (pe_df D_law_take hr (by rfl) (pa_cons (pv 0) (pa_cons (pv 2) pa_nil)))) pa_nil)) (blkOk_by (by kernel_rfl)) (fun _ _ _ _ _ => (pg_name (i := 4) sc_law_run.nd rfl (.inl rfl))) (fun _ _ _ _ _ => pts_nil) (fun _ _ _ _ _ => (pe_df D_law_one hr (by rfl) (pa_cons (pv 0) (pa_cons (pv 3) pa_nil))))) pa_nil)))))), ?_⟩
  have i4 := ok.i4
  have p4 : 2 ^ S.i ≤ 16 := Nat.le_trans (Nat.pow_le_pow_right (by decide) i4) (by decide)
  have p6 : 2 ^ S.b ≤ 64 := Nat.le_trans (Nat.pow_le_pow_right (by decide) b6) (by decide)
  have sp := sp0.same (hid_same p H)
  refine ⟨_, rfl, r, S, rfl, sp, ok, fun wl ws H1 s1 nwl ewl tw => ?_⟩
  have hp1 := hp.same s1
  have lws : (ws.map V.ref).length = (wordsOf S.b S.i S.pr).length := by rw [List.length_map, tw.len, List.length_map]
  have wlp : wl ≠ p := fun z => hp.at (z ▸ nwl)
  refine ⟨_, rfl, _, rfl, r, S, rfl, sp.same s1, ok, b6, fun bl bs H2 s2 nbl ebl tb => ?_⟩
  have hp2 := hp1.same s2
  have lbs : (bs.map V.ref).length = (begOf S).length := by rw [List.length_map, tb.len, List.length_map]
  have blp : bl ≠ p := fun z => hp1.at (z ▸ nbl)
  refine ⟨p, bl, _, rfl, hp2, blp, ebl, by rw [lbs]; exact List.length_pos_iff.mpr (beg_ne ok), by rw [lbs]; exact Nat.le_trans beg_len (by omega), fun x H3 hx k3 hp3 => ?_⟩
  obtain ⟨ix, hix⟩ := List.mem_iff_getElem?.mp hx
  obtain ⟨st, f', rfl, hf, hqs, _⟩ := tups_fill tb hix
  have hqs3 := k3.tup hp2 hqs
  have ewl3 : H3 wl = some (.lst (ws.map V.ref)) := k3 _ _ wlp (s2 _ _ ewl)
  have tw3 : TupsV K H3 ws ((wordsOf S.b S.i S.pr).map fun f => f.map V.bl) := (tw.same s2).mv fun _ _ q => k3.tup hp2 q
  refine ⟨_, rfl, _, rfl, p, most, rfl, hp3, by omega, by omega, fun d H4 k4 hp4 d0 d1 => ?_⟩
  have hqs4 := k4.tup hp3 hqs3
  have ewl4 := k4 _ _ wlp ewl3
  have tw4 : TupsV K H4 ws ((wordsOf S.b S.i S.pr).map fun f => f.map V.bl) := tw3.mv fun _ _ q => k4.tup hp3 q
  refine ⟨_, _, rfl, rfl, 1 + d, rfl, by omega, by omega, fun D nD => lc_range (lo := 0) (n := (1 + d).toNat) (fun j H' => ∃ (wa : List Addr) (wb : List (List Bool)), Kp p H4 H' ∧ Pl H' p ∧ H' D = some (.lst (wa.map V.ref)) ∧ TupsV K H' wa (wb.map fun g => g.map V.bl) ∧ (∀ g ∈ wb, g ∈ wordsOf S.b S.i S.pr) ∧ wb.length = j) ?_ ?_ ?_⟩
  · exact ⟨[], [], Kp.of (same_new nD), hp4.same (same_new nD), upd_same, .nil, (fun g hg => by cases hg), rfl⟩
  · rintro j H5 hj ⟨wa, wb, k5, hp5, e5, t5, h5, l5⟩
    have hDp : D ≠ p := fun z => hp4.at (z ▸ nD)
    refine ⟨rfl, _, rfl, _, rfl, p, wl, _, rfl, hp5, wlp, k5 _ _ wlp ewl4, by rw [lws]; exact List.length_pos_iff.mpr ok.some, by rw [lws]; exact Nat.le_trans words_len (by omega), fun x H6 hx k6 hp6 => ?_⟩
    obtain ⟨iy, hiy⟩ := List.mem_iff_getElem?.mp hx
    obtain ⟨ta, g, rfl, hg, hqg, _⟩ := tups_fill tw4 hiy
    have hqg6 := (k5.trans k6).tup hp4 hqg
    have e6 := k6 _ _ hDp e5
    have t6 : TupsV K H6 wa (wb.map fun g => g.map V.bl) := t5.mv fun _ _ q => k6.tup hp5 q
    refine ⟨_, e6, ?_, wa ++ [ta], wb ++ [g], ?_, ?_, ?_, ?_, ?_, ?_⟩
    · rw [List.length_map, t5.len, List.length_map, l5]; exact small1000 (by omega)
    · exact fun b o nb hb => by rw [upd_ne (ne_of_none hb nD)]; exact k6 _ _ nb (k5 _ _ nb hb)
    · obtain ⟨x, y, e, r⟩ := hp6
      exact ⟨x, y, by rw [upd_ne hDp.symm]; exact e, r⟩
    · rw [upd_same, List.map_append]; rfl
    · rw [List.map_append]; exact (t6.snoc hqg6).lst e6
    · intro g' hg'
      rcases List.mem_append.mp hg' with z | z
      · exact h5 g' z
      · rw [List.mem_singleton] at z; rw [z]; exact hg
    · rw [List.length_append, l5]; rfl
  rintro H5 ⟨wa, wb, k5, hp5, e5, t5, h5, l5⟩
  have hDp : D ≠ p := fun z => hp4.at (z ▸ nD)
  refine ⟨(by show 2 ≤ sizeLine; decide), fun ru nru => ?_⟩
  have s6 := same_new (o := .tup [.ref st, .ref D]) nru
  refine q ru st D f' wa wb _ ((Kp.of (s1.trans s2)).trans (k3.trans (k4.trans (k5.trans (Kp.of s6))))) (hp5.same s6) ⟨upd_same, same_tup s6 (k5.tup hp4 hqs4), hf, s6 _ _ e5, t5.same s6, h5, by omega, by omega, hDp⟩
/-! ### the law's own look at runs -/
/-- a thing that may be handed in, and be shown -/
def Tw (K : PySem.W.Frag) (H : Hp) (x : V) (d : PyData) : Prop := Bt K 100000 8 H x d ∨ ∃ a, x = .ref a ∧ H a = some (.dK []) ∧ d = .none
theorem Tw.same {H H' : Hp} {x : V} {d : PyData} (h : Tw K H x d) (s : Same H H') : Tw K H' x d := h.imp (fun ⟨a, b⟩ => ⟨dpSame a s, b⟩) fun ⟨a, e, q, z⟩ => ⟨a, e, s _ _ q, z⟩
theorem Tw.tg {H : Hp} {x : V} {d : PyData} (h : Tw K H x d) : Tg K H x d := h.elim (fun ⟨a, _, _, c⟩ => ⟨.inl a, c⟩) fun ⟨a, e, q, z⟩ => ⟨.inr ⟨a, [], e, q, z⟩, by rw [z]; unfold Sm; exact True.intro⟩
def shT (f : List Bool) : Str := (PyData.tuple (f.map PyData.bool)).shown
theorem fineBools {bs : List Bool} {n : Nat} (h : bs.length ≤ n) : Fine (n * 1) 1 (.tuple (bs.map PyData.bool)) := Fine.tuple (n := 0) (m := 0) (l := n) (fun d hd => by obtain ⟨b, _, rfl⟩ := List.mem_map.mp hd; exact Fine.bool b) (by rw [List.length_map]; exact h)
theorem flat_strs : ∀ (xs : List Str), (xs.map V.str).all flatV = true := fun xs => List.all_eq_true.mpr fun v hv => by obtain ⟨x, _, rfl⟩ := List.mem_map.mp hv; rfl
def spLIsRun (K : PySem.W.Frag) : Sp := fun vs H Q _ => ∃ (r : Addr) (S : MS) (x : V) (d : PyData), vs = [.ref r, x] ∧ SpecAt K H r S ∧ MOk S ∧ S.b ≤ 6 ∧ Tw K H x d ∧ ∀ H', Same H H' → Q (.bl (runB S d)) H'
theorem in_beg {S : MS} {d : PyData} (h : KR.Pn d) : inV (.str d.shown) (((begOf S).map shT).map V.str) = begB S d := by rw [Bool.eq_iff_iff, begB_iff]; exact in_shown h _
theorem in_word {S : MS} {d : PyData} (h : KR.Pn d) : inV (.str d.shown) (((wordsOf S.b S.i S.pr).map shT).map V.str) = wordB S d := by rw [Bool.eq_iff_iff, wordB_iff]; exact in_shown h _
theorem ok_lisrun {f : Addr} {fd : FuncData} {k : Nat} (F : Fun K "_law_is_run" "_law_is_run" s_law_is_run f fd) (D_law_begins : Df P w K mg base k "_law_begins" ["_law_spec_here"] (spLBegins K)) (D_law_words : Df P w K mg base k "_law_words" ["_law_spec_here"] (spLWords K)) (m_isinstance : mg "isinstance" = none) (m_tuple : mg "tuple" = none) (m_list : mg "list" = none) (m_len : mg "len" = none) (m_repr : mg "repr" = none) :
    GFn P w K mg base CX0 (k + 1) f fd ["_law_spec_here", "_law_thing"] (spLIsRun K) := by
  refine gfn0 F sc_law_is_run (fun vs H Q E h => ?_) (fun cdv A gu outer s H vs Q E hr h => ?_)
  · obtain ⟨r, S, x, d, rfl, _⟩ := h
    rfl
  obtain ⟨r, S, x, d, rfl, sp, ok, b6, tx, q⟩ := h
  refine ⟨_, (pss_cons (ps_if (PW.pt (pw_or (pt_not (pt_val (pe_callB call_isi (by rfl) m_isinstance (by decide +kernel) (pa_cons (pv 1) (pa_cons (pe_bltn (v := .ty "tuple") (by rfl) m_tuple (by decide +kernel) rfl) pa_nil))))) (pw_or (pt_cmpR op_ne (pe_callB call_len_seq (by rfl) m_len (by decide +kernel) (pa_cons (pv 1) pa_nil)) pe_int (nomark _)) (pw_or1 (pt_not (pt_val (pe_callB call_isi (by rfl) m_isinstance (by decide +kernel) (pa_cons (pe_ix ix_tup (pv 1) pe_int (fun _ _ => rfl)) (pa_cons (pe_bltn (v := .ty "list") (by rfl) m_list (by decide +kernel) rfl) pa_nil)))))))))
       (pss_one (ps_ret pe_bl))
       pss_nil)
       (pss_cons (ps_if (PW.pt (pw_or (pt_cmpR op_notIn_seq (pe_callB (call_rep gu hr.units) (by rfl) m_repr (by decide +kernel) (pa_cons (pe_ix ix_tup (pv 1) pe_int (fun _ _ => rfl)) pa_nil)) (pe_lc (own := [("_law_stand", 2)]) (g := gName 2) (tt := tYes) (by rfl) sc_law_is_run.nd (pi_list (pe_df D_law_begins hr (by rfl) (pa_cons (pv 0) pa_nil))) (blkOk_by (by kernel_rfl)) (fun _ _ _ _ _ => (pg_name (i := 2) sc_law_is_run.nd rfl (.inl rfl))) (fun _ _ _ _ _ => pts_nil) (fun _ _ _ _ _ => (pe_callB (call_rep' (K := K) rfl gu hr.units) (by rfl) m_repr (by decide +kernel) (pa_cons (pv 2) pa_nil)))) rfl) (pw_or1 (pt_not (pt_chain op_le op_le pe_int (pe_callB call_len_seq (by rfl) m_len (by decide +kernel) (pa_cons (pe_ix ix_tup (pv 1) pe_int (fun _ _ => rfl)) pa_nil)) pe_int)))))
       (pss_one (ps_ret pe_bl))
       pss_nil)
       (pss_cons (ps_set (i := 3) sc_law_is_run.nd rfl (.inr rfl) (pe_lc (own := [("_law_word", 4)]) (g := gName 4) (tt := tYes) (by rfl) sc_law_is_run.nd (pi_list (pe_df D_law_words hr (by rfl) (pa_cons (pv 0) pa_nil))) (blkOk_by (by kernel_rfl)) (fun _ _ _ _ _ => (pg_name (i := 4) sc_law_is_run.nd rfl (.inl rfl))) (fun _ _ _ _ _ => pts_nil) (fun _ _ _ _ _ => (pe_callB (call_rep' (K := K) rfl gu hr.units) (by rfl) m_repr (by decide +kernel) (pa_cons (pv 4) pa_nil)))))
       (pss_one (ps_ret (pe_cmpR (op_eqD hr.units) (pe_lc (own := [("_law_word", 4)]) (g := gName 4) (by rfl) sc_law_is_run.nd (pi_list (pe_ix ix_tup (pv 1) pe_int (fun _ _ => rfl))) (blkOk_by (by kernel_rfl)) (fun _ _ _ _ _ => (pg_name (i := 4) sc_law_is_run.nd rfl (.inl rfl))) (fun _ _ _ _ _ => (pts_one (pt_cmpR (op_notIn_seq' (K := K) rfl) (pe_callB (call_rep' (K := K) rfl gu hr.units) (by rfl) m_repr (by decide +kernel) (pa_cons (pv 4) pa_nil)) (pv 3) rfl))) (fun _ _ _ _ _ => (pv 4))) (pe_lst pa_nil) (nomark _))))))), ?_⟩
  have q0 := q H (Same.refl H)
  have i4 := ok.i4
  have b10 := ok.b10
  have p4 : 2 ^ S.i ≤ 16 := Nat.le_trans (Nat.pow_le_pow_right (by decide) i4) (by decide)
  have p6 : 2 ^ S.b ≤ 64 := Nat.le_trans (Nat.pow_le_pow_right (by decide) b6) (by decide)
  rcases tx with ⟨hd, fd, pn, sm⟩ | ⟨a, rfl, ea, rfl⟩
  case inr => exact ⟨_, rfl, .ref a, .ty "tuple", .type "dict", .type "tuple", false, rfl, .ty "tuple", .base (.dK ea), kit_ty (r := false) (by decide +kernel), _, rfl, iteT q0⟩
  have shw := fd.shw (by omega) (by omega)
  have shp := fd.shaped (by omega)
  refine ⟨_, rfl, _, _, _, _, _, rfl, .ty _, dpTy hd, kit_ty (kit_tuple d), _, rfl, ?_⟩
  cases d with
  | tuple ds =>
    cases hd with
    | @tup a xs _ hS hA =>
      have lx := dpA_len hA
      refine iteF ⟨_, rfl, a, _, rfl, .inr hS, rfl, _, rfl, ite2 (fun z => ?_) (fun z => ?_)⟩
      · have : ds.length ≠ 2 := fun e => by rw [lx, e] at z; simp at z
        rw [run_no this] at q0; exact q0
      · have e2 : xs.length = 2 := by
          have := Bool.eq_false_iff.mpr z
          simp only [Bool.not_eq_false'] at this
          have := V.int.inj (of_decide_eq_true this)
          omega
        obtain ⟨x1, x2, d1, d2, rfl, rfl, h1, h2⟩ := dp_two hA e2
        have m1 : d1 ∈ [d1, d2] := by simp
        have m2 : d2 ∈ [d1, d2] := by simp
        refine ⟨_, rfl, a, _, 1, x2, rfl, rfl, hS, rfl, _, _, _, _, _, rfl, .ty _, dpTy h2, kit_ty (kit_list d2), _, rfl, ?_⟩
        cases d2 with
        | list ws =>
          refine iteF ?_
          have shw1 := shw.tup d1 m1
          have pn1 := pn_tup pn d1 m1
          have pn2 := pn_lst (pn_tup pn _ m2)
          have shw2 := shw.tup _ m2
          have sm2 := (sm.tup.2 _ m2).lst
          have shp2 : SeqAt.shaped (.list ws) = true := KL.sh_tup shp _ m2
          refine ⟨_, rfl, a, _, 0, x1, rfl, rfl, hS, rfl, _, _, rfl, h1, shw1.sh, shw1.dp, shw1.ln, _, rfl, r, S, rfl, sp, ok, b6, fun bl bs H1 s1 nbl ebl tb => ?_⟩
          have lbs : (bs.map V.ref).length = (begOf S).length := by rw [List.length_map, tb.len, List.length_map]
          have lb64 : (begOf S).length ≤ 64 := Nat.le_trans beg_len p6
          refine ⟨bl, rfl, ⟨_, SqL.of ebl⟩, fun D nD => lc_list (xs := bs.map V.ref) (fun j H' => Same H1 H' ∧ H' D = some (.lst ((((begOf S).take j).map shT).map V.str))) ⟨same_new nD, upd_same⟩ (fun j H' _ h => SqL.of (h.1 _ _ ebl)) ?_ ?_⟩
          · rintro j y H2 ey ⟨s2, e2'⟩
            obtain ⟨ta, f, rfl, hf, hqf, htk⟩ := tups_fill tb ey
            have ff := fineBools (bs := f) (n := 10) (by rw [beg_mem hf]; exact b10)
            refine ⟨rfl, _, rfl, _, _, rfl, .tup (same_tup s2 hqf) (dpBools f), ff.sh, Nat.le_trans ff.dp (by omega), ff.len (by omega), _, e2', ?_, ?_, ?_⟩
            · simp only [List.length_map, List.length_take]; exact small1000 (by omega)
            · exact fun b o hb => by rw [upd_ne (ne_of_none hb nD)]; exact s2 _ _ hb
            · rw [upd_same, htk, List.map_append, List.map_append]; rfl
          rintro H2 ⟨s2, e2'⟩
          rw [lbs, List.take_length] at e2'
          have s02 := s1.trans s2
          refine ⟨D, _, rfl, .inl (SqL.of e2'), rfl, flat_strs _, _, rfl, ?_⟩
          rw [in_beg pn1]
          refine ite2 (fun z1 => ?_) (fun z1 => ?_)
          · have z1' : begB S d1 = false := by simpa using z1
            have : runB S (.tuple [d1, .list ws]) = false := by
              show (begB S d1 && wordsB S (.list ws) 2000 && decide (0 < ws.length)) = false
              rw [z1', Bool.false_and, Bool.false_and]
            have q2 := q H2 s02
            rw [this] at q2; exact q2
          have z1' : begB S d1 = true := by simpa using z1
          cases h2 with
          | @lst b ys _ hL hB =>
            have lb := dpA_len hB
            have fin0 : ∀ H', Same H H' → ¬ (1 ≤ ws.length ∧ ws.length ≤ 2000) → Q (.bl false) H' := fun H' s' hn => by
              have : runB S (.tuple [d1, .list ws]) = false := by
                show (begB S d1 && (decide ((ws.length : Int) ≤ 2000) && ws.all (wordB S)) && decide (0 < ws.length)) = false
                by_cases c1 : 1 ≤ ws.length
                · have c2 : ¬ ws.length ≤ 2000 := fun c => hn ⟨c1, c⟩
                  rw [decide_eq_false (show ¬ ((ws.length : Int) ≤ 2000) by omega), Bool.false_and, Bool.and_false, Bool.false_and]
                · rw [decide_eq_false (show ¬ 0 < ws.length by omega), Bool.and_false]
              have q2 := q H' s'
              rw [this] at q2; exact q2
            refine ⟨_, rfl, a, _, 1, .ref b, rfl, rfl, same_tup s02 hS, rfl, b, _, rfl, .inl (s02.seq hL), _, _, rfl, rfl, _, rfl, ite2 (fun z2 => ?_) (fun z2 => ?_)⟩
            · have z2' : (1 : Int) ≤ ((ys.length : Nat) : Int) := of_decide_eq_true z2
              refine ⟨_, _, rfl, rfl, _, rfl, ite2 (fun z3 => ?_) (fun z3 => ?_)⟩
              · have z3' : ¬ ((ys.length : Nat) : Int) ≤ 2000 := by simpa using z3
                exact fin0 H2 s02 fun h => by omega
              have z3' : ((ys.length : Nat) : Int) ≤ 2000 := by simpa using z3
              refine ⟨_, rfl, r, S, rfl, sp.same s02, ok, fun wl wa H3 s3 nwl ewl tw => ?_⟩
              have lwa : (wa.map V.ref).length = (wordsOf S.b S.i S.pr).length := by rw [List.length_map, tw.len, List.length_map]
              have lw16 : (wordsOf S.b S.i S.pr).length ≤ 16 := Nat.le_trans words_len p4
              refine ⟨wl, rfl, ⟨_, SqL.of ewl⟩, fun D2 nD2 => lc_list (xs := wa.map V.ref) (fun j H' => Same H3 H' ∧ H' D2 = some (.lst ((((wordsOf S.b S.i S.pr).take j).map shT).map V.str))) ⟨same_new nD2, upd_same⟩ (fun j H' _ h => SqL.of (h.1 _ _ ewl)) ?_ ?_⟩
              · rintro j y H4 ey ⟨s4, e4⟩
                obtain ⟨ta, f, rfl, hf, hqf, htk⟩ := tups_fill tw ey
                have ff := fineBools (bs := f) (n := 10) (by rw [words_mem hf]; omega)
                refine ⟨rfl, _, rfl, _, _, rfl, .tup (same_tup s4 hqf) (dpBools f), ff.sh, Nat.le_trans ff.dp (by omega), ff.len (by omega), _, e4, ?_, ?_, ?_⟩
                · simp only [List.length_map, List.length_take]; exact small1000 (by omega)
                · exact fun b o hb => by rw [upd_ne (ne_of_none hb nD2)]; exact s4 _ _ hb
                · rw [upd_same, htk, List.map_append, List.map_append]; rfl
              rintro H4 ⟨s4, e4⟩
              rw [lwa, List.take_length] at e4
              have s04 := s02.trans (s3.trans s4)
              refine ⟨_, rfl, a, _, 1, .ref b, rfl, rfl, same_tup s04 hS, rfl, b, rfl, ⟨_, s04.seq hL⟩, fun D3 nD3 => lc_list (xs := ys) (fun j H' => ∃ (zs : List V) (es : List PyData), Same H4 H' ∧ H' D3 = some (.lst zs) ∧ DpAll K H zs es ∧ es = (ws.take j).filter (fun e => !wordB S e)) ⟨[], [], same_new nD3, upd_same, .nil, rfl⟩ (fun j H' _ ⟨_, _, h, _⟩ => (s04.trans h).seq hL) ?_ ?_⟩
              · rintro j y H5 ey ⟨zs, es, s5, e5, d5, hes⟩
                obtain ⟨dj, hdj, hy, hdr⟩ := dpA_at hB ey
                obtain ⟨hlt, ej⟩ := List.getElem?_eq_some_iff.mp hdj
                have mj := List.mem_of_getElem? hdj
                have htk : ws.take (j + 1) = ws.take j ++ [dj] := by rw [List.take_succ_eq_append_getElem hlt, ej]
                have shj := shw2.lst dj mj
                have s05 := s04.trans s5
                refine ⟨rfl, _, rfl, _, _, rfl, dpSame hy s05, shj.sh, shj.dp, shj.ln, _, rfl, D2, _, rfl, .inl (SqL.of (s5 _ _ e4)), rfl, flat_strs _, _, rfl, ?_⟩
                rw [in_word (pn2 dj mj)]
                have lz : zs.length ≤ 5000 := by
                  rw [dpA_len d5, hes]
                  exact Nat.le_trans (List.length_filter_le _ _) (by rw [List.length_take]; omega)
                refine ite2 (fun z4 => ?_) (fun z4 => ?_)
                · have z4' : (!wordB S dj) = true := z4
                  refine ⟨_, rfl, _, e5, small5000 (by omega), zs ++ [y], es ++ [dj], ?_, upd_same, ?_, ?_⟩
                  · exact fun b o hb => by rw [upd_ne (ne_of_none hb nD3)]; exact s5 _ _ hb
                  · exact dpA_snoc hy d5
                  · rw [hes, htk, List.filter_append, List.filter_cons_of_pos (p := fun e => !wordB S e) z4']; rfl
                · have z4' : ¬ (!wordB S dj) = true := z4
                  refine ⟨zs, es, s5, e5, d5, ?_⟩
                  rw [hes, htk, List.filter_append, List.filter_cons_of_neg (p := fun e => !wordB S e) z4', List.filter_nil, List.append_nil]
              rintro H5 ⟨zs, es, s5, e5, d5, hes⟩
              rw [lb, List.take_length] at hes
              refine ⟨(by show 0 ≤ sizeLine; decide), fun Z nZ => ?_⟩
              have s6 : Same H5 (upd H5 Z (.lst [])) := same_new nZ
              have e6 : (upd H5 Z (.lst [])) Z = some (.lst []) := upd_same
              generalize (upd H5 Z (.lst [])) = H6 at *
              have shz : SeqAt.shaped (.list es) = true := sh_subL shp2 fun d hd => by rw [hes] at hd; exact (List.mem_filter.mp hd).1
              refine ⟨_, _, .lst (SqL.of (s6 _ _ e5)) (dpA_same d5 (s04.trans (s5.trans s6))), .lst (SqL.of e6) .nil, shz, shNil, ?_⟩
              rw [eqvNilD]
              have : runB S (.tuple [d1, .list ws]) = es.isEmpty := by
                show (begB S d1 && (decide ((ws.length : Int) ≤ 2000) && ws.all (wordB S)) && decide (0 < ws.length)) = _
                rw [z1', decide_eq_true (show ((ws.length : Int) ≤ 2000) by omega), decide_eq_true (show 0 < ws.length by omega), Bool.true_and, Bool.true_and, Bool.and_true, hes, Bool.eq_iff_iff, List.isEmpty_iff, List.filter_eq_nil_iff, List.all_eq_true]
                constructor
                · intro h d hd; rw [h d hd]; simp
                · intro h d hd; have := h d hd; simpa using this
              have q2 := q H6 (s04.trans (s5.trans s6))
              rw [this] at q2; exact q2
            · have z2' : ¬ (1 : Int) ≤ ((ys.length : Nat) : Int) := fun h => z2 (decide_eq_true h)
              exact ⟨_, rfl, iteT (fin0 H2 s02 fun h => by omega)⟩
        | int i => exact iteT q0
        | bool b => exact iteT q0
        | none => exact iteT q0
        | str _ => exact iteT q0
        | tuple _ => exact iteT q0
        | dict _ => exact iteT q0
  | int i => exact iteT q0
  | bool b => exact iteT q0
  | none => exact iteT q0
  | str _ => exact iteT q0
  | list _ => exact iteT q0
  | dict _ => exact iteT q0

end
end K21
namespace K21
open PySem PySem.Spec PyProof.Rows L2 KL
section
variable {P : Program} {w : World} {K : PySem.W.Frag} {mg : Str → Option Value} {base : Heap}
theorem shown_run {S : MS} {f : List Bool} {ws : List (List Bool)} (hf : f ∈ begOf S) (hw : ∀ g ∈ ws, g ∈ wordsOf S.b S.i S.pr) (l1 : 1 ≤ ws.length) (l30 : ws.length ≤ 30) : runB S (.tuple [.tuple (f.map PyData.bool), .list (ws.map fun g => .tuple (g.map PyData.bool))]) = true := by
  show (begB S _ && (decide (((ws.map fun g => PyData.tuple (g.map PyData.bool)).length : Int) ≤ 2000) && (ws.map fun g => PyData.tuple (g.map PyData.bool)).all (wordB S)) && decide (0 < (ws.map fun g => PyData.tuple (g.map PyData.bool)).length)) = true
  rw [begB_iff.mpr ⟨f, hf, rfl⟩, List.length_map, decide_eq_true (by omega), decide_eq_true (by omega), List.all_map, Bool.true_and, Bool.true_and, Bool.and_true, List.all_eq_true]
  exact fun g hg => wordB_iff.mpr ⟨g, hw g hg, rfl⟩
theorem RunAt.tw' {p : Addr} {H : Hp} {S : MS} {ru st wl : Addr} {f : List Bool} {wa : List Addr} {ws : List (List Bool)} (h : RunAt K p H S ru st wl f wa ws) (ok : MOk S) : Bt K 1000 3 H (.ref ru) (.tuple [.tuple (f.map PyData.bool), .list (ws.map fun g => .tuple (g.map PyData.bool))]) := by
  have b10 := ok.b10
  have i4 := ok.i4
  have fw := fineWords (fs := ws) (n := 4) (l := 30) (fun g hg => by rw [words_mem (h.hw g hg)]; exact i4) h.l30
  have ff := fineBools (bs := f) (n := 10) (by rw [beg_mem h.hf]; exact b10)
  refine ⟨.tup (SqT.of h.er) (.cons (.tup h.hs (dpBools f)) (.cons (.lst (SqL.of h.ew) (dpWords h.tw)) .nil)), ?_, ?_, ?_⟩
  · refine (Fine.tuple (n := 150) (m := 2) (l := 2) (fun d hd => ?_) (by show 2 ≤ 2; decide)).le (by decide) (by decide)
    simp only [List.mem_cons, List.not_mem_nil, or_false] at hd
    rcases hd with rfl | rfl
    · exact ff.le (by decide) (by decide)
    · exact fw.le (by decide) (by decide)
  · refine KR.Pn.tuple fun d hd => ?_
    simp only [List.mem_cons, List.not_mem_nil, or_false] at hd
    rcases hd with rfl | rfl
    · exact pn_bools f
    · exact KR.Pn.list fun d hd => by obtain ⟨g, _, rfl⟩ := List.mem_map.mp hd; exact pn_bools g
  · refine Sm.mkT (by show 2 ≤ 900; decide) fun d hd => ?_
    simp only [List.mem_cons, List.not_mem_nil, or_false] at hd
    rcases hd with rfl | rfl
    · exact Sm.bools f (by rw [beg_mem h.hf]; omega)
    · refine Sm.mkL (by rw [List.length_map]; have := h.l30; omega) fun d hd => ?_
      obtain ⟨g, hg, rfl⟩ := List.mem_map.mp hd
      exact Sm.bools g (by rw [words_mem (h.hw g hg)]; omega)

/-! ### what is told of a run -/
section
variable {p : Addr} {H H' : Hp} {S : MS} {ru st wl : Addr} {f : List Bool} {wa : List Addr} {ws : List (List Bool)}
theorem RunAt.same (h : RunAt K p H S ru st wl f wa ws) (s : Same H H') : RunAt K p H' S ru st wl f wa ws := ⟨s _ _ h.er, same_tup s h.hs, h.hf, s _ _ h.ew, h.tw.same s, h.hw, h.l1, h.l30, h.wp⟩
theorem RunAt.tg (h : RunAt K p H S ru st wl f wa ws) (ok : MOk S) : Tg K H (.ref ru) (.tuple [.tuple (f.map PyData.bool), .list (ws.map fun g => .tuple (g.map PyData.bool))]) := ⟨.inl (h.tw' ok).1, (h.tw' ok).2.2.2⟩
theorem RunAt.yes (h : RunAt K p H S ru st wl f wa ws) : runB S (.tuple [.tuple (f.map PyData.bool), .list (ws.map fun g => .tuple (g.map PyData.bool))]) = true := shown_run h.hf h.hw h.l1 h.l30
theorem RunAt.no (h : RunAt K p H S ru st wl f wa ws) {A : Prop} (z : runB S (.tuple [.tuple (f.map PyData.bool), .list (ws.map fun g => .tuple (g.map PyData.bool))]) = false) : A := by rw [h.yes] at z; cases z
theorem RunAt.lwa (h : RunAt K p H S ru st wl f wa ws) : (wa.map V.ref).length = ws.length := by rw [List.length_map, h.tw.len, List.length_map]
end
def spChk (C CR : Addr) (K : PySem.W.Frag) : Sp := fun vs H Q E => ∃ (m : Addr) (S : MS) (x : V) (d : PyData), vs = [.ref m, x] ∧ MachAt K C H m S ∧ MOk S ∧ Tg K H x d ∧ (runB S d = true → ∀ H', Same H H' → Q x H') ∧ (runB S d = false → ∀ H', Same H H' → E (.ref CR) none H')
theorem ok_chk {f C CR : Addr} {fd : FuncData} {k : Nat} (F : Fun K "checked" "checked" s_checked f fd) (D_is_run : Df P w K mg base k "is_run" ["machine", "thing"] (spIsRun C K)) (E_NoRun : ErT K mg "NoRun" CR) :
    FnOk P w K mg base (L2.CX P w) (k + 1) f fd ["machine", "run"] (spChk C CR K) := by
  refine F.okX sc_checked (fun vs H Q E h => ?_) (fun cdv A outer s H vs Q E hr h => ?_)
  · obtain ⟨m, S, x, d, rfl, _⟩ := h
    rfl
  obtain ⟨m, S, x, d, rfl, ma, ok, tx, q1, q2⟩ := h
  refine ⟨_, (pss_cons (ps_if (pt_not (pt_val (pe_df D_is_run hr (by rfl) (pa_cons (pv 0) (pa_cons (pv 1) pa_nil)))))
       (pss_one (ps_raiseT E_NoRun rfl (takes_of rfl rfl rfl rfl) (by rfl)))
       pss_nil)
       (pss_one (ps_ret (pv 1)))), ?_⟩
  refine ⟨_, rfl, _, rfl, m, S, x, d, rfl, ma, ok, tx, fun H1 s1 => ⟨_, rfl, ?_⟩⟩
  cases hb : runB S d with
  | false => exact iteT (q2 hb H1 s1)
  | true => exact iteF ⟨_, rfl, q1 hb H1 s1⟩
/-- a thing that is no run; a run -/
def BadRun (K : PySem.W.Frag) (H : Hp) (S : MS) (x : V) : Prop := ∃ d, Tg K H x d ∧ runB S d = false
def spStd (C CR : Addr) (K : PySem.W.Frag) : Sp := fun vs H Q E => ∃ (m : Addr) (S : MS) (x : V), vs = [.ref m, x] ∧ MachAt K C H m S ∧ MOk S ∧
  ((BadRun K H S x ∧ ∀ H', Same H H' → E (.ref CR) none H') ∨ ∃ (p ru st wl : Addr) (f : List Bool) (wa : List Addr) (ws : List (List Bool)), x = .ref ru ∧ RunAt K p H S ru st wl f wa ws ∧ ∀ v H', Same H H' → Q v H')
theorem ok_std {f C CR : Addr} {fd : FuncData} {k : Nat} (F : Fun K "stands" "stands" s_stands f fd) (D_checked : Dx P w K mg base k "checked" ["machine", "run"] (spChk C CR K)) (DM_behind : Dm P w K mg base k C "behind" ["self", "stand", "word"] (spBeat C K)) :
    FnOk P w K mg base (L2.CX P w) (k + 1) f fd ["machine", "run"] (spStd C CR K) := by
  refine F.okX sc_stands (fun vs H Q E h => ?_) (fun cdv A outer s H vs Q E hr h => ?_)
  · obtain ⟨m, S, x, rfl, _⟩ := h
    rfl
  obtain ⟨m, S, x, rfl, ma, ok, h⟩ := h
  refine ⟨_, (pss_cons (ps_asg (pe_dx D_checked hr (by rfl) (fun σ => passAt (takes_of rfl rfl rfl rfl) σ) (pa_cons (pv 0) (pa_cons (pv 1) pa_nil))) (pg_tup rfl (pgs_cons (pg_name (i := 2) sc_stands.nd rfl (.inl rfl)) (pgs_cons (pg_name (i := 3) sc_stands.nd rfl (.inl rfl)) pgs_nil))))
       (pss_cons (ps_set (i := 4) sc_stands.nd rfl (.inl rfl) (pe_lst (pa_cons (pv 2) pa_nil)))
       (pss_cons (ps_for (passes_of rfl) rfl (pi_list (pv 3)) (pg_name (i := 5) sc_stands.nd rfl (.inl rfl))
       (pss_cons (ps_set (i := 2) sc_stands.nd rfl (.inl rfl) (pe_dm DM_behind hr (pv 0) (pa_cons (pv 2) (pa_cons (pv 5) pa_nil))))
       (pss_one (ps_expr (pe_bm PySem.F.plainAttrs_list PySem.F.slot_list_append PySem.F.type_list_append mt_append (pv 4) (pa_cons (pv 2) pa_nil))))))
       (pss_one (ps_ret (pv 4)))))), ?_⟩
  rcases h with ⟨⟨d, td, hd⟩, q⟩ | ⟨p, ru, st, wl, f', wa, ws, rfl, ra, q⟩
  · exact ⟨_, rfl, _, rfl, m, S, x, d, rfl, ma, ok, td, (fun z => by rw [hd] at z; cases z), fun _ H1 s1 => q H1 s1⟩
  refine ⟨_, rfl, _, rfl, m, S, .ref ru, _, rfl, ma, ok, ra.tg ok, fun _ H1 s1 => ?_, fun z => ra.no z⟩
  have ra1 := ra.same s1
  refine ⟨ru, _, rfl, SqT.of ra1.er, rfl, _, _, rfl, _, _, rfl, rfl, ?_⟩
  refine ⟨_, rfl, (by show 1 ≤ sizeLine; decide), fun g ng => ?_⟩
  have ngH : H g = none := s1.free ng
  have l30 := ra.l30
  refine ⟨_, rfl, wl, rfl, ⟨_, SqL.of (same_new ng _ _ ra1.ew)⟩, for_list (xs := wa.map V.ref) (fun j σ' H' => ∃ (sa : Addr) (bs : List Bool) (y5 : Option V) (xs : List V), σ' = [some (.ref m), some (.ref ru), some (.ref sa), some (.ref wl), some (.ref g), y5] ∧ Same H H' ∧ SqT K H' sa (bs.map V.bl) ∧ bs.length = S.b ∧ H' g = some (.lst xs) ∧ xs.length = j + 1) ?_ ?_ ?_ ?_⟩
  · exact ⟨st, f', _, _, rfl, s1.trans (same_new ng), same_tup (same_new ng) ra1.hs, beg_mem ra.hf, upd_same, rfl⟩
  · rintro j σ' H' _ ⟨_, _, _, _, _, sX, _⟩
    exact SqL.of (sX _ _ ra.ew)
  · rintro j x σ' H2 ex ⟨sa, bs, y5, xs, rfl, s2, hsa, lb, eg, lx⟩
    have hj : j < ws.length := by have := (List.getElem?_eq_some_iff.mp ex).1; rwa [ra.lwa] at this
    obtain ⟨ta, g', rfl, hg', hq, _⟩ := tups_fill (ra.tw.same s2) ex
    have ma2 := ma.same s2
    obtain ⟨dx, fs, em, hno⟩ := machIns ma2
    refine ⟨_, rfl, m, dx, fs, rfl, em, hno _ (by decide +kernel), _, rfl, _, rfl, m, sa, ta, S, bs, g', rfl, ma2, ok, hsa, hq, lb, ra.hw g' hg', fun r H3 s3 nr er => ?_⟩
    refine ⟨_, rfl, .inl ⟨rfl, _, SqL.of (s3 _ _ eg)⟩, _, rfl, g, _, _, rfl, rfl, s3 _ _ eg, small1000 (by omega), r, S.nx.map (sayB (fillOf S.gs (bs ++ g'))), some (.ref ta), xs ++ [.ref r], rfl, ?_, ?_, ?_, upd_same, ?_⟩
    · exact fun b o hb => by rw [upd_ne (ne_of_none hb ngH)]; exact s3 _ _ (s2 _ _ hb)
    · exact sqT_lst (s3 _ _ eg) (SqT.of er)
    · rw [List.length_map]; exact ok.nxl
    · rw [List.length_append, lx]; rfl
  rintro σ' H2 ⟨sa, bs, y5, xs, rfl, s2, hsa, lb, eg, lx⟩
  exact ⟨_, rfl, q _ H2 s2⟩
def spFls (C CR : Addr) (K : PySem.W.Frag) : Sp := fun vs H Q E => ∃ (m : Addr) (S : MS) (x : V), vs = [.ref m, x] ∧ MachAt K C H m S ∧ MOk S ∧
  ((BadRun K H S x ∧ ∀ H', Same H H' → E (.ref CR) none H') ∨ ∃ (p ru st wl : Addr) (f : List Bool) (wa : List Addr) (ws : List (List Bool)), x = .ref ru ∧ RunAt K p H S ru st wl f wa ws ∧
    ∀ (r : Addr) (fa : List Addr) (fs : List (List Bool)) (H' : Hp), Same H H' → H' r = some (.lst (fa.map V.ref)) → TupsV K H' fa (fs.map fun g => g.map V.bl) → (∀ g ∈ fs, g.length = S.b + S.i + S.gs.length) → fs.length ≤ 30 → Q (.ref r) H')
theorem ok_fls {f C CR : Addr} {fd : FuncData} {k : Nat} (F : Fun K "fillings" "fillings" s_fillings f fd) (D_checked : Dx P w K mg base k "checked" ["machine", "run"] (spChk C CR K)) (DM_behind : Dm P w K mg base k C "behind" ["self", "stand", "word"] (spBeat C K)) (DM_filling : Dm P w K mg base k C "filling" ["self", "stand", "word"] (spFilling C K)) :
    FnOk P w K mg base (L2.CX P w) (k + 1) f fd ["machine", "run"] (spFls C CR K) := by
  refine F.okX sc_fillings (fun vs H Q E h => ?_) (fun cdv A outer s H vs Q E hr h => ?_)
  · obtain ⟨m, S, x, rfl, _⟩ := h
    rfl
  obtain ⟨m, S, x, rfl, ma, ok, h⟩ := h
  refine ⟨_, (pss_cons (ps_asg (pe_dx D_checked hr (by rfl) (fun σ => passAt (takes_of rfl rfl rfl rfl) σ) (pa_cons (pv 0) (pa_cons (pv 1) pa_nil))) (pg_tup rfl (pgs_cons (pg_name (i := 2) sc_fillings.nd rfl (.inl rfl)) (pgs_cons (pg_name (i := 3) sc_fillings.nd rfl (.inl rfl)) pgs_nil))))
       (pss_cons (ps_set (i := 4) sc_fillings.nd rfl (.inl rfl) (pe_lst pa_nil))
       (pss_cons (ps_for (passes_of rfl) rfl (pi_list (pv 3)) (pg_name (i := 5) sc_fillings.nd rfl (.inl rfl))
       (pss_cons (ps_expr (pe_bm PySem.F.plainAttrs_list PySem.F.slot_list_append PySem.F.type_list_append mt_append (pv 4) (pa_cons (pe_dm DM_filling hr (pv 0) (pa_cons (pv 2) (pa_cons (pv 5) pa_nil))) pa_nil)))
       (pss_one (ps_set (i := 2) sc_fillings.nd rfl (.inl rfl) (pe_dm DM_behind hr (pv 0) (pa_cons (pv 2) (pa_cons (pv 5) pa_nil)))))))
       (pss_one (ps_ret (pv 4)))))), ?_⟩
  rcases h with ⟨⟨d, td, hd⟩, q⟩ | ⟨p, ru, st, wl, f', wa, ws, rfl, ra, q⟩
  · exact ⟨_, rfl, _, rfl, m, S, x, d, rfl, ma, ok, td, (fun z => by rw [hd] at z; cases z), fun _ H1 s1 => q H1 s1⟩
  refine ⟨_, rfl, _, rfl, m, S, .ref ru, _, rfl, ma, ok, ra.tg ok, fun _ H1 s1 => ?_, fun z => ra.no z⟩
  have ra1 := ra.same s1
  refine ⟨ru, _, rfl, SqT.of ra1.er, rfl, _, _, rfl, _, _, rfl, rfl, ?_⟩
  refine ⟨(by show 0 ≤ sizeLine; decide), fun g ng => ?_⟩
  have ngH : H g = none := s1.free ng
  have l30 := ra.l30
  refine ⟨_, rfl, wl, rfl, ⟨_, SqL.of (same_new ng _ _ ra1.ew)⟩, for_list (xs := wa.map V.ref) (fun j σ' H' => ∃ (sa : Addr) (bs : List Bool) (y5 : Option V) (fa : List Addr) (fs : List (List Bool)), σ' = [some (.ref m), some (.ref ru), some (.ref sa), some (.ref wl), some (.ref g), y5] ∧ Same H H' ∧ SqT K H' sa (bs.map V.bl) ∧ bs.length = S.b ∧ H' g = some (.lst (fa.map V.ref)) ∧ TupsV K H' fa (fs.map fun g => g.map V.bl) ∧ (∀ g ∈ fs, g.length = S.b + S.i + S.gs.length) ∧ fs.length = j) ?_ ?_ ?_ ?_⟩
  · exact ⟨st, f', _, [], [], rfl, s1.trans (same_new ng), same_tup (same_new ng) ra1.hs, beg_mem ra.hf, upd_same, .nil, (fun g hg => by cases hg), rfl⟩
  · rintro j σ' H' _ ⟨_, _, _, _, _, _, sX, _⟩
    exact SqL.of (sX _ _ ra.ew)
  · rintro j x σ' H2 ex ⟨sa, bs, y5, fa, fs, rfl, s2, hsa, lb, eg, tf, hl, lj⟩
    have hj : j < ws.length := by have := (List.getElem?_eq_some_iff.mp ex).1; rwa [ra.lwa] at this
    obtain ⟨ta, g', rfl, hg', hq, _⟩ := tups_fill (ra.tw.same s2) ex
    have ma2 := ma.same s2
    obtain ⟨dx, fl, em, hno⟩ := machIns ma2
    refine ⟨_, rfl, .inl ⟨rfl, _, SqL.of eg⟩, _, rfl, m, dx, fl, rfl, em, hno _ (by decide +kernel), _, rfl, _, rfl, m, sa, ta, S, bs, g', rfl, ma2, ok, hsa, hq, lb, ra.hw g' hg', fun r H3 s3 nr er => ?_⟩
    have lfa : fa.length = j := by rw [tf.len, List.length_map, lj]
    refine ⟨g, _, _, rfl, rfl, s3 _ _ eg, by rw [List.length_map]; exact small1000 (by omega), ?_⟩
    have s4 : Same H (upd H3 g (.lst (fa.map V.ref ++ [.ref r]))) := fun b o hb => by rw [upd_ne (ne_of_none hb ngH)]; exact s3 _ _ (s2 _ _ hb)
    have e4 : (upd H3 g (.lst (fa.map V.ref ++ [.ref r]))) g = some (.lst ((fa ++ [r]).map V.ref)) := by rw [upd_same, List.map_append]; rfl
    have t4 : TupsV K (upd H3 g (.lst (fa.map V.ref ++ [.ref r]))) (fa ++ [r]) ((fs ++ [fillOf S.gs (bs ++ g')]).map fun g => g.map V.bl) := by rw [List.map_append]; exact ((tf.same s3).snoc (SqT.of er)).lst (s3 _ _ eg)
    have h4 : SqT K (upd H3 g (.lst (fa.map V.ref ++ [.ref r]))) sa (bs.map V.bl) := sqT_lst (s3 _ _ eg) (same_tup s3 hsa)
    generalize (upd H3 g (.lst (fa.map V.ref ++ [.ref r]))) = H4 at *
    have ma4 := ma.same s4
    obtain ⟨dx4, fl4, em4, hno4⟩ := machIns ma4
    obtain ⟨ta', g'', e', hg'', hq4, _⟩ := tups_fill (ra.tw.same s4) ex
    cases e'
    refine ⟨_, rfl, m, dx4, fl4, rfl, em4, hno4 _ (by decide +kernel), _, rfl, _, rfl, m, sa, ta, S, bs, g'', rfl, ma4, ok, h4, hq4, lb, ra.hw g'' hg'', fun r5 H5 s5 nr5 er5 => ?_⟩
    refine ⟨r5, _, _, fa ++ [r], fs ++ [fillOf S.gs (bs ++ g')], rfl, s4.trans s5, SqT.of er5, by rw [List.length_map]; exact ok.nxl, s5 _ _ e4, t4.same s5, ?_, by rw [List.length_append, lj]; rfl⟩
    intro z hz
    rcases List.mem_append.mp hz with hz | hz
    · exact hl z hz
    · rw [List.mem_singleton] at hz
      rw [hz, fillOf_len, List.length_append, lb, words_mem (ra.hw g' hg')]
  rintro σ' H2 ⟨sa, bs, y5, fa, fs, rfl, s2, hsa, lb, eg, tf, hl, lj⟩
  exact ⟨_, rfl, q g fa fs H2 s2 eg tf hl (by rw [lj, ra.lwa]; exact l30)⟩

end
end K21
namespace K21
open PySem PySem.Spec PyProof.Rows L2 KL
section
variable {P : Program} {w : World} {K : PySem.W.Frag} {mg : Str → Option Value} {base : Heap}
theorem b01 (b : Bool) : (if b = true then Str.ofString "1" else Str.ofString "0").length = 1 := by cases b <;> rfl
theorem ok_wave {f C CR : Addr} {fd : FuncData} {k : Nat} (F : Fun K "wave" "wave" s_wave f fd) (D_fillings : Dx P w K mg base (k + 1) "fillings" ["machine", "run"] (spFls C CR K)) (DL_Machine : Dl P w K mg base k C ["self"] (spMLen C K)) (m_range : mg "range" = none) (m_len : mg "len" = none) :
    FnOk P w K mg base (L2.CX P w) (k + 2) f fd ["machine", "run"] (spStd C CR K) := by
  refine F.okX sc_wave (fun vs H Q E h => ?_) (fun cdv A outer s H vs Q E hr h => ?_)
  · obtain ⟨m, S, x, rfl, _⟩ := h
    rfl
  obtain ⟨m, S, x, rfl, ma, ok, h⟩ := h
  refine ⟨_, (pss_cons (ps_set (i := 2) sc_wave.nd rfl (.inl rfl) (pe_dx D_fillings hr (by rfl) (fun σ => passAt (takes_of rfl rfl rfl rfl) σ) (pa_cons (pv 0) (pa_cons (pv 1) pa_nil))))
       (pss_cons (ps_set (i := 3) sc_wave.nd rfl (.inl rfl) (pe_lst pa_nil))
       (pss_cons (ps_for (passes_of rfl) rfl (pi_range1 (by rfl) m_range (pa_cons (pe_callB (call_lenD DL_Machine hr) (by rfl) m_len (by decide +kernel) (pa_cons (pv 0) pa_nil)) pa_nil)) (pg_name (i := 4) sc_wave.nd rfl (.inr rfl))
       (pss_one (ps_expr (pe_bm PySem.F.plainAttrs_list PySem.F.slot_list_append PySem.F.type_list_append mt_append (pv 3) (pa_cons (pe_join pe_str (pe_lc (own := [("filling", 5)]) (g := gName 5) (tt := tYes) (by rfl) sc_wave.nd (pi_list (pv 2)) (blkOk_by (by kernel_rfl)) (fun _ _ _ _ _ => (pg_name (i := 5) sc_wave.nd rfl (.inl rfl))) (fun _ _ _ _ _ => pts_nil) (fun _ _ _ _ _ => (pe_ifExp (pt_val (pe_ix (ix_tup' (K := K) rfl) (pv 5) (pv 4) (fun _ _ => rfl))) pe_str pe_str)))) pa_nil)))))
       (pss_one (ps_ret (pe_join pe_str (pv 3))))))), ?_⟩
  rcases h with ⟨bad, q⟩ | ⟨p, ru, st, wl, f', wa, ws, rfl, ra, q⟩
  · exact ⟨_, rfl, _, rfl, m, S, x, rfl, ma, ok, .inl ⟨bad, fun H1 s1 => q H1 s1⟩⟩
  refine ⟨_, rfl, _, rfl, m, S, .ref ru, rfl, ma, ok, .inr ⟨p, ru, st, wl, f', wa, ws, rfl, ra, fun r fa fs H1 s1 er tf hl l30 => ?_⟩⟩
  refine ⟨(by show 0 ≤ sizeLine; decide), fun g ng => ?_⟩
  have ngH : H g = none := s1.free ng
  have s2 : Same H1 (upd H1 g (.lst [])) := same_new ng
  have e2 : (upd H1 g (.lst [])) g = some (.lst []) := upd_same
  have rg : r ≠ g := fun z => by rw [z, ng] at er; cases er
  generalize (upd H1 g (.lst [])) = H2 at *
  have ma2 := ma.same (s1.trans s2)
  obtain ⟨dx, fl, em, hno⟩ := machIns ma2
  have b10 := ok.b10
  have i4 := ok.i4
  have g24 := ok.g24
  have lfa : (fa.map V.ref).length = fs.length := by rw [List.length_map, tf.len, List.length_map]
  refine ⟨_, rfl, m, dx, fl, rfl, em, m, S, rfl, ma2, _, rfl, by omega, by omega, _, rfl, by omega, by omega, for_range (lo := 0) (n := (((S.b + S.i + S.gs.length : Nat) : Int)).toNat) (fun j σ' H' => ∃ (y4 y5 : Option V) (ys : List Str), σ' = [some (.ref m), some (.ref ru), some (.ref r), some (.ref g), y4, y5] ∧ Same H H' ∧ H' r = some (.lst (fa.map V.ref)) ∧ TupsV K H' fa (fs.map fun g => g.map V.bl) ∧ H' g = some (.lst (ys.map V.str)) ∧ ys.length = j ∧ ∀ y ∈ ys, y.length ≤ 30) ?_ ?_ ?_⟩
  · exact ⟨_, _, [], rfl, s1.trans s2, s2 _ _ er, tf.same s2, e2, rfl, (fun y hy => by cases hy)⟩
  · rintro j σ' H3 hj ⟨y4, y5, ys, rfl, s3, er3, tf3, eg3, lj, hy⟩
    have hj' : j < S.b + S.i + S.gs.length := by omega
    refine ⟨_, rfl, .inl ⟨rfl, _, SqL.of eg3⟩, ?_⟩
    refine ⟨⟨_, rfl⟩, _, rfl, r, rfl, ⟨_, SqL.of er3⟩, fun D nD => lc_list (xs := fa.map V.ref) (fun i H' => ∃ zs : List Str, Same H3 H' ∧ H' D = some (.lst (zs.map V.str)) ∧ zs.length = i ∧ ∀ z ∈ zs, z.length = 1) ⟨[], same_new nD, upd_same, rfl, (fun z hz => by cases hz)⟩ (fun i H' _ ⟨_, h, _⟩ => SqL.of (h _ _ er3)) ?_ ?_⟩
    · rintro i x H4 ex ⟨zs, s4, e4, li, hz⟩
      obtain ⟨ta, g', rfl, hg', hq, _⟩ := tups_fill (tf3.same s4) ex
      have lg := hl g' hg'
      have hi : i < 30 := by have := (List.getElem?_eq_some_iff.mp ex).1; omega
      obtain ⟨b, hb⟩ : ∃ b, g'[j]? = some b := ⟨g'[j], List.getElem?_eq_getElem (by omega)⟩
      have at0 : atI (g'.map V.bl) (0 + (j : Int)) = some (.bl b) := by
        obtain ⟨v, a1, a2⟩ := atI_at (xs := g'.map V.bl) (i := 0 + (j : Int)) (by omega) (by rw [List.length_map]; omega)
        rw [show (0 + (j : Int)).toNat = j by omega, List.getElem?_map, hb] at a2
        cases a2; exact a1
      have fin : ∀ u : Str, u.length = 1 → ∃ o, H4 D = some (.lst o) ∧ o.length < sizeLine ∧ ∃ zs : List Str, Same H3 (upd H4 D (.lst (o ++ [.str u]))) ∧ (upd H4 D (.lst (o ++ [.str u]))) D = some (.lst (zs.map V.str)) ∧ zs.length = i + 1 ∧ ∀ z ∈ zs, z.length = 1 := fun u hu => by
        refine ⟨_, e4, by rw [List.length_map]; exact small1000 (by omega), zs ++ [u], fun b o hb => by rw [upd_ne (ne_of_none hb nD)]; exact s4 _ _ hb, by rw [upd_same, List.map_append]; rfl, by rw [List.length_append, li]; rfl, fun z hz' => ?_⟩
        rcases List.mem_append.mp hz' with h | h
        · exact hz z h
        · rw [List.mem_singleton] at h; rw [h]; exact hu
      refine ⟨rfl, _, rfl, _, rfl, ta, _, _, .bl b, rfl, rfl, hq, at0, _, rfl, ite2 (fun c => ?_) (fun c => ?_)⟩
      · exact fin _ rfl
      · exact fin _ rfl
    rintro H4 ⟨zs, s4, e4, li, hz⟩
    have sum1 : ∀ l : List Str, (∀ z ∈ l, z.length = 1) → (l.map (·.length)).sum = l.length := fun l => by
      induction l with
      | nil => intro _; rfl
      | cons z l ih =>
        intro h
        rw [List.map_cons, List.sum_cons, ih fun y hy => h y (List.mem_cons_of_mem _ hy), h z List.mem_cons_self, List.length_cons]; omega
    have lz : zs.length ≤ 30 := by rw [li, lfa]; exact l30
    refine ⟨_, D, zs, rfl, rfl, .inl (SqL.of e4), ?_, g, _, _, rfl, rfl, s4 _ _ eg3, ?_, ?_⟩
    · rw [sum1 zs hz, show (Str.ofString "").length = 0 from rfl]; omega
    · rw [List.length_map]; exact small1000 (by omega)
    have hlen : (Txt.join (Str.ofString "") zs).length ≤ 30 := by
      have h1 := size_glued (Str.ofString "") zs
      rw [sum1 zs hz, show (Str.ofString "").length = 0 from rfl, Nat.mul_zero, Nat.add_zero] at h1
      rw [show Txt.join (Str.ofString "") zs = Builtin.Str.glued (Str.ofString "") zs from rfl, h1]; exact lz
    refine ⟨_, _, ys ++ [Txt.join (Str.ofString "") zs], rfl, fun b o hb => by rw [upd_ne (ne_of_none hb ngH)]; exact s4 _ _ (s3 _ _ hb), ?_, ?_, by rw [upd_same, List.map_append]; rfl, by rw [List.length_append, lj]; rfl, ?_⟩
    · rw [upd_ne rg]; exact s4 _ _ er3
    · exact (tf3.same s4).lst (s4 _ _ eg3)
    · intro y hy'
      rcases List.mem_append.mp hy' with h | h
      · exact hy y h
      · rw [List.mem_singleton] at h; rw [h]; exact hlen
  rintro σ' H3 ⟨y4, y5, ys, rfl, s3, er3, tf3, eg3, lj, hy⟩
  have sumL : ∀ l : List Str, (∀ z ∈ l, z.length ≤ 30) → (l.map (·.length)).sum ≤ l.length * 30 := fun l => by
    induction l with
    | nil => intro _; exact Nat.le_refl _
    | cons z l ih =>
      intro h
      have := ih fun y hy => h y (List.mem_cons_of_mem _ hy)
      have := h z List.mem_cons_self
      rw [List.map_cons, List.sum_cons, List.length_cons]; omega
  refine ⟨⟨_, rfl⟩, _, rfl, _, g, ys, rfl, rfl, .inl (SqL.of eg3), ?_, q _ H3 s3⟩
  have h1 := sumL ys hy
  rw [show (Str.ofString "\n").length = 1 from rfl]
  omega
/-- what may be handed to told_on, to cut -/
def spTon (C CR CW : Addr) (K : PySem.W.Frag) : Sp := fun vs H Q E => ∃ (m : Addr) (S : MS) (x y : V), vs = [.ref m, x, y] ∧ MachAt K C H m S ∧ MOk S ∧
  ((BadRun K H S x ∧ ∀ H', Same H H' → E (.ref CR) none H') ∨ ∃ (p ru st wl : Addr) (f : List Bool) (wa : List Addr) (ws : List (List Bool)) (d : PyData), x = .ref ru ∧ RunAt K p H S ru st wl f wa ws ∧ Tg K H y d ∧
    (wordsB S d (2000 - (ws.length : Int)) = true → ∀ v H', Same H H' → Q v H') ∧ (wordsB S d (2000 - (ws.length : Int)) = false → ∀ H', Same H H' → E (.ref CW) none H'))
theorem ok_ton {f C CR CW : Addr} {fd : FuncData} {k : Nat} {t1 : Tok} (F : Fun K "told_on" "told_on" s_told_on f fd) (D_checked : Dx P w K mg base k "checked" ["machine", "run"] (spChk C CR K)) (D_are_words : Df P w K mg base k "are_words" ["machine", "thing", "most"] (spAreW C K)) (E_NoWord : ErT K mg "NoWord" CW) (g_MOST_BEATS : mg "MOST_BEATS" = some (.int 2000 t1)) (m_len : mg "len" = none) :
    FnOk P w K mg base (L2.CX P w) (k + 1) f fd ["machine", "run", "words"] (spTon C CR CW K) := by
  refine F.okX sc_told_on (fun vs H Q E h => ?_) (fun cdv A outer s H vs Q E hr h => ?_)
  · obtain ⟨m, S, x, y, rfl, _⟩ := h
    rfl
  obtain ⟨m, S, x, y, rfl, ma, ok, h⟩ := h
  refine ⟨_, (pss_cons (ps_asg (pe_dx D_checked hr (by rfl) (fun σ => passAt (takes_of rfl rfl rfl rfl) σ) (pa_cons (pv 0) (pa_cons (pv 1) pa_nil))) (pg_tup rfl (pgs_cons (pg_name (i := 3) sc_told_on.nd rfl (.inl rfl)) (pgs_cons (pg_name (i := 4) sc_told_on.nd rfl (.inl rfl)) pgs_nil))))
       (pss_cons (ps_if (pt_not (pt_val (pe_df D_are_words hr (by rfl) (pa_cons (pv 0) (pa_cons (pv 2) (pa_cons (pe_op op_sub (pe_glob (v := .int 2000) (by rfl) g_MOST_BEATS ⟨_, rfl⟩) (pe_callB call_len_seq (by rfl) m_len (by decide +kernel) (pa_cons (pv 4) pa_nil))) pa_nil))))))
       (pss_one (ps_raiseT E_NoWord rfl (takes_of rfl rfl rfl rfl) (by rfl)))
       pss_nil)
       (pss_one (ps_ret (pe_tup (pa_cons (pv 3) (pa_cons (pe_lst (StX.pa_star (pv 4) (StX.pa_star (pv 2) pa_nil))) pa_nil))))))), ?_⟩
  rcases h with ⟨⟨d, td, hd⟩, q⟩ | ⟨p, ru, st, wl, f', wa, ws, d, rfl, ra, ty, q1, q2⟩
  · exact ⟨_, rfl, _, rfl, m, S, x, d, rfl, ma, ok, td, (fun z => by rw [hd] at z; cases z), fun _ H1 s1 => q H1 s1⟩
  refine ⟨_, rfl, _, rfl, m, S, .ref ru, _, rfl, ma, ok, ra.tg ok, fun _ H1 s1 => ?_, fun z => ra.no z⟩
  have ra1 := ra.same s1
  refine ⟨ru, _, rfl, SqT.of ra1.er, rfl, _, _, rfl, _, _, rfl, rfl, ?_⟩
  have l30 := ra.l30
  refine ⟨_, rfl, _, rfl, _, rfl, wl, _, rfl, .inl (SqL.of ra1.ew), _, _, rfl, rfl, m, S, y, d, _, rfl, ma.same s1, ok.i4, ty.same s1, fun H2 s2 => ⟨_, rfl, ?_⟩⟩
  have s02 := s1.trans s2
  rw [show (((wa.map V.ref).length : Nat) : Int) = (ws.length : Int) by rw [ra.lwa]]
  cases hb : wordsB S d (2000 - (ws.length : Int)) with
  | false => exact iteT (q2 hb H2 s02)
  | true =>
    refine iteF ?_
    have ra2 := ra.same s02
    cases d with
    | list ds =>
      have hd : Dp K H y (.list ds) := ty.1.elim id fun ⟨_, _, _, _, e⟩ => by cases e
      have hl : (ds.length : Int) ≤ 2000 - (ws.length : Int) := of_decide_eq_true (Bool.and_eq_true_iff.mp (show (decide ((ds.length : Int) ≤ 2000 - (ws.length : Int)) && ds.all (wordB S)) = true from hb)).1
      cases hd with
      | @lst a xs _ hS hA =>
        have lx := dpA_len hA
        refine ⟨_, rfl, _, rfl, wl, wa.map V.ref, rfl, .inr (SqL.of ra2.ew), _, rfl, a, xs, rfl, .inr (s02.seq hS), ?_, fun t nt => ?_⟩
        · rw [List.append_nil, List.length_append, ra.lwa]; exact Nat.le_of_lt (small5000 (by omega))
        · exact ⟨(by show 2 ≤ sizeLine; decide), fun u nu => q1 hb _ _ (s02.trans ((same_new nt).trans (same_new nu)))⟩
    | _ => exact absurd hb Bool.false_ne_true
def spCut (C CR CN : Addr) (K : PySem.W.Frag) : Sp := fun vs H Q E => ∃ (m : Addr) (S : MS) (x y : V), vs = [.ref m, x, y] ∧ MachAt K C H m S ∧ MOk S ∧
  ((BadRun K H S x ∧ ∀ H', Same H H' → E (.ref CR) none H') ∨ ∃ (p ru st wl : Addr) (f : List Bool) (wa : List Addr) (ws : List (List Bool)) (d : PyData), x = .ref ru ∧ RunAt K p H S ru st wl f wa ws ∧ Dp K H y d ∧
    (numB d 1 (ws.length : Int) = true → ∀ v H', Same H H' → Q v H') ∧ (numB d 1 (ws.length : Int) = false → ∀ H', Same H H' → E (.ref CN) none H'))
theorem ok_cut {f C CR CN : Addr} {fd : FuncData} {k : Nat} (F : Fun K "cut" "cut" s_cut f fd) (D_checked : Dx P w K mg base k "checked" ["machine", "run"] (spChk C CR K)) (D_is_number : Df P w K mg base k "is_number" ["thing", "least", "most"] (spNum K)) (E_NoNumber : ErA K mg "NoNumber" CN) (m_len : mg "len" = none) :
    FnOk P w K mg base (L2.CX P w) (k + 1) f fd ["machine", "run", "beats"] (spCut C CR CN K) := by
  refine F.okX sc_cut (fun vs H Q E h => ?_) (fun cdv A outer s H vs Q E hr h => ?_)
  · obtain ⟨m, S, x, y, rfl, _⟩ := h
    rfl
  obtain ⟨m, S, x, y, rfl, ma, ok, h⟩ := h
  refine ⟨_, (pss_cons (ps_asg (pe_dx D_checked hr (by rfl) (fun σ => passAt (takes_of rfl rfl rfl rfl) σ) (pa_cons (pv 0) (pa_cons (pv 1) pa_nil))) (pg_tup rfl (pgs_cons (pg_name (i := 3) sc_cut.nd rfl (.inl rfl)) (pgs_cons (pg_name (i := 4) sc_cut.nd rfl (.inl rfl)) pgs_nil))))
       (pss_cons (ps_if (pt_not (pt_val (pe_df D_is_number hr (by rfl) (pa_cons (pv 2) (pa_cons pe_int (pa_cons (pe_callB call_len_seq (by rfl) m_len (by decide +kernel) (pa_cons (pv 4) pa_nil)) pa_nil))))))
       (pss_one (ps_raiseA E_NoNumber rfl (takes_of rfl rfl rfl rfl) (by rfl)))
       pss_nil)
       (pss_one (ps_ret (pe_tup (pa_cons (pv 3) (pa_cons (pe_slice sl_list (pv 4) po_none (po_some (pv 2))) pa_nil))))))), ?_⟩
  rcases h with ⟨⟨d, td, hd⟩, q⟩ | ⟨p, ru, st, wl, f', wa, ws, d, rfl, ra, ty, q1, q2⟩
  · exact ⟨_, rfl, _, rfl, m, S, x, d, rfl, ma, ok, td, (fun z => by rw [hd] at z; cases z), fun _ H1 s1 => q H1 s1⟩
  refine ⟨_, rfl, _, rfl, m, S, .ref ru, _, rfl, ma, ok, ra.tg ok, fun _ H1 s1 => ?_, fun z => ra.no z⟩
  have ra1 := ra.same s1
  refine ⟨ru, _, rfl, SqT.of ra1.er, rfl, _, _, rfl, _, _, rfl, rfl, ?_⟩
  have l30 := ra.l30
  refine ⟨_, rfl, _, rfl, wl, _, rfl, .inl (SqL.of ra1.ew), y, d, 1, _, rfl, dpSame ty s1, _, rfl, ?_⟩
  rw [show (((wa.map V.ref).length : Nat) : Int) = (ws.length : Int) by rw [ra.lwa]]
  cases hb : numB d 1 (ws.length : Int) with
  | false => exact iteT (q2 hb H1 s1)
  | true =>
    refine iteF ?_
    cases d with
    | int n =>
      cases ty
      refine ⟨_, rfl, _, rfl, _, rfl, n, rfl, wl, _, rfl, SqL.of ra1.ew, ?_⟩
      exact fun t nt => ⟨(by show 2 ≤ sizeLine; decide), fun u nu => q1 hb _ _ (s1.trans ((same_new nt).trans (same_new nu)))⟩
    | _ => exact absurd hb Bool.false_ne_true

end
end K21
namespace K21
open PySem PySem.Spec PyProof.Rows L2 KL
section
variable {P : Program} {w : World} {K : PySem.W.Frag} {mg : Str → Option Value} {base : Heap}
/-! ### the doors -/
def DoorAt (K : PySem.W.Frag) (CR CW CN : Addr) (H : Hp) (S : MS) (j : Nat) (x y : V) (o : Option Addr) : Prop := (BadRun K H S x ∧ o = some CR) ∨ ∃ (p ru st wl : Addr) (f : List Bool) (wa : List Addr) (ws : List (List Bool)), x = .ref ru ∧ RunAt K p H S ru st wl f wa ws ∧
  (j < 3 → o = none) ∧ (j = 3 → ∃ d, Tg K H y d ∧ o = if wordsB S d (2000 - (ws.length : Int)) = true then none else some CW) ∧ (j = 4 → ∃ d, Dp K H y d ∧ o = if numB d 1 (ws.length : Int) = true then none else some CN)
theorem door_if {A B : Prop} {j : Nat} {k : Int} (h1 : (j : Int) = k → A) (h2 : ¬ (j : Int) = k → B) : if decide (V.int (j : Int) = V.int k) = true then A else B := by
  by_cases c : (j : Int) = k
  · rw [if_pos (decide_eq_true (by rw [c]))]; exact h1 c
  · rw [if_neg (fun z => c (V.int.inj (of_decide_eq_true z)))]; exact h2 c
def spDoor (C CR CW CN : Addr) (K : PySem.W.Frag) : Sp := fun vs H Q E => ∃ (j : Nat) (m : Addr) (S : MS) (x y : V) (o : Option Addr), vs = [.int j, .ref m, x, y] ∧ j < 5 ∧ MachAt K C H m S ∧ MOk S ∧ DoorAt K CR CW CN H S j x y o ∧ (o = none → ∀ v H', Same H H' → Q v H') ∧ (∀ c, o = some c → ∀ H', Same H H' → E (.ref c) none H')
theorem ok_door {f C CR CW CN : Addr} {fd : FuncData} {k : Nat} (F : Fun K "_law_door" "_law_door" s_law_door f fd) (D_stands : Dx P w K mg base k "stands" ["machine", "run"] (spStd C CR K)) (D_fillings : Dx P w K mg base k "fillings" ["machine", "run"] (spFls C CR K)) (D_wave : Dx P w K mg base k "wave" ["machine", "run"] (spStd C CR K))
    (D_told_on : Dx P w K mg base k "told_on" ["machine", "run", "words"] (spTon C CR CW K)) (D_cut : Dx P w K mg base k "cut" ["machine", "run", "beats"] (spCut C CR CN K)) :
    FnOk P w K mg base (L2.CX P w) (k + 1) f fd ["_law_door_here", "_law_machine", "_law_run_here", "_law_thing"] (spDoor C CR CW CN K) := by
  refine F.okX sc_law_door (fun vs H Q E h => ?_) (fun cdv A outer s H vs Q E hr h => ?_)
  · obtain ⟨j, m, S, x, y, o, rfl, _⟩ := h
    rfl
  obtain ⟨j, m, S, x, y, o, rfl, j5, ma, ok, hd, q1, q2⟩ := h
  refine ⟨_, (pss_one (ps_if (pt_cmpR op_eq (pv 0) pe_int (nomark _))
       (pss_one (ps_expr (pe_dx D_stands hr (by rfl) (fun σ => passAt (takes_of rfl rfl rfl rfl) σ) (pa_cons (pv 1) (pa_cons (pv 2) pa_nil)))))
       (pss_one (ps_if (pt_cmpR op_eq (pv 0) pe_int (nomark _))
       (pss_one (ps_expr (pe_dx D_fillings hr (by rfl) (fun σ => passAt (takes_of rfl rfl rfl rfl) σ) (pa_cons (pv 1) (pa_cons (pv 2) pa_nil)))))
       (pss_one (ps_if (pt_cmpR op_eq (pv 0) pe_int (nomark _))
       (pss_one (ps_expr (pe_dx D_wave hr (by rfl) (fun σ => passAt (takes_of rfl rfl rfl rfl) σ) (pa_cons (pv 1) (pa_cons (pv 2) pa_nil)))))
       (pss_one (ps_if (pt_cmpR op_eq (pv 0) pe_int (nomark _))
       (pss_one (ps_expr (pe_dx D_told_on hr (by rfl) (fun σ => passAt (takes_of rfl rfl rfl rfl) σ) (pa_cons (pv 1) (pa_cons (pv 2) (pa_cons (pv 3) pa_nil))))))
       (pss_one (ps_expr (pe_dx D_cut hr (by rfl) (fun σ => passAt (takes_of rfl rfl rfl rfl) σ) (pa_cons (pv 1) (pa_cons (pv 2) (pa_cons (pv 3) pa_nil)))))))))))))), ?_⟩
  refine ⟨_, rfl, rfl, _, rfl, door_if (fun e => ?_) (fun e0 => ⟨_, rfl, rfl, _, rfl, door_if (fun e => ?_) (fun e1 => ⟨_, rfl, rfl, _, rfl, door_if (fun e => ?_) (fun e2 => ⟨_, rfl, rfl, _, rfl, door_if (fun e => ?_) (fun e3 => ?_)⟩)⟩)⟩)⟩
  · rcases hd with ⟨b, rfl⟩ | ⟨p, ru, st, wl, f', wa, ws, rfl, ra, h3, _⟩
    · exact ⟨_, rfl, _, rfl, m, S, _, rfl, ma, ok, .inl ⟨b, fun H1 s1 => q2 _ rfl H1 s1⟩⟩
    · exact ⟨_, rfl, _, rfl, m, S, _, rfl, ma, ok, .inr ⟨p, ru, st, wl, f', wa, ws, rfl, ra, fun v H1 s1 => q1 (h3 (by omega)) _ H1 s1⟩⟩
  · rcases hd with ⟨b, rfl⟩ | ⟨p, ru, st, wl, f', wa, ws, rfl, ra, h3, _⟩
    · exact ⟨_, rfl, _, rfl, m, S, _, rfl, ma, ok, .inl ⟨b, fun H1 s1 => q2 _ rfl H1 s1⟩⟩
    · exact ⟨_, rfl, _, rfl, m, S, _, rfl, ma, ok, .inr ⟨p, ru, st, wl, f', wa, ws, rfl, ra, fun _ _ _ H1 s1 _ _ _ _ => q1 (h3 (by omega)) _ H1 s1⟩⟩
  · rcases hd with ⟨b, rfl⟩ | ⟨p, ru, st, wl, f', wa, ws, rfl, ra, h3, _⟩
    · exact ⟨_, rfl, _, rfl, m, S, _, rfl, ma, ok, .inl ⟨b, fun H1 s1 => q2 _ rfl H1 s1⟩⟩
    · exact ⟨_, rfl, _, rfl, m, S, _, rfl, ma, ok, .inr ⟨p, ru, st, wl, f', wa, ws, rfl, ra, fun v H1 s1 => q1 (h3 (by omega)) _ H1 s1⟩⟩
  · rcases hd with ⟨b, rfl⟩ | ⟨p, ru, st, wl, f', wa, ws, rfl, ra, _, h3, _⟩
    · exact ⟨_, rfl, _, rfl, _, rfl, m, S, _, y, rfl, ma, ok, .inl ⟨b, fun H1 s1 => q2 _ rfl H1 s1⟩⟩
    · obtain ⟨d, td, eo⟩ := h3 (by omega)
      exact ⟨_, rfl, _, rfl, _, rfl, m, S, _, y, rfl, ma, ok, .inr ⟨p, ru, st, wl, f', wa, ws, d, rfl, ra, td, fun z v H1 s1 => q1 (by rw [eo, if_pos z]) _ H1 s1, fun z H1 s1 => q2 _ (by rw [eo, z]; rfl) H1 s1⟩⟩
  · rcases hd with ⟨b, rfl⟩ | ⟨p, ru, st, wl, f', wa, ws, rfl, ra, _, _, h3⟩
    · exact ⟨_, rfl, _, rfl, _, rfl, m, S, _, y, rfl, ma, ok, .inl ⟨b, fun H1 s1 => q2 _ rfl H1 s1⟩⟩
    · obtain ⟨d, td, eo⟩ := h3 (by omega)
      exact ⟨_, rfl, _, rfl, _, rfl, m, S, _, y, rfl, ma, ok, .inr ⟨p, ru, st, wl, f', wa, ws, d, rfl, ra, td, fun z v H1 s1 => q1 (by rw [eo, if_pos z]) _ H1 s1, fun z H1 s1 => q2 _ (by rw [eo, z]; rfl) H1 s1⟩⟩
/-- what the text says of an error -/
structure RfR (K : PySem.W.Frag) (CC CK CR CW : Addr) (b1 b2 : Bool) : Prop where
  ex : PySem.W.exmOne K (.ref CC) (.ref CK) = some true
  xc : ExcC K CC
  i1 : PySem.W.kitOne K (.ref CC) (.ref CR) = some b1
  i2 : PySem.W.kitOne K (.ref CC) (.ref CW) = some b2
  i3 : PySem.W.kitOne K (.ref CC) (.type "ValueError") = some true
structure RfN (K : PySem.W.Frag) (CC CK : Addr) : Prop where
  ex : PySem.W.exmOne K (.ref CC) (.ref CK) = some false
  en : PySem.W.exmOne K (.ref CC) (.ref CC) = some true
  xc : ExcC K CC
  i1 : PySem.W.kitOne K (.ref CC) (.type "ValueError") = some false
  i2 : PySem.W.kitOne K (.ref CC) (.type "ArithmeticError") = some true
def Tells (CR CW CN : Addr) (o : Option Addr) (wd : Str) : Prop := (o = none ∧ wd = "told") ∨ (o = some CR ∧ wd = "run") ∨ (o = some CW ∧ wd = "word") ∨ (o = some CN ∧ wd = "number")
def spRefusal (C CR CW CN : Addr) (K : PySem.W.Frag) : Sp := fun vs H Q _ => ∃ (j : Nat) (m : Addr) (S : MS) (x y : V) (o : Option Addr) (wd : Str), vs = [.int j, .ref m, x, y] ∧ j < 5 ∧ MachAt K C H m S ∧ MOk S ∧ DoorAt K CR CW CN H S j x y o ∧ Tells CR CW CN o wd ∧ ∀ H', Same H H' → Q (.str wd) H'
theorem ok_refusal {f C C_KeptError C_NoRun C_NoWord C_NoNumber : Addr} {fd : FuncData} {k : Nat} (F : Fun K "_law_refusal" "_law_refusal" s_law_refusal f fd) (D_law_door : Dx P w K mg base k "_law_door" ["_law_door_here", "_law_machine", "_law_run_here", "_law_thing"] (spDoor C C_NoRun C_NoWord C_NoNumber K))
    (g_KeptError : mg "KeptError" = some (.ref C_KeptError)) (g_NoRun : mg "NoRun" = some (.ref C_NoRun)) (g_NoWord : mg "NoWord" = some (.ref C_NoWord)) (g_NoNumber : mg "NoNumber" = some (.ref C_NoNumber)) (m_isinstance : mg "isinstance" = none) (m_int : mg "int" = none) (m_ValueError : mg "ValueError" = none) (m_ArithmeticError : mg "ArithmeticError" = none)
    (R1 : RfR K C_NoRun C_KeptError C_NoRun C_NoWord true false) (R2 : RfR K C_NoWord C_KeptError C_NoRun C_NoWord false true) (R3 : RfN K C_NoNumber C_KeptError) :
    FnOk P w K mg base CX0 (k + 1) f fd ["_law_door_here", "_law_machine", "_law_run_here", "_law_thing"] (spRefusal C C_NoRun C_NoWord C_NoNumber K) := by
  refine F.ok sc_law_refusal (fun vs H Q E h => ?_) (fun cdv A outer s H vs Q E hr h => ?_)
  · obtain ⟨j, m, S, x, y, o, wd, rfl, _⟩ := h
    rfl
  obtain ⟨j, m, S, x, y, o, wd, rfl, j5, ma, ok, hd, ht, q⟩ := h
  refine ⟨_, (pss_cons (ps_set (i := 4) sc_law_refusal.nd rfl (.inl rfl) pe_non)
       (pss_cons (ps_try_keep2 (i := 5) rfl rfl rfl sc_law_refusal.nd rfl rfl ⟨by rfl, by decide, .inl g_KeptError⟩ ⟨by rfl, by decide, .inl g_NoNumber⟩ L2.takes0
       (fun W pn xe tk _ => (pss_one (ps_expr (pe_dx D_law_door hr (by rfl) (fun σ => passAt tk σ) (pa_cons (pv 0) (pa_cons (pv 1) (pa_cons (pv 2) (pa_cons (pv 3) pa_nil))))))))
       (fun a oe cls d pn hz hf => (pss_one (ps_set (i := 4) sc_law_refusal.nd rfl (.inl rfl) (pv 5))))
       (fun a oe cls d pn hz hf => (pss_one (ps_ret (pe_ix (ix_list' (K := K) rfl) (pe_lst (pa_cons pe_str (pa_cons pe_str pa_nil))) (pe_callTy call_int1 (by rfl) m_int (by decide +kernel) (pa_cons (pe_or (pe_callB (call_isE2' (K := K) rfl hz hf) (by rfl) m_isinstance (by decide +kernel) (pa_cons (pv 5) (pa_cons (pe_bltn (v := .ty "ValueError") (by rfl) m_ValueError (by decide +kernel) rfl) pa_nil))) (pe_one (pe_not (pe_callB (call_isE2' (K := K) rfl hz hf) (by rfl) m_isinstance (by decide +kernel) (pa_cons (pv 5) (pa_cons (pe_bltn (v := .ty "ArithmeticError") (by rfl) m_ArithmeticError (by decide +kernel) rfl) pa_nil)))))) pa_nil)) (fun _ _ => rfl))))))
       (pss_cons (ps_if (pt_cmpR op_isN (pv 4) pe_non (nomark _))
       (pss_one (ps_ret pe_str))
       pss_nil)
       (pss_cons (ps_set (i := 6) sc_law_refusal.nd rfl (.inl rfl) (pe_lst (pa_cons (pe_callB call_isX (by rfl) m_isinstance (by decide +kernel) (pa_cons (pv 4) (pa_cons (pe_glob (v := .ref C_NoRun) (by rfl) g_NoRun rfl) pa_nil))) (pa_cons (pe_callB call_isX (by rfl) m_isinstance (by decide +kernel) (pa_cons (pv 4) (pa_cons (pe_glob (v := .ref C_NoWord) (by rfl) g_NoWord rfl) pa_nil))) pa_nil))))
       (pss_cons (ps_if (PW.pt (pw_or (pt_cmpR op_ne (pe_bm PySem.F.plainAttrs_list PySem.F.slot_list_count PySem.F.type_list_count mt_countF (pv 6) (pa_cons pe_bl pa_nil)) pe_int (nomark _)) (pw_or1 (pt_not (pt_val (pe_callB call_isX (by rfl) m_isinstance (by decide +kernel) (pa_cons (pv 4) (pa_cons (pe_bltn (v := .ty "ValueError") (by rfl) m_ValueError (by decide +kernel) rfl) pa_nil))))))))
       (pss_one (ps_ret pe_str))
       pss_nil)
       (pss_one (ps_ret (pe_ix ix_list (pe_lst (pa_cons pe_str (pa_cons pe_str pa_nil))) (pe_bm PySem.F.plainAttrs_list PySem.F.slot_list_index PySem.F.type_list_index mt_index (pv 6) (pa_cons pe_bl pa_nil)) (fun _ _ => rfl))))))))), ?_⟩
  refine ⟨_, rfl, _, rfl, _, rfl, _, rfl, j, m, S, x, y, o, rfl, j5, ma, ok, hd, fun e v H1 s1 => ?_, fun c e H1 s1 => ?_⟩
  · have : wd = "told" := by
      rcases ht with ⟨_, h⟩ | ⟨h, _⟩ | ⟨h, _⟩ | ⟨h, _⟩
      · exact h
      all_goals rw [e] at h; cases h
    subst this
    exact ⟨_, rfl, rfl, _, rfl, iteT (q H1 s1)⟩
  have key : (∃ b1 b2, RfR K c C_KeptError C_NoRun C_NoWord b1 b2 ∧ ((b1 = true ∧ b2 = false ∧ wd = "run") ∨ (b1 = false ∧ b2 = true ∧ wd = "word"))) ∨ (c = C_NoNumber ∧ wd = "number") := by
    rcases ht with ⟨h, _⟩ | ⟨h, h'⟩ | ⟨h, h'⟩ | ⟨h, h'⟩
    · rw [e] at h; cases h
    · rw [e] at h; cases h; exact .inl ⟨true, false, R1, .inl ⟨rfl, rfl, h'⟩⟩
    · rw [e] at h; cases h; exact .inl ⟨false, true, R2, .inr ⟨rfl, rfl, h'⟩⟩
    · rw [e] at h; cases h; exact .inr ⟨rfl, h'⟩
  rcases key with ⟨b1, b2, R, hb⟩ | ⟨rfl, rfl⟩
  · refine ⟨true, R.ex, fun _ e ne => ?_, fun z => nomatch z⟩
    have s3 : Same H1 (upd H1 e (XO e (.ref c) none)) := same_new ne
    have ee : (upd H1 e (XO e (.ref c) none)) e = some (XO e (.ref c) none) := upd_same
    refine ⟨_, rfl, ?_⟩
    refine ⟨_, rfl, rfl, _, rfl, iteF ?_⟩
    refine ⟨_, rfl, e, c, none, _, _, b1, rfl, ee, (fun z hz => nomatch hz), .own _, R.xc, R.i1, _, rfl, e, c, none, _, _, b2, rfl, ee, (fun z hz => nomatch hz), .own _, R.xc, R.i2, (by show 2 ≤ sizeLine; decide), fun kl nkl => ?_⟩
    generalize (upd H1 e (XO e (.ref c) none)) = H3 at *
    have s5 : Same H3 (upd H3 kl (.lst [.bl b1, .bl b2])) := same_new nkl
    have ek : (upd H3 kl (.lst [.bl b1, .bl b2])) kl = some (.lst [.bl b1, .bl b2]) := upd_same
    generalize (upd H3 kl (.lst [.bl b1, .bl b2])) = H5 at *
    have s15 := s1.trans (s3.trans s5)
    rcases hb with ⟨rfl, rfl, rfl⟩ | ⟨rfl, rfl, rfl⟩
    · refine ⟨_, rfl, .inl ⟨rfl, _, SqL.of ek⟩, kl, _, .bl true, rfl, rfl, SqL.of ek, rfl, rfl, rfl, _, rfl, iteF ?_⟩
      refine ⟨_, rfl, e, c, none, _, _, true, rfl, s5 _ _ ee, (fun z hz => nomatch hz), .ty _, R.xc, R.i3, _, rfl, iteF ?_⟩
      refine ⟨(by show 2 ≤ sizeLine; decide), fun u nu => ?_⟩
      refine ⟨_, rfl, .inl ⟨rfl, _, SqL.of (same_new nu _ _ ek)⟩, kl, _, _, 0, _, rfl, rfl, SqL.of (same_new nu _ _ ek), rfl, rfl, rfl, rfl, (fun m' z' hm => absurd hm (Nat.not_lt_zero _)), u, _, _, _, rfl, rfl, SqL.of upd_same, rfl, q _ (s15.trans (same_new nu))⟩
    · refine ⟨_, rfl, .inl ⟨rfl, _, SqL.of ek⟩, kl, _, .bl true, rfl, rfl, SqL.of ek, rfl, rfl, rfl, _, rfl, iteF ?_⟩
      refine ⟨_, rfl, e, c, none, _, _, true, rfl, s5 _ _ ee, (fun z hz => nomatch hz), .ty _, R.xc, R.i3, _, rfl, iteF ?_⟩
      refine ⟨(by show 2 ≤ sizeLine; decide), fun u nu => ?_⟩
      refine ⟨_, rfl, .inl ⟨rfl, _, SqL.of (same_new nu _ _ ek)⟩, kl, _, _, 1, _, rfl, rfl, SqL.of (same_new nu _ _ ek), rfl, rfl, rfl, rfl, (fun m' z' hm hz' => ?_), u, _, _, _, rfl, rfl, SqL.of upd_same, rfl, q _ (s15.trans (same_new nu))⟩
      have : m' = 0 := by omega
      subst this
      cases hz'
      rfl
  · refine ⟨false, R3.ex, fun z => (nomatch z), fun _ => ⟨true, R3.en, fun _ e ne => ?_, fun z => nomatch z⟩⟩
    refine ⟨(by show 2 ≤ sizeLine; decide), fun u nu => ?_⟩
    refine ⟨_, rfl, _, _, _, false, rfl, rfl, R3.xc, rfl, .ty _, R3.i1, _, rfl, iteF ?_⟩
    refine ⟨_, rfl, _, _, _, true, rfl, rfl, R3.xc, rfl, .ty _, R3.i2, ?_⟩
    refine ⟨_, rfl, .inr ⟨_, rfl, u, _, _, _, rfl, rfl, SqL.of upd_same, rfl, q _ fun b o hb => ?_⟩⟩
    have hb1 := s1 _ _ hb
    rw [upd_ne (ne_of_none hb1 ne), upd_ne (ne_of_none hb1 nu)]; exact hb1

end
end K21
namespace K21
open PySem PySem.Spec PyProof.Rows L2 KL
section
variable {P : Program} {w : World} {K : PySem.W.Frag} {mg : Str → Option Value} {base : Heap}
/-! ### bent runs -/
theorem fineS {x : Str} (h1 : (PyData.str x).leavesShort 128 = true) (h2 : (PyData.str x).canLay0 = true) (h3 : (PyData.str x).weight ≤ 10) (h4 : (PyData.str x).depth ≤ 0) : Fine 10 0 (.str x) := ⟨rfl, h1, h2, h3, h4⟩
theorem pls_1 : KR.PlS (Str.ofString "1") := ⟨by decide +kernel, by decide +kernel⟩
theorem pls_run : KR.PlS (Str.ofString "run") := ⟨by decide +kernel, by decide +kernel⟩
theorem fine_run : Fine 10 0 (.str (Str.ofString "run")) := ⟨rfl, by decide +kernel, by decide +kernel, by decide +kernel, by decide +kernel⟩
/-- level of a word, of a stand or a list of words, of a run -/
abbrev B1 (K : PySem.W.Frag) (G : Hp) (v : V) : Prop := BtE K 600 2 G v
abbrev B2 (K : PySem.W.Frag) (G : Hp) (v : V) : Prop := BtE K 18631 3 G v
abbrev B3 (K : PySem.W.Frag) (G : Hp) (v : V) : Prop := BtE K 55896 4 G v
def T3 (K : PySem.W.Frag) (G : Hp) (v : V) : Prop := B3 K G v ∨ ∃ a, v = .ref a ∧ G a = some (.dK [])
theorem T3.tw {G : Hp} {v : V} (h : T3 K G v) : ∃ d, Tw K G v d := by
  rcases h with ⟨d, h1, h2, h3⟩ | ⟨a, e, q⟩
  · exact ⟨d, .inl ⟨h1, h2.le (by omega) (by omega), h3⟩⟩
  · exact ⟨.none, .inr ⟨a, e, q, rfl⟩⟩
theorem T3.same {G G' : Hp} {v : V} (h : T3 K G v) (s : Same G G') : T3 K G' v := h.imp (fun q => q.same s) fun ⟨a, e, q⟩ => ⟨a, e, s _ _ q⟩
theorem two_of {G : Hp} {a : Addr} {x y : V} (h : SqT K G a [x, y]) (hx : B2 K G x) (hy : B2 K G y) : B3 K G (.ref a) := BtE.le (n := 3 * (18631 + 1)) (m := 3 + 1) (BtE.tup (l := 3) h (fun v hv => by simp only [List.mem_cons, List.not_mem_nil, or_false] at hv; rcases hv with rfl | rfl <;> assumption) (by show 2 ≤ 3; decide) (by decide)) (by decide) (by decide)
theorem b2_bools {G : Hp} {a : Addr} {bs : List Bool} (h : SqT K G a (bs.map V.bl)) (hl : bs.length ≤ 100) : B2 K G (.ref a) := (BtE.bools h hl (by decide)).le (by decide) (by decide)
theorem b1_bools {G : Hp} {a : Addr} {bs : List Bool} (h : SqT K G a (bs.map V.bl)) (hl : bs.length ≤ 100) : B1 K G (.ref a) := (BtE.bools h hl (by decide)).le (by decide) (by decide)
theorem cut_bools (bs : List Bool) (lo hi : Option Int) : ∃ cs : List Bool, cutV (bs.map V.bl) lo hi = cs.map V.bl ∧ cs.length ≤ bs.length := by
  refine ⟨(bs.drop (HT.sIx bs.length 0 lo)).take (HT.sIx bs.length bs.length hi - HT.sIx bs.length 0 lo), ?_, ?_⟩
  · unfold cutV; rw [List.length_map, List.map_take, List.map_drop]
  · rw [List.length_take, List.length_drop]; omega
theorem sIx_some {n d : Nat} {i : Int} (h0 : 0 ≤ i) (h1 : i ≤ n) : HT.sIx n d (some i) = i.toNat := by
  show (if i < 0 then (i + (n : Int)).toNat else min i.toNat n) = i.toNat
  rw [if_neg (by omega)]; omega
theorem cut_two {xs : List V} {i : Int} (h0 : 0 ≤ i) (h1 : i < xs.length) : (cutV xs none (some i)).length + (cutV xs (some (i + 1)) none).length + 1 = xs.length := by
  unfold cutV
  rw [sIx_some h0 (by omega), sIx_some (show 0 ≤ i + 1 by omega) (by omega), HT.sIx_none, HT.sIx_none, List.length_take, List.length_take, List.length_drop, List.length_drop]
  omega
theorem rep_b (n : Nat) (b : Bool) : (List.replicate ((n : Int)).toNat [V.bl b]).flatten = (List.replicate n b).map V.bl := by
  rw [Int.toNat_natCast]
  induction n with
  | zero => rfl
  | succ n ih => rw [List.replicate_succ, List.flatten_cons, ih, List.replicate_succ, List.map_cons]; rfl
theorem rep_non (n : Nat) : ∀ v ∈ (List.replicate ((n : Int)).toNat [V.non]).flatten, v = .non := fun v hv => by
  obtain ⟨l, h1, h2⟩ := List.mem_flatten.mp hv
  rw [(List.mem_replicate.mp h1).2, List.mem_singleton] at h2; exact h2
theorem rep_len (n : Nat) (v : V) : (List.replicate ((n : Int)).toNat [v]).flatten.length = n := by
  rw [Int.toNat_natCast]
  induction n with
  | zero => rfl
  | succ n ih => rw [List.replicate_succ, List.flatten_cons, List.length_append, ih, List.length_singleton]; omega
def spBent (K : PySem.W.Frag) : Sp := fun vs H Q _ => ∃ (p r ru st wl : Addr) (S : MS) (f : List Bool) (wa : List Addr) (ws : List (List Bool)), vs = [.ref p, .ref r, .ref ru] ∧ Pl H p ∧ SpecAt K (hid p H) r S ∧ MOk S ∧ RunAt K p H S ru st wl f wa ws ∧
  ∀ (x : V) (H' : Hp), Kp p H H' → Pl H' p → T3 K (hid p H') x → Q x H'
theorem ok_bent {f : Addr} {fd : FuncData} {k : Nat} (F : Fun K "_law_bent_run" "_law_bent_run" s_law_bent_run f fd) (D_law_take : Df P w K mg base k "_law_take" ["_law_pool_here", "_law_many"] (spTake K)) (m_len : mg "len" = none) (m_list : mg "list" = none) (m_tuple : mg "tuple" = none) (m_int : mg "int" = none) :
    FnOk P w K mg base CX0 (k + 1) f fd ["_law_pool_here", "_law_spec_here", "_law_run_here"] (spBent K) := by
  refine F.ok sc_law_bent_run (fun vs H Q E h => ?_) (fun cdv A outer s H vs Q E hr h => ?_)
  · obtain ⟨p, r, ru, st, wl, S, f, wa, ws, rfl, _⟩ := h
    rfl
  obtain ⟨p, r, ru, st, wl, S, f, wa, ws, rfl, hp, sp0, ok, ra, q⟩ := h
  refine ⟨_, (pss_cons (ps_asg (pv 2) (pg_tup rfl (pgs_cons (pg_name (i := 3) sc_law_bent_run.nd rfl (.inl rfl)) (pgs_cons (pg_name (i := 4) sc_law_bent_run.nd rfl (.inl rfl)) pgs_nil))))
       (pss_cons (ps_set (i := 5) sc_law_bent_run.nd rfl (.inl rfl) (pe_df D_law_take hr (by rfl) (pa_cons (pv 0) (pa_cons (pe_callB call_len_seq (by rfl) m_len (by decide +kernel) (pa_cons (pv 4) pa_nil)) pa_nil))))
       (pss_cons (ps_set (i := 6) sc_law_bent_run.nd rfl (.inl rfl) (pe_df D_law_take hr (by rfl) (pa_cons (pv 0) (pa_cons (pe_ix ix_list (pv 1) pe_int (fun _ _ => rfl)) pa_nil))))
       (pss_cons (ps_set (i := 7) sc_law_bent_run.nd rfl (.inl rfl) (pe_lst (pa_cons (pe_op op_catK (pe_ix ix_list (pv 4) (pv 5) (fun _ _ => rfl)) (pe_tup (pa_cons pe_bl pa_nil))) (pa_cons pe_non (pa_cons (pe_callTy call_list_of (by rfl) m_list (by decide +kernel) (pa_cons (pe_ix ix_list (pv 4) (pv 5) (fun _ _ => rfl)) pa_nil)) (pa_cons (pe_op op_catK (pe_op op_repK (pe_tup (pa_cons pe_non pa_nil)) (pe_ix ix_list (pv 1) pe_int (fun _ _ => rfl))) (pe_tup (pa_cons pe_int pa_nil))) (pa_cons pe_str (pa_cons (pe_tup pa_nil) pa_nil))))))))
       (pss_cons (ps_set (i := 7) sc_law_bent_run.nd rfl (.inl rfl) (pe_op op_cat (pv 7) (pe_lc (own := [("_law_truth", 8)]) (g := gName 8) (tt := tYes) (by rfl) sc_law_bent_run.nd (pi_list (pe_lst (pa_cons pe_bl (pa_cons pe_bl pa_nil)))) (blkOk_by (by kernel_rfl)) (fun _ _ _ _ _ => (pg_name (i := 8) sc_law_bent_run.nd rfl (.inl rfl))) (fun _ _ _ _ _ => pts_nil) (fun _ _ _ _ _ => (pe_op (op_repK' (K := K) rfl) (pe_tup (pa_cons (pe_not (pv 8)) pa_nil)) (pe_ix (ix_list' (K := K) rfl) (pv 1) pe_int (fun _ _ => rfl)))))))
       (pss_cons (ps_set (i := 9) sc_law_bent_run.nd rfl (.inl rfl) (pe_ix ix_list (pv 7) (pe_df D_law_take hr (by rfl) (pa_cons (pv 0) (pa_cons pe_int pa_nil))) (fun _ _ => rfl)))
       (pss_cons (ps_set (i := 10) sc_law_bent_run.nd rfl (.inl rfl) (pe_op op_catK (pe_op op_catK (pe_slice sl_tupK (pv 3) po_none (po_some (pv 6))) (pe_tup (pa_cons (pe_not (pe_ix ix_tup (pv 3) (pv 6) (fun _ _ => rfl))) pa_nil))) (pe_slice sl_tupK (pv 3) (po_some (pe_op op_add (pv 6) pe_int)) po_none)))
       (pss_cons (ps_set (i := 11) sc_law_bent_run.nd rfl (.inl rfl) (pe_lst (pa_cons (pe_tup (pa_cons (pv 3) (pa_cons (pe_op op_cat (pe_op op_cat (pe_slice sl_list (pv 4) po_none (po_some (pv 5))) (pe_lst (pa_cons (pv 9) pa_nil))) (pe_slice sl_list (pv 4) (po_some (pe_op op_add (pv 5) pe_int)) po_none)) pa_nil))) (pa_cons (pe_tup (pa_cons (pv 10) (pa_cons (pv 4) pa_nil))) (pa_cons (pe_tup (pa_cons (pe_callTy call_list_of (by rfl) m_list (by decide +kernel) (pa_cons (pv 3) pa_nil)) (pa_cons (pv 4) pa_nil))) pa_nil)))))
       (pss_cons (ps_set (i := 11) sc_law_bent_run.nd rfl (.inl rfl) (pe_op op_cat (pv 11) (pe_lst (pa_cons (pe_tup (pa_cons (pv 3) (pa_cons (pe_callTy call_tuple_of (by rfl) m_tuple (by decide +kernel) (pa_cons (pv 4) pa_nil)) pa_nil))) (pa_cons (pe_tup (pa_cons (pv 3) (pa_cons (pe_lst pa_nil) pa_nil))) (pa_cons (pe_tup (pa_cons (pv 3) pa_nil)) (pa_cons (pe_lst (pa_cons (pv 3) (pa_cons (pv 4) pa_nil))) (pa_cons (pe_tup (pa_cons (pv 3) (pa_cons (pv 4) (pa_cons pe_int pa_nil)))) (pa_cons pe_non pa_nil)))))))))
       (pss_cons (ps_set (i := 11) sc_law_bent_run.nd rfl (.inl rfl) (pe_op op_cat (pv 11) (pe_lst (pa_cons (pe_tup (pa_cons (pe_op op_catK (pv 3) (pe_tup (pa_cons pe_bl pa_nil))) (pa_cons (pv 4) pa_nil))) (pa_cons (pe_tup (pa_cons (pe_callTy call_tuple_of (by rfl) m_tuple (by decide +kernel) (pa_cons (pe_lc (own := [("_law_truth", 8)]) (g := gName 8) (tt := tYes) (by rfl) sc_law_bent_run.nd (pi_tup (pv 3)) (blkOk_by (by kernel_rfl)) (fun _ _ _ _ _ => (pg_name (i := 8) sc_law_bent_run.nd rfl (.inl rfl))) (fun _ _ _ _ _ => pts_nil) (fun _ _ _ _ _ => (pe_callTy call_int1 (by rfl) m_int (by decide +kernel) (pa_cons (pv 8) pa_nil)))) pa_nil)) (pa_cons (pv 4) pa_nil))) (pa_cons (pe_tup (pa_cons pe_non (pa_cons (pv 4) pa_nil))) pa_nil))))))
       (pss_one (ps_ret (pe_ix ix_list (pe_op op_cat (pv 11) (pe_lst (pa_cons (pe_tup (pa_cons (pv 3) (pa_cons pe_non pa_nil))) (pa_cons pe_dnewK (pa_cons pe_str (pa_cons (pe_tup (pa_cons (pv 3) (pa_cons (pe_slice sl_list (pv 4) po_none (po_some pe_int)) pa_nil))) pa_nil)))))) (pe_df D_law_take hr (by rfl) (pa_cons (pv 0) (pa_cons pe_int pa_nil))) (fun _ _ => rfl)))))))))))))), ?_⟩
  have b1 := ok.b1
  have b10 := ok.b10
  have i4 := ok.i4
  have lf : f.length = S.b := beg_mem ra.hf
  have lwa : (wa.map V.ref).length = ws.length := by rw [List.length_map, ra.tw.len, List.length_map]
  have l1 := ra.l1
  have l30 := ra.l30
  have wp := ra.wp
  refine ⟨_, rfl, ru, _, rfl, SqT.of ra.er, rfl, _, _, rfl, _, _, rfl, rfl, ?_⟩
  refine ⟨_, rfl, _, rfl, wl, _, rfl, .inl (SqL.of ra.ew), p, ((wa.map V.ref).length : Int), rfl, hp, by omega, by omega, fun at' H1 k1 hp1 a0 a1 => ?_⟩
  have sp1 : SpecAt K H1 r S := sp0.same (hid_kp k1)
  obtain ⟨G1, N1, S11, Pm1, hR1, _⟩ := sp1.ex
  refine ⟨_, rfl, _, rfl, r, _, 0, .int S.b, rfl, rfl, hR1, rfl, p, S.b, rfl, hp1, by omega, by omega, fun bx H2 k2 hp2 bx0 bx1 => ?_⟩
  have k02 := k1.trans k2
  have ra2 := ra.kp hp k02
  have sp2 : SpecAt K H2 r S := sp0.same (hid_kp k02)
  obtain ⟨G, N, S1, Pm, hR, _⟩ := sp2.ex
  obtain ⟨vw, hat, hat2⟩ := atI_at (xs := wa.map V.ref) (i := at') a0 (by omega)
  obtain ⟨wi, g, rfl, hg, hqg, _⟩ := tups_fill ra2.tw hat2
  have lg : g.length = S.i := words_mem (ra.hw g hg)
  -- bad words
  refine ⟨_, rfl, _, rfl, wl, _, at', .ref wi, rfl, rfl, SqL.of ra2.ew, hat, (by show 1 ≤ sizeLine; decide), fun u1 n1 => ?_⟩
  have s3 : Same H2 (upd H2 u1 (.tup [.bl true])) := same_new n1
  have e3 : (upd H2 u1 (.tup [.bl true])) u1 = some (.tup ([true].map V.bl)) := upd_same
  generalize (upd H2 u1 (.tup [.bl true])) = H3 at *
  refine ⟨wi, u1, _, _, rfl, rfl, same_tup s3 hqg, SqT.of e3, Nat.le_of_lt (small1000 (by rw [List.length_map]; simp only [List.length_map, List.length_cons, List.length_nil]; omega)), fun r1 H4 s4 h4 => ?_⟩
  have hp4 := hp2.same (s3.trans s4)
  rw [← List.map_append] at h4
  have t1 : B1 K (hid p H4) (.ref r1) := b1_bools (hidT hp4 h4) (by rw [List.length_append]; simp only [List.length_cons, List.length_nil]; omega)
  have s24 := s3.trans s4
  refine ⟨_, rfl, _, rfl, wl, _, at', .ref wi, rfl, rfl, SqL.of (s24 _ _ ra2.ew), hat, wi, _, rfl, .inr (same_tup s24 hqg), fun l1' nl1 => ?_⟩
  have s5 : Same H4 (upd H4 l1' (.lst (g.map V.bl))) := same_new nl1
  have e5 : (upd H4 l1' (.lst (g.map V.bl))) l1' = some (.lst (g.map V.bl)) := upd_same
  have l1p : l1' ≠ p := fun z => hp4.at (z ▸ nl1)
  generalize (upd H4 l1' (.lst (g.map V.bl))) = H5 at *
  have t2 : B1 K (hid p H5) (.ref l1') := BtE.le (BtE.lst (n := 0) (m := 0) (l := 100) (SqL.of (hid_of l1p e5)) (fun v hv => by obtain ⟨b, _, rfl⟩ := List.mem_map.mp hv; exact .bl b) (by rw [List.length_map]; omega) (by decide)) (by decide) (by decide)
  have s25 := s24.trans s5
  refine ⟨(by show 1 ≤ sizeLine; decide), fun u2 n2 => ?_⟩
  have s6 : Same H5 (upd H5 u2 (.tup [.non])) := same_new n2
  have e6 : (upd H5 u2 (.tup [.non])) u2 = some (.tup [.non]) := upd_same
  generalize (upd H5 u2 (.tup [.non])) = H6 at *
  have s26 := s25.trans s6
  refine ⟨_, rfl, r, _, 1, .int S.i, rfl, rfl, s26.seq hR, rfl, u2, (S.i : Int), _, rfl, rfl, SqT.of e6, (by simp), by omega, by omega, (by show 1 ≤ 1000; decide), fun r2 H7 s7 h7 => ?_⟩
  refine ⟨(by show 1 ≤ sizeLine; decide), fun u3 n3 => ?_⟩
  have s8 : Same H7 (upd H7 u3 (.tup [.int 1])) := same_new n3
  have e8 : (upd H7 u3 (.tup [.int 1])) u3 = some (.tup [.int 1]) := upd_same
  generalize (upd H7 u3 (.tup [.int 1])) = H8 at *
  refine ⟨r2, u3, _, _, rfl, rfl, same_tup s8 h7, SqT.of e8, Nat.le_of_lt (small1000 (by rw [rep_len]; simp only [List.length_cons, List.length_nil]; omega)), fun r3 H9 s9 h9 => ?_⟩
  have s69 := s7.trans (s8.trans s9)
  have s29 := s26.trans s69
  have hp9 := hp2.same s29
  have t3 : B1 K (hid p H9) (.ref r3) := by
    refine BtE.le (BtE.tup (n := 110) (m := 0) (l := 5) (hidT hp9 h9) (fun v hv => ?_) ?_ (by decide)) (by decide) (by decide)
    · rcases List.mem_append.mp hv with z | z
      · rw [rep_non _ v z]; exact .non
      · rw [List.mem_singleton] at z; rw [z]; exact .int 1 (by decide)
    · rw [List.length_append, rep_len]; simp only [List.length_cons, List.length_nil]; omega
  refine ⟨(by show 0 ≤ sizeLine; decide), fun u4 n4 => ?_⟩
  have s10 : Same H9 (upd H9 u4 (.tup [])) := same_new n4
  have e10 : (upd H9 u4 (.tup [])) u4 = some (.tup (([] : List Bool).map V.bl)) := upd_same
  generalize (upd H9 u4 (.tup [])) = H10 at *
  have hp10 := hp9.same s10
  have t4 : B1 K (hid p H10) (.ref u4) := b1_bools (hidT hp10 (SqT.of e10)) (by decide)
  refine ⟨(by show 6 ≤ sizeLine; decide), fun bd nbd => ?_⟩
  have s11 : Same H10 (upd H10 bd (.lst [.ref r1, .non, .ref l1', .ref r3, .str (Str.ofString "1"), .ref u4])) := same_new nbd
  have e11 : (upd H10 bd (.lst [.ref r1, .non, .ref l1', .ref r3, .str (Str.ofString "1"), .ref u4])) bd = some (.lst [.ref r1, .non, .ref l1', .ref r3, .str (Str.ofString "1"), .ref u4]) := upd_same
  generalize (upd H10 bd (.lst [.ref r1, .non, .ref l1', .ref r3, .str (Str.ofString "1"), .ref u4])) = H11 at *
  have s9_11 := s10.trans s11
  have s4_11 := s5.trans (s6.trans (s69.trans s9_11))
  have s2_11 := s29.trans s9_11
  have hp11 := hp2.same s2_11
  have in6 : ∀ v ∈ [V.ref r1, .non, .ref l1', .ref r3, .str (Str.ofString "1"), .ref u4], B1 K (hid p H11) v := fun v hv => by
    simp only [List.mem_cons, List.not_mem_nil, or_false] at hv
    rcases hv with rfl | rfl | rfl | rfl | rfl | rfl
    · exact t1.same (hid_mono s4_11)
    · exact .non
    · exact t2.same (hid_mono (s6.trans (s69.trans s9_11)))
    · exact t3.same (hid_mono s9_11)
    · exact (BtE.str Fine.str1 pls_1).le (by decide) (by decide)
    · exact t4.same (hid_mono s11)
  clear t1 t2 t3 t4 s3 s4 s5 s6 s7 s8 s9 s10 s11 s24 s25 s26 s29 s69 s9_11 s4_11 e3 e5 e6 e8 e10 h4 h7 h9 n1 nl1 n2 n3 n4 nbd hp4 hp9 hp10
  -- two more
  refine ⟨_, rfl, (by show 2 ≤ sizeLine; decide), fun tl ntl => ?_⟩
  have s12 : Same H11 (upd H11 tl (.lst [.bl true, .bl false])) := same_new ntl
  have e12 : (upd H11 tl (.lst [.bl true, .bl false])) tl = some (.lst ([true, false].map V.bl)) := upd_same
  generalize (upd H11 tl (.lst [.bl true, .bl false])) = H12 at *
  have s2_12 := s2_11.trans s12
  refine ⟨tl, rfl, ⟨_, SqL.of e12⟩, fun D nD => lc_list (xs := [true, false].map V.bl) (fun j H' => ∃ (za : List Addr) (zb : List (List Bool)), Same H12 H' ∧ H' D = some (.lst (za.map V.ref)) ∧ TupsV K H' za (zb.map fun g => g.map V.bl) ∧ (∀ g ∈ zb, g.length ≤ 10) ∧ zb.length = j) ⟨[], [], same_new nD, upd_same, .nil, (fun v hv => by cases hv), rfl⟩ (fun j H' _ ⟨_, _, h, _⟩ => SqL.of (h _ _ e12)) ?_ ?_⟩
  · rintro j y H13 ey ⟨za, zb, s13, e13, tz, hz, lz⟩
    have hj : j < 2 := (List.getElem?_eq_some_iff.mp ey).1
    obtain ⟨b, rfl⟩ : ∃ b, y = .bl b := by
      obtain ⟨b, _, rfl⟩ := List.mem_map.mp (List.mem_of_getElem? ey)
      exact ⟨b, rfl⟩
    refine ⟨rfl, _, rfl, _, rfl, (by show 1 ≤ sizeLine; decide), fun u5 n5 => ?_⟩
    have key : HO.tup [V.bl (!b)] = HO.tup ([!b].map V.bl) := rfl
    rw [key]
    have s14 : Same H13 (upd H13 u5 (.tup ([!b].map V.bl))) := same_new n5
    have e14 : (upd H13 u5 (.tup ([!b].map V.bl))) u5 = some (.tup ([!b].map V.bl)) := upd_same
    generalize (upd H13 u5 (.tup ([!b].map V.bl))) = H14 at *
    refine ⟨_, rfl, r, _, 1, .int S.i, rfl, rfl, (s2_12.trans (s13.trans s14)).seq hR, rfl, u5, (S.i : Int), _, rfl, rfl, SqT.of e14, (by simp), by omega, by omega, (by show 1 ≤ 1000; decide), fun r6 H15 s15 h15 => ?_⟩
    have h15' : SqT K H15 r6 ((List.replicate S.i (!b)).map V.bl) := by rw [← rep_b]; exact h15
    have s1315 := s14.trans s15
    have e15 := s1315 _ _ e13
    refine ⟨_, e15, by rw [List.length_map, tz.len, List.length_map, lz]; exact small1000 (by omega), za ++ [r6], zb ++ [List.replicate S.i (!b)], ?_, by rw [upd_same, List.map_append]; rfl, ?_, ?_, by rw [List.length_append, lz]; rfl⟩
    · exact fun b o hb => by rw [upd_ne (ne_of_none hb nD)]; exact s1315 _ _ (s13 _ _ hb)
    · rw [List.map_append]; exact ((tz.same s1315).snoc h15').lst e15
    · intro g' hg'
      rcases List.mem_append.mp hg' with z | z
      · exact hz g' z
      · rw [List.mem_singleton] at z; rw [z, List.length_replicate]; omega
  rintro H13 ⟨za, zb, s13, e13, tz, hz, lz⟩
  have lza : za.length = 2 := by rw [tz.len, List.length_map, lz]; rfl
  have s1113 := s12.trans s13
  have e11_13 := s1113 _ _ e11
  refine ⟨bd, D, _, _, rfl, rfl, e11_13, e13, by rw [List.length_map, lza]; show 8 ≤ sizeLine; decide, fun bd2 nbd2 => ?_⟩
  have s14 : Same H13 (upd H13 bd2 (.lst ([.ref r1, .non, .ref l1', .ref r3, .str (Str.ofString "1"), .ref u4] ++ za.map V.ref))) := same_new nbd2
  have e14 : (upd H13 bd2 (.lst ([.ref r1, .non, .ref l1', .ref r3, .str (Str.ofString "1"), .ref u4] ++ za.map V.ref))) bd2 = some (.lst ([.ref r1, .non, .ref l1', .ref r3, .str (Str.ofString "1"), .ref u4] ++ za.map V.ref)) := upd_same
  have hp13 := hp11.same s1113
  have bd2p : bd2 ≠ p := fun z => hp13.at (z ▸ nbd2)
  have in8 : ∀ v ∈ [V.ref r1, .non, .ref l1', .ref r3, .str (Str.ofString "1"), .ref u4] ++ za.map V.ref, B1 K (hid p H13) v := fun v hv => by
    rcases List.mem_append.mp hv with z | z
    · exact (in6 v z).same (hid_mono s1113)
    · obtain ⟨iz, hiz⟩ := List.mem_iff_getElem?.mp z
      obtain ⟨ta, g', rfl, hg', hqz, _⟩ := tups_fill tz hiz
      exact b1_bools (hidT hp13 hqz) (by have := hz g' hg'; omega)
  generalize hbl : ([V.ref r1, .non, .ref l1', .ref r3, .str (Str.ofString "1"), .ref u4] ++ za.map V.ref) = bls at *
  have lbl : bls.length = 8 := by rw [← hbl, List.length_append, List.length_map, lza]; rfl
  generalize (upd H13 bd2 (.lst bls)) = H14 at *
  have hp14 := hp13.same s14
  have s2_14 := s2_11.trans (s1113.trans s14)
  clear in6 e11 e11_13 s12 e12 s13 e13 tz hz nD nbd2 s2_12 hbl ntl
  refine ⟨_, rfl, _, rfl, p, 8, rfl, hp14, by decide, by decide, fun d8 H16 k16 hp16 d0 d1 => ?_⟩
  obtain ⟨od, hod, hod2⟩ := atI_at (xs := bls) (i := d8) d0 (by omega)
  have bod : B1 K (hid p H16) od := ((in8 od (List.mem_of_getElem? hod2)).same (hid_mono s14)).same k16.hid
  refine ⟨bd2, _, d8, od, rfl, rfl, SqL.of (k16 _ _ bd2p e14), hod, ?_⟩
  have k2_16 : Kp p H2 H16 := (Kp.of s2_14).trans k16
  have k0_16 := k02.trans k2_16
  have ra16 := ra.kp hp k0_16
  clear in8 e14 s14 s1113 bd2p ra2 sp2 hR s2_11 s2_14 k2_16
  -- another stand
  refine ⟨_, rfl, _, rfl, bx, rfl, st, _, rfl, ra16.hs, fun r7 H17 s17 h17 => ?_⟩
  obtain ⟨c7, ec7, lc7⟩ := cut_bools f none (some bx)
  rw [ec7] at h17
  obtain ⟨vb, hvb, hvb2⟩ := atI_at (xs := f.map V.bl) (i := bx) bx0 (by rw [List.length_map]; omega)
  obtain ⟨bb, rfl⟩ : ∃ b, vb = .bl b := by
    obtain ⟨b, _, rfl⟩ := List.mem_map.mp (List.mem_of_getElem? hvb2)
    exact ⟨b, rfl⟩
  refine ⟨_, rfl, _, rfl, st, _, bx, .bl bb, rfl, rfl, same_tup s17 ra16.hs, hvb, _, rfl, (by show 1 ≤ sizeLine; decide), fun u8 n8 => ?_⟩
  have key8 : HO.tup [V.bl (!bb)] = HO.tup ([!bb].map V.bl) := rfl
  rw [key8]
  have s18 : Same H17 (upd H17 u8 (.tup ([!bb].map V.bl))) := same_new n8
  have e18 : (upd H17 u8 (.tup ([!bb].map V.bl))) u8 = some (.tup ([!bb].map V.bl)) := upd_same
  generalize (upd H17 u8 (.tup ([!bb].map V.bl))) = H18 at *
  refine ⟨r7, u8, _, _, rfl, rfl, same_tup s18 h17, SqT.of e18, Nat.le_of_lt (small1000 (by simp only [List.length_map, List.length_cons, List.length_nil]; omega)), fun r8 H19 s19 h19 => ?_⟩
  rw [← List.map_append] at h19
  have s1619 := s17.trans (s18.trans s19)
  refine ⟨_, rfl, _, rfl, _, _, rfl, rfl, bx + 1, rfl, st, _, rfl, same_tup s1619 ra16.hs, fun r9 H20 s20 h20 => ?_⟩
  obtain ⟨c9, ec9, lc9⟩ := cut_bools f (some (bx + 1)) none
  have h20' : SqT K H20 r9 (c9.map V.bl) := by rw [← ec9]; exact h20
  refine ⟨r8, r9, _, _, rfl, rfl, same_tup s20 h19, h20', Nat.le_of_lt (small1000 (by simp only [List.length_map, List.length_append, List.length_cons, List.length_nil]; omega)), fun so H21 s21 h21 => ?_⟩
  rw [← List.map_append] at h21
  have s1621 := s1619.trans (s20.trans s21)
  have hp21 := hp16.same s1621
  have to : B2 K (hid p H21) (.ref so) := b2_bools (hidT hp21 h21) (by simp only [List.length_append, List.length_cons, List.length_nil]; omega)
  have ra21 := ra16.kp hp16 (Kp.of s1621)
  have bod21 := bod.same (hid_mono s1621)
  clear h17 h19 h20 h20' h21 s17 s18 s19 s20 s21 s1619 e18 n8
  -- what is always at hand
  have stB : ∀ {H' : Hp}, Pl H' p → RunAt K p H' S ru st wl f wa ws → B2 K (hid p H') (.ref st) := fun hp' ra' => b2_bools (hidT hp' ra'.hs) (by omega)
  have waB : ∀ {H' : Hp}, Pl H' p → RunAt K p H' S ru st wl f wa ws → ∀ v ∈ wa.map V.ref, B1 K (hid p H') v := fun hp' ra' v hv => by
    obtain ⟨iz, hiz⟩ := List.mem_iff_getElem?.mp hv
    obtain ⟨ta, g', rfl, hg', hqz, _⟩ := tups_fill ra'.tw hiz
    exact b1_bools (hidT hp' hqz) (by rw [words_mem (ra'.hw g' hg')]; omega)
  have wlB : ∀ {H' : Hp}, Pl H' p → RunAt K p H' S ru st wl f wa ws → B2 K (hid p H') (.ref wl) := fun hp' ra' => BtE.le (n := 31 * (600 + 1)) (m := 2 + 1) (BtE.lst (l := 31) (SqL.of (hid_of ra'.wp ra'.ew)) (waB hp' ra') (by rw [lwa]; omega) (by decide)) (by decide) (by decide)
  -- the first three
  refine ⟨_, rfl, _, rfl, _, rfl, at', rfl, wl, _, rfl, SqL.of ra21.ew, fun q1 nq1 => ?_⟩
  have lcw : ∀ lo hi, (cutV (wa.map V.ref) lo hi).length ≤ 30 := fun lo hi => Nat.le_trans cut_sub.2 (by rw [lwa]; omega)
  have s22 : Same H21 (upd H21 q1 (.lst (cutV (wa.map V.ref) none (some at')))) := same_new nq1
  have e22 : (upd H21 q1 (.lst (cutV (wa.map V.ref) none (some at')))) q1 = some (.lst (cutV (wa.map V.ref) none (some at'))) := upd_same
  generalize (upd H21 q1 (.lst (cutV (wa.map V.ref) none (some at')))) = H22 at *
  refine ⟨_, rfl, (by show 1 ≤ sizeLine; decide), fun q2 nq2 => ?_⟩
  have s23 : Same H22 (upd H22 q2 (.lst [od])) := same_new nq2
  have e23 : (upd H22 q2 (.lst [od])) q2 = some (.lst [od]) := upd_same
  generalize (upd H22 q2 (.lst [od])) = H23 at *
  have l1c := lcw none (some at')
  refine ⟨q1, q2, _, _, rfl, rfl, s23 _ _ e22, e23, Nat.le_of_lt (small1000 (by simp only [List.length_cons, List.length_nil]; omega)), fun q3 nq3 => ?_⟩
  have s24 : Same H23 (upd H23 q3 (.lst (cutV (wa.map V.ref) none (some at') ++ [od]))) := same_new nq3
  have e24 : (upd H23 q3 (.lst (cutV (wa.map V.ref) none (some at') ++ [od]))) q3 = some (.lst (cutV (wa.map V.ref) none (some at') ++ [od])) := upd_same
  generalize (upd H23 q3 (.lst (cutV (wa.map V.ref) none (some at') ++ [od]))) = H24 at *
  have s2124 := s22.trans (s23.trans s24)
  refine ⟨_, rfl, _, rfl, _, _, rfl, rfl, at' + 1, rfl, wl, _, rfl, SqL.of (s2124 _ _ ra21.ew), fun q4 nq4 => ?_⟩
  have key4 : HO.lst (cutV (wa.map V.ref) (some ((fun i j => i + j) at' 1)) none) = HO.lst (cutV (wa.map V.ref) (some (at' + 1)) none) := rfl
  have s25 : Same H24 (upd H24 q4 (.lst (cutV (wa.map V.ref) (some (at' + 1)) none))) := same_new nq4
  have e25 : (upd H24 q4 (.lst (cutV (wa.map V.ref) (some (at' + 1)) none))) q4 = some (.lst (cutV (wa.map V.ref) (some (at' + 1)) none)) := upd_same
  generalize (upd H24 q4 (.lst (cutV (wa.map V.ref) (some (at' + 1)) none))) = H25 at *
  have l2c := lcw (some (at' + 1)) none
  refine ⟨q3, q4, _, _, rfl, rfl, s25 _ _ e24, e25, Nat.le_of_lt (small1000 (by rw [List.length_append]; simp only [List.length_cons, List.length_nil]; omega)), fun q5 nq5 => ?_⟩
  have s26 : Same H25 (upd H25 q5 (.lst ((cutV (wa.map V.ref) none (some at') ++ [od]) ++ cutV (wa.map V.ref) (some (at' + 1)) none))) := same_new nq5
  have e26 : (upd H25 q5 (.lst ((cutV (wa.map V.ref) none (some at') ++ [od]) ++ cutV (wa.map V.ref) (some (at' + 1)) none))) q5 = some (.lst ((cutV (wa.map V.ref) none (some at') ++ [od]) ++ cutV (wa.map V.ref) (some (at' + 1)) none)) := upd_same
  generalize (upd H25 q5 (.lst ((cutV (wa.map V.ref) none (some at') ++ [od]) ++ cutV (wa.map V.ref) (some (at' + 1)) none))) = H26 at *
  have s2126 := s2124.trans (s25.trans s26)
  have hp26 := hp21.same s2126
  have q5p : q5 ≠ p := fun z => (hp21.same (s2124.trans s25)).at (z ▸ nq5)
  have ra26 := ra21.kp hp21 (Kp.of s2126)
  have t5 : B2 K (hid p H26) (.ref q5) := by
    refine BtE.le (n := 31 * (600 + 1)) (m := 2 + 1) (BtE.lst (l := 31) (SqL.of (hid_of q5p e26)) (fun v hv => ?_) ?_ (by decide)) (by decide) (by decide)
    · rcases List.mem_append.mp hv with z | z
      · rcases List.mem_append.mp z with z | z
        · exact waB hp26 ra26 v (cut_sub.1 v z)
        · rw [List.mem_singleton] at z; rw [z]; exact bod21.same (hid_mono s2126)
      · exact waB hp26 ra26 v (cut_sub.1 v z)
    · have e1 := cut_two (xs := wa.map V.ref) (i := at') a0 (by omega)
      rw [List.length_append, List.length_append]; simp only [List.length_cons, List.length_nil]; omega
  refine ⟨(by show 2 ≤ sizeLine; decide), fun z1 nz1 => ?_⟩
  have s27 : Same H26 (upd H26 z1 (.tup [.ref st, .ref q5])) := same_new nz1
  have e27 : (upd H26 z1 (.tup [.ref st, .ref q5])) z1 = some (.tup [.ref st, .ref q5]) := upd_same
  generalize (upd H26 z1 (.tup [.ref st, .ref q5])) = H27 at *
  have hp27 := hp26.same s27
  have ra27 := ra26.kp hp26 (Kp.of s27)
  have g1 : B3 K (hid p H27) (.ref z1) := two_of (hidT hp27 (SqT.of e27)) (stB hp27 ra27) (t5.same (hid_mono s27))
  have s2127 := s2126.trans s27
  clear s22 s23 s24 s25 s26 e22 e23 e24 e25 e26 t5 nq1 nq2 nq3 nq4 nq5 nz1 s2124 key4 ra26 hp26 s2126
  refine ⟨_, rfl, _, rfl, (by show 2 ≤ sizeLine; decide), fun z2 nz2 => ?_⟩
  have s28 : Same H27 (upd H27 z2 (.tup [.ref so, .ref wl])) := same_new nz2
  have e28 : (upd H27 z2 (.tup [.ref so, .ref wl])) z2 = some (.tup [.ref so, .ref wl]) := upd_same
  generalize (upd H27 z2 (.tup [.ref so, .ref wl])) = H28 at *
  have hp28 := hp27.same s28
  have ra28 := ra27.kp hp27 (Kp.of s28)
  have g2 : B3 K (hid p H28) (.ref z2) := two_of (hidT hp28 (SqT.of e28)) (to.same (hid_mono (s2127.trans s28))) (wlB hp28 ra28)
  refine ⟨_, rfl, st, _, rfl, .inr ra28.hs, fun l3 nl3 => ?_⟩
  have s29 : Same H28 (upd H28 l3 (.lst (f.map V.bl))) := same_new nl3
  have e29 : (upd H28 l3 (.lst (f.map V.bl))) l3 = some (.lst (f.map V.bl)) := upd_same
  have l3p : l3 ≠ p := fun z => hp28.at (z ▸ nl3)
  generalize (upd H28 l3 (.lst (f.map V.bl))) = H29 at *
  have tl3 : B2 K (hid p H29) (.ref l3) := BtE.le (BtE.lst (n := 0) (m := 0) (l := 100) (SqL.of (hid_of l3p e29)) (fun v hv => by obtain ⟨b, _, rfl⟩ := List.mem_map.mp hv; exact .bl b) (by rw [List.length_map]; omega) (by decide)) (by decide) (by decide)
  refine ⟨_, rfl, (by show 2 ≤ sizeLine; decide), fun z3 nz3 => ?_⟩
  have s30 : Same H29 (upd H29 z3 (.tup [.ref l3, .ref wl])) := same_new nz3
  have e30 : (upd H29 z3 (.tup [.ref l3, .ref wl])) z3 = some (.tup [.ref l3, .ref wl]) := upd_same
  generalize (upd H29 z3 (.tup [.ref l3, .ref wl])) = H30 at *
  have s2830 := s29.trans s30
  have hp30 := hp28.same s2830
  have ra30 := ra28.kp hp28 (Kp.of s2830)
  have g3 : B3 K (hid p H30) (.ref z3) := two_of (hidT hp30 (SqT.of e30)) (tl3.same (hid_mono s30)) (wlB hp30 ra30)
  refine ⟨(by show 3 ≤ sizeLine; decide), fun sm1 nsm1 => ?_⟩
  have s31 : Same H30 (upd H30 sm1 (.lst [.ref z1, .ref z2, .ref z3])) := same_new nsm1
  have e31 : (upd H30 sm1 (.lst [.ref z1, .ref z2, .ref z3])) sm1 = some (.lst [.ref z1, .ref z2, .ref z3]) := upd_same
  generalize (upd H30 sm1 (.lst [.ref z1, .ref z2, .ref z3])) = H31 at *
  have s3031 := s31
  have s2831 := s2830.trans s31
  have s2731 := s28.trans s2831
  have s2131 := s2127.trans s2731
  have hp31 := hp30.same s31
  have ra31 := ra30.kp hp30 (Kp.of s31)
  have in3 : ∀ v ∈ [V.ref z1, .ref z2, .ref z3], T3 K (hid p H31) v := fun v hv => by
    simp only [List.mem_cons, List.not_mem_nil, or_false] at hv
    rcases hv with rfl | rfl | rfl
    · exact .inl (g1.same (hid_mono s2731))
    · exact .inl (g2.same (hid_mono s2831))
    · exact .inl (g3.same (hid_mono s31))
  clear g1 g2 g3 s28 s29 s30 s31 e27 e28 e29 e30 tl3 nz2 nl3 nz3 nsm1 s2830 s2831 s2731 s3031 ra27 ra28 ra30 hp27 hp28 hp30
  -- six more
  refine ⟨_, rfl, _, rfl, _, rfl, wl, _, rfl, .inl ⟨SqL.of ra31.ew, fun tw1 ntw1 => ?_⟩⟩
  have s32 : Same H31 (upd H31 tw1 (.tup (wa.map V.ref))) := same_new ntw1
  have e32 : (upd H31 tw1 (.tup (wa.map V.ref))) tw1 = some (.tup (wa.map V.ref)) := upd_same
  generalize (upd H31 tw1 (.tup (wa.map V.ref))) = H32 at *
  have hp32 := hp31.same s32
  have ra32 := ra31.kp hp31 (Kp.of s32)
  have ttw : B2 K (hid p H32) (.ref tw1) := BtE.le (n := 31 * (600 + 1)) (m := 2 + 1) (BtE.tup (l := 31) (hidT hp32 (SqT.of e32)) (waB hp32 ra32) (by rw [lwa]; omega) (by decide)) (by decide) (by decide)
  refine ⟨(by show 2 ≤ sizeLine; decide), fun z4 nz4 => ?_⟩
  have s33 : Same H32 (upd H32 z4 (.tup [.ref st, .ref tw1])) := same_new nz4
  have e33 : (upd H32 z4 (.tup [.ref st, .ref tw1])) z4 = some (.tup [.ref st, .ref tw1]) := upd_same
  generalize (upd H32 z4 (.tup [.ref st, .ref tw1])) = H33 at *
  have hp33 := hp32.same s33
  have ra33 := ra32.kp hp32 (Kp.of s33)
  have g4 : B3 K (hid p H33) (.ref z4) := two_of (hidT hp33 (SqT.of e33)) (stB hp33 ra33) (ttw.same (hid_mono s33))
  refine ⟨_, rfl, (by show 0 ≤ sizeLine; decide), fun l5 nl5 => ?_⟩
  have s34 : Same H33 (upd H33 l5 (.lst [])) := same_new nl5
  have e34 : (upd H33 l5 (.lst [])) l5 = some (.lst []) := upd_same
  have l5p : l5 ≠ p := fun z => hp33.at (z ▸ nl5)
  generalize (upd H33 l5 (.lst [])) = H34 at *
  have tl5 : B2 K (hid p H34) (.ref l5) := BtE.le (BtE.lst (n := 0) (m := 0) (l := 1) (SqL.of (hid_of l5p e34)) (fun v hv => by cases hv) (by decide) (by decide)) (by decide) (by decide)
  refine ⟨(by show 2 ≤ sizeLine; decide), fun z5 nz5 => ?_⟩
  have s35 : Same H34 (upd H34 z5 (.tup [.ref st, .ref l5])) := same_new nz5
  have e35 : (upd H34 z5 (.tup [.ref st, .ref l5])) z5 = some (.tup [.ref st, .ref l5]) := upd_same
  generalize (upd H34 z5 (.tup [.ref st, .ref l5])) = H35 at *
  have s3335 := s34.trans s35
  have hp35 := hp33.same s3335
  have ra35 := ra33.kp hp33 (Kp.of s3335)
  have g5 : B3 K (hid p H35) (.ref z5) := two_of (hidT hp35 (SqT.of e35)) (stB hp35 ra35) (tl5.same (hid_mono s35))
  refine ⟨_, rfl, (by show 1 ≤ sizeLine; decide), fun z6 nz6 => ?_⟩
  have s36 : Same H35 (upd H35 z6 (.tup [.ref st])) := same_new nz6
  have e36 : (upd H35 z6 (.tup [.ref st])) z6 = some (.tup [.ref st]) := upd_same
  generalize (upd H35 z6 (.tup [.ref st])) = H36 at *
  have hp36 := hp35.same s36
  have ra36 := ra35.kp hp35 (Kp.of s36)
  have g6 : B3 K (hid p H36) (.ref z6) := BtE.le (n := 3 * (18631 + 1)) (m := 3 + 1) (BtE.tup (l := 3) (hidT hp36 (SqT.of e36)) (fun v hv => by rw [List.mem_singleton] at hv; rw [hv]; exact stB hp36 ra36) (by show 1 ≤ 3; decide) (by decide)) (by decide) (by decide)
  refine ⟨_, rfl, _, rfl, (by show 2 ≤ sizeLine; decide), fun z7 nz7 => ?_⟩
  have s37 : Same H36 (upd H36 z7 (.lst [.ref st, .ref wl])) := same_new nz7
  have e37 : (upd H36 z7 (.lst [.ref st, .ref wl])) z7 = some (.lst [.ref st, .ref wl]) := upd_same
  have z7p : z7 ≠ p := fun z => hp36.at (z ▸ nz7)
  generalize (upd H36 z7 (.lst [.ref st, .ref wl])) = H37 at *
  have hp37 := hp36.same s37
  have ra37 := ra36.kp hp36 (Kp.of s37)
  have g7 : B3 K (hid p H37) (.ref z7) := BtE.le (n := 3 * (18631 + 1)) (m := 3 + 1) (BtE.lst (l := 3) (SqL.of (hid_of z7p e37)) (fun v hv => by simp only [List.mem_cons, List.not_mem_nil, or_false] at hv; rcases hv with rfl | rfl; (exact stB hp37 ra37); (exact wlB hp37 ra37)) (by show 2 ≤ 3; decide) (by decide)) (by decide) (by decide)
  refine ⟨_, rfl, _, rfl, (by show 3 ≤ sizeLine; decide), fun z8 nz8 => ?_⟩
  have s38 : Same H37 (upd H37 z8 (.tup [.ref st, .ref wl, .int 0])) := same_new nz8
  have e38 : (upd H37 z8 (.tup [.ref st, .ref wl, .int 0])) z8 = some (.tup [.ref st, .ref wl, .int 0]) := upd_same
  generalize (upd H37 z8 (.tup [.ref st, .ref wl, .int 0])) = H38 at *
  have hp38 := hp37.same s38
  have ra38 := ra37.kp hp37 (Kp.of s38)
  have g8 : B3 K (hid p H38) (.ref z8) := BtE.le (n := 3 * (18631 + 1)) (m := 3 + 1) (BtE.tup (l := 3) (hidT hp38 (SqT.of e38)) (fun v hv => by simp only [List.mem_cons, List.not_mem_nil, or_false] at hv; rcases hv with rfl | rfl | rfl; (exact stB hp38 ra38); (exact wlB hp38 ra38); (exact (BtE.int 0 (by decide)).le (by decide) (Nat.le_refl _))) (by show 3 ≤ 3; decide) (by decide)) (by decide) (by decide)
  refine ⟨(by show 6 ≤ sizeLine; decide), fun sm2 nsm2 => ?_⟩
  have s39 : Same H38 (upd H38 sm2 (.lst [.ref z4, .ref z5, .ref z6, .ref z7, .ref z8, .non])) := same_new nsm2
  have e39 : (upd H38 sm2 (.lst [.ref z4, .ref z5, .ref z6, .ref z7, .ref z8, .non])) sm2 = some (.lst [.ref z4, .ref z5, .ref z6, .ref z7, .ref z8, .non]) := upd_same
  generalize (upd H38 sm2 (.lst [.ref z4, .ref z5, .ref z6, .ref z7, .ref z8, .non])) = H39 at *
  have w38 := s39
  have w37 := s38.trans w38
  have w36 := s37.trans w37
  have w35 := s36.trans w36
  have w33 := s3335.trans w35
  have w31 := s32.trans (s33.trans w33)
  refine ⟨sm1, sm2, _, _, rfl, rfl, w31 _ _ e31, e39, (by show 9 ≤ sizeLine; decide), fun sm3 nsm3 => ?_⟩
  have s40 : Same H39 (upd H39 sm3 (.lst ([.ref z1, .ref z2, .ref z3] ++ [.ref z4, .ref z5, .ref z6, .ref z7, .ref z8, .non]))) := same_new nsm3
  have e40 : (upd H39 sm3 (.lst ([.ref z1, .ref z2, .ref z3] ++ [.ref z4, .ref z5, .ref z6, .ref z7, .ref z8, .non]))) sm3 = some (.lst ([.ref z1, .ref z2, .ref z3] ++ [.ref z4, .ref z5, .ref z6, .ref z7, .ref z8, .non])) := upd_same
  have in9 : ∀ v ∈ [V.ref z1, .ref z2, .ref z3] ++ [.ref z4, .ref z5, .ref z6, .ref z7, .ref z8, .non], T3 K (hid p H39) v := fun v hv => by
    rcases List.mem_append.mp hv with z | z
    · exact (in3 v z).same (hid_mono w31)
    · simp only [List.mem_cons, List.not_mem_nil, or_false] at z
      rcases z with rfl | rfl | rfl | rfl | rfl | rfl
      · exact .inl (g4.same (hid_mono w33))
      · exact .inl (g5.same (hid_mono w35))
      · exact .inl (g6.same (hid_mono w36))
      · exact .inl (g7.same (hid_mono w37))
      · exact .inl (g8.same (hid_mono w38))
      · exact .inl .non
  generalize hx9 : ([V.ref z1, .ref z2, .ref z3] ++ [.ref z4, .ref z5, .ref z6, .ref z7, .ref z8, .non]) = xs9 at *
  have lx9 : xs9.length = 9 := by rw [← hx9]; rfl
  generalize (upd H39 sm3 (.lst xs9)) = H40 at *
  have s2140 := s2131.trans (w31.trans s40)
  have hp40 := hp21.same s2140
  have ra40 := ra21.kp hp21 (Kp.of s2140)
  have in9' : ∀ v ∈ xs9, T3 K (hid p H40) v := fun v hv => (in9 v hv).same (hid_mono s40)
  clear in3 in9 g4 g5 g6 g7 g8 s32 s33 s34 s35 s36 s37 s38 s39 s40 e31 e32 e33 e34 e35 e36 e37 e38 e39 w31 w33 w35 w36 w37 w38 s3335 ttw tl5 ra31 ra32 ra33 ra35 ra36 ra37 ra38 hp31 hp32 hp33 hp35 hp36 hp37 hp38 s2131 s2127 nsm2 nsm3 hx9 ntw1 nz4 nl5 nz5 nz6 nz7 nz8
  -- three more
  refine ⟨_, rfl, _, rfl, (by show 1 ≤ sizeLine; decide), fun u9 n9 => ?_⟩
  have s41 : Same H40 (upd H40 u9 (.tup [.bl true])) := same_new n9
  have e41 : (upd H40 u9 (.tup [.bl true])) u9 = some (.tup ([true].map V.bl)) := upd_same
  generalize (upd H40 u9 (.tup [.bl true])) = H41 at *
  refine ⟨st, u9, _, _, rfl, rfl, same_tup s41 ra40.hs, SqT.of e41, Nat.le_of_lt (small1000 (by simp only [List.length_map, List.length_cons, List.length_nil]; omega)), fun t9 H42 s42 h42 => ?_⟩
  rw [← List.map_append] at h42
  have s4042 := s41.trans s42
  have hp42 := hp40.same s4042
  have tt9 : B2 K (hid p H42) (.ref t9) := b2_bools (hidT hp42 h42) (by simp only [List.length_append, List.length_cons, List.length_nil]; omega)
  refine ⟨_, rfl, (by show 2 ≤ sizeLine; decide), fun z9 nz9 => ?_⟩
  have s43 : Same H42 (upd H42 z9 (.tup [.ref t9, .ref wl])) := same_new nz9
  have e43 : (upd H42 z9 (.tup [.ref t9, .ref wl])) z9 = some (.tup [.ref t9, .ref wl]) := upd_same
  generalize (upd H42 z9 (.tup [.ref t9, .ref wl])) = H43 at *
  have s4043 := s4042.trans s43
  have hp43 := hp40.same s4043
  have ra43 := ra40.kp hp40 (Kp.of s4043)
  have g9 : B3 K (hid p H43) (.ref z9) := two_of (hidT hp43 (SqT.of e43)) (tt9.same (hid_mono s43)) (wlB hp43 ra43)
  refine ⟨_, rfl, st, rfl, ⟨_, ra43.hs⟩, fun D5 nD5 => lc_tup (xs := f.map V.bl) (fun j H' => Same H43 H' ∧ H' D5 = some (.lst (((f.take j).map b2i).map V.int))) ⟨same_new nD5, upd_same⟩ (fun j H' _ h => same_tup h.1 ra43.hs) ?_ ?_⟩
  · rintro j y H44 ey ⟨s44, e44⟩
    obtain ⟨b, rfl, htk⟩ : ∃ b, y = .bl b ∧ f.take (j + 1) = f.take j ++ [b] := by
      have hlt : j < f.length := by
        have := (List.getElem?_eq_some_iff.mp ey).1
        rwa [List.length_map] at this
      rw [List.getElem?_map, List.getElem?_eq_getElem hlt] at ey
      cases ey
      exact ⟨_, rfl, by rw [List.take_succ_eq_append_getElem hlt]⟩
    refine ⟨rfl, _, rfl, .inr ⟨_, rfl, _, e44, ?_, ?_, ?_⟩⟩
    · rw [List.length_map, List.length_map, List.length_take]; exact small1000 (by omega)
    · exact fun b o hb => by rw [upd_ne (ne_of_none hb nD5)]; exact s44 _ _ hb
    · rw [upd_same, htk, List.map_append, List.map_append]; rfl
  rintro H44 ⟨s44, e44⟩
  rw [List.length_map, List.take_length] at e44
  refine ⟨D5, _, rfl, .inl ⟨SqL.of e44, fun t10 nt10 => ?_⟩⟩
  have s45 : Same H44 (upd H44 t10 (.tup ((f.map b2i).map V.int))) := same_new nt10
  have e45 : (upd H44 t10 (.tup ((f.map b2i).map V.int))) t10 = some (.tup ((f.map b2i).map V.int)) := upd_same
  generalize (upd H44 t10 (.tup ((f.map b2i).map V.int))) = H45 at *
  have s4345 := s44.trans s45
  have hp45 := hp43.same s4345
  have tt10 : B2 K (hid p H45) (.ref t10) := BtE.le (BtE.tup (n := 110) (m := 0) (l := 10) (hidT hp45 (SqT.of e45)) (fun v hv => by
    obtain ⟨n, hn, rfl⟩ := List.mem_map.mp hv
    obtain ⟨b, _, rfl⟩ := List.mem_map.mp hn
    exact .int _ (by cases b <;> decide)) (by rw [List.length_map, List.length_map]; omega) (by decide)) (by decide) (by decide)
  refine ⟨_, rfl, (by show 2 ≤ sizeLine; decide), fun z10 nz10 => ?_⟩
  have s46 : Same H45 (upd H45 z10 (.tup [.ref t10, .ref wl])) := same_new nz10
  have e46 : (upd H45 z10 (.tup [.ref t10, .ref wl])) z10 = some (.tup [.ref t10, .ref wl]) := upd_same
  generalize (upd H45 z10 (.tup [.ref t10, .ref wl])) = H46 at *
  have s4346 := s4345.trans s46
  have hp46 := hp43.same s4346
  have ra46 := ra43.kp hp43 (Kp.of s4346)
  have g10 : B3 K (hid p H46) (.ref z10) := two_of (hidT hp46 (SqT.of e46)) (tt10.same (hid_mono s46)) (wlB hp46 ra46)
  refine ⟨_, rfl, (by show 2 ≤ sizeLine; decide), fun z11 nz11 => ?_⟩
  have s47 : Same H46 (upd H46 z11 (.tup [.non, .ref wl])) := same_new nz11
  have e47 : (upd H46 z11 (.tup [.non, .ref wl])) z11 = some (.tup [.non, .ref wl]) := upd_same
  generalize (upd H46 z11 (.tup [.non, .ref wl])) = H47 at *
  have hp47 := hp46.same s47
  have ra47 := ra46.kp hp46 (Kp.of s47)
  have g11 : B3 K (hid p H47) (.ref z11) := two_of (hidT hp47 (SqT.of e47)) .non (wlB hp47 ra47)
  refine ⟨(by show 3 ≤ sizeLine; decide), fun sm4 nsm4 => ?_⟩
  have s48 : Same H47 (upd H47 sm4 (.lst [.ref z9, .ref z10, .ref z11])) := same_new nsm4
  have e48 : (upd H47 sm4 (.lst [.ref z9, .ref z10, .ref z11])) sm4 = some (.lst [.ref z9, .ref z10, .ref z11]) := upd_same
  generalize (upd H47 sm4 (.lst [.ref z9, .ref z10, .ref z11])) = H48 at *
  have w46 := s47.trans s48
  have w43 := s4346.trans w46
  have w40 := s4043.trans w43
  refine ⟨sm3, sm4, _, _, rfl, rfl, w40 _ _ e40, e48, by rw [lx9]; show 12 ≤ sizeLine; decide, fun sm5 nsm5 => ?_⟩
  have s49 : Same H48 (upd H48 sm5 (.lst (xs9 ++ [.ref z9, .ref z10, .ref z11]))) := same_new nsm5
  have e49 : (upd H48 sm5 (.lst (xs9 ++ [.ref z9, .ref z10, .ref z11]))) sm5 = some (.lst (xs9 ++ [.ref z9, .ref z10, .ref z11])) := upd_same
  have in12 : ∀ v ∈ xs9 ++ [.ref z9, .ref z10, .ref z11], T3 K (hid p H48) v := fun v hv => by
    rcases List.mem_append.mp hv with z | z
    · exact (in9' v z).same (hid_mono w40)
    · simp only [List.mem_cons, List.not_mem_nil, or_false] at z
      rcases z with rfl | rfl | rfl
      · exact .inl (g9.same (hid_mono w43))
      · exact .inl (g10.same (hid_mono w46))
      · exact .inl (g11.same (hid_mono s48))
  generalize hx12 : (xs9 ++ [V.ref z9, .ref z10, .ref z11]) = xs12 at *
  have lx12 : xs12.length = 12 := by rw [← hx12, List.length_append, lx9]; rfl
  generalize (upd H48 sm5 (.lst xs12)) = H49 at *
  have s4049 := w40.trans s49
  have hp49 := hp40.same s4049
  have ra49 := ra40.kp hp40 (Kp.of s4049)
  have in12' : ∀ v ∈ xs12, T3 K (hid p H49) v := fun v hv => (in12 v hv).same (hid_mono s49)
  clear in9' in12 g9 g10 g11 s41 s42 s43 s44 s45 s46 s47 s48 s49 e40 e41 e43 e44 e45 e46 e47 e48 w46 w43 w40 tt9 tt10 h42 ra43 ra46 ra47 hp42 hp43 hp45 hp46 hp47 s4042 s4043 s4345 s4346 n9 nz9 nD5 nt10 nz10 nz11 nsm4 nsm5 hx12
  -- the last four
  refine ⟨_, rfl, _, rfl, (by show 2 ≤ sizeLine; decide), fun z12 nz12 => ?_⟩
  have s50 : Same H49 (upd H49 z12 (.tup [.ref st, .non])) := same_new nz12
  have e50 : (upd H49 z12 (.tup [.ref st, .non])) z12 = some (.tup [.ref st, .non]) := upd_same
  generalize (upd H49 z12 (.tup [.ref st, .non])) = H50 at *
  have hp50 := hp49.same s50
  have ra50 := ra49.kp hp49 (Kp.of s50)
  have g12 : B3 K (hid p H50) (.ref z12) := two_of (hidT hp50 (SqT.of e50)) (stB hp50 ra50) .non
  refine fun dd ndd => ?_
  have s51 : Same H50 (upd H50 dd (.dK [])) := same_new ndd
  have e51 : (upd H50 dd (.dK [])) dd = some (.dK []) := upd_same
  have ddp : dd ≠ p := fun z => hp50.at (z ▸ ndd)
  generalize (upd H50 dd (.dK [])) = H51 at *
  have hp51 := hp50.same s51
  have ra51 := ra50.kp hp50 (Kp.of s51)
  have g13 : T3 K (hid p H51) (.ref dd) := .inr ⟨dd, rfl, hid_of ddp e51⟩
  refine ⟨_, rfl, _, rfl, _, rfl, wl, _, rfl, SqL.of ra51.ew, fun q6 nq6 => ?_⟩
  have s52 : Same H51 (upd H51 q6 (.lst (cutV (wa.map V.ref) none (some 1)))) := same_new nq6
  have e52 : (upd H51 q6 (.lst (cutV (wa.map V.ref) none (some 1)))) q6 = some (.lst (cutV (wa.map V.ref) none (some 1))) := upd_same
  have q6p : q6 ≠ p := fun z => hp51.at (z ▸ nq6)
  generalize (upd H51 q6 (.lst (cutV (wa.map V.ref) none (some 1)))) = H52 at *
  have hp52 := hp51.same s52
  have ra52 := ra51.kp hp51 (Kp.of s52)
  have tq6 : B2 K (hid p H52) (.ref q6) := BtE.le (n := 31 * (600 + 1)) (m := 2 + 1) (BtE.lst (l := 31) (SqL.of (hid_of q6p e52)) (fun v hv => waB hp52 ra52 v (cut_sub.1 v hv)) (by have := lcw none (some 1); omega) (by decide)) (by decide) (by decide)
  refine ⟨(by show 2 ≤ sizeLine; decide), fun z14 nz14 => ?_⟩
  have s53 : Same H52 (upd H52 z14 (.tup [.ref st, .ref q6])) := same_new nz14
  have e53 : (upd H52 z14 (.tup [.ref st, .ref q6])) z14 = some (.tup [.ref st, .ref q6]) := upd_same
  generalize (upd H52 z14 (.tup [.ref st, .ref q6])) = H53 at *
  have hp53 := hp52.same s53
  have ra53 := ra52.kp hp52 (Kp.of s53)
  have g14 : B3 K (hid p H53) (.ref z14) := two_of (hidT hp53 (SqT.of e53)) (stB hp53 ra53) (tq6.same (hid_mono s53))
  refine ⟨(by show 4 ≤ sizeLine; decide), fun sm6 nsm6 => ?_⟩
  have s54 : Same H53 (upd H53 sm6 (.lst [.ref z12, .ref dd, .str (Str.ofString "run"), .ref z14])) := same_new nsm6
  have e54 : (upd H53 sm6 (.lst [.ref z12, .ref dd, .str (Str.ofString "run"), .ref z14])) sm6 = some (.lst [.ref z12, .ref dd, .str (Str.ofString "run"), .ref z14]) := upd_same
  generalize (upd H53 sm6 (.lst [.ref z12, .ref dd, .str (Str.ofString "run"), .ref z14])) = H54 at *
  have v53 := s54
  have v51 := s52.trans (s53.trans v53)
  have v50 := s51.trans v51
  have v49 := s50.trans v50
  refine ⟨sm5, sm6, _, _, rfl, rfl, v49 _ _ e49, e54, by rw [lx12]; show 16 ≤ sizeLine; decide, fun sm7 nsm7 => ?_⟩
  have s55 : Same H54 (upd H54 sm7 (.lst (xs12 ++ [.ref z12, .ref dd, .str (Str.ofString "run"), .ref z14]))) := same_new nsm7
  have e55 : (upd H54 sm7 (.lst (xs12 ++ [.ref z12, .ref dd, .str (Str.ofString "run"), .ref z14]))) sm7 = some (.lst (xs12 ++ [.ref z12, .ref dd, .str (Str.ofString "run"), .ref z14])) := upd_same
  have in16 : ∀ v ∈ xs12 ++ [.ref z12, .ref dd, .str (Str.ofString "run"), .ref z14], T3 K (hid p H54) v := fun v hv => by
    rcases List.mem_append.mp hv with z | z
    · exact (in12' v z).same (hid_mono v49)
    · simp only [List.mem_cons, List.not_mem_nil, or_false] at z
      rcases z with rfl | rfl | rfl | rfl
      · exact .inl (g12.same (hid_mono v50))
      · exact g13.same (hid_mono v51)
      · exact .inl ((BtE.str fine_run pls_run).le (by decide) (by decide))
      · exact .inl (g14.same (hid_mono v53))
  have hp54 := hp49.same v49
  have sm7p : sm7 ≠ p := fun z => hp54.at (z ▸ nsm7)
  generalize hx16 : (xs12 ++ [V.ref z12, .ref dd, .str (Str.ofString "run"), .ref z14]) = xs16 at *
  have lx16 : xs16.length = 16 := by rw [← hx16, List.length_append, lx12]; rfl
  generalize (upd H54 sm7 (.lst xs16)) = H55 at *
  have hp55 := hp54.same s55
  refine ⟨_, rfl, p, 16, rfl, hp55, by decide, by decide, fun dz H56 k56 hp56 dz0 dz1 => ?_⟩
  obtain ⟨x, hx1, hx2⟩ := atI_at (xs := xs16) (i := dz) dz0 (by omega)
  refine ⟨sm7, _, dz, x, rfl, rfl, SqL.of (k56 _ _ sm7p e55), hx1, q x H56 ?_ hp56 ?_⟩
  · exact k0_16.trans ((Kp.of (s1621.trans (s2140.trans (s4049.trans (v49.trans s55))))).trans k56)
  · exact ((in16 x (List.mem_of_getElem? hx2)).same (hid_mono s55)).same k56.hid


end
end K21
namespace K21
open PySem PySem.Spec PyProof.Rows L2 KL
section
variable {P : Program} {w : World} {K : PySem.W.Frag} {mg : Str → Option Value} {base : Heap}
def spLaw (K : PySem.W.Frag) : Sp := fun vs H Q _ => ∃ (a : Addr) (ns : List Int), vs = [.ref a] ∧ SqL K H a (ns.map V.int) ∧ ns.length ≤ 63 ∧ ∀ H', Q (.bl true) H'
theorem word_no {S : MS} {d : PyData} (h : ∀ f : List Bool, f.length = S.i → d ≠ .tuple (f.map PyData.bool)) : wordB S d = false := Bool.eq_false_iff.mpr fun y => by
  obtain ⟨f, hf, e⟩ := wordB_iff.mp y
  exact h f (words_mem hf) e
theorem flat_rep {v : V} (n : Nat) : (List.replicate n [v]).flatten = List.replicate n v := by
  induction n with
  | zero => rfl
  | succ n ih => rw [List.replicate_succ, List.flatten_cons, ih, List.replicate_succ]; rfl
theorem dp_rep {H : Hp} {v : V} {d : PyData} (h : Dp K H v d) : ∀ n, DpAll K H (List.replicate n v) (List.replicate n d)
  | 0 => .nil
  | n + 1 => .cons h (dp_rep h n)
theorem sm_rep {d : PyData} (h : Sm d) {n : Nat} (hn : n ≤ 5000) : Sm (.list (List.replicate n d)) := Sm.mkL (by rw [List.length_replicate]; exact hn) fun x hx => by rw [(List.mem_replicate.mp hx).2]; exact h
theorem words_short {S : MS} {ds : List PyData} {most : Int} (h : ds.all (wordB S) = false) : wordsB S (.list ds) most = false := by
  show (decide ((ds.length : Int) ≤ most) && ds.all (wordB S)) = false
  rw [h, Bool.and_false]
theorem words_long {S : MS} {ds : List PyData} {most : Int} (h : most < (ds.length : Int)) : wordsB S (.list ds) most = false := by
  show (decide ((ds.length : Int) ≤ most) && ds.all (wordB S)) = false
  rw [decide_eq_false (by omega), Bool.false_and]
theorem num_no {i hi : Int} (h : i < 1 ∨ hi < i) : numB (.int i) 1 hi = false := by
  show (decide (1 ≤ i) && decide (i ≤ hi)) = false
  rcases h with h | h
  · rw [decide_eq_false (show ¬ 1 ≤ i by omega), Bool.false_and]
  · rw [decide_eq_false (show ¬ i ≤ hi by omega), Bool.and_false]
theorem words_all {S : MS} {g : List Bool} {n : Nat} {most : Int} (hg : g ∈ wordsOf S.b S.i S.pr) (h : (n : Int) ≤ most) : wordsB S (.list (List.replicate n (.tuple (g.map PyData.bool)))) most = true := by
  show (decide (((List.replicate n (PyData.tuple (g.map PyData.bool))).length : Int) ≤ most) && (List.replicate n (PyData.tuple (g.map PyData.bool))).all (wordB S)) = true
  rw [List.length_replicate, decide_eq_true h, Bool.true_and]
  exact List.all_eq_true.mpr fun d hd => by rw [(List.mem_replicate.mp hd).2]; exact wordB_iff.mpr ⟨g, hg, rfl⟩
theorem ok_law {f C CR CW CN : Addr} {fd : FuncData} {k : Nat} (F : Fun K "law" "law" s_law f fd) (D_law_pool : Df P w K mg base k "_law_pool" ["_law_script", "_law_k"] (spPool K)) (D_law_spec : Df P w K mg base k "_law_spec" ["_law_pool_here", "_law_most_boxes", "_law_most_inputs", "_law_most_gates"] (spSpec K))
    (D_law_made : Df P w K mg base k "_law_made" ["_law_spec_here"] (spMade C K)) (D_law_run : Df P w K mg base k "_law_run" ["_law_pool_here", "_law_spec_here", "_law_most"] (spLRun K)) (D_law_one : Df P w K mg base k "_law_one" ["_law_pool_here", "_law_some"] (spOne K)) (D_law_words : Df P w K mg base k "_law_words" ["_law_spec_here"] (spLWords K))
    (D_law_bent_run : Df P w K mg base k "_law_bent_run" ["_law_pool_here", "_law_spec_here", "_law_run_here"] (spBent K)) (DG_law_is_run : Dg P w K mg base k "_law_is_run" ["_law_spec_here", "_law_thing"] (spLIsRun K)) (D_law_refusal : Df P w K mg base k "_law_refusal" ["_law_door_here", "_law_machine", "_law_run_here", "_law_thing"] (spRefusal C CR CW CN K))
    (m_len : mg "len" = none) (m_range : mg "range" = none) (m_max : mg "max" = none) (m_min : mg "min" = none) (m_list : mg "list" = none) :
    GFn P w K mg base CX0 (k + 1) f fd ["_law_script"] (spLaw K) := by
  refine gfn0 F sc_law (fun vs H Q E h => ?_) (fun cdv A gu outer s H vs Q E hr h => ?_)
  · obtain ⟨a, ns, rfl, _⟩ := h
    rfl
  obtain ⟨a, ns, rfl, hS, hl, q⟩ := h
  refine ⟨_, (pss_cons (ps_for PassesOwn.never rfl (pi_range1 (by rfl) m_range (pa_cons (pe_callB (call_max2 rfl) (by rfl) m_max (by decide +kernel) (pa_cons pe_int (pa_cons (pe_callB (call_min2 rfl) (by rfl) m_min (by decide +kernel) (pa_cons pe_int (pa_cons (pe_callB call_len_seq (by rfl) m_len (by decide +kernel) (pa_cons (pv 0) pa_nil)) pa_nil))) pa_nil))) pa_nil)) (pg_name (i := 1) sc_law.nd rfl (.inl rfl))
       (pss_cons (ps_set (i := 2) sc_law.nd rfl (.inl rfl) (pe_df D_law_pool hr (by rfl) (pa_cons (pv 0) (pa_cons (pv 1) pa_nil))))
       (pss_cons (ps_set (i := 3) sc_law.nd rfl (.inl rfl) (pe_df D_law_spec hr (by rfl) (pa_cons (pv 2) (pa_cons pe_int (pa_cons pe_int (pa_cons pe_int pa_nil))))))
       (pss_cons (ps_set (i := 4) sc_law.nd rfl (.inr rfl) (pe_df D_law_made hr (by rfl) (pa_cons (pv 3) pa_nil)))
       (pss_cons (ps_set (i := 5) sc_law.nd rfl (.inr rfl) (pe_df D_law_run hr (by rfl) (pa_cons (pv 2) (pa_cons (pv 3) (pa_cons pe_int pa_nil)))))
       (pss_cons (ps_set (i := 6) sc_law.nd rfl (.inl rfl) (pe_df D_law_one hr (by rfl) (pa_cons (pv 2) (pa_cons (pe_df D_law_words hr (by rfl) (pa_cons (pv 3) pa_nil)) pa_nil))))
       (pss_cons (ps_for PassesOwn.never rfl (pi_range1 (by rfl) m_range (pa_cons pe_int pa_nil)) (pg_name (i := 7) sc_law.nd rfl (.inl rfl))
       (pss_cons (ps_set (i := 8) sc_law.nd rfl (.inl rfl) (pe_df D_law_bent_run hr (by rfl) (pa_cons (pv 2) (pa_cons (pv 3) (pa_cons (pv 5) pa_nil)))))
       (pss_one (ps_if (pt_not (pt_val (pe_dg DG_law_is_run gu hr (by rfl) (pa_cons (pv 3) (pa_cons (pv 8) pa_nil)))))
       (pss_one (ps_for PassesOwn.never rfl (pi_range1 (by rfl) m_range (pa_cons pe_int pa_nil)) (pg_name (i := 9) sc_law.nd rfl (.inl rfl))
       (pss_one (ps_if (pt_cmpR op_ne (pe_df D_law_refusal hr (by rfl) (pa_cons (pv 9) (pa_cons (pv 4) (pa_cons (pv 8) (pa_cons (pe_df D_law_one hr (by rfl) (pa_cons (pv 2) (pa_cons (pe_lst (pa_cons (pe_lst pa_nil) (pa_cons pe_non (pa_cons pe_int (pa_cons pe_int pa_nil))))) pa_nil))) pa_nil))))) pe_str (nomark _))
       (pss_one (ps_ret pe_bl))
       pss_nil))))
       pss_nil))))
       (pss_cons (ps_set (i := 10) sc_law.nd rfl (.inl rfl) (pe_lst (pa_cons pe_non (pa_cons (pe_tup pa_nil) (pa_cons (pe_tup (pa_cons (pv 6) pa_nil)) (pa_cons (pe_lst (pa_cons pe_non pa_nil)) (pa_cons (pe_lst (pa_cons (pv 6) (pa_cons (pe_op op_catK (pv 6) (pe_tup (pa_cons pe_bl pa_nil))) pa_nil))) (pa_cons pe_str (pa_cons pe_int (pa_cons pe_dnewK (pa_cons (pe_lst (pa_cons (pe_callTy call_list_of (by rfl) m_list (by decide +kernel) (pa_cons (pv 6) pa_nil)) pa_nil)) (pa_cons (pe_op op_rep (pe_lst (pa_cons (pv 6) pa_nil)) (pe_op op_sub pe_int (pe_callB call_len_seq (by rfl) m_len (by decide +kernel) (pa_cons (pe_ix ix_tup (pv 5) pe_int (fun _ _ => rfl)) pa_nil)))) pa_nil))))))))))))
       (pss_cons (ps_for PassesOwn.never rfl (pi_list (pv 10)) (pg_name (i := 11) sc_law.nd rfl (.inl rfl))
       (pss_one (ps_if (pt_cmpR op_ne (pe_df D_law_refusal hr (by rfl) (pa_cons pe_int (pa_cons (pv 4) (pa_cons (pv 5) (pa_cons (pv 11) pa_nil))))) pe_str (nomark _))
       (pss_one (ps_ret pe_bl))
       pss_nil)))
       (pss_cons (ps_for PassesOwn.never rfl (pi_list (pe_lst (pa_cons pe_int (pa_cons (pe_un un_neg pe_int) (pa_cons (pe_op op_add (pe_callB call_len_seq (by rfl) m_len (by decide +kernel) (pa_cons (pe_ix ix_tup (pv 5) pe_int (fun _ _ => rfl)) pa_nil)) pe_int) (pa_cons pe_bl (pa_cons pe_non (pa_cons pe_str (pa_cons (pe_lst (pa_cons pe_int pa_nil)) (pa_cons (pe_tup (pa_cons pe_int pa_nil)) (pa_cons (pe_op op_pow pe_int pe_int) pa_nil))))))))))) (pg_name (i := 11) sc_law.nd rfl (.inl rfl))
       (pss_one (ps_if (pt_cmpR op_ne (pe_df D_law_refusal hr (by rfl) (pa_cons pe_int (pa_cons (pv 4) (pa_cons (pv 5) (pa_cons (pv 11) pa_nil))))) pe_str (nomark _))
       (pss_one (ps_ret pe_bl))
       pss_nil)))
       (pss_cons (ps_set (i := 12) sc_law.nd rfl (.inr rfl) (pe_lst (pa_cons pe_non (pa_cons pe_non (pa_cons pe_non (pa_cons (pe_lst (pa_cons (pv 6) pa_nil)) (pa_cons (pe_callB call_len_seq (by rfl) m_len (by decide +kernel) (pa_cons (pe_ix ix_tup (pv 5) pe_int (fun _ _ => rfl)) pa_nil)) pa_nil)))))))
       (pss_cons (ps_if (pt_cmpR (op_neD hr.units) (pe_lc (own := [("_law_door_here", 9)]) (g := gName 9) (tt := tYes) (by rfl) sc_law.nd (pi_range1 (by rfl) m_range (pa_cons pe_int pa_nil)) (blkOk_by (by kernel_rfl)) (fun _ _ _ _ _ => (pg_name (i := 9) sc_law.nd rfl (.inl rfl))) (fun _ _ _ _ _ => pts_nil) (fun _ _ _ _ _ => (pe_df D_law_refusal hr (by rfl) (pa_cons (pv 9) (pa_cons (pv 4) (pa_cons (pv 5) (pa_cons (pe_ix (ix_list' (K := K) rfl) (pv 12) (pv 9) (fun _ _ => rfl)) pa_nil))))))) (pe_op op_rep (pe_lst (pa_cons pe_str pa_nil)) pe_int) (nomark _))
       (pss_one (ps_ret pe_bl))
       pss_nil)
       (pss_one (ps_if (pt_cmpR op_ne (pe_df D_law_refusal hr (by rfl) (pa_cons pe_int (pa_cons (pv 4) (pa_cons (pv 5) (pa_cons (pe_op op_rep (pe_lst (pa_cons (pv 6) pa_nil)) (pe_op op_sub pe_int (pe_callB call_len_seq (by rfl) m_len (by decide +kernel) (pa_cons (pe_ix ix_tup (pv 5) pe_int (fun _ _ => rfl)) pa_nil)))) pa_nil))))) pe_str (nomark _))
       (pss_one (ps_ret pe_bl))
       pss_nil))))))))))))))
       (pss_one (ps_ret pe_bl))), ?_⟩
  have hlen : (ns.map V.int).length = ns.length := List.length_map _
  refine ⟨_, rfl, a, _, rfl, .inl hS, _, _, rfl, _, _, rfl, _, rfl, ?_, ?_, for_range (lo := 0) (fun i σ' H' => ∃ y1 y2 y3 y4 y5 y6 y7 y8 y9 y10 y11 y12, σ' = [some (.ref a), y1, y2, y3, y4, y5, y6, y7, y8, y9, y10, y11, y12] ∧ Same H H') ?_ ?_ ?_⟩
  · rw [hlen]; split <;> (split <;> omega)
  · rw [hlen]; split <;> (split <;> omega)
  · exact ⟨_, _, _, _, _, _, _, _, _, _, _, _, rfl, Same.refl H⟩
  · rintro ci σ' H1 hci ⟨y1, y2, y3, y4, y5, y6, y7, y8, y9, y10, y11, y12, rfl, s1⟩
    refine ⟨_, rfl, _, rfl, a, ns, _, rfl, s1.seq hS, by omega, by omega, fun p H2 np s2 hp2 => ?_⟩
    refine ⟨_, rfl, p, 4, 2, 4, rfl, hp2, by omega, by omega, by omega, by omega, fun r S H3 k3 hp3 ok b5 i2 g6 pr3 sp0 => ?_⟩
    have sp := sp0.same (hid_same p H3)
    refine ⟨_, rfl, r, S, rfl, sp, ok, fun m own H4 s4 mo fr => ?_⟩
    have hp4 := hp3.same s4
    have hown : p ∉ own := fun z => hp3.at (fr p z)
    have b1 := ok.b1
    have spH : ∀ {H' : Hp}, Kp p H4 H' → SpecAt K (hid p H') r S := fun k' => sp0.same (((Kp.of s4).trans k').hid)
    have spK : ∀ {H' : Hp}, Kp p H4 H' → SpecAt K H' r S := fun k' => sp0.same (hid_kp ((Kp.of s4).trans k'))
    have maK : ∀ {H' : Hp}, Kp p H4 H' → MachAt K C H' m S := fun k' => ⟨own, mach_kp mo hp4 hown k'⟩
    have i4 := ok.i4
    have p4 : 2 ^ S.i ≤ 16 := Nat.le_trans (Nat.pow_le_pow_right (by decide) i4) (by decide)
    refine ⟨_, rfl, _, rfl, p, r, S, 10, rfl, hp4, spH (Kp.refl _ _), ok, by omega, by decide, by decide, fun ru st wl f' wa ws H5 k5 hp5 ra => ?_⟩
    refine ⟨_, rfl, _, rfl, r, S, rfl, spK k5, ok, fun w2 wts H6 s6 nw2 ew2 tw2 => ?_⟩
    have hp6 := hp5.same s6
    have w2p : w2 ≠ p := fun z => hp5.at (z ▸ nw2)
    have lws : (wts.map V.ref).length = (wordsOf S.b S.i S.pr).length := by rw [List.length_map, tw2.len, List.length_map]
    refine ⟨p, w2, _, rfl, hp6, w2p, ew2, by rw [lws]; exact List.length_pos_iff.mpr ok.some, by rw [lws]; exact Nat.le_trans words_len (by omega), fun x H7 hx k7 hp7 => ?_⟩
    obtain ⟨ix, hix⟩ := List.mem_iff_getElem?.mp hx
    obtain ⟨wy, gw, rfl, hgw, hqw6, _⟩ := tups_fill tw2 hix
    have hqw7 := k7.tup hp6 hqw6
    have k47 := k5.trans ((Kp.of s6).trans k7)
    have ra7 := ra.kp hp5 ((Kp.of s6).trans k7)
    have lgw : gw.length = S.i := words_mem hgw
    clear hqw6 ra k5 s6 k7 hp5 hp6 hix hx
    refine ⟨6, rfl, by decide, by decide, for_range (lo := 0) (n := (6 : Int).toNat) (fun j σ' H' => ∃ y7 y8 y9 y10 y11 y12, σ' = [some (.ref a), some (.int (0 + (ci : Int))), some (.ref p), some (.ref r), some (.ref m), some (.ref ru), some (.ref wy), y7, y8, y9, y10, y11, y12] ∧ Kp p H7 H' ∧ Pl H' p) ?_ ?_ ?_⟩
    · exact ⟨_, _, _, _, _, _, rfl, Kp.refl _ _, hp7⟩
    · rintro j σ' H8 hj ⟨y7', y8', y9', y10', y11', y12', rfl, k8, hp8⟩
      have k48 := k47.trans k8
      refine ⟨_, rfl, _, rfl, _, rfl, p, r, ru, st, wl, S, f', wa, ws, rfl, hp8, spH k48, ok, ra7.kp hp7 k8, fun x H9 k9 hp9 t3 => ?_⟩
      obtain ⟨d, twd⟩ := t3.tw
      have twd9 := twd.same (hid_same p H9)
      have k49 := k48.trans k9
      refine ⟨_, rfl, _, rfl, r, S, x, d, rfl, spK k49, ok, by omega, twd9, fun H10 s10 => ⟨_, rfl, ?_⟩⟩
      have hp10 := hp9.same s10
      cases hb : runB S d with
      | true => exact iteF ⟨_, _, _, _, _, _, rfl, k8.trans (k9.trans (Kp.of s10)), hp10⟩
      | false =>
        refine iteT ?_
        refine ⟨5, rfl, by decide, by decide, for_range (lo := 0) (n := (5 : Int).toNat) (fun i σ' H' => ∃ y9 y10 y11 y12, σ' = [some (.ref a), some (.int (0 + (ci : Int))), some (.ref p), some (.ref r), some (.ref m), some (.ref ru), some (.ref wy), some (.int (0 + (j : Int))), some x, y9, y10, y11, y12] ∧ Kp p H10 H' ∧ Pl H' p) ?_ ?_ ?_⟩
        · exact ⟨_, _, _, _, rfl, Kp.refl _ _, hp10⟩
        · rintro i σ' H11 hi ⟨y9'', y10'', y11'', y12'', rfl, k11, hp11⟩
          have hi5 : i < 5 := hi
          refine ⟨_, rfl, _, rfl, _, rfl, _, rfl, (by show 0 ≤ sizeLine; decide), fun l0 nl0 => ⟨(by show 4 ≤ sizeLine; decide), fun l1 nl1 => ?_⟩⟩
          have s12 : Same H11 (upd H11 l0 (.lst [])) := same_new nl0
          generalize (upd H11 l0 (.lst [])) = H12 at *
          have hp12 := hp11.same s12
          have s13 : Same H12 (upd H12 l1 (.lst [.ref l0, .non, .int 1, .int 0])) := same_new nl1
          have e13 : (upd H12 l1 (.lst [.ref l0, .non, .int 1, .int 0])) l1 = some (.lst [.ref l0, .non, .int 1, .int 0]) := upd_same
          have l1p : l1 ≠ p := fun z => hp12.at (z ▸ nl1)
          generalize (upd H12 l1 (.lst [.ref l0, .non, .int 1, .int 0])) = H13 at *
          refine ⟨p, l1, _, rfl, hp12.same s13, l1p, e13, by show 0 < 4; decide, by show 4 ≤ 1000; decide, fun y H14 hy k14 hp14 => ?_⟩
          have k914 : Kp p H9 H14 := (Kp.of s10).trans (k11.trans ((Kp.of (s12.trans s13)).trans k14))
          refine ⟨i, m, S, x, y, some CR, "run", by rw [Int.zero_add]; rfl, hi5, maK (k49.trans k914), ok, .inl ⟨⟨d, (twd.same (hid_kp k914)).tg, hb⟩, rfl⟩, .inr (.inl ⟨rfl, rfl⟩), fun H15 s15 => ?_⟩
          refine ⟨rfl, _, rfl, iteF ?_⟩
          exact ⟨_, _, _, _, rfl, k11.trans ((Kp.of (s12.trans s13)).trans (k14.trans (Kp.of s15))), hp14.same s15⟩
        · rintro σ' H11 ⟨y9'', y10'', y11'', y12'', rfl, k11, hp11⟩
          exact ⟨_, _, _, _, _, _, rfl, k8.trans (k9.trans ((Kp.of s10).trans k11)), hp11⟩
    rintro σ' H8 ⟨y7', y8', y9', y10', y11', y12', rfl, k8, hp8⟩
    have ra8 := ra7.kp hp7 k8
    have k48 := k47.trans k8
    have ma8 := maK k48
    have hq8 := k8.tup hp7 hqw7
    have s08 : Same H H8 := fun b o hb => by
      have z : b ≠ p := fun z => by rw [z] at hb; have := s1 _ _ hb; rw [np] at this; cases this
      exact k48 _ _ z (s4 _ _ (k3 _ _ z (s2 _ _ (s1 _ _ hb))))
    have l30 := ra8.l30
    have l1 := ra8.l1
    have lwa := ra8.lwa
    clear sp0 sp spH spK maK mo hp4 hown k47 k48 k8 hp7 hqw7 ra7 k3 hp2 hp3 fr
    -- odd things
    refine ⟨(by show 0 ≤ sizeLine; decide), fun o1 no1 => ⟨_, rfl, (by show 1 ≤ sizeLine; decide), fun o2 no2 => ⟨(by show 1 ≤ sizeLine; decide), fun o3 no3 => ⟨_, rfl, _, rfl, (by show 1 ≤ sizeLine; decide), fun o4 no4 => ?_⟩⟩⟩⟩
    have s9 : Same H8 (upd H8 o1 (.tup [])) := same_new no1
    have e9 : (upd H8 o1 (.tup [])) o1 = some (.tup []) := upd_same
    generalize (upd H8 o1 (.tup [])) = H9 at *
    have s10 : Same H9 (upd H9 o2 (.tup [.ref wy])) := same_new no2
    have e10 : (upd H9 o2 (.tup [.ref wy])) o2 = some (.tup [.ref wy]) := upd_same
    generalize (upd H9 o2 (.tup [.ref wy])) = H10 at *
    have s11 : Same H10 (upd H10 o3 (.lst [.non])) := same_new no3
    have e11 : (upd H10 o3 (.lst [.non])) o3 = some (.lst [.non]) := upd_same
    generalize (upd H10 o3 (.lst [.non])) = H11 at *
    have s12 : Same H11 (upd H11 o4 (.tup [.bl true])) := same_new no4
    have e12 : (upd H11 o4 (.tup [.bl true])) o4 = some (.tup [.bl true]) := upd_same
    generalize (upd H11 o4 (.tup [.bl true])) = H12 at *
    have s812 := s9.trans (s10.trans (s11.trans s12))
    refine ⟨wy, o4, _, _, rfl, rfl, same_tup s812 hq8, SqT.of e12, by rw [List.length_map]; exact Nat.le_of_lt (small1000 (by simp only [List.length_cons, List.length_nil]; omega)), fun o5 H13 s13 e13 => ?_⟩
    have e13' : SqT K H13 o5 ((gw ++ [true]).map V.bl) := by rw [List.map_append]; exact e13
    refine ⟨(by show 2 ≤ sizeLine; decide), fun o6 no6 => fun dd ndd => ?_⟩
    have s14 : Same H13 (upd H13 o6 (.lst [.ref wy, .ref o5])) := same_new no6
    have e14 : (upd H13 o6 (.lst [.ref wy, .ref o5])) o6 = some (.lst [.ref wy, .ref o5]) := upd_same
    generalize (upd H13 o6 (.lst [.ref wy, .ref o5])) = H14 at *
    have s15 : Same H14 (upd H14 dd (.dK [])) := same_new ndd
    have e15 : (upd H14 dd (.dK [])) dd = some (.dK []) := upd_same
    generalize (upd H14 dd (.dK [])) = H15 at *
    have s815 := s812.trans (s13.trans (s14.trans s15))
    refine ⟨_, rfl, wy, _, rfl, .inr (same_tup s815 hq8), fun o7 no7 => ⟨(by show 1 ≤ sizeLine; decide), fun o8 no8 => ⟨_, rfl, (by show 1 ≤ sizeLine; decide), fun o9 no9 => ?_⟩⟩⟩
    have s16 : Same H15 (upd H15 o7 (.lst (gw.map V.bl))) := same_new no7
    have e16 : (upd H15 o7 (.lst (gw.map V.bl))) o7 = some (.lst (gw.map V.bl)) := upd_same
    generalize (upd H15 o7 (.lst (gw.map V.bl))) = H16 at *
    have s17 : Same H16 (upd H16 o8 (.lst [.ref o7])) := same_new no8
    have e17 : (upd H16 o8 (.lst [.ref o7])) o8 = some (.lst [.ref o7]) := upd_same
    generalize (upd H16 o8 (.lst [.ref o7])) = H17 at *
    have s18 : Same H17 (upd H17 o9 (.lst [.ref wy])) := same_new no9
    have e18 : (upd H17 o9 (.lst [.ref wy])) o9 = some (.lst [.ref wy]) := upd_same
    generalize (upd H17 o9 (.lst [.ref wy])) = H18 at *
    have s818 := s815.trans (s16.trans (s17.trans s18))
    have ra18 := ra8.same s818
    refine ⟨_, rfl, ru, _, 1, .ref wl, rfl, rfl, SqT.of ra18.er, rfl, wl, _, rfl, .inl (SqL.of ra18.ew), _, _, rfl, rfl, o9, _, _, rfl, rfl, e18, ?_, ?_, ?_, fun o10 no10 => ?_⟩
    · rw [lwa]; omega
    · rw [lwa]; omega
    · rw [lwa]; exact Nat.le_of_lt (small5000 (by simp only [List.length_cons, List.length_nil]; omega))
    have ek : (List.replicate ((fun i j => i - j) 2001 (((wa.map V.ref).length : Nat) : Int)).toNat [V.ref wy]).flatten = List.replicate (2001 - ws.length) (.ref wy) := by
      rw [flat_rep]; congr 1; show (2001 - (((wa.map V.ref).length : Nat) : Int)).toNat = _; rw [lwa]; omega
    rw [ek]
    have s19 : Same H18 (upd H18 o10 (.lst (List.replicate (2001 - ws.length) (.ref wy)))) := same_new no10
    have e19 : (upd H18 o10 (.lst (List.replicate (2001 - ws.length) (.ref wy)))) o10 = some (.lst (List.replicate (2001 - ws.length) (.ref wy))) := upd_same
    generalize (upd H18 o10 (.lst (List.replicate (2001 - ws.length) (.ref wy)))) = H19 at *
    refine ⟨(by show 10 ≤ sizeLine; decide), fun od nod => ?_⟩
    have s20 : Same H19 (upd H19 od (.lst [.non, .ref o1, .ref o2, .ref o3, .ref o6, .str (Str.ofString ""), .int 1, .ref dd, .ref o8, .ref o10])) := same_new nod
    have e20 : (upd H19 od (.lst [.non, .ref o1, .ref o2, .ref o3, .ref o6, .str (Str.ofString ""), .int 1, .ref dd, .ref o8, .ref o10])) od = some (.lst [.non, .ref o1, .ref o2, .ref o3, .ref o6, .str (Str.ofString ""), .int 1, .ref dd, .ref o8, .ref o10]) := upd_same
    generalize (upd H19 od (.lst [.non, .ref o1, .ref o2, .ref o3, .ref o6, .str (Str.ofString ""), .int 1, .ref dd, .ref o8, .ref o10])) = H20 at *
    have s820 := s818.trans (s19.trans s20)
    have hq20 := same_tup s820 hq8
    have dwy : Dp K H20 (.ref wy) (.tuple (gw.map PyData.bool)) := .tup hq20 (dpBools gw)
    have swy : Sm (.tuple (gw.map PyData.bool)) := Sm.bools gw (by omega)
    have smN : Sm .none := by unfold Sm; exact True.intro
    have smI : ∀ i, Sm (.int i) := fun i => by unfold Sm; exact True.intro
    have allw : ∀ v ∈ [V.non, .ref o1, .ref o2, .ref o3, .ref o6, .str (Str.ofString ""), .int 1, .ref dd, .ref o8, .ref o10], ∃ d, Tg K H20 v d ∧ wordsB S d (2000 - (ws.length : Int)) = false := fun v hv => by
      simp only [List.mem_cons, List.not_mem_nil, or_false] at hv
      rcases hv with rfl | rfl | rfl | rfl | rfl | rfl | rfl | rfl | rfl | rfl
      · exact ⟨.none, ⟨.inl .non, smN⟩, rfl⟩
      · exact ⟨.tuple [], ⟨.inl (.tup (SqT.of ((s10.trans (s11.trans (s12.trans (s13.trans (s14.trans (s15.trans (s16.trans (s17.trans (s18.trans (s19.trans s20)))))))))) _ _ e9)) .nil), Sm.mkT (by decide) fun d hd => by cases hd⟩, rfl⟩
      · exact ⟨.tuple [_], ⟨.inl (.tup (SqT.of ((s11.trans (s12.trans (s13.trans (s14.trans (s15.trans (s16.trans (s17.trans (s18.trans (s19.trans s20))))))))) _ _ e10)) (.cons dwy .nil)), Sm.mkT (by show 1 ≤ 900; decide) fun d hd => by rw [List.mem_singleton] at hd; rw [hd]; exact swy⟩, rfl⟩
      · exact ⟨.list [.none], ⟨.inl (.lst (SqL.of ((s12.trans (s13.trans (s14.trans (s15.trans (s16.trans (s17.trans (s18.trans (s19.trans s20)))))))) _ _ e11)) (.cons .non .nil)), Sm.mkL (by show 1 ≤ 5000; decide) fun d hd => by rw [List.mem_singleton] at hd; rw [hd]; exact smN⟩, words_short (by rw [List.all_cons, word_no (fun f _ e => by cases e)]; rfl)⟩
      · have d5 : Dp K H20 (.ref o5) (.tuple ((gw ++ [true]).map PyData.bool)) := .tup (same_tup (s14.trans (s15.trans (s16.trans (s17.trans (s18.trans (s19.trans s20)))))) e13') (dpBools _)
        refine ⟨.list [_, _], ⟨.inl (.lst (SqL.of ((s15.trans (s16.trans (s17.trans (s18.trans (s19.trans s20))))) _ _ e14)) (.cons dwy (.cons d5 .nil))), Sm.mkL (by show 2 ≤ 5000; decide) fun d hd => ?_⟩, words_short ?_⟩
        · simp only [List.mem_cons, List.not_mem_nil, or_false] at hd
          rcases hd with rfl | rfl
          · exact swy
          · exact Sm.bools _ (by rw [List.length_append]; simp only [List.length_cons, List.length_nil]; omega)
        · rw [List.all_cons, List.all_cons, word_no (d := .tuple ((gw ++ [true]).map PyData.bool)) (fun f hf e => by
            have := congrArg List.length (bools_inj (PyData.tuple.inj e))
            rw [List.length_append] at this; simp only [List.length_cons, List.length_nil] at this; omega), Bool.false_and, Bool.and_false]
      · exact ⟨.str _, ⟨.inl (.str _), by unfold Sm; exact True.intro⟩, rfl⟩
      · exact ⟨.int 1, ⟨.inl (.int 1), smI 1⟩, rfl⟩
      · exact ⟨.none, ⟨.inr ⟨dd, [], rfl, (s16.trans (s17.trans (s18.trans (s19.trans s20)))) _ _ e15, rfl⟩, smN⟩, rfl⟩
      · have d7 : Dp K H20 (.ref o7) (.list (gw.map PyData.bool)) := .lst (SqL.of ((s17.trans (s18.trans (s19.trans s20))) _ _ e16)) (dpBools gw)
        refine ⟨.list [_], ⟨.inl (.lst (SqL.of ((s18.trans (s19.trans s20)) _ _ e17)) (.cons d7 .nil)), Sm.mkL (by show 1 ≤ 5000; decide) fun d hd => ?_⟩, words_short (by rw [List.all_cons, word_no (fun f _ e => by cases e)]; rfl)⟩
        rw [List.mem_singleton] at hd; rw [hd]
        exact Sm.mkL (by rw [List.length_map]; omega) fun d hd => by obtain ⟨b, _, rfl⟩ := List.mem_map.mp hd; unfold Sm; exact True.intro
      · exact ⟨.list _, ⟨.inl (.lst (SqL.of (s20 _ _ e19)) (dp_rep dwy _)), sm_rep swy (by omega)⟩, words_long (by rw [List.length_replicate]; omega)⟩
    have ra20 := ra8.same s820
    have ma20 := ma8.same s820
    have e20' := e20
    clear s9 s10 s11 s12 s13 s14 s15 s16 s17 s18 s19 s20 e9 e10 e11 e12 e13 e13' e14 e15 e16 e17 e18 e19 e20 s812 s815 s818 ra18 no1 no2 no3 no4 no6 ndd no7 no8 no9 no10 nod
    refine ⟨_, rfl, od, rfl, ⟨_, SqL.of e20'⟩, for_list (xs := [V.non, .ref o1, .ref o2, .ref o3, .ref o6, .str (Str.ofString ""), .int 1, .ref dd, .ref o8, .ref o10]) (fun j σ' H' => ∃ y11, σ' = [some (.ref a), some (.int (0 + (ci : Int))), some (.ref p), some (.ref r), some (.ref m), some (.ref ru), some (.ref wy), y7', y8', y9', some (.ref od), y11, y12'] ∧ Same H20 H') ⟨_, rfl, Same.refl _⟩ (fun j σ' H' _ ⟨_, _, h⟩ => SqL.of (h _ _ e20')) ?_ ?_⟩
    · rintro j x σ' H21 ex ⟨y11, rfl, s21⟩
      obtain ⟨d, td, hd⟩ := allw x (List.mem_of_getElem? ex)
      refine ⟨_, rfl, _, rfl, _, rfl, 3, m, S, .ref ru, x, some CW, "word", rfl, by decide, ma20.same s21, ok, .inr ⟨p, ru, st, wl, f', wa, ws, rfl, ra20.same s21, (fun h => by omega), fun _ => ⟨d, td.same s21, by rw [hd]; rfl⟩, fun h => by omega⟩, .inr (.inr (.inl ⟨rfl, rfl⟩)), fun H22 s22 => ?_⟩
      refine ⟨rfl, _, rfl, iteF ?_⟩
      exact ⟨_, rfl, s21.trans s22⟩
    rintro σ' H21 ⟨y11, rfl, s21⟩
    have ra21 := ra20.same s21
    have ma21 := ma20.same s21
    have hq21 := same_tup s21 hq20
    have s021 : Same H H21 := s08.trans (s820.trans s21)
    clear allw e20' ra20 ma20 hq20 dwy
    -- odd numbers
    have nine : ∀ (H' : Hp) (n1 n2 : Addr), H' n1 = some (.lst [.int 1]) → H' n2 = some (.tup [.int 1]) → ∀ v ∈ [V.int 0, .int (-1), .int ((((wa.map V.ref).length : Nat) : Int) + 1), .bl true, .non, .str (Str.ofString "1"), .ref n1, .ref n2, .int ((10 : Int) ^ (Int.toNat 20))], ∃ d, Dp K H' v d ∧ numB d 1 (ws.length : Int) = false := fun H' n1 n2 h1 h2 v hv => by
      simp only [List.mem_cons, List.not_mem_nil, or_false] at hv
      rcases hv with rfl | rfl | rfl | rfl | rfl | rfl | rfl | rfl | rfl
      · exact ⟨_, .int _, num_no (.inl (by omega))⟩
      · exact ⟨_, .int _, num_no (.inl (by omega))⟩
      · exact ⟨_, .int _, num_no (.inr (by rw [lwa]; omega))⟩
      · exact ⟨_, .bl _, rfl⟩
      · exact ⟨_, .non, rfl⟩
      · exact ⟨_, .str _, rfl⟩
      · exact ⟨.list [.int 1], .lst (SqL.of h1) (.cons (.int 1) .nil), rfl⟩
      · exact ⟨.tuple [.int 1], .tup (SqT.of h2) (.cons (.int 1) .nil), rfl⟩
      · exact ⟨_, .int _, num_no (.inr (by rw [show (10 : Int) ^ (Int.toNat 20) = 100000000000000000000 by decide]; omega))⟩
    refine ⟨_, rfl, _, rfl, ru, _, 1, .ref wl, rfl, rfl, SqT.of ra21.er, rfl, wl, _, rfl, .inl (SqL.of ra21.ew), _, _, rfl, rfl, (by show 1 ≤ sizeLine; decide), fun n1 nn1 => ⟨(by show 1 ≤ sizeLine; decide), fun n2 nn2 => ⟨_, _, rfl, rfl, ⟨by omega, by omega, by decide⟩, (by show 9 ≤ sizeLine; decide), fun nl nnl => ?_⟩⟩⟩
    refine ⟨nl, rfl, ⟨_, SqL.of upd_same⟩, for_list (xs := [V.int 0, .int (-1), .int ((((wa.map V.ref).length : Nat) : Int) + 1), .bl true, .non, .str (Str.ofString "1"), .ref n1, .ref n2, .int ((10 : Int) ^ (Int.toNat 20))]) (fun j σ' H' => ∃ y11, σ' = [some (.ref a), some (.int (0 + (ci : Int))), some (.ref p), some (.ref r), some (.ref m), some (.ref ru), some (.ref wy), y7', y8', y9', some (.ref od), y11, y12'] ∧ Same H21 H' ∧ H' nl = some (.lst [V.int 0, .int (-1), .int ((((wa.map V.ref).length : Nat) : Int) + 1), .bl true, .non, .str (Str.ofString "1"), .ref n1, .ref n2, .int ((10 : Int) ^ (Int.toNat 20))]) ∧ H' n1 = some (.lst [.int 1]) ∧ H' n2 = some (.tup [.int 1])) ?_ (fun j σ' H' _ ⟨_, _, _, h, _⟩ => SqL.of h) ?_ ?_⟩
    · exact ⟨_, rfl, (same_new nn1).trans ((same_new nn2).trans (same_new nnl)), upd_same, same_new nnl _ _ (same_new nn2 _ _ upd_same), same_new nnl _ _ upd_same⟩
    · rintro j x σ' H22 ex ⟨y11', rfl, s22, eL, e1, e2⟩
      obtain ⟨d, td, hd⟩ := nine H22 n1 n2 e1 e2 x (List.mem_of_getElem? ex)
      refine ⟨_, rfl, _, rfl, _, rfl, 4, m, S, .ref ru, x, some CN, "number", rfl, by decide, ma21.same s22, ok, .inr ⟨p, ru, st, wl, f', wa, ws, rfl, ra21.same s22, (fun h => by omega), (fun h => by omega), fun _ => ⟨d, td, by rw [hd]; rfl⟩⟩, .inr (.inr (.inr ⟨rfl, rfl⟩)), fun H23 s23 => ?_⟩
      refine ⟨rfl, _, rfl, iteF ?_⟩
      exact ⟨_, rfl, s22.trans s23, s23 _ _ eL, s23 _ _ e1, s23 _ _ e2⟩
    rintro σ' H24 ⟨y11', rfl, s24, _⟩
    have ra24 := ra21.same s24
    have ma24 := ma21.same s24
    have hq24 := same_tup s24 hq21
    have s024 := s021.trans s24
    -- what is told
    refine ⟨_, rfl, (by show 1 ≤ sizeLine; decide), fun g1 ng1 => ?_⟩
    have s25 : Same H24 (upd H24 g1 (.lst [.ref wy])) := same_new ng1
    have e25 : (upd H24 g1 (.lst [.ref wy])) g1 = some (.lst [.ref wy]) := upd_same
    generalize (upd H24 g1 (.lst [.ref wy])) = H25 at *
    have ra25 := ra24.same s25
    refine ⟨_, rfl, ru, _, 1, .ref wl, rfl, rfl, SqT.of ra25.er, rfl, wl, _, rfl, .inl (SqL.of ra25.ew), (by show 5 ≤ sizeLine; decide), fun gl ngl => ?_⟩
    have s26 : Same H25 (upd H25 gl (.lst [.non, .non, .non, .ref g1, .int (((wa.map V.ref).length : Nat) : Int)])) := same_new ngl
    have e26 : (upd H25 gl (.lst [.non, .non, .non, .ref g1, .int (((wa.map V.ref).length : Nat) : Int)])) gl = some (.lst [.non, .non, .non, .ref g1, .int (((wa.map V.ref).length : Nat) : Int)]) := upd_same
    generalize (upd H25 gl (.lst [.non, .non, .non, .ref g1, .int (((wa.map V.ref).length : Nat) : Int)])) = H26 at *
    have s2426 := s25.trans s26
    have ra26 := ra24.same s2426
    have ma26 := ma24.same s2426
    have hq26 := same_tup s2426 hq24
    have dwy : Dp K H26 (.ref wy) (.tuple (gw.map PyData.bool)) := .tup hq26 (dpBools gw)
    have tg1 : Tg K H26 (.ref g1) (.list (List.replicate 1 (.tuple (gw.map PyData.bool)))) := ⟨.inl (.lst (SqL.of (s26 _ _ e25)) (.cons dwy .nil)), sm_rep swy (by decide)⟩
    refine ⟨5, rfl, by decide, by decide, fun D nD => lc_range (lo := 0) (n := (5 : Int).toNat) (fun j H' => Same H26 H' ∧ H' D = some (.lst (List.replicate j (.str (Str.ofString "told"))))) ⟨same_new nD, upd_same⟩ ?_ ?_⟩
    · rintro j H27 hj ⟨s27, e27⟩
      have hj5 : j < 5 := hj
      obtain ⟨v, hv, v3, v4⟩ : ∃ v, atI [V.non, .non, .non, .ref g1, .int (((wa.map V.ref).length : Nat) : Int)] (0 + (j : Int)) = some v ∧ (j = 3 → v = .ref g1) ∧ (j = 4 → v = .int (((wa.map V.ref).length : Nat) : Int)) := by
        rcases (show j = 0 ∨ j = 1 ∨ j = 2 ∨ j = 3 ∨ j = 4 by omega) with rfl | rfl | rfl | rfl | rfl
        · exact ⟨_, rfl, fun h => absurd h (by decide), fun h => absurd h (by decide)⟩
        · exact ⟨_, rfl, fun h => absurd h (by decide), fun h => absurd h (by decide)⟩
        · exact ⟨_, rfl, fun h => absurd h (by decide), fun h => absurd h (by decide)⟩
        · exact ⟨_, rfl, fun _ => rfl, fun h => absurd h (by decide)⟩
        · exact ⟨_, rfl, fun h => absurd h (by decide), fun _ => rfl⟩
      refine ⟨rfl, _, rfl, _, rfl, _, rfl, _, rfl, _, rfl, gl, _, _, v, rfl, rfl, SqL.of (s27 _ _ e26), hv, j, m, S, .ref ru, v, none, "told", by rw [Int.zero_add]; rfl, hj5, ma26.same s27, ok, .inr ⟨p, ru, st, wl, f', wa, ws, rfl, ra26.same s27, fun _ => rfl, fun h => ⟨_, by rw [v3 h]; exact tg1.same s27, by rw [words_all hgw (by omega)]; rfl⟩, fun h => ⟨.int _, by rw [v4 h]; exact .int _, ?_⟩⟩, .inl ⟨rfl, rfl⟩, fun H28 s28 => ⟨_, s28 _ _ e27, ?_, ?_, ?_⟩⟩
      · rw [lwa]
        rw [show numB (.int (ws.length : Int)) 1 (ws.length : Int) = true by show (decide _ && decide _) = true; rw [decide_eq_true (by omega), decide_eq_true (by omega)]; rfl]; rfl
      · rw [List.length_replicate]; exact small1000 (by omega)
      · exact fun b o hb => by rw [upd_ne (ne_of_none hb nD)]; exact s28 _ _ (s27 _ _ hb)
      · rw [upd_same, List.replicate_succ']
    rintro H27 ⟨s27, e27⟩
    refine ⟨(by show 1 ≤ sizeLine; decide), fun t1 nt1 => ⟨t1, 5, _, rfl, rfl, upd_same, by omega, by omega, Nat.le_of_lt (small1000 (by decide)), fun t2 nt2 => ?_⟩⟩
    have sT := (same_new (o := .lst [.str (Str.ofString "told")]) nt1).trans (same_new (o := .lst (List.replicate 5 (.str (Str.ofString "told")))) nt2)
    have shT : SeqAt.shaped (.list (List.replicate 5 (.str (Str.ofString "told")))) = true := by decide +kernel
    refine ⟨.list (List.replicate 5 (.str (Str.ofString "told"))), .list (List.replicate 5 (.str (Str.ofString "told"))), .lst (SqL.of (sT _ _ e27)) (dp_rep (.str _) 5), .lst (SqL.of upd_same) (dp_rep (.str _) 5), shT, shT, _, rfl, ?_⟩
    rw [SeqAt.eqv_refl _ (SeqAt.canLay_of_shaped shT)]
    refine iteF ?_
    have s2628 := s27.trans sT
    have ra28 := ra26.same s2628
    refine ⟨_, rfl, _, rfl, _, rfl, (by show 1 ≤ sizeLine; decide), fun w1 nw1 => ?_⟩
    have sW := same_new (o := .lst [.ref wy]) nw1
    refine ⟨_, rfl, ru, _, 1, .ref wl, rfl, rfl, SqT.of (sW _ _ ra28.er), rfl, wl, _, rfl, .inl (SqL.of (sW _ _ ra28.ew)), _, _, rfl, rfl, w1, _, _, rfl, rfl, upd_same, ?_, ?_, ?_, fun w3 nw3 => ?_⟩
    · rw [lwa]; omega
    · rw [lwa]; omega
    · rw [lwa]; exact Nat.le_of_lt (small5000 (by simp only [List.length_cons, List.length_nil]; omega))
    have ek2 : (List.replicate ((fun i j => i - j) 2000 (((wa.map V.ref).length : Nat) : Int)).toNat [V.ref wy]).flatten = List.replicate (2000 - ws.length) (.ref wy) := by
      rw [flat_rep]; congr 1; show (2000 - (((wa.map V.ref).length : Nat) : Int)).toNat = _; rw [lwa]; omega
    rw [ek2] at *
    have sZ := s2628.trans (sW.trans (same_new (o := .lst (List.replicate (2000 - ws.length) (.ref wy))) nw3))
    refine ⟨3, m, S, .ref ru, .ref w3, none, "told", rfl, by decide, ma26.same sZ, ok, .inr ⟨p, ru, st, wl, f', wa, ws, rfl, ra26.same sZ, (fun h => by omega), fun _ => ⟨.list (List.replicate (2000 - ws.length) (.tuple (gw.map PyData.bool))), ⟨.inl (.lst (SqL.of upd_same) (dp_rep (dpSame dwy sZ) _)), sm_rep swy (by omega)⟩, by rw [words_all hgw (by omega)]; rfl⟩, fun h => by omega⟩, .inl ⟨rfl, rfl⟩, fun H30 s30 => ?_⟩
    refine ⟨rfl, _, rfl, iteF ?_⟩
    exact ⟨_, _, _, _, _, _, _, _, _, _, _, _, rfl, s024.trans (s2426.trans (sZ.trans s30))⟩
  · rintro σ' H1 ⟨y1, y2, y3, y4, y5, y6, y7, y8, y9, y10, y11, y12, rfl, s1⟩
    exact q _

end
end K21
namespace K21
open PySem PySem.Spec PyProof.Rows L2 KL
theorem all_mk {l : PySem.W.OpenLaw} {w : World} {K : PySem.W.Frag} {h : Heap} {mg : Str → Option Value} {fa : Addr} (X : K.In h) (G : h.Ns mainGlobals mg) (hfa : mg "law" = some (.ref fa))
    {f_is_whole : Addr} {od_is_whole an_is_whole : Option Addr} {sl_is_whole : Array (Option Value)} {oc_is_whole kV_is_whole dc_is_whole pm_is_whole cd_is_whole ct_is_whole : Value}
    (a_is_whole : PySem.W.nsIn K mainGlobals "is_whole" = some (some (.ref f_is_whole)))
    (l_is_whole : K.lookup f_is_whole = some ⟨oc_is_whole, od_is_whole, .func (PySem.W.fnOf "is_whole" "is_whole" (defArgs s_is_whole) (defBody s_is_whole) (defScope s_is_whole) .none kV_is_whole dc_is_whole pm_is_whole an_is_whole cd_is_whole ct_is_whole), sl_is_whole⟩)
    (c_is_whole : PySem.W.codeIn K cd_is_whole "is_whole" = true) (k_is_whole : PySem.W.keepIn K (.ref f_is_whole) = true)
    {f_is_number : Addr} {od_is_number an_is_number : Option Addr} {sl_is_number : Array (Option Value)} {oc_is_number kV_is_number dc_is_number pm_is_number cd_is_number ct_is_number : Value}
    (a_is_number : PySem.W.nsIn K mainGlobals "is_number" = some (some (.ref f_is_number)))
    (l_is_number : K.lookup f_is_number = some ⟨oc_is_number, od_is_number, .func (PySem.W.fnOf "is_number" "is_number" (defArgs s_is_number) (defBody s_is_number) (defScope s_is_number) .none kV_is_number dc_is_number pm_is_number an_is_number cd_is_number ct_is_number), sl_is_number⟩)
    (c_is_number : PySem.W.codeIn K cd_is_number "is_number" = true) (k_is_number : PySem.W.keepIn K (.ref f_is_number) = true)
    {f_is_sign : Addr} {od_is_sign an_is_sign : Option Addr} {sl_is_sign : Array (Option Value)} {oc_is_sign kV_is_sign dc_is_sign pm_is_sign cd_is_sign ct_is_sign : Value}
    (a_is_sign : PySem.W.nsIn K mainGlobals "is_sign" = some (some (.ref f_is_sign)))
    (l_is_sign : K.lookup f_is_sign = some ⟨oc_is_sign, od_is_sign, .func (PySem.W.fnOf "is_sign" "is_sign" (defArgs s_is_sign) (defBody s_is_sign) (defScope s_is_sign) .none kV_is_sign dc_is_sign pm_is_sign an_is_sign cd_is_sign ct_is_sign), sl_is_sign⟩)
    (c_is_sign : PySem.W.codeIn K cd_is_sign "is_sign" = true) (k_is_sign : PySem.W.keepIn K (.ref f_is_sign) = true)
    {f_wrong_sign : Addr} {od_wrong_sign an_wrong_sign : Option Addr} {sl_wrong_sign : Array (Option Value)} {oc_wrong_sign kV_wrong_sign dc_wrong_sign pm_wrong_sign cd_wrong_sign ct_wrong_sign : Value}
    (a_wrong_sign : PySem.W.nsIn K mainGlobals "wrong_sign" = some (some (.ref f_wrong_sign)))
    (l_wrong_sign : K.lookup f_wrong_sign = some ⟨oc_wrong_sign, od_wrong_sign, .func (PySem.W.fnOf "wrong_sign" "wrong_sign" (defArgs s_wrong_sign) (defBody s_wrong_sign) (defScope s_wrong_sign) .none kV_wrong_sign dc_wrong_sign pm_wrong_sign an_wrong_sign cd_wrong_sign ct_wrong_sign), sl_wrong_sign⟩)
    (c_wrong_sign : PySem.W.codeIn K cd_wrong_sign "wrong_sign" = true) (k_wrong_sign : PySem.W.keepIn K (.ref f_wrong_sign) = true)
    {f_is_filling : Addr} {od_is_filling an_is_filling : Option Addr} {sl_is_filling : Array (Option Value)} {oc_is_filling kV_is_filling dc_is_filling pm_is_filling cd_is_filling ct_is_filling : Value}
    (a_is_filling : PySem.W.nsIn K mainGlobals "is_filling" = some (some (.ref f_is_filling)))
    (l_is_filling : K.lookup f_is_filling = some ⟨oc_is_filling, od_is_filling, .func (PySem.W.fnOf "is_filling" "is_filling" (defArgs s_is_filling) (defBody s_is_filling) (defScope s_is_filling) .none kV_is_filling dc_is_filling pm_is_filling an_is_filling cd_is_filling ct_is_filling), sl_is_filling⟩)
    (c_is_filling : PySem.W.codeIn K cd_is_filling "is_filling" = true) (k_is_filling : PySem.W.keepIn K (.ref f_is_filling) = true)
    {f_is_clause : Addr} {od_is_clause an_is_clause : Option Addr} {sl_is_clause : Array (Option Value)} {oc_is_clause kV_is_clause dc_is_clause pm_is_clause cd_is_clause ct_is_clause : Value}
    {T_is_clause : Addr} {oT_is_clause : Value} {odT_is_clause : Option Addr} {slT_is_clause : Array (Option Value)} {nT_is_clause : Nat}
    (a_is_clause : PySem.W.nsIn K mainGlobals "is_clause" = some (some (.ref f_is_clause)))
    (l_is_clause : K.lookup f_is_clause = some ⟨oc_is_clause, od_is_clause, .func (PySem.W.fnOf "is_clause" "is_clause" (defArgs s_is_clause) (defBody s_is_clause) (defScope s_is_clause) (.ref T_is_clause) kV_is_clause dc_is_clause pm_is_clause an_is_clause cd_is_clause ct_is_clause), sl_is_clause⟩)
    (c_is_clause : PySem.W.codeIn K cd_is_clause "is_clause" = true) (k_is_clause : PySem.W.keepIn K (.ref f_is_clause) = true)
    {tD_is_clause0 : Tok}
    (lT_is_clause : K.lookup T_is_clause = some ⟨oT_is_clause, odT_is_clause, .seq #[.int 60 tD_is_clause0] nT_is_clause, slT_is_clause⟩)
    {f_says : Addr} {od_says an_says : Option Addr} {sl_says : Array (Option Value)} {oc_says kV_says dc_says pm_says cd_says ct_says : Value}
    (a_says : PySem.W.nsIn K mainGlobals "says" = some (some (.ref f_says)))
    (l_says : K.lookup f_says = some ⟨oc_says, od_says, .func (PySem.W.fnOf "says" "says" (defArgs s_says) (defBody s_says) (defScope s_says) .none kV_says dc_says pm_says an_says cd_says ct_says), sl_says⟩)
    (c_says : PySem.W.codeIn K cd_says "says" = true) (k_says : PySem.W.keepIn K (.ref f_says) = true)
    {f_holds : Addr} {od_holds an_holds : Option Addr} {sl_holds : Array (Option Value)} {oc_holds kV_holds dc_holds pm_holds cd_holds ct_holds : Value}
    (a_holds : PySem.W.nsIn K mainGlobals "holds" = some (some (.ref f_holds)))
    (l_holds : K.lookup f_holds = some ⟨oc_holds, od_holds, .func (PySem.W.fnOf "holds" "holds" (defArgs s_holds) (defBody s_holds) (defScope s_holds) .none kV_holds dc_holds pm_holds an_holds cd_holds ct_holds), sl_holds⟩)
    (c_holds : PySem.W.codeIn K cd_holds "holds" = true) (k_holds : PySem.W.keepIn K (.ref f_holds) = true)
    {f_both : Addr} {od_both an_both : Option Addr} {sl_both : Array (Option Value)} {oc_both kV_both dc_both pm_both cd_both ct_both : Value}
    (a_both : PySem.W.nsIn K mainGlobals "both" = some (some (.ref f_both)))
    (l_both : K.lookup f_both = some ⟨oc_both, od_both, .func (PySem.W.fnOf "both" "both" (defArgs s_both) (defBody s_both) (defScope s_both) .none kV_both dc_both pm_both an_both cd_both ct_both), sl_both⟩)
    (c_both : PySem.W.codeIn K cd_both "both" = true) (k_both : PySem.W.keepIn K (.ref f_both) = true)
    {f_either : Addr} {od_either an_either : Option Addr} {sl_either : Array (Option Value)} {oc_either kV_either dc_either pm_either cd_either ct_either : Value}
    (a_either : PySem.W.nsIn K mainGlobals "either" = some (some (.ref f_either)))
    (l_either : K.lookup f_either = some ⟨oc_either, od_either, .func (PySem.W.fnOf "either" "either" (defArgs s_either) (defBody s_either) (defScope s_either) .none kV_either dc_either pm_either an_either cd_either ct_either), sl_either⟩)
    (c_either : PySem.W.codeIn K cd_either "either" = true) (k_either : PySem.W.keepIn K (.ref f_either) = true)
    {f_just_one : Addr} {od_just_one an_just_one : Option Addr} {sl_just_one : Array (Option Value)} {oc_just_one kV_just_one dc_just_one pm_just_one cd_just_one ct_just_one : Value}
    (a_just_one : PySem.W.nsIn K mainGlobals "just_one" = some (some (.ref f_just_one)))
    (l_just_one : K.lookup f_just_one = some ⟨oc_just_one, od_just_one, .func (PySem.W.fnOf "just_one" "just_one" (defArgs s_just_one) (defBody s_just_one) (defScope s_just_one) .none kV_just_one dc_just_one pm_just_one an_just_one cd_just_one ct_just_one), sl_just_one⟩)
    (c_just_one : PySem.W.codeIn K cd_just_one "just_one" = true) (k_just_one : PySem.W.keepIn K (.ref f_just_one) = true)
    {f_all_fillings : Addr} {od_all_fillings an_all_fillings : Option Addr} {sl_all_fillings : Array (Option Value)} {oc_all_fillings kV_all_fillings dc_all_fillings pm_all_fillings cd_all_fillings ct_all_fillings : Value}
    (a_all_fillings : PySem.W.nsIn K mainGlobals "all_fillings" = some (some (.ref f_all_fillings)))
    (l_all_fillings : K.lookup f_all_fillings = some ⟨oc_all_fillings, od_all_fillings, .func (PySem.W.fnOf "all_fillings" "all_fillings" (defArgs s_all_fillings) (defBody s_all_fillings) (defScope s_all_fillings) .none kV_all_fillings dc_all_fillings pm_all_fillings an_all_fillings cd_all_fillings ct_all_fillings), sl_all_fillings⟩)
    (c_all_fillings : PySem.W.codeIn K cd_all_fillings "all_fillings" = true) (k_all_fillings : PySem.W.keepIn K (.ref f_all_fillings) = true)
    {f_is_gate : Addr} {od_is_gate an_is_gate : Option Addr} {sl_is_gate : Array (Option Value)} {oc_is_gate kV_is_gate dc_is_gate pm_is_gate cd_is_gate ct_is_gate : Value}
    (a_is_gate : PySem.W.nsIn K mainGlobals "is_gate" = some (some (.ref f_is_gate)))
    (l_is_gate : K.lookup f_is_gate = some ⟨oc_is_gate, od_is_gate, .func (PySem.W.fnOf "is_gate" "is_gate" (defArgs s_is_gate) (defBody s_is_gate) (defScope s_is_gate) .none kV_is_gate dc_is_gate pm_is_gate an_is_gate cd_is_gate ct_is_gate), sl_is_gate⟩)
    (c_is_gate : PySem.W.codeIn K cd_is_gate "is_gate" = true) (k_is_gate : PySem.W.keepIn K (.ref f_is_gate) = true)
    {f_is_promise : Addr} {od_is_promise an_is_promise : Option Addr} {sl_is_promise : Array (Option Value)} {oc_is_promise kV_is_promise dc_is_promise pm_is_promise cd_is_promise ct_is_promise : Value}
    (a_is_promise : PySem.W.nsIn K mainGlobals "is_promise" = some (some (.ref f_is_promise)))
    (l_is_promise : K.lookup f_is_promise = some ⟨oc_is_promise, od_is_promise, .func (PySem.W.fnOf "is_promise" "is_promise" (defArgs s_is_promise) (defBody s_is_promise) (defScope s_is_promise) .none kV_is_promise dc_is_promise pm_is_promise an_is_promise cd_is_promise ct_is_promise), sl_is_promise⟩)
    (c_is_promise : PySem.W.codeIn K cd_is_promise "is_promise" = true) (k_is_promise : PySem.W.keepIn K (.ref f_is_promise) = true)
    {f_check_numbers : Addr} {od_check_numbers an_check_numbers : Option Addr} {sl_check_numbers : Array (Option Value)} {oc_check_numbers kV_check_numbers dc_check_numbers pm_check_numbers cd_check_numbers ct_check_numbers : Value}
    (a_check_numbers : PySem.W.nsIn K mainGlobals "check_numbers" = some (some (.ref f_check_numbers)))
    (l_check_numbers : K.lookup f_check_numbers = some ⟨oc_check_numbers, od_check_numbers, .func (PySem.W.fnOf "check_numbers" "check_numbers" (defArgs s_check_numbers) (defBody s_check_numbers) (defScope s_check_numbers) .none kV_check_numbers dc_check_numbers pm_check_numbers an_check_numbers cd_check_numbers ct_check_numbers), sl_check_numbers⟩)
    (c_check_numbers : PySem.W.codeIn K cd_check_numbers "check_numbers" = true) (k_check_numbers : PySem.W.keepIn K (.ref f_check_numbers) = true)
    {f_check_gates : Addr} {od_check_gates an_check_gates : Option Addr} {sl_check_gates : Array (Option Value)} {oc_check_gates kV_check_gates dc_check_gates pm_check_gates cd_check_gates ct_check_gates : Value}
    (a_check_gates : PySem.W.nsIn K mainGlobals "check_gates" = some (some (.ref f_check_gates)))
    (l_check_gates : K.lookup f_check_gates = some ⟨oc_check_gates, od_check_gates, .func (PySem.W.fnOf "check_gates" "check_gates" (defArgs s_check_gates) (defBody s_check_gates) (defScope s_check_gates) .none kV_check_gates dc_check_gates pm_check_gates an_check_gates cd_check_gates ct_check_gates), sl_check_gates⟩)
    (c_check_gates : PySem.W.codeIn K cd_check_gates "check_gates" = true) (k_check_gates : PySem.W.keepIn K (.ref f_check_gates) = true)
    {f_check_nexts : Addr} {od_check_nexts an_check_nexts : Option Addr} {sl_check_nexts : Array (Option Value)} {oc_check_nexts kV_check_nexts dc_check_nexts pm_check_nexts cd_check_nexts ct_check_nexts : Value}
    (a_check_nexts : PySem.W.nsIn K mainGlobals "check_nexts" = some (some (.ref f_check_nexts)))
    (l_check_nexts : K.lookup f_check_nexts = some ⟨oc_check_nexts, od_check_nexts, .func (PySem.W.fnOf "check_nexts" "check_nexts" (defArgs s_check_nexts) (defBody s_check_nexts) (defScope s_check_nexts) .none kV_check_nexts dc_check_nexts pm_check_nexts an_check_nexts cd_check_nexts ct_check_nexts), sl_check_nexts⟩)
    (c_check_nexts : PySem.W.codeIn K cd_check_nexts "check_nexts" = true) (k_check_nexts : PySem.W.keepIn K (.ref f_check_nexts) = true)
    {f_check_starts : Addr} {od_check_starts an_check_starts : Option Addr} {sl_check_starts : Array (Option Value)} {oc_check_starts kV_check_starts dc_check_starts pm_check_starts cd_check_starts ct_check_starts : Value}
    (a_check_starts : PySem.W.nsIn K mainGlobals "check_starts" = some (some (.ref f_check_starts)))
    (l_check_starts : K.lookup f_check_starts = some ⟨oc_check_starts, od_check_starts, .func (PySem.W.fnOf "check_starts" "check_starts" (defArgs s_check_starts) (defBody s_check_starts) (defScope s_check_starts) .none kV_check_starts dc_check_starts pm_check_starts an_check_starts cd_check_starts ct_check_starts), sl_check_starts⟩)
    (c_check_starts : PySem.W.codeIn K cd_check_starts "check_starts" = true) (k_check_starts : PySem.W.keepIn K (.ref f_check_starts) = true)
    {f_check_promises : Addr} {od_check_promises an_check_promises : Option Addr} {sl_check_promises : Array (Option Value)} {oc_check_promises kV_check_promises dc_check_promises pm_check_promises cd_check_promises ct_check_promises : Value}
    (a_check_promises : PySem.W.nsIn K mainGlobals "check_promises" = some (some (.ref f_check_promises)))
    (l_check_promises : K.lookup f_check_promises = some ⟨oc_check_promises, od_check_promises, .func (PySem.W.fnOf "check_promises" "check_promises" (defArgs s_check_promises) (defBody s_check_promises) (defScope s_check_promises) .none kV_check_promises dc_check_promises pm_check_promises an_check_promises cd_check_promises ct_check_promises), sl_check_promises⟩)
    (c_check_promises : PySem.W.codeIn K cd_check_promises "check_promises" = true) (k_check_promises : PySem.W.keepIn K (.ref f_check_promises) = true)
    {f_words_under : Addr} {od_words_under an_words_under : Option Addr} {sl_words_under : Array (Option Value)} {oc_words_under kV_words_under dc_words_under pm_words_under cd_words_under ct_words_under : Value}
    (a_words_under : PySem.W.nsIn K mainGlobals "words_under" = some (some (.ref f_words_under)))
    (l_words_under : K.lookup f_words_under = some ⟨oc_words_under, od_words_under, .func (PySem.W.fnOf "words_under" "words_under" (defArgs s_words_under) (defBody s_words_under) (defScope s_words_under) .none kV_words_under dc_words_under pm_words_under an_words_under cd_words_under ct_words_under), sl_words_under⟩)
    (c_words_under : PySem.W.codeIn K cd_words_under "words_under" = true) (k_words_under : PySem.W.keepIn K (.ref f_words_under) = true)
    {f_is_beginning : Addr} {od_is_beginning an_is_beginning : Option Addr} {sl_is_beginning : Array (Option Value)} {oc_is_beginning kV_is_beginning dc_is_beginning pm_is_beginning cd_is_beginning ct_is_beginning : Value}
    (a_is_beginning : PySem.W.nsIn K mainGlobals "is_beginning" = some (some (.ref f_is_beginning)))
    (l_is_beginning : K.lookup f_is_beginning = some ⟨oc_is_beginning, od_is_beginning, .func (PySem.W.fnOf "is_beginning" "is_beginning" (defArgs s_is_beginning) (defBody s_is_beginning) (defScope s_is_beginning) .none kV_is_beginning dc_is_beginning pm_is_beginning an_is_beginning cd_is_beginning ct_is_beginning), sl_is_beginning⟩)
    (c_is_beginning : PySem.W.codeIn K cd_is_beginning "is_beginning" = true) (k_is_beginning : PySem.W.keepIn K (.ref f_is_beginning) = true)
    {f_are_words : Addr} {od_are_words an_are_words : Option Addr} {sl_are_words : Array (Option Value)} {oc_are_words kV_are_words dc_are_words pm_are_words cd_are_words ct_are_words : Value}
    (a_are_words : PySem.W.nsIn K mainGlobals "are_words" = some (some (.ref f_are_words)))
    (l_are_words : K.lookup f_are_words = some ⟨oc_are_words, od_are_words, .func (PySem.W.fnOf "are_words" "are_words" (defArgs s_are_words) (defBody s_are_words) (defScope s_are_words) .none kV_are_words dc_are_words pm_are_words an_are_words cd_are_words ct_are_words), sl_are_words⟩)
    (c_are_words : PySem.W.codeIn K cd_are_words "are_words" = true) (k_are_words : PySem.W.keepIn K (.ref f_are_words) = true)
    {f_is_run : Addr} {od_is_run an_is_run : Option Addr} {sl_is_run : Array (Option Value)} {oc_is_run kV_is_run dc_is_run pm_is_run cd_is_run ct_is_run : Value}
    (a_is_run : PySem.W.nsIn K mainGlobals "is_run" = some (some (.ref f_is_run)))
    (l_is_run : K.lookup f_is_run = some ⟨oc_is_run, od_is_run, .func (PySem.W.fnOf "is_run" "is_run" (defArgs s_is_run) (defBody s_is_run) (defScope s_is_run) .none kV_is_run dc_is_run pm_is_run an_is_run cd_is_run ct_is_run), sl_is_run⟩)
    (c_is_run : PySem.W.codeIn K cd_is_run "is_run" = true) (k_is_run : PySem.W.keepIn K (.ref f_is_run) = true)
    {f_checked : Addr} {od_checked an_checked : Option Addr} {sl_checked : Array (Option Value)} {oc_checked kV_checked dc_checked pm_checked cd_checked ct_checked : Value}
    (a_checked : PySem.W.nsIn K mainGlobals "checked" = some (some (.ref f_checked)))
    (l_checked : K.lookup f_checked = some ⟨oc_checked, od_checked, .func (PySem.W.fnOf "checked" "checked" (defArgs s_checked) (defBody s_checked) (defScope s_checked) .none kV_checked dc_checked pm_checked an_checked cd_checked ct_checked), sl_checked⟩)
    (c_checked : PySem.W.codeIn K cd_checked "checked" = true) (k_checked : PySem.W.keepIn K (.ref f_checked) = true)
    {f_stands : Addr} {od_stands an_stands : Option Addr} {sl_stands : Array (Option Value)} {oc_stands kV_stands dc_stands pm_stands cd_stands ct_stands : Value}
    (a_stands : PySem.W.nsIn K mainGlobals "stands" = some (some (.ref f_stands)))
    (l_stands : K.lookup f_stands = some ⟨oc_stands, od_stands, .func (PySem.W.fnOf "stands" "stands" (defArgs s_stands) (defBody s_stands) (defScope s_stands) .none kV_stands dc_stands pm_stands an_stands cd_stands ct_stands), sl_stands⟩)
    (c_stands : PySem.W.codeIn K cd_stands "stands" = true) (k_stands : PySem.W.keepIn K (.ref f_stands) = true)
    {f_fillings : Addr} {od_fillings an_fillings : Option Addr} {sl_fillings : Array (Option Value)} {oc_fillings kV_fillings dc_fillings pm_fillings cd_fillings ct_fillings : Value}
    (a_fillings : PySem.W.nsIn K mainGlobals "fillings" = some (some (.ref f_fillings)))
    (l_fillings : K.lookup f_fillings = some ⟨oc_fillings, od_fillings, .func (PySem.W.fnOf "fillings" "fillings" (defArgs s_fillings) (defBody s_fillings) (defScope s_fillings) .none kV_fillings dc_fillings pm_fillings an_fillings cd_fillings ct_fillings), sl_fillings⟩)
    (c_fillings : PySem.W.codeIn K cd_fillings "fillings" = true) (k_fillings : PySem.W.keepIn K (.ref f_fillings) = true)
    {f_wave : Addr} {od_wave an_wave : Option Addr} {sl_wave : Array (Option Value)} {oc_wave kV_wave dc_wave pm_wave cd_wave ct_wave : Value}
    (a_wave : PySem.W.nsIn K mainGlobals "wave" = some (some (.ref f_wave)))
    (l_wave : K.lookup f_wave = some ⟨oc_wave, od_wave, .func (PySem.W.fnOf "wave" "wave" (defArgs s_wave) (defBody s_wave) (defScope s_wave) .none kV_wave dc_wave pm_wave an_wave cd_wave ct_wave), sl_wave⟩)
    (c_wave : PySem.W.codeIn K cd_wave "wave" = true) (k_wave : PySem.W.keepIn K (.ref f_wave) = true)
    {f_told_on : Addr} {od_told_on an_told_on : Option Addr} {sl_told_on : Array (Option Value)} {oc_told_on kV_told_on dc_told_on pm_told_on cd_told_on ct_told_on : Value}
    (a_told_on : PySem.W.nsIn K mainGlobals "told_on" = some (some (.ref f_told_on)))
    (l_told_on : K.lookup f_told_on = some ⟨oc_told_on, od_told_on, .func (PySem.W.fnOf "told_on" "told_on" (defArgs s_told_on) (defBody s_told_on) (defScope s_told_on) .none kV_told_on dc_told_on pm_told_on an_told_on cd_told_on ct_told_on), sl_told_on⟩)
    (c_told_on : PySem.W.codeIn K cd_told_on "told_on" = true) (k_told_on : PySem.W.keepIn K (.ref f_told_on) = true)
    {f_cut : Addr} {od_cut an_cut : Option Addr} {sl_cut : Array (Option Value)} {oc_cut kV_cut dc_cut pm_cut cd_cut ct_cut : Value}
    (a_cut : PySem.W.nsIn K mainGlobals "cut" = some (some (.ref f_cut)))
    (l_cut : K.lookup f_cut = some ⟨oc_cut, od_cut, .func (PySem.W.fnOf "cut" "cut" (defArgs s_cut) (defBody s_cut) (defScope s_cut) .none kV_cut dc_cut pm_cut an_cut cd_cut ct_cut), sl_cut⟩)
    (c_cut : PySem.W.codeIn K cd_cut "cut" = true) (k_cut : PySem.W.keepIn K (.ref f_cut) = true)
    {f_law_pool : Addr} {od_law_pool an_law_pool : Option Addr} {sl_law_pool : Array (Option Value)} {oc_law_pool kV_law_pool dc_law_pool pm_law_pool cd_law_pool ct_law_pool : Value}
    (a_law_pool : PySem.W.nsIn K mainGlobals "_law_pool" = some (some (.ref f_law_pool)))
    (l_law_pool : K.lookup f_law_pool = some ⟨oc_law_pool, od_law_pool, .func (PySem.W.fnOf "_law_pool" "_law_pool" (defArgs s_law_pool) (defBody s_law_pool) (defScope s_law_pool) .none kV_law_pool dc_law_pool pm_law_pool an_law_pool cd_law_pool ct_law_pool), sl_law_pool⟩)
    (c_law_pool : PySem.W.codeIn K cd_law_pool "_law_pool" = true) (k_law_pool : PySem.W.keepIn K (.ref f_law_pool) = true)
    {f_law_take : Addr} {od_law_take an_law_take : Option Addr} {sl_law_take : Array (Option Value)} {oc_law_take kV_law_take dc_law_take pm_law_take cd_law_take ct_law_take : Value}
    (a_law_take : PySem.W.nsIn K mainGlobals "_law_take" = some (some (.ref f_law_take)))
    (l_law_take : K.lookup f_law_take = some ⟨oc_law_take, od_law_take, .func (PySem.W.fnOf "_law_take" "_law_take" (defArgs s_law_take) (defBody s_law_take) (defScope s_law_take) .none kV_law_take dc_law_take pm_law_take an_law_take cd_law_take ct_law_take), sl_law_take⟩)
    (c_law_take : PySem.W.codeIn K cd_law_take "_law_take" = true) (k_law_take : PySem.W.keepIn K (.ref f_law_take) = true)
    {f_law_signed : Addr} {od_law_signed an_law_signed : Option Addr} {sl_law_signed : Array (Option Value)} {oc_law_signed kV_law_signed dc_law_signed pm_law_signed cd_law_signed ct_law_signed : Value}
    (a_law_signed : PySem.W.nsIn K mainGlobals "_law_signed" = some (some (.ref f_law_signed)))
    (l_law_signed : K.lookup f_law_signed = some ⟨oc_law_signed, od_law_signed, .func (PySem.W.fnOf "_law_signed" "_law_signed" (defArgs s_law_signed) (defBody s_law_signed) (defScope s_law_signed) .none kV_law_signed dc_law_signed pm_law_signed an_law_signed cd_law_signed ct_law_signed), sl_law_signed⟩)
    (c_law_signed : PySem.W.codeIn K cd_law_signed "_law_signed" = true) (k_law_signed : PySem.W.keepIn K (.ref f_law_signed) = true)
    {f_law_all : Addr} {od_law_all an_law_all : Option Addr} {sl_law_all : Array (Option Value)} {oc_law_all kV_law_all dc_law_all pm_law_all cd_law_all ct_law_all : Value}
    (a_law_all : PySem.W.nsIn K mainGlobals "_law_all" = some (some (.ref f_law_all)))
    (l_law_all : K.lookup f_law_all = some ⟨oc_law_all, od_law_all, .func (PySem.W.fnOf "_law_all" "_law_all" (defArgs s_law_all) (defBody s_law_all) (defScope s_law_all) .none kV_law_all dc_law_all pm_law_all an_law_all cd_law_all ct_law_all), sl_law_all⟩)
    (c_law_all : PySem.W.codeIn K cd_law_all "_law_all" = true) (k_law_all : PySem.W.keepIn K (.ref f_law_all) = true)
    {f_law_some_signs : Addr} {od_law_some_signs an_law_some_signs : Option Addr} {sl_law_some_signs : Array (Option Value)} {oc_law_some_signs kV_law_some_signs dc_law_some_signs pm_law_some_signs cd_law_some_signs ct_law_some_signs : Value}
    (a_law_some_signs : PySem.W.nsIn K mainGlobals "_law_some_signs" = some (some (.ref f_law_some_signs)))
    (l_law_some_signs : K.lookup f_law_some_signs = some ⟨oc_law_some_signs, od_law_some_signs, .func (PySem.W.fnOf "_law_some_signs" "_law_some_signs" (defArgs s_law_some_signs) (defBody s_law_some_signs) (defScope s_law_some_signs) .none kV_law_some_signs dc_law_some_signs pm_law_some_signs an_law_some_signs cd_law_some_signs ct_law_some_signs), sl_law_some_signs⟩)
    (c_law_some_signs : PySem.W.codeIn K cd_law_some_signs "_law_some_signs" = true) (k_law_some_signs : PySem.W.keepIn K (.ref f_law_some_signs) = true)
    {f_law_by_thing : Addr} {od_law_by_thing an_law_by_thing : Option Addr} {sl_law_by_thing : Array (Option Value)} {oc_law_by_thing kV_law_by_thing dc_law_by_thing pm_law_by_thing cd_law_by_thing ct_law_by_thing : Value}
    (a_law_by_thing : PySem.W.nsIn K mainGlobals "_law_by_thing" = some (some (.ref f_law_by_thing)))
    (l_law_by_thing : K.lookup f_law_by_thing = some ⟨oc_law_by_thing, od_law_by_thing, .func (PySem.W.fnOf "_law_by_thing" "_law_by_thing" (defArgs s_law_by_thing) (defBody s_law_by_thing) (defScope s_law_by_thing) .none kV_law_by_thing dc_law_by_thing pm_law_by_thing an_law_by_thing cd_law_by_thing ct_law_by_thing), sl_law_by_thing⟩)
    (c_law_by_thing : PySem.W.codeIn K cd_law_by_thing "_law_by_thing" = true) (k_law_by_thing : PySem.W.keepIn K (.ref f_law_by_thing) = true)
    {f_law_pledges : Addr} {od_law_pledges an_law_pledges : Option Addr} {sl_law_pledges : Array (Option Value)} {oc_law_pledges kV_law_pledges dc_law_pledges pm_law_pledges cd_law_pledges ct_law_pledges : Value}
    (a_law_pledges : PySem.W.nsIn K mainGlobals "_law_pledges" = some (some (.ref f_law_pledges)))
    (l_law_pledges : K.lookup f_law_pledges = some ⟨oc_law_pledges, od_law_pledges, .func (PySem.W.fnOf "_law_pledges" "_law_pledges" (defArgs s_law_pledges) (defBody s_law_pledges) (defScope s_law_pledges) .none kV_law_pledges dc_law_pledges pm_law_pledges an_law_pledges cd_law_pledges ct_law_pledges), sl_law_pledges⟩)
    (c_law_pledges : PySem.W.codeIn K cd_law_pledges "_law_pledges" = true) (k_law_pledges : PySem.W.keepIn K (.ref f_law_pledges) = true)
    {f_law_spec : Addr} {od_law_spec an_law_spec : Option Addr} {sl_law_spec : Array (Option Value)} {oc_law_spec kV_law_spec dc_law_spec pm_law_spec cd_law_spec ct_law_spec : Value}
    (a_law_spec : PySem.W.nsIn K mainGlobals "_law_spec" = some (some (.ref f_law_spec)))
    (l_law_spec : K.lookup f_law_spec = some ⟨oc_law_spec, od_law_spec, .func (PySem.W.fnOf "_law_spec" "_law_spec" (defArgs s_law_spec) (defBody s_law_spec) (defScope s_law_spec) .none kV_law_spec dc_law_spec pm_law_spec an_law_spec cd_law_spec ct_law_spec), sl_law_spec⟩)
    (c_law_spec : PySem.W.codeIn K cd_law_spec "_law_spec" = true) (k_law_spec : PySem.W.keepIn K (.ref f_law_spec) = true)
    {f_law_made : Addr} {od_law_made an_law_made : Option Addr} {sl_law_made : Array (Option Value)} {oc_law_made kV_law_made dc_law_made pm_law_made cd_law_made ct_law_made : Value}
    (a_law_made : PySem.W.nsIn K mainGlobals "_law_made" = some (some (.ref f_law_made)))
    (l_law_made : K.lookup f_law_made = some ⟨oc_law_made, od_law_made, .func (PySem.W.fnOf "_law_made" "_law_made" (defArgs s_law_made) (defBody s_law_made) (defScope s_law_made) .none kV_law_made dc_law_made pm_law_made an_law_made cd_law_made ct_law_made), sl_law_made⟩)
    (c_law_made : PySem.W.codeIn K cd_law_made "_law_made" = true) (k_law_made : PySem.W.keepIn K (.ref f_law_made) = true)
    {f_law_says : Addr} {od_law_says an_law_says : Option Addr} {sl_law_says : Array (Option Value)} {oc_law_says kV_law_says dc_law_says pm_law_says cd_law_says ct_law_says : Value}
    (a_law_says : PySem.W.nsIn K mainGlobals "_law_says" = some (some (.ref f_law_says)))
    (l_law_says : K.lookup f_law_says = some ⟨oc_law_says, od_law_says, .func (PySem.W.fnOf "_law_says" "_law_says" (defArgs s_law_says) (defBody s_law_says) (defScope s_law_says) .none kV_law_says dc_law_says pm_law_says an_law_says cd_law_says ct_law_says), sl_law_says⟩)
    (c_law_says : PySem.W.codeIn K cd_law_says "_law_says" = true) (k_law_says : PySem.W.keepIn K (.ref f_law_says) = true)
    {f_law_clause_is : Addr} {od_law_clause_is an_law_clause_is : Option Addr} {sl_law_clause_is : Array (Option Value)} {oc_law_clause_is kV_law_clause_is dc_law_clause_is pm_law_clause_is cd_law_clause_is ct_law_clause_is : Value}
    (a_law_clause_is : PySem.W.nsIn K mainGlobals "_law_clause_is" = some (some (.ref f_law_clause_is)))
    (l_law_clause_is : K.lookup f_law_clause_is = some ⟨oc_law_clause_is, od_law_clause_is, .func (PySem.W.fnOf "_law_clause_is" "_law_clause_is" (defArgs s_law_clause_is) (defBody s_law_clause_is) (defScope s_law_clause_is) .none kV_law_clause_is dc_law_clause_is pm_law_clause_is an_law_clause_is cd_law_clause_is ct_law_clause_is), sl_law_clause_is⟩)
    (c_law_clause_is : PySem.W.codeIn K cd_law_clause_is "_law_clause_is" = true) (k_law_clause_is : PySem.W.keepIn K (.ref f_law_clause_is) = true)
    {f_law_words : Addr} {od_law_words an_law_words : Option Addr} {sl_law_words : Array (Option Value)} {oc_law_words kV_law_words dc_law_words pm_law_words cd_law_words ct_law_words : Value}
    (a_law_words : PySem.W.nsIn K mainGlobals "_law_words" = some (some (.ref f_law_words)))
    (l_law_words : K.lookup f_law_words = some ⟨oc_law_words, od_law_words, .func (PySem.W.fnOf "_law_words" "_law_words" (defArgs s_law_words) (defBody s_law_words) (defScope s_law_words) .none kV_law_words dc_law_words pm_law_words an_law_words cd_law_words ct_law_words), sl_law_words⟩)
    (c_law_words : PySem.W.codeIn K cd_law_words "_law_words" = true) (k_law_words : PySem.W.keepIn K (.ref f_law_words) = true)
    {f_law_begins : Addr} {od_law_begins an_law_begins : Option Addr} {sl_law_begins : Array (Option Value)} {oc_law_begins kV_law_begins dc_law_begins pm_law_begins cd_law_begins ct_law_begins : Value}
    (a_law_begins : PySem.W.nsIn K mainGlobals "_law_begins" = some (some (.ref f_law_begins)))
    (l_law_begins : K.lookup f_law_begins = some ⟨oc_law_begins, od_law_begins, .func (PySem.W.fnOf "_law_begins" "_law_begins" (defArgs s_law_begins) (defBody s_law_begins) (defScope s_law_begins) .none kV_law_begins dc_law_begins pm_law_begins an_law_begins cd_law_begins ct_law_begins), sl_law_begins⟩)
    (c_law_begins : PySem.W.codeIn K cd_law_begins "_law_begins" = true) (k_law_begins : PySem.W.keepIn K (.ref f_law_begins) = true)
    {f_law_one : Addr} {od_law_one an_law_one : Option Addr} {sl_law_one : Array (Option Value)} {oc_law_one kV_law_one dc_law_one pm_law_one cd_law_one ct_law_one : Value}
    (a_law_one : PySem.W.nsIn K mainGlobals "_law_one" = some (some (.ref f_law_one)))
    (l_law_one : K.lookup f_law_one = some ⟨oc_law_one, od_law_one, .func (PySem.W.fnOf "_law_one" "_law_one" (defArgs s_law_one) (defBody s_law_one) (defScope s_law_one) .none kV_law_one dc_law_one pm_law_one an_law_one cd_law_one ct_law_one), sl_law_one⟩)
    (c_law_one : PySem.W.codeIn K cd_law_one "_law_one" = true) (k_law_one : PySem.W.keepIn K (.ref f_law_one) = true)
    {f_law_run : Addr} {od_law_run an_law_run : Option Addr} {sl_law_run : Array (Option Value)} {oc_law_run kV_law_run dc_law_run pm_law_run cd_law_run ct_law_run : Value}
    (a_law_run : PySem.W.nsIn K mainGlobals "_law_run" = some (some (.ref f_law_run)))
    (l_law_run : K.lookup f_law_run = some ⟨oc_law_run, od_law_run, .func (PySem.W.fnOf "_law_run" "_law_run" (defArgs s_law_run) (defBody s_law_run) (defScope s_law_run) .none kV_law_run dc_law_run pm_law_run an_law_run cd_law_run ct_law_run), sl_law_run⟩)
    (c_law_run : PySem.W.codeIn K cd_law_run "_law_run" = true) (k_law_run : PySem.W.keepIn K (.ref f_law_run) = true)
    {f_law_is_run : Addr} {od_law_is_run an_law_is_run : Option Addr} {sl_law_is_run : Array (Option Value)} {oc_law_is_run kV_law_is_run dc_law_is_run pm_law_is_run cd_law_is_run ct_law_is_run : Value}
    (a_law_is_run : PySem.W.nsIn K mainGlobals "_law_is_run" = some (some (.ref f_law_is_run)))
    (l_law_is_run : K.lookup f_law_is_run = some ⟨oc_law_is_run, od_law_is_run, .func (PySem.W.fnOf "_law_is_run" "_law_is_run" (defArgs s_law_is_run) (defBody s_law_is_run) (defScope s_law_is_run) .none kV_law_is_run dc_law_is_run pm_law_is_run an_law_is_run cd_law_is_run ct_law_is_run), sl_law_is_run⟩)
    (c_law_is_run : PySem.W.codeIn K cd_law_is_run "_law_is_run" = true) (k_law_is_run : PySem.W.keepIn K (.ref f_law_is_run) = true)
    {f_law_bent_run : Addr} {od_law_bent_run an_law_bent_run : Option Addr} {sl_law_bent_run : Array (Option Value)} {oc_law_bent_run kV_law_bent_run dc_law_bent_run pm_law_bent_run cd_law_bent_run ct_law_bent_run : Value}
    (a_law_bent_run : PySem.W.nsIn K mainGlobals "_law_bent_run" = some (some (.ref f_law_bent_run)))
    (l_law_bent_run : K.lookup f_law_bent_run = some ⟨oc_law_bent_run, od_law_bent_run, .func (PySem.W.fnOf "_law_bent_run" "_law_bent_run" (defArgs s_law_bent_run) (defBody s_law_bent_run) (defScope s_law_bent_run) .none kV_law_bent_run dc_law_bent_run pm_law_bent_run an_law_bent_run cd_law_bent_run ct_law_bent_run), sl_law_bent_run⟩)
    (c_law_bent_run : PySem.W.codeIn K cd_law_bent_run "_law_bent_run" = true) (k_law_bent_run : PySem.W.keepIn K (.ref f_law_bent_run) = true)
    {f_law_door : Addr} {od_law_door an_law_door : Option Addr} {sl_law_door : Array (Option Value)} {oc_law_door kV_law_door dc_law_door pm_law_door cd_law_door ct_law_door : Value}
    (a_law_door : PySem.W.nsIn K mainGlobals "_law_door" = some (some (.ref f_law_door)))
    (l_law_door : K.lookup f_law_door = some ⟨oc_law_door, od_law_door, .func (PySem.W.fnOf "_law_door" "_law_door" (defArgs s_law_door) (defBody s_law_door) (defScope s_law_door) .none kV_law_door dc_law_door pm_law_door an_law_door cd_law_door ct_law_door), sl_law_door⟩)
    (c_law_door : PySem.W.codeIn K cd_law_door "_law_door" = true) (k_law_door : PySem.W.keepIn K (.ref f_law_door) = true)
    {f_law_refusal : Addr} {od_law_refusal an_law_refusal : Option Addr} {sl_law_refusal : Array (Option Value)} {oc_law_refusal kV_law_refusal dc_law_refusal pm_law_refusal cd_law_refusal ct_law_refusal : Value}
    (a_law_refusal : PySem.W.nsIn K mainGlobals "_law_refusal" = some (some (.ref f_law_refusal)))
    (l_law_refusal : K.lookup f_law_refusal = some ⟨oc_law_refusal, od_law_refusal, .func (PySem.W.fnOf "_law_refusal" "_law_refusal" (defArgs s_law_refusal) (defBody s_law_refusal) (defScope s_law_refusal) .none kV_law_refusal dc_law_refusal pm_law_refusal an_law_refusal cd_law_refusal ct_law_refusal), sl_law_refusal⟩)
    (c_law_refusal : PySem.W.codeIn K cd_law_refusal "_law_refusal" = true) (k_law_refusal : PySem.W.keepIn K (.ref f_law_refusal) = true)
    {f_law : Addr} {od_law an_law : Option Addr} {sl_law : Array (Option Value)} {oc_law kV_law dc_law pm_law cd_law ct_law : Value}
    (a_law : PySem.W.nsIn K mainGlobals "law" = some (some (.ref f_law)))
    (l_law : K.lookup f_law = some ⟨oc_law, od_law, .func (PySem.W.fnOf "law" "law" (defArgs s_law) (defBody s_law) (defScope s_law) .none kV_law dc_law pm_law an_law cd_law ct_law), sl_law⟩)
    (c_law : PySem.W.codeIn K cd_law "law" = true) (k_law : PySem.W.keepIn K (.ref f_law) = true)
    (z_len : PySem.W.nsIn K mainGlobals "len" = some none)
    (z_range : PySem.W.nsIn K mainGlobals "range" = some none)
    (z_max : PySem.W.nsIn K mainGlobals "max" = some none)
    (z_min : PySem.W.nsIn K mainGlobals "min" = some none)
    (z_repr : PySem.W.nsIn K mainGlobals "repr" = some none)
    (z_isinstance : PySem.W.nsIn K mainGlobals "isinstance" = some none)
    (z_int : PySem.W.nsIn K mainGlobals "int" = some none)
    (z_bool : PySem.W.nsIn K mainGlobals "bool" = some none)
    (z_tuple : PySem.W.nsIn K mainGlobals "tuple" = some none)
    (z_list : PySem.W.nsIn K mainGlobals "list" = some none)
    (z_str : PySem.W.nsIn K mainGlobals "str" = some none)
    (z_abs : PySem.W.nsIn K mainGlobals "abs" = some none)
    (z_sorted : PySem.W.nsIn K mainGlobals "sorted" = some none)
    (z_enumerate : PySem.W.nsIn K mainGlobals "enumerate" = some none)
    (z_set : PySem.W.nsIn K mainGlobals "set" = some none)
    (z_all : PySem.W.nsIn K mainGlobals "all" = some none)
    (z_any : PySem.W.nsIn K mainGlobals "any" = some none)
    (z_ValueError : PySem.W.nsIn K mainGlobals "ValueError" = some none)
    (z_ArithmeticError : PySem.W.nsIn K mainGlobals "ArithmeticError" = some none)
    {C_Machine : Addr} (a_Machine : PySem.W.nsIn K mainGlobals "Machine" = some (some (.ref C_Machine)))
    (pg_Machine : PySem.W.plainGet K C_Machine Str.empty = true)
    (hdc_Machine : PySem.W.hasDictIn K C_Machine = true)
    (po_Machine : PySem.W.plainOver K C_Machine = true)
    (sat_Machine : PySem.W.findIn K (.ref C_Machine) "__setattr__" = some (some (.builtin "object.__setattr__")))
    (mk_Machine : PySem.W.makesIn K C_Machine = true)
    (kc_Machine : PySem.W.keepIn K (.ref C_Machine) = true)
    (fn_Machine_coming : PySem.W.findIn K (.ref C_Machine) "coming" = some none)
    (fn_Machine_box_count : PySem.W.findIn K (.ref C_Machine) "box_count" = some none)
    (fn_Machine_input_count : PySem.W.findIn K (.ref C_Machine) "input_count" = some none)
    (fn_Machine_gate_list : PySem.W.findIn K (.ref C_Machine) "gate_list" = some none)
    (fn_Machine_next_signs : PySem.W.findIn K (.ref C_Machine) "next_signs" = some none)
    (fn_Machine_start_signs : PySem.W.findIn K (.ref C_Machine) "start_signs" = some none)
    (fn_Machine_promise_list : PySem.W.findIn K (.ref C_Machine) "promise_list" = some none)
    (fn_Machine_things : PySem.W.findIn K (.ref C_Machine) "things" = some none)
    {f_Machine___init__ : Addr} {od_Machine___init__ an_Machine___init__ : Option Addr} {sl_Machine___init__ : Array (Option Value)} {oc_Machine___init__ dc_Machine___init__ pm_Machine___init__ cd_Machine___init__ ct_Machine___init__ : Value}
    {KD_Machine___init__ : Addr}
    (i_Machine___init__ : PySem.W.findIn K (.ref C_Machine) "__init__" = some (some (.ref f_Machine___init__))) (is_Machine___init__ : PySem.W.isFn K (.ref f_Machine___init__) = true)
    (l_Machine___init__ : K.lookup f_Machine___init__ = some ⟨oc_Machine___init__, od_Machine___init__, .func (PySem.W.fnOf "__init__" "Machine.__init__" (defArgs s_Machine___init__) (defBody s_Machine___init__) (defScope s_Machine___init__) .none (.ref KD_Machine___init__) dc_Machine___init__ pm_Machine___init__ an_Machine___init__ cd_Machine___init__ ct_Machine___init__), sl_Machine___init__⟩)
    (c_Machine___init__ : PySem.W.codeIn K cd_Machine___init__ "Machine.__init__" = true) (k_Machine___init__ : PySem.W.keepIn K (.ref f_Machine___init__) = true)
    {T0_Machine___init___starts : Addr} {oT0_Machine___init___starts : Option Addr} {nT0_Machine___init___starts : Nat} {slT0_Machine___init___starts : Array (Option Value)} (kd_Machine___init___starts : PySem.W.nsIn K KD_Machine___init__ "starts" = some (some (.ref T0_Machine___init___starts))) (kt_Machine___init___starts : K.lookup T0_Machine___init___starts = some ⟨.type "tuple", oT0_Machine___init___starts, .seq #[] nT0_Machine___init___starts, slT0_Machine___init___starts⟩)
    {T0_Machine___init___promises : Addr} {oT0_Machine___init___promises : Option Addr} {nT0_Machine___init___promises : Nat} {slT0_Machine___init___promises : Array (Option Value)} (kd_Machine___init___promises : PySem.W.nsIn K KD_Machine___init__ "promises" = some (some (.ref T0_Machine___init___promises))) (kt_Machine___init___promises : K.lookup T0_Machine___init___promises = some ⟨.type "tuple", oT0_Machine___init___promises, .seq #[] nT0_Machine___init___promises, slT0_Machine___init___promises⟩)
    {f_Machine___len__ : Addr} {od_Machine___len__ an_Machine___len__ : Option Addr} {sl_Machine___len__ : Array (Option Value)} {oc_Machine___len__ kV_Machine___len__ dc_Machine___len__ pm_Machine___len__ cd_Machine___len__ ct_Machine___len__ : Value}
    (i_Machine___len__ : PySem.W.findIn K (.ref C_Machine) "__len__" = some (some (.ref f_Machine___len__))) (is_Machine___len__ : PySem.W.isFn K (.ref f_Machine___len__) = true)
    (l_Machine___len__ : K.lookup f_Machine___len__ = some ⟨oc_Machine___len__, od_Machine___len__, .func (PySem.W.fnOf "__len__" "Machine.__len__" (defArgs s_Machine___len__) (defBody s_Machine___len__) (defScope s_Machine___len__) .none kV_Machine___len__ dc_Machine___len__ pm_Machine___len__ an_Machine___len__ cd_Machine___len__ ct_Machine___len__), sl_Machine___len__⟩)
    (c_Machine___len__ : PySem.W.codeIn K cd_Machine___len__ "Machine.__len__" = true) (k_Machine___len__ : PySem.W.keepIn K (.ref f_Machine___len__) = true)
    {f_Machine_boxes : Addr} {od_Machine_boxes an_Machine_boxes : Option Addr} {sl_Machine_boxes : Array (Option Value)} {oc_Machine_boxes kV_Machine_boxes dc_Machine_boxes pm_Machine_boxes cd_Machine_boxes ct_Machine_boxes : Value}
    (i_Machine_boxes : PySem.W.findIn K (.ref C_Machine) "boxes" = some (some (.ref f_Machine_boxes))) (is_Machine_boxes : PySem.W.isFn K (.ref f_Machine_boxes) = true)
    (l_Machine_boxes : K.lookup f_Machine_boxes = some ⟨oc_Machine_boxes, od_Machine_boxes, .func (PySem.W.fnOf "boxes" "Machine.boxes" (defArgs s_Machine_boxes) (defBody s_Machine_boxes) (defScope s_Machine_boxes) .none kV_Machine_boxes dc_Machine_boxes pm_Machine_boxes an_Machine_boxes cd_Machine_boxes ct_Machine_boxes), sl_Machine_boxes⟩)
    (c_Machine_boxes : PySem.W.codeIn K cd_Machine_boxes "Machine.boxes" = true) (k_Machine_boxes : PySem.W.keepIn K (.ref f_Machine_boxes) = true)
    {f_Machine_starts : Addr} {od_Machine_starts an_Machine_starts : Option Addr} {sl_Machine_starts : Array (Option Value)} {oc_Machine_starts kV_Machine_starts dc_Machine_starts pm_Machine_starts cd_Machine_starts ct_Machine_starts : Value}
    (i_Machine_starts : PySem.W.findIn K (.ref C_Machine) "starts" = some (some (.ref f_Machine_starts))) (is_Machine_starts : PySem.W.isFn K (.ref f_Machine_starts) = true)
    (l_Machine_starts : K.lookup f_Machine_starts = some ⟨oc_Machine_starts, od_Machine_starts, .func (PySem.W.fnOf "starts" "Machine.starts" (defArgs s_Machine_starts) (defBody s_Machine_starts) (defScope s_Machine_starts) .none kV_Machine_starts dc_Machine_starts pm_Machine_starts an_Machine_starts cd_Machine_starts ct_Machine_starts), sl_Machine_starts⟩)
    (c_Machine_starts : PySem.W.codeIn K cd_Machine_starts "Machine.starts" = true) (k_Machine_starts : PySem.W.keepIn K (.ref f_Machine_starts) = true)
    {f_Machine_is_word : Addr} {od_Machine_is_word an_Machine_is_word : Option Addr} {sl_Machine_is_word : Array (Option Value)} {oc_Machine_is_word kV_Machine_is_word dc_Machine_is_word pm_Machine_is_word cd_Machine_is_word ct_Machine_is_word : Value}
    (i_Machine_is_word : PySem.W.findIn K (.ref C_Machine) "is_word" = some (some (.ref f_Machine_is_word))) (is_Machine_is_word : PySem.W.isFn K (.ref f_Machine_is_word) = true)
    (l_Machine_is_word : K.lookup f_Machine_is_word = some ⟨oc_Machine_is_word, od_Machine_is_word, .func (PySem.W.fnOf "is_word" "Machine.is_word" (defArgs s_Machine_is_word) (defBody s_Machine_is_word) (defScope s_Machine_is_word) .none kV_Machine_is_word dc_Machine_is_word pm_Machine_is_word an_Machine_is_word cd_Machine_is_word ct_Machine_is_word), sl_Machine_is_word⟩)
    (c_Machine_is_word : PySem.W.codeIn K cd_Machine_is_word "Machine.is_word" = true) (k_Machine_is_word : PySem.W.keepIn K (.ref f_Machine_is_word) = true)
    {f_Machine_filling : Addr} {od_Machine_filling an_Machine_filling : Option Addr} {sl_Machine_filling : Array (Option Value)} {oc_Machine_filling kV_Machine_filling dc_Machine_filling pm_Machine_filling cd_Machine_filling ct_Machine_filling : Value}
    (i_Machine_filling : PySem.W.findIn K (.ref C_Machine) "filling" = some (some (.ref f_Machine_filling))) (is_Machine_filling : PySem.W.isFn K (.ref f_Machine_filling) = true)
    (l_Machine_filling : K.lookup f_Machine_filling = some ⟨oc_Machine_filling, od_Machine_filling, .func (PySem.W.fnOf "filling" "Machine.filling" (defArgs s_Machine_filling) (defBody s_Machine_filling) (defScope s_Machine_filling) .none kV_Machine_filling dc_Machine_filling pm_Machine_filling an_Machine_filling cd_Machine_filling ct_Machine_filling), sl_Machine_filling⟩)
    (c_Machine_filling : PySem.W.codeIn K cd_Machine_filling "Machine.filling" = true) (k_Machine_filling : PySem.W.keepIn K (.ref f_Machine_filling) = true)
    {f_Machine_behind : Addr} {od_Machine_behind an_Machine_behind : Option Addr} {sl_Machine_behind : Array (Option Value)} {oc_Machine_behind kV_Machine_behind dc_Machine_behind pm_Machine_behind cd_Machine_behind ct_Machine_behind : Value}
    (i_Machine_behind : PySem.W.findIn K (.ref C_Machine) "behind" = some (some (.ref f_Machine_behind))) (is_Machine_behind : PySem.W.isFn K (.ref f_Machine_behind) = true)
    (l_Machine_behind : K.lookup f_Machine_behind = some ⟨oc_Machine_behind, od_Machine_behind, .func (PySem.W.fnOf "behind" "Machine.behind" (defArgs s_Machine_behind) (defBody s_Machine_behind) (defScope s_Machine_behind) .none kV_Machine_behind dc_Machine_behind pm_Machine_behind an_Machine_behind cd_Machine_behind ct_Machine_behind), sl_Machine_behind⟩)
    (c_Machine_behind : PySem.W.codeIn K cd_Machine_behind "Machine.behind" = true) (k_Machine_behind : PySem.W.keepIn K (.ref f_Machine_behind) = true)
    {R_RECKONINGS : Addr} {es_RECKONINGS : Array DictEntry} {nn_RECKONINGS : Nat} (a_RECKONINGS : PySem.W.nsIn K mainGlobals "RECKONINGS" = some (some (.ref R_RECKONINGS))) (ld_RECKONINGS : K.lookup R_RECKONINGS = some ⟨.type "dict", none, .dict es_RECKONINGS nn_RECKONINGS, #[]⟩) (lit_RECKONINGS : PySem.W.KeysLit w.params es_RECKONINGS.toList) (low_RECKONINGS : (R_RECKONINGS == sysModules) = false)
    (r_RECKONINGS_and : PySem.W.nsIn K R_RECKONINGS "and" = some (some (.ref f_both)))
    (r_RECKONINGS_or : PySem.W.nsIn K R_RECKONINGS "or" = some (some (.ref f_either)))
    (r_RECKONINGS_odd : PySem.W.nsIn K R_RECKONINGS "odd" = some (some (.ref f_just_one)))
    {C_KeptError : Addr} (a_KeptError : PySem.W.nsIn K mainGlobals "KeptError" = some (some (.ref C_KeptError)))
    {C_NoRun : Addr} (a_NoRun : PySem.W.nsIn K mainGlobals "NoRun" = some (some (.ref C_NoRun)))
    {C_NoWord : Addr} (a_NoWord : PySem.W.nsIn K mainGlobals "NoWord" = some (some (.ref C_NoWord)))
    {C_NoNumber : Addr} (a_NoNumber : PySem.W.nsIn K mainGlobals "NoNumber" = some (some (.ref C_NoNumber)))
    (xq_NoRun : PySem.W.excIn K C_NoRun bmVE "ValueError.__new__" = true)
    (xk_NoRun : PySem.W.keepIn K (.ref C_NoRun) = true)
    (xb_NoRun : PySem.W.subIn K (.ref C_NoRun) (.type "BaseException") = some true)
    (xt_NoRun : PySem.W.typeIn K (.ref C_NoRun) = some (.type "type"))
    (xq_NoWord : PySem.W.excIn K C_NoWord bmVE "ValueError.__new__" = true)
    (xk_NoWord : PySem.W.keepIn K (.ref C_NoWord) = true)
    (xb_NoWord : PySem.W.subIn K (.ref C_NoWord) (.type "BaseException") = some true)
    (xt_NoWord : PySem.W.typeIn K (.ref C_NoWord) = some (.type "type"))
    (xq_NoNumber : PySem.W.excIn K C_NoNumber bmAE "ArithmeticError.__new__" = true)
    (xk_NoNumber : PySem.W.keepIn K (.ref C_NoNumber) = true)
    (xb_NoNumber : PySem.W.subIn K (.ref C_NoNumber) (.type "BaseException") = some true)
    (xt_NoNumber : PySem.W.typeIn K (.ref C_NoNumber) = some (.type "type"))
    (hg_NoRun : PySem.W.findIn K (.ref C_NoRun) "__getattribute__" = some (some (.builtin "BaseException.__getattribute__")))
    (hk_NoRun : PySem.W.findIn K (.ref C_NoRun) "__getattr__" = some none)
    (hs_NoRun : PySem.W.subIn K (.ref C_NoRun) (.type "BaseException") = some true)
    (hd_NoRun : PySem.W.hasDictIn K C_NoRun = true)
    (ha_NoRun : PySem.W.findIn K (.ref C_NoRun) "__class__" = some (some (.builtin "object.__class__")))
    (hn_NoRun : PySem.W.specialIn K (.builtin "object.__class__") "__get__" = some (some (.builtin "getset_descriptor.__get__")))
    (ht_NoRun : PySem.W.takesIn K (.builtin "object.__class__") = some true)
    (hm_NoRun : PySem.W.mroIn K C_NoRun (.type "object") = some true)
    (hg_NoWord : PySem.W.findIn K (.ref C_NoWord) "__getattribute__" = some (some (.builtin "BaseException.__getattribute__")))
    (hk_NoWord : PySem.W.findIn K (.ref C_NoWord) "__getattr__" = some none)
    (hs_NoWord : PySem.W.subIn K (.ref C_NoWord) (.type "BaseException") = some true)
    (hd_NoWord : PySem.W.hasDictIn K C_NoWord = true)
    (ha_NoWord : PySem.W.findIn K (.ref C_NoWord) "__class__" = some (some (.builtin "object.__class__")))
    (hn_NoWord : PySem.W.specialIn K (.builtin "object.__class__") "__get__" = some (some (.builtin "getset_descriptor.__get__")))
    (ht_NoWord : PySem.W.takesIn K (.builtin "object.__class__") = some true)
    (hm_NoWord : PySem.W.mroIn K C_NoWord (.type "object") = some true)
    (hg_NoNumber : PySem.W.findIn K (.ref C_NoNumber) "__getattribute__" = some (some (.builtin "BaseException.__getattribute__")))
    (hk_NoNumber : PySem.W.findIn K (.ref C_NoNumber) "__getattr__" = some none)
    (hs_NoNumber : PySem.W.subIn K (.ref C_NoNumber) (.type "BaseException") = some true)
    (hd_NoNumber : PySem.W.hasDictIn K C_NoNumber = true)
    (ha_NoNumber : PySem.W.findIn K (.ref C_NoNumber) "__class__" = some (some (.builtin "object.__class__")))
    (hn_NoNumber : PySem.W.specialIn K (.builtin "object.__class__") "__get__" = some (some (.builtin "getset_descriptor.__get__")))
    (ht_NoNumber : PySem.W.takesIn K (.builtin "object.__class__") = some true)
    (hm_NoNumber : PySem.W.mroIn K C_NoNumber (.type "object") = some true)
    (x317 : PySem.W.exmOne K (.ref C_NoRun) (.ref C_KeptError) = some true)
    (x318 : PySem.W.exmOne K (.ref C_NoWord) (.ref C_KeptError) = some true)
    (x319 : PySem.W.exmOne K (.ref C_NoNumber) (.ref C_KeptError) = some false)
    (x320 : PySem.W.exmOne K (.ref C_NoNumber) (.ref C_NoNumber) = some true)
    (x321 : PySem.W.kitOne K (.ref C_NoRun) (.ref C_NoRun) = some true)
    (x322 : PySem.W.kitOne K (.ref C_NoRun) (.ref C_NoWord) = some false)
    (x323 : PySem.W.kitOne K (.ref C_NoWord) (.ref C_NoRun) = some false)
    (x324 : PySem.W.kitOne K (.ref C_NoWord) (.ref C_NoWord) = some true)
    (x325 : PySem.W.kitOne K (.ref C_NoRun) (.type "ValueError") = some true)
    (x326 : PySem.W.kitOne K (.ref C_NoWord) (.type "ValueError") = some true)
    (x327 : PySem.W.kitOne K (.ref C_NoNumber) (.type "ValueError") = some false)
    (x328 : PySem.W.kitOne K (.ref C_NoNumber) (.type "ArithmeticError") = some true)
    {tk_MOST_THINGS : Tok} (y_MOST_THINGS : PySem.W.nsIn K mainGlobals "MOST_THINGS" = some (some (.int 60 tk_MOST_THINGS)))
    {tk_MOST_BOXES : Tok} (y_MOST_BOXES : PySem.W.nsIn K mainGlobals "MOST_BOXES" = some (some (.int 10 tk_MOST_BOXES)))
    {tk_MOST_INPUTS : Tok} (y_MOST_INPUTS : PySem.W.nsIn K mainGlobals "MOST_INPUTS" = some (some (.int 4 tk_MOST_INPUTS)))
    {tk_MOST_GATES : Tok} (y_MOST_GATES : PySem.W.nsIn K mainGlobals "MOST_GATES" = some (some (.int 24 tk_MOST_GATES)))
    {tk_MOST_PROMISES : Tok} (y_MOST_PROMISES : PySem.W.nsIn K mainGlobals "MOST_PROMISES" = some (some (.int 8 tk_MOST_PROMISES)))
    {tk_MOST_BEATS : Tok} (y_MOST_BEATS : PySem.W.nsIn K mainGlobals "MOST_BEATS" = some (some (.int 2000 tk_MOST_BEATS))) :
    ∃ fd : FuncData, (∀ (s : Shared) (v : Value), BindsTo s fd ⟨[v], []⟩ [("_law_script", v)]) ∧ ∀ base : Heap, K.In base → base.Ns mainGlobals mg → GFn l.prog w K mg base CX0 11 fa fd ["_law_script"] (spLaw K) := by
  have e := hfa.symm.trans (PySem.W.mg_of X G a_law)
  cases e
  have F_law := fun_mk (st := s_law) l_law c_law k_law
  refine ⟨PySem.W.fnOf "law" "law" (defArgs s_law) (defBody s_law) (defScope s_law) .none kV_law dc_law pm_law an_law cd_law ct_law, fun s v => .of_eq rfl, fun base _ _ => ?_⟩
  have ml {x : Str} {v : Value} (q : PySem.W.nsIn K mainGlobals x = some (some v)) : mg x = some v := PySem.W.mg_of X G q
  have mn {x : Str} (q : PySem.W.nsIn K mainGlobals x = some none) : mg x = none := PySem.W.mg_none_of X G q
  have F_is_whole := fun_mk (st := s_is_whole) l_is_whole c_is_whole k_is_whole
  have D_is_whole : Df l.prog w K mg base 1 "is_whole" _ (spWh K) := ⟨_, _, ok_wh F_is_whole (mn z_isinstance) (mn z_int) (mn z_bool), k_is_whole, F_is_whole.binds fun _ _ _ _ _ _ us hl => match us, hl with | [_], _ => rfl, ml a_is_whole⟩
  have F_is_number := fun_mk (st := s_is_number) l_is_number c_is_number k_is_number
  have D_is_number : Df l.prog w K mg base 2 "is_number" _ (spNum K) := ⟨_, _, ok_num F_is_number D_is_whole, k_is_number, F_is_number.binds fun _ _ _ _ _ _ us hl => match us, hl with | [_, _, _], _ => rfl, ml a_is_number⟩
  have F_is_sign := fun_mk (st := s_is_sign) l_is_sign c_is_sign k_is_sign
  have D_is_sign : Df l.prog w K mg base 3 "is_sign" _ (spSign K) := ⟨_, _, ok_sign F_is_sign D_is_number, k_is_sign, F_is_sign.binds fun _ _ _ _ _ _ us hl => match us, hl with | [_, _], _ => rfl, ml a_is_sign⟩
  have F_wrong_sign := fun_mk (st := s_wrong_sign) l_wrong_sign c_wrong_sign k_wrong_sign
  have D_wrong_sign : Df l.prog w K mg base 4 "wrong_sign" _ (spWrong K) := ⟨_, _, ok_wrong F_wrong_sign D_is_sign (mn z_set) (mn z_enumerate) (mn z_abs), k_wrong_sign, F_wrong_sign.binds fun _ _ _ _ _ _ us hl => match us, hl with | [_, _], _ => rfl, ml a_wrong_sign⟩
  have F_is_filling := fun_mk (st := s_is_filling) l_is_filling c_is_filling k_is_filling
  have D_is_filling : Df l.prog w K mg base 2 "is_filling" _ (spIsFill K) := ⟨_, _, ok_isfill F_is_filling (mn z_isinstance) (mn z_tuple) (mn z_len) (mn z_all) (mn z_bool), k_is_filling, F_is_filling.binds fun _ _ _ _ _ _ us hl => match us, hl with | [_, _], _ => rfl, ml a_is_filling⟩
  have F_says := fun_mk (st := s_says) l_says c_says k_says
  have D_says : Df l.prog w K mg base 2 "says" _ (spSays K) := ⟨_, _, ok_says F_says (mn z_abs), k_says, F_says.binds fun _ _ _ _ _ _ us hl => match us, hl with | [_, _], _ => rfl, ml a_says⟩
  have F_holds := fun_mk (st := s_holds) l_holds c_holds k_holds
  have D_holds : Df l.prog w K mg base 3 "holds" _ (spHolds K) := ⟨_, _, ok_holds F_holds D_says (mn z_any), k_holds, F_holds.binds fun _ _ _ _ _ _ us hl => match us, hl with | [_, _], _ => rfl, ml a_holds⟩
  have F_all_fillings := fun_mk (st := s_all_fillings) l_all_fillings c_all_fillings k_all_fillings
  have D_all_fillings : Df l.prog w K mg base 2 "all_fillings" _ (spAllF K) := ⟨_, _, ok_allF F_all_fillings (mn z_range), k_all_fillings, F_all_fillings.binds fun _ _ _ _ _ _ us hl => match us, hl with | [_], _ => rfl, ml a_all_fillings⟩
  have F3 : FunD K "is_clause" "is_clause" (defArgs s_is_clause) (defBody s_is_clause) (defScope s_is_clause) [.int 60] [] f_is_clause _ := ⟨⟨_, _, _, _, _, _, _, _, _, _, rfl, l_is_clause, c_is_clause, .inr ⟨(by simp), _, _, [_], _, rfl, lT_is_clause, rfl, .cons ⟨_, rfl⟩ .nil⟩, .inl rfl⟩, k_is_clause⟩
  have G3 : FnOk l.prog w K mg base CX0 4 f_is_clause _ ["thing", "many"] (spIsCl K) := ok_iscl ⟨_, _, _, _, _, _, _, _, _, _, rfl, l_is_clause, c_is_clause⟩ D_is_sign (mn z_isinstance) (mn z_tuple) (mn z_min) (mn z_abs) (ml y_MOST_THINGS)
  have D_is_clause : Df l.prog w K mg base 4 "is_clause" ["thing", "many"] (spIsCl K) := by
    obtain ⟨ds, r, b⟩ := F3.binds1 (ps := ["thing", "many"]) 2 1 (by simp) rfl fun _ _ _ _ _ _ _ us its hu hi => match us, its, hu, hi with | [_, _], [_], _, _ => ⟨_, rfl, rfl⟩
    cases r
    exact ⟨_, _, G3, k_is_clause, b, ml a_is_clause⟩
  have gR := ml a_RECKONINGS
  have KD : KDict K w R_RECKONINGS es_RECKONINGS nn_RECKONINGS := ⟨ld_RECKONINGS, lit_RECKONINGS, low_RECKONINGS⟩
  have F_is_gate := fun_mk (st := s_is_gate) l_is_gate c_is_gate k_is_gate
  have D_is_gate : Df l.prog w K mg base 4 "is_gate" _ (spGate K) := ⟨_, _, ok_gate F_is_gate D_is_sign KD gR r_RECKONINGS_and r_RECKONINGS_or r_RECKONINGS_odd (mn z_isinstance) (mn z_tuple) (mn z_str) (mn z_len), k_is_gate, F_is_gate.binds fun _ _ _ _ _ _ us hl => match us, hl with | [_, _], _ => rfl, ml a_is_gate⟩
  have F_is_promise := fun_mk (st := s_is_promise) l_is_promise c_is_promise k_is_promise
  have D_is_promise : Df l.prog w K mg base 5 "is_promise" _ (spPromise K) := ⟨_, _, ok_promise F_is_promise D_is_clause (mn z_all) (mn z_abs), k_is_promise, F_is_promise.binds fun _ _ _ _ _ _ us hl => match us, hl with | [_, _, _], _ => rfl, ml a_is_promise⟩
  have F_check_numbers := fun_mk (st := s_check_numbers) l_check_numbers c_check_numbers k_check_numbers
  have D_check_numbers : Df l.prog w K mg base 3 "check_numbers" _ (spChkN K) := ⟨_, _, ok_chkN F_check_numbers D_is_number (ml y_MOST_BOXES) (ml y_MOST_INPUTS), k_check_numbers, F_check_numbers.binds fun _ _ _ _ _ _ us hl => match us, hl with | [_, _], _ => rfl, ml a_check_numbers⟩
  have F_check_gates := fun_mk (st := s_check_gates) l_check_gates c_check_gates k_check_gates
  have D_check_gates : Df l.prog w K mg base 5 "check_gates" _ (spChkG K) := ⟨_, _, ok_chkG F_check_gates D_is_gate (ml y_MOST_GATES) (mn z_isinstance) (mn z_list) (mn z_len) (mn z_enumerate), k_check_gates, F_check_gates.binds fun _ _ _ _ _ _ us hl => match us, hl with | [_, _], _ => rfl, ml a_check_gates⟩
  have F_check_nexts := fun_mk (st := s_check_nexts) l_check_nexts c_check_nexts k_check_nexts
  have D_check_nexts : Df l.prog w K mg base 4 "check_nexts" _ (spChkX K) := ⟨_, _, ok_chkX F_check_nexts D_is_sign (mn z_isinstance) (mn z_list) (mn z_len) (mn z_enumerate), k_check_nexts, F_check_nexts.binds fun _ _ _ _ _ _ us hl => match us, hl with | [_, _, _], _ => rfl, ml a_check_nexts⟩
  have F_check_starts := fun_mk (st := s_check_starts) l_check_starts c_check_starts k_check_starts
  have D_check_starts : Df l.prog w K mg base 5 "check_starts" _ (spChkS K) := ⟨_, _, ok_chkS F_check_starts D_wrong_sign (mn z_isinstance) (mn z_tuple) (mn z_list), k_check_starts, F_check_starts.binds fun _ _ _ _ _ _ us hl => match us, hl with | [_, _], _ => rfl, ml a_check_starts⟩
  have F_check_promises := fun_mk (st := s_check_promises) l_check_promises c_check_promises k_check_promises
  have D_check_promises : Df l.prog w K mg base 6 "check_promises" _ (spChkP K) := ⟨_, _, ok_chkP F_check_promises D_is_promise (ml y_MOST_PROMISES) (mn z_isinstance) (mn z_tuple) (mn z_list) (mn z_len) (mn z_enumerate), k_check_promises, F_check_promises.binds fun _ _ _ _ _ _ us hl => match us, hl with | [_, _, _], _ => rfl, ml a_check_promises⟩
  have F_words_under := fun_mk (st := s_words_under) l_words_under c_words_under k_words_under
  have D_words_under : Df l.prog w K mg base 4 "words_under" _ (spUnder K) := ⟨_, _, ok_under F_words_under (D_all_fillings.mono (by decide)) D_holds (mn z_all) (mn z_len), k_words_under, F_words_under.binds fun _ _ _ _ _ _ us hl => match us, hl with | [_, _, _], _ => rfl, ml a_words_under⟩
  have T_Machine : MTxt K C_Machine := ⟨⟨pg_Machine, hdc_Machine, po_Machine, sat_Machine⟩, fn_Machine_coming, fn_Machine_box_count, fn_Machine_input_count, fn_Machine_gate_list, fn_Machine_next_signs, fn_Machine_start_signs, fn_Machine_promise_list, fn_Machine_things⟩
  have FD_init : FunD K "__init__" "Machine.__init__" (defArgs s_Machine___init__) (defBody s_Machine___init__) (defScope s_Machine___init__) [] [("starts", .ref T0_Machine___init___starts), ("promises", .ref T0_Machine___init___promises)] f_Machine___init__ _ := ⟨⟨_, _, _, _, _, _, _, _, _, _, rfl, l_Machine___init__, c_Machine___init__, .inl ⟨rfl, rfl⟩, .inr ⟨KD_Machine___init__, rfl, fun q hq => by
    simp only [List.mem_cons, List.not_mem_nil, or_false] at hq
    rcases hq with rfl | rfl
    · exact ⟨_, kd_Machine___init___starts, rfl⟩
    · exact ⟨_, kd_Machine___init___promises, rfl⟩⟩⟩, k_Machine___init__⟩
  have G_init : FnOk l.prog w K mg base CX0 7 f_Machine___init__ _ ["self", "boxes", "inputs", "gates", "nexts", "starts", "promises"] (spInit C_Machine K) := ok_init FD_init T_Machine (D_check_numbers.mono (by decide)) (D_check_gates.mono (by decide)) (D_check_nexts.mono (by decide)) (D_check_starts.mono (by decide)) (D_check_promises.mono (by decide)) (D_words_under.mono (by decide)) (mn z_len) (mn z_list) (mn z_tuple) (mn z_range)
  have DC : Dc l.prog w K mg base 7 "Machine" C_Machine ["self", "boxes", "inputs", "gates", "nexts", "starts", "promises"] (spInit C_Machine K) 4 ["starts", "promises"] (· ++ ·) := ⟨_, _, (· ++ ·), ⟨mk_Machine, i_Machine___init__, is_Machine___init__, kc_Machine⟩, G_init, ⟨fun s us ws _ h1 h2 => match us, ws, h1, h2 with | [_, _, _, _, _], [_, _], _, _ => .of_eq rfl, fun r rz => r.append rz⟩, ml a_Machine⟩
  have F_Machine_boxes := fun_mk (st := s_Machine_boxes) l_Machine_boxes c_Machine_boxes k_Machine_boxes
  have DM_boxes : Dm l.prog w K mg base 3 C_Machine "boxes" _ (spBoxes C_Machine K) := ⟨_, _, T_Machine.cl, ok_boxes F_Machine_boxes T_Machine , ⟨i_Machine_boxes, is_Machine_boxes, k_Machine_boxes⟩, F_Machine_boxes.binds fun _ _ _ _ _ _ us hl => match us, hl with | [_], _ => rfl⟩
  have F_Machine_starts := fun_mk (st := s_Machine_starts) l_Machine_starts c_Machine_starts k_Machine_starts
  have DM_starts : Dm l.prog w K mg base 3 C_Machine "starts" _ (spStarts C_Machine K) := ⟨_, _, T_Machine.cl, ok_starts F_Machine_starts T_Machine (mn z_list), ⟨i_Machine_starts, is_Machine_starts, k_Machine_starts⟩, F_Machine_starts.binds fun _ _ _ _ _ _ us hl => match us, hl with | [_], _ => rfl⟩
  have F_Machine_is_word := fun_mk (st := s_Machine_is_word) l_Machine_is_word c_Machine_is_word k_Machine_is_word
  have DM_is_word : Dm l.prog w K mg base 3 C_Machine "is_word" _ (spIsWord C_Machine K) := ⟨_, _, T_Machine.cl, ok_isword F_Machine_is_word T_Machine D_is_filling, ⟨i_Machine_is_word, is_Machine_is_word, k_Machine_is_word⟩, F_Machine_is_word.binds fun _ _ _ _ _ _ us hl => match us, hl with | [_, _], _ => rfl⟩
  have F_law_pool := fun_mk (st := s_law_pool) l_law_pool c_law_pool k_law_pool
  have D_law_pool : Df l.prog w K mg base 2 "_law_pool" _ (spPool K) := ⟨_, _, ok_pool F_law_pool (mn z_len) (mn z_int), k_law_pool, F_law_pool.binds fun _ _ _ _ _ _ us hl => match us, hl with | [_, _], _ => rfl, ml a_law_pool⟩
  have F_law_take := fun_mk (st := s_law_take) l_law_take c_law_take k_law_take
  have D_law_take : Df l.prog w K mg base 2 "_law_take" _ (spTake K) := ⟨_, _, ok_take F_law_take , k_law_take, F_law_take.binds fun _ _ _ _ _ _ us hl => match us, hl with | [_, _], _ => rfl, ml a_law_take⟩
  have F_law_signed := fun_mk (st := s_law_signed) l_law_signed c_law_signed k_law_signed
  have D_law_signed : Df l.prog w K mg base 3 "_law_signed" _ (spSigned K) := ⟨_, _, ok_signed F_law_signed D_law_take, k_law_signed, F_law_signed.binds fun _ _ _ _ _ _ us hl => match us, hl with | [_, _], _ => rfl, ml a_law_signed⟩
  have F_law_all := fun_mk (st := s_law_all) l_law_all c_law_all k_law_all
  have D_law_all : Df l.prog w K mg base 2 "_law_all" _ (spLAll K) := ⟨_, _, ok_lall F_law_all (mn z_range) (mn z_tuple), k_law_all, F_law_all.binds fun _ _ _ _ _ _ us hl => match us, hl with | [_], _ => rfl, ml a_law_all⟩
  have F_law_some_signs := fun_mk (st := s_law_some_signs) l_law_some_signs c_law_some_signs k_law_some_signs
  have D_law_some_signs : Df l.prog w K mg base 3 "_law_some_signs" _ (spSome K) := ⟨_, _, ok_some F_law_some_signs D_law_take (mn z_list) (mn z_range) (mn z_min) (mn z_len), k_law_some_signs, F_law_some_signs.binds fun _ _ _ _ _ _ us hl => match us, hl with | [_, _, _, _], _ => rfl, ml a_law_some_signs⟩
  have F_law_by_thing := fun_mk (st := s_law_by_thing) l_law_by_thing c_law_by_thing k_law_by_thing
  have D_law_by_thing : Df l.prog w K mg base 2 "_law_by_thing" _ (spByThing K) := ⟨_, _, ok_bything F_law_by_thing (mn z_abs) (mn z_tuple) (mn z_sorted), k_law_by_thing, F_law_by_thing.binds fun _ _ _ _ _ _ us hl => match us, hl with | [_], _ => rfl, ml a_law_by_thing⟩
  have F_law_pledges := fun_mk (st := s_law_pledges) l_law_pledges c_law_pledges k_law_pledges
  have D_law_pledges : Df l.prog w K mg base 4 "_law_pledges" _ (spPledges K) := ⟨_, _, ok_pledges F_law_pledges (D_law_take.mono (by decide)) D_law_some_signs (D_law_by_thing.mono (by decide)) (mn z_range) (mn z_int) (mn z_abs), k_law_pledges, F_law_pledges.binds fun _ _ _ _ _ _ us hl => match us, hl with | [_, _, _], _ => rfl, ml a_law_pledges⟩
  have F_law_spec := fun_mk (st := s_law_spec) l_law_spec c_law_spec k_law_spec
  have D_law_spec : Df l.prog w K mg base 5 "_law_spec" _ (spSpec K) := ⟨_, _, ok_spec F_law_spec (D_law_take.mono (by decide)) (D_law_signed.mono (by decide)) (D_law_some_signs.mono (by decide)) D_law_pledges (mn z_range) (mn z_len), k_law_spec, F_law_spec.binds fun _ _ _ _ _ _ us hl => match us, hl with | [_, _, _, _], _ => rfl, ml a_law_spec⟩
  have F_law_made := fun_mk (st := s_law_made) l_law_made c_law_made k_law_made
  have D_law_made : Df l.prog w K mg base 9 "_law_made" _ (spMade C_Machine K) := ⟨_, _, ok_made F_law_made DC (mn z_list), k_law_made, F_law_made.binds fun _ _ _ _ _ _ us hl => match us, hl with | [_], _ => rfl, ml a_law_made⟩
  have F_law_says := fun_mk (st := s_law_says) l_law_says c_law_says k_law_says
  have D_law_says : Df l.prog w K mg base 2 "_law_says" _ (spLSays K) := ⟨_, _, ok_lsays F_law_says (mn z_abs), k_law_says, F_law_says.binds fun _ _ _ _ _ _ us hl => match us, hl with | [_, _], _ => rfl, ml a_law_says⟩
  have F_law_clause_is := fun_mk (st := s_law_clause_is) l_law_clause_is c_law_clause_is k_law_clause_is
  have D_law_clause_is : Df l.prog w K mg base 3 "_law_clause_is" _ (spClauseIs K) := ⟨_, _, ok_clauseis F_law_clause_is D_law_says, k_law_clause_is, F_law_clause_is.binds fun _ _ _ _ _ _ us hl => match us, hl with | [_, _], _ => rfl, ml a_law_clause_is⟩
  have F_law_words := fun_mk (st := s_law_words) l_law_words c_law_words k_law_words
  have D_law_words : Df l.prog w K mg base 4 "_law_words" _ (spLWords K) := ⟨_, _, ok_lwords F_law_words (D_law_all.mono (by decide)) D_law_clause_is, k_law_words, F_law_words.binds fun _ _ _ _ _ _ us hl => match us, hl with | [_], _ => rfl, ml a_law_words⟩
  have F_law_begins := fun_mk (st := s_law_begins) l_law_begins c_law_begins k_law_begins
  have D_law_begins : Df l.prog w K mg base 4 "_law_begins" _ (spLBegins K) := ⟨_, _, ok_lbegins F_law_begins (D_law_all.mono (by decide)) (D_law_says.mono (by decide)), k_law_begins, F_law_begins.binds fun _ _ _ _ _ _ us hl => match us, hl with | [_], _ => rfl, ml a_law_begins⟩
  have F_is_beginning := fun_mk (st := s_is_beginning) l_is_beginning c_is_beginning k_is_beginning
  have D_is_beginning : Df l.prog w K mg base 4 "is_beginning" _ (spIsBeg C_Machine K) := ⟨_, _, ok_isbeg F_is_beginning (D_is_filling.mono (by decide)) DM_boxes DM_starts (D_says.mono (by decide)) (mn z_all), k_is_beginning, F_is_beginning.binds fun _ _ _ _ _ _ us hl => match us, hl with | [_, _], _ => rfl, ml a_is_beginning⟩
  have F_are_words := fun_mk (st := s_are_words) l_are_words c_are_words k_are_words
  have D_are_words : Df l.prog w K mg base 4 "are_words" _ (spAreW C_Machine K) := ⟨_, _, ok_arew F_are_words DM_is_word (mn z_isinstance) (mn z_list) (mn z_len) (mn z_all), k_are_words, F_are_words.binds fun _ _ _ _ _ _ us hl => match us, hl with | [_, _, _], _ => rfl, ml a_are_words⟩
  have F_is_run := fun_mk (st := s_is_run) l_is_run c_is_run k_is_run
  have D_is_run : Df l.prog w K mg base 5 "is_run" _ (spIsRun C_Machine K) := ⟨_, _, ok_isrun F_is_run D_is_beginning D_are_words (ml y_MOST_BEATS) (mn z_isinstance) (mn z_tuple) (mn z_len), k_is_run, F_is_run.binds fun _ _ _ _ _ _ us hl => match us, hl with | [_, _], _ => rfl, ml a_is_run⟩
  have F_law_one := fun_mk (st := s_law_one) l_law_one c_law_one k_law_one
  have D_law_one : Df l.prog w K mg base 3 "_law_one" _ (spOne K) := ⟨_, _, ok_one F_law_one D_law_take (mn z_len), k_law_one, F_law_one.binds fun _ _ _ _ _ _ us hl => match us, hl with | [_, _], _ => rfl, ml a_law_one⟩
  have F_law_run := fun_mk (st := s_law_run) l_law_run c_law_run k_law_run
  have D_law_run : Df l.prog w K mg base 5 "_law_run" _ (spLRun K) := ⟨_, _, ok_lrun F_law_run D_law_words D_law_begins (D_law_one.mono (by decide)) (D_law_take.mono (by decide)) (mn z_range), k_law_run, F_law_run.binds fun _ _ _ _ _ _ us hl => match us, hl with | [_, _, _], _ => rfl, ml a_law_run⟩
  have F_law_is_run := fun_mk (st := s_law_is_run) l_law_is_run c_law_is_run k_law_is_run
  have DG_law_is_run : Dg l.prog w K mg base 5 "_law_is_run" _ (spLIsRun K) := ⟨_, _, ok_lisrun F_law_is_run D_law_begins D_law_words (mn z_isinstance) (mn z_tuple) (mn z_list) (mn z_len) (mn z_repr), k_law_is_run, F_law_is_run.binds fun _ _ _ _ _ _ us hl => match us, hl with | [_, _], _ => rfl, ml a_law_is_run⟩
  have F_law_bent_run := fun_mk (st := s_law_bent_run) l_law_bent_run c_law_bent_run k_law_bent_run
  have D_law_bent_run : Df l.prog w K mg base 3 "_law_bent_run" _ (spBent K) := ⟨_, _, ok_bent F_law_bent_run D_law_take (mn z_len) (mn z_list) (mn z_tuple) (mn z_int), k_law_bent_run, F_law_bent_run.binds fun _ _ _ _ _ _ us hl => match us, hl with | [_, _, _], _ => rfl, ml a_law_bent_run⟩
  have F_says' := fun_mk (st := s_says) l_says c_says k_says
  have D_saysL : Df l.prog w K mg base 4 "says" _ (spSaysL K) := ⟨_, _, ok_saysL F_says' (mn z_abs), k_says, F_says'.binds fun _ _ _ _ _ _ us hl => match us, hl with | [_, _], _ => rfl, ml a_says⟩
  have FX_both := fun_mk (st := s_both) l_both c_both k_both
  have FX_either := fun_mk (st := s_either) l_either c_either k_either
  have FX_just_one := fun_mk (st := s_just_one) l_just_one c_just_one k_just_one
  have ne_either_both : f_either ≠ f_both := fun e => by
    have h := l_either
    rw [e, l_both] at h
    have h2 : Str.ofString "both" = Str.ofString "either" := congrArg (fun o : Option Obj => match o with | some ⟨_, _, .func fd, _⟩ => fd.name | _ => "") h
    exact absurd h2 (by decide +kernel)
  have ne_just_one_both : f_just_one ≠ f_both := fun e => by
    have h := l_just_one
    rw [e, l_both] at h
    have h2 : Str.ofString "both" = Str.ofString "just_one" := congrArg (fun o : Option Obj => match o with | some ⟨_, _, .func fd, _⟩ => fd.name | _ => "") h
    exact absurd h2 (by decide +kernel)
  have ne_just_one_either : f_just_one ≠ f_either := fun e => by
    have h := l_just_one
    rw [e, l_either] at h
    have h2 : Str.ofString "either" = Str.ofString "just_one" := congrArg (fun o : Option Obj => match o with | some ⟨_, _, .func fd, _⟩ => fd.name | _ => "") h
    exact absurd h2 (by decide +kernel)
  let RS : Addr → Option Sp := fun f => if f = f_both then some (spReck "and") else if f = f_either then some (spReck "or") else if f = f_just_one then some (spReck "odd") else none
  have A_RS : ∀ f sp, RS f = some sp → Held l.prog w K mg base 4 f sp := fun f sp h => by
    by_cases h1 : f = f_both
    · have h' : some (spReck "and") = some sp := by rw [← h]; exact (if_pos h1).symm
      cases h'; subst h1
      exact ⟨_, _, ok_both FX_both, k_both, FX_both.binds fun _ _ _ _ _ _ us hl => match us, hl with | [_, _], _ => rfl⟩
    · by_cases h2 : f = f_either
      · have h' : some (spReck "or") = some sp := by rw [← h]; show _ = if f = f_both then _ else _; rw [if_neg h1, if_pos h2]
        cases h'; subst h2
        exact ⟨_, _, ok_either FX_either, k_either, FX_either.binds fun _ _ _ _ _ _ us hl => match us, hl with | [_, _], _ => rfl⟩
      · by_cases h3 : f = f_just_one
        · have h' : some (spReck "odd") = some sp := by rw [← h]; show _ = if f = f_both then _ else _; rw [if_neg h1, if_neg h2, if_pos h3]
          cases h'; subst h3
          exact ⟨_, _, ok_justone FX_just_one, k_just_one, FX_just_one.binds fun _ _ _ _ _ _ us hl => match us, hl with | [_, _], _ => rfl⟩
        · have h' : (none : Option Sp) = some sp := by rw [← h]; show _ = if f = f_both then _ else _; rw [if_neg h1, if_neg h2, if_neg h3]
          cases h'
  have hRS : ∀ wd, isWord wd → ∃ f, KDct K w R_RECKONINGS wd (.ref f) ∧ RS f = some (spReck wd) := fun wd h => by
    rcases h with rfl | rfl | rfl
    · exact ⟨f_both, ⟨_, _, _, ld_RECKONINGS, lit_RECKONINGS, r_RECKONINGS_and, rfl⟩, if_pos rfl⟩
    · exact ⟨f_either, ⟨_, _, _, ld_RECKONINGS, lit_RECKONINGS, r_RECKONINGS_or, rfl⟩, by show (if f_either = f_both then _ else _) = _; rw [if_neg ne_either_both, if_pos rfl]⟩
    · exact ⟨f_just_one, ⟨_, _, _, ld_RECKONINGS, lit_RECKONINGS, r_RECKONINGS_odd, rfl⟩, by show (if f_just_one = f_both then _ else _) = _; rw [if_neg ne_just_one_both, if_neg ne_just_one_either, if_pos rfl]⟩
  have F_filling := fun_mk (st := s_Machine_filling) l_Machine_filling c_Machine_filling k_Machine_filling
  have DM_filling : Dm l.prog w K mg base 5 C_Machine "filling" _ (spFilling C_Machine K) := ⟨_, _, T_Machine.cl, ok_filling F_filling T_Machine (D_is_filling.mono (by decide)) (DM_is_word.mono (by decide)) D_saysL A_RS gR hRS (mn z_tuple), ⟨i_Machine_filling, is_Machine_filling, k_Machine_filling⟩, F_filling.binds fun _ _ _ _ _ _ us hl => match us, hl with | [_, _, _], _ => rfl⟩
  have F_behind := fun_mk (st := s_Machine_behind) l_Machine_behind c_Machine_behind k_Machine_behind
  have DM_behind : Dm l.prog w K mg base 6 C_Machine "behind" _ (spBeat C_Machine K) := ⟨_, _, T_Machine.cl, ok_beat F_behind T_Machine DM_filling (D_says.mono (by decide)) (mn z_tuple), ⟨i_Machine_behind, is_Machine_behind, k_Machine_behind⟩, F_behind.binds fun _ _ _ _ _ _ us hl => match us, hl with | [_, _, _], _ => rfl⟩
  have F_len := fun_mk (st := s_Machine___len__) l_Machine___len__ c_Machine___len__ k_Machine___len__
  have DL : Dl l.prog w K mg base 6 C_Machine ["self"] (spMLen C_Machine K) := ⟨_, _, ok_mlen F_len T_Machine (mn z_len), i_Machine___len__, is_Machine___len__, F_len.binds fun _ _ _ _ _ _ us hl => match us, hl with | [_], _ => rfl⟩
  have E_NoRun : ErT K mg "NoRun" C_NoRun := ⟨xq_NoRun, ml a_NoRun, xk_NoRun, xb_NoRun, xt_NoRun⟩
  have E_NoWord : ErT K mg "NoWord" C_NoWord := ⟨xq_NoWord, ml a_NoWord, xk_NoWord, xb_NoWord, xt_NoWord⟩
  have E_NoNumber : ErA K mg "NoNumber" C_NoNumber := ⟨xq_NoNumber, ml a_NoNumber, xk_NoNumber, xb_NoNumber, xt_NoNumber⟩
  have F_checked := fun_mk (st := s_checked) l_checked c_checked k_checked
  have DX_checked : Dx l.prog w K mg base 6 "checked" _ (spChk C_Machine C_NoRun K) := ⟨_, _, ok_chk F_checked D_is_run E_NoRun, k_checked, F_checked.binds fun _ _ _ _ _ _ us hl => match us, hl with | [_, _], _ => rfl, ml a_checked⟩
  have F_stands := fun_mk (st := s_stands) l_stands c_stands k_stands
  have DX_stands : Dx l.prog w K mg base 7 "stands" _ (spStd C_Machine C_NoRun K) := ⟨_, _, ok_std F_stands DX_checked DM_behind, k_stands, F_stands.binds fun _ _ _ _ _ _ us hl => match us, hl with | [_, _], _ => rfl, ml a_stands⟩
  have F_fillings := fun_mk (st := s_fillings) l_fillings c_fillings k_fillings
  have DX_fillings : Dx l.prog w K mg base 7 "fillings" _ (spFls C_Machine C_NoRun K) := ⟨_, _, ok_fls F_fillings DX_checked DM_behind (DM_filling.mono (by decide)), k_fillings, F_fillings.binds fun _ _ _ _ _ _ us hl => match us, hl with | [_, _], _ => rfl, ml a_fillings⟩
  have F_wave := fun_mk (st := s_wave) l_wave c_wave k_wave
  have DX_wave : Dx l.prog w K mg base 8 "wave" _ (spStd C_Machine C_NoRun K) := ⟨_, _, ok_wave F_wave DX_fillings DL (mn z_range) (mn z_len), k_wave, F_wave.binds fun _ _ _ _ _ _ us hl => match us, hl with | [_, _], _ => rfl, ml a_wave⟩
  have F_told_on := fun_mk (st := s_told_on) l_told_on c_told_on k_told_on
  have DX_told_on : Dx l.prog w K mg base 7 "told_on" _ (spTon C_Machine C_NoRun C_NoWord K) := ⟨_, _, ok_ton F_told_on DX_checked (D_are_words.mono (by decide)) E_NoWord (ml y_MOST_BEATS) (mn z_len), k_told_on, F_told_on.binds fun _ _ _ _ _ _ us hl => match us, hl with | [_, _, _], _ => rfl, ml a_told_on⟩
  have F_cut := fun_mk (st := s_cut) l_cut c_cut k_cut
  have DX_cut : Dx l.prog w K mg base 7 "cut" _ (spCut C_Machine C_NoRun C_NoNumber K) := ⟨_, _, ok_cut F_cut DX_checked (D_is_number.mono (by decide)) E_NoNumber (mn z_len), k_cut, F_cut.binds fun _ _ _ _ _ _ us hl => match us, hl with | [_, _, _], _ => rfl, ml a_cut⟩
  have F_law_door := fun_mk (st := s_law_door) l_law_door c_law_door k_law_door
  have DX_door : Dx l.prog w K mg base 9 "_law_door" _ (spDoor C_Machine C_NoRun C_NoWord C_NoNumber K) := ⟨_, _, ok_door F_law_door (DX_stands.mono (by decide)) (DX_fillings.mono (by decide)) DX_wave (DX_told_on.mono (by decide)) (DX_cut.mono (by decide)), k_law_door, F_law_door.binds fun _ _ _ _ _ _ us hl => match us, hl with | [_, _, _, _], _ => rfl, ml a_law_door⟩
  have T1 : L2.ExcC K C_NoRun := ⟨hg_NoRun, hk_NoRun, hs_NoRun, hd_NoRun, ha_NoRun, hn_NoRun, ht_NoRun, hm_NoRun⟩
  have T2 : L2.ExcC K C_NoWord := ⟨hg_NoWord, hk_NoWord, hs_NoWord, hd_NoWord, ha_NoWord, hn_NoWord, ht_NoWord, hm_NoWord⟩
  have T3 : L2.ExcC K C_NoNumber := ⟨hg_NoNumber, hk_NoNumber, hs_NoNumber, hd_NoNumber, ha_NoNumber, hn_NoNumber, ht_NoNumber, hm_NoNumber⟩
  have F_law_refusal := fun_mk (st := s_law_refusal) l_law_refusal c_law_refusal k_law_refusal
  have D_refusal : Df l.prog w K mg base 10 "_law_refusal" _ (spRefusal C_Machine C_NoRun C_NoWord C_NoNumber K) := ⟨_, _, ok_refusal F_law_refusal DX_door (ml a_KeptError) (ml a_NoRun) (ml a_NoWord) (ml a_NoNumber) (mn z_isinstance) (mn z_int) (mn z_ValueError) (mn z_ArithmeticError) ⟨x317, T1, x321, x322, x325⟩ ⟨x318, T2, x323, x324, x326⟩ ⟨x319, x320, T3, x327, x328⟩, k_law_refusal, F_law_refusal.binds fun _ _ _ _ _ _ us hl => match us, hl with | [_, _, _, _], _ => rfl, ml a_law_refusal⟩
  exact ok_law F_law (D_law_pool.mono (by decide)) (D_law_spec.mono (by decide)) (D_law_made.mono (by decide)) (D_law_run.mono (by decide)) (D_law_one.mono (by decide)) (D_law_words.mono (by decide)) (D_law_bent_run.mono (by decide)) (DG_law_is_run.mono (by decide)) D_refusal (mn z_len) (mn z_range) (mn z_max) (mn z_min) (mn z_list)

end K21
open PySem PySem.W PyProof.Rows
set_option maxHeartbeats 0 in
theorem PySem.Challenge.cw_keptclauses_k21_no_runs_holds : PySem.Challenge.rw_keptclauses_k21_no_runs.Holds := by
  w_on; o_law; k_head; (case hw => w_witness2)
  k_fill
  refine KL.walk_g (l := PySem.Challenge.rw_keptclauses_k21_no_runs) (n := 63) (k := 11) (x := "_law_script") (sp := K21.spLaw) rfl (by decide) rfl ⟨rfl, by decide, by decide⟩ (fun w h Y => PySem.W.kIn_of Y) ?F (fun _ _ a ns hl _ hS => ⟨a, ns, rfl, hS, hl, fun _ => rfl⟩)
  case F =>
    intro w mg fa h KX G hmg
    refine' K21.all_mk KX G hmg ?a_is_whole ?l_is_whole ?c_is_whole ?k_is_whole ?a_is_number ?l_is_number ?c_is_number ?k_is_number ?a_is_sign ?l_is_sign ?c_is_sign ?k_is_sign ?a_wrong_sign ?l_wrong_sign ?c_wrong_sign ?k_wrong_sign ?a_is_filling ?l_is_filling ?c_is_filling ?k_is_filling ?a_is_clause ?l_is_clause ?c_is_clause ?k_is_clause ?lT_is_clause ?a_says ?l_says ?c_says ?k_says ?a_holds ?l_holds ?c_holds ?k_holds ?a_both ?l_both ?c_both ?k_both ?a_either ?l_either ?c_either ?k_either ?a_just_one ?l_just_one ?c_just_one ?k_just_one ?a_all_fillings ?l_all_fillings ?c_all_fillings ?k_all_fillings ?a_is_gate ?l_is_gate ?c_is_gate ?k_is_gate ?a_is_promise ?l_is_promise ?c_is_promise ?k_is_promise ?a_check_numbers ?l_check_numbers ?c_check_numbers ?k_check_numbers ?a_check_gates ?l_check_gates ?c_check_gates ?k_check_gates ?a_check_nexts ?l_check_nexts ?c_check_nexts ?k_check_nexts ?a_check_starts ?l_check_starts ?c_check_starts ?k_check_starts ?a_check_promises ?l_check_promises ?c_check_promises ?k_check_promises ?a_words_under ?l_words_under ?c_words_under ?k_words_under ?a_is_beginning ?l_is_beginning ?c_is_beginning ?k_is_beginning ?a_are_words ?l_are_words ?c_are_words ?k_are_words ?a_is_run ?l_is_run ?c_is_run ?k_is_run ?a_checked ?l_checked ?c_checked ?k_checked ?a_stands ?l_stands ?c_stands ?k_stands ?a_fillings ?l_fillings ?c_fillings ?k_fillings ?a_wave ?l_wave ?c_wave ?k_wave ?a_told_on ?l_told_on ?c_told_on ?k_told_on ?a_cut ?l_cut ?c_cut ?k_cut ?a_law_pool ?l_law_pool ?c_law_pool ?k_law_pool ?a_law_take ?l_law_take ?c_law_take ?k_law_take ?a_law_signed ?l_law_signed ?c_law_signed ?k_law_signed ?a_law_all ?l_law_all ?c_law_all ?k_law_all ?a_law_some_signs ?l_law_some_signs ?c_law_some_signs ?k_law_some_signs ?a_law_by_thing ?l_law_by_thing ?c_law_by_thing ?k_law_by_thing ?a_law_pledges ?l_law_pledges ?c_law_pledges ?k_law_pledges ?a_law_spec ?l_law_spec ?c_law_spec ?k_law_spec ?a_law_made ?l_law_made ?c_law_made ?k_law_made ?a_law_says ?l_law_says ?c_law_says ?k_law_says ?a_law_clause_is ?l_law_clause_is ?c_law_clause_is ?k_law_clause_is ?a_law_words ?l_law_words ?c_law_words ?k_law_words ?a_law_begins ?l_law_begins ?c_law_begins ?k_law_begins ?a_law_one ?l_law_one ?c_law_one ?k_law_one ?a_law_run ?l_law_run ?c_law_run ?k_law_run ?a_law_is_run ?l_law_is_run ?c_law_is_run ?k_law_is_run ?a_law_bent_run ?l_law_bent_run ?c_law_bent_run ?k_law_bent_run ?a_law_door ?l_law_door ?c_law_door ?k_law_door ?a_law_refusal ?l_law_refusal ?c_law_refusal ?k_law_refusal ?a_law ?l_law ?c_law ?k_law ?z_len ?z_range ?z_max ?z_min ?z_repr ?z_isinstance ?z_int ?z_bool ?z_tuple ?z_list ?z_str ?z_abs ?z_sorted ?z_enumerate ?z_set ?z_all ?z_any ?z_ValueError ?z_ArithmeticError ?a_Machine ?pg_Machine ?hdc_Machine ?po_Machine ?sat_Machine ?mk_Machine ?kc_Machine ?fn_Machine_coming ?fn_Machine_box_count ?fn_Machine_input_count ?fn_Machine_gate_list ?fn_Machine_next_signs ?fn_Machine_start_signs ?fn_Machine_promise_list ?fn_Machine_things ?i_Machine___init__ ?is_Machine___init__ ?l_Machine___init__ ?c_Machine___init__ ?k_Machine___init__ ?kd_Machine___init___starts ?kt_Machine___init___starts ?kd_Machine___init___promises ?kt_Machine___init___promises ?i_Machine___len__ ?is_Machine___len__ ?l_Machine___len__ ?c_Machine___len__ ?k_Machine___len__ ?i_Machine_boxes ?is_Machine_boxes ?l_Machine_boxes ?c_Machine_boxes ?k_Machine_boxes ?i_Machine_starts ?is_Machine_starts ?l_Machine_starts ?c_Machine_starts ?k_Machine_starts ?i_Machine_is_word ?is_Machine_is_word ?l_Machine_is_word ?c_Machine_is_word ?k_Machine_is_word ?i_Machine_filling ?is_Machine_filling ?l_Machine_filling ?c_Machine_filling ?k_Machine_filling ?i_Machine_behind ?is_Machine_behind ?l_Machine_behind ?c_Machine_behind ?k_Machine_behind ?a_RECKONINGS ?ld_RECKONINGS ?lit_RECKONINGS ?low_RECKONINGS ?r_RECKONINGS_and ?r_RECKONINGS_or ?r_RECKONINGS_odd ?a_KeptError ?a_NoRun ?a_NoWord ?a_NoNumber ?xq_NoRun ?xk_NoRun ?xb_NoRun ?xt_NoRun ?xq_NoWord ?xk_NoWord ?xb_NoWord ?xt_NoWord ?xq_NoNumber ?xk_NoNumber ?xb_NoNumber ?xt_NoNumber ?hg_NoRun ?hk_NoRun ?hs_NoRun ?hd_NoRun ?ha_NoRun ?hn_NoRun ?ht_NoRun ?hm_NoRun ?hg_NoWord ?hk_NoWord ?hs_NoWord ?hd_NoWord ?ha_NoWord ?hn_NoWord ?ht_NoWord ?hm_NoWord ?hg_NoNumber ?hk_NoNumber ?hs_NoNumber ?hd_NoNumber ?ha_NoNumber ?hn_NoNumber ?ht_NoNumber ?hm_NoNumber ?x317 ?x318 ?x319 ?x320 ?x321 ?x322 ?x323 ?x324 ?x325 ?x326 ?x327 ?x328 ?y_MOST_THINGS ?y_MOST_BOXES ?y_MOST_INPUTS ?y_MOST_GATES ?y_MOST_PROMISES ?y_MOST_BEATS
    (case a_is_whole => k_is); (case l_is_whole => k_is); (case c_is_whole => k_is); (case k_is_whole => k_is); (case a_is_number => k_is); (case l_is_number => k_is); (case c_is_number => k_is); (case k_is_number => k_is); (case a_is_sign => k_is); (case l_is_sign => k_is); (case c_is_sign => k_is); (case k_is_sign => k_is); (case a_wrong_sign => k_is); (case l_wrong_sign => k_is); (case c_wrong_sign => k_is); (case k_wrong_sign => k_is); (case a_is_filling => k_is); (case l_is_filling => k_is); (case c_is_filling => k_is); (case k_is_filling => k_is); (case a_is_clause => k_is); (case l_is_clause => k_is); (case c_is_clause => k_is); (case k_is_clause => k_is); (case lT_is_clause => k_is); (case a_says => k_is); (case l_says => k_is); (case c_says => k_is); (case k_says => k_is); (case a_holds => k_is); (case l_holds => k_is); (case c_holds => k_is); (case k_holds => k_is); (case a_both => k_is); (case l_both => k_is); (case c_both => k_is); (case k_both => k_is); (case a_either => k_is); (case l_either => k_is); (case c_either => k_is); (case k_either => k_is); (case a_just_one => k_is); (case l_just_one => k_is); (case c_just_one => k_is); (case k_just_one => k_is); (case a_all_fillings => k_is); (case l_all_fillings => k_is); (case c_all_fillings => k_is); (case k_all_fillings => k_is); (case a_is_gate => k_is); (case l_is_gate => k_is); (case c_is_gate => k_is); (case k_is_gate => k_is); (case a_is_promise => k_is); (case l_is_promise => k_is); (case c_is_promise => k_is); (case k_is_promise => k_is); (case a_check_numbers => k_is); (case l_check_numbers => k_is); (case c_check_numbers => k_is); (case k_check_numbers => k_is); (case a_check_gates => k_is); (case l_check_gates => k_is); (case c_check_gates => k_is); (case k_check_gates => k_is); (case a_check_nexts => k_is); (case l_check_nexts => k_is); (case c_check_nexts => k_is); (case k_check_nexts => k_is); (case a_check_starts => k_is); (case l_check_starts => k_is); (case c_check_starts => k_is); (case k_check_starts => k_is); (case a_check_promises => k_is); (case l_check_promises => k_is); (case c_check_promises => k_is); (case k_check_promises => k_is); (case a_words_under => k_is); (case l_words_under => k_is); (case c_words_under => k_is); (case k_words_under => k_is); (case a_is_beginning => k_is); (case l_is_beginning => k_is); (case c_is_beginning => k_is); (case k_is_beginning => k_is); (case a_are_words => k_is); (case l_are_words => k_is); (case c_are_words => k_is); (case k_are_words => k_is); (case a_is_run => k_is); (case l_is_run => k_is); (case c_is_run => k_is); (case k_is_run => k_is); (case a_checked => k_is); (case l_checked => k_is); (case c_checked => k_is); (case k_checked => k_is); (case a_stands => k_is); (case l_stands => k_is); (case c_stands => k_is); (case k_stands => k_is); (case a_fillings => k_is); (case l_fillings => k_is); (case c_fillings => k_is); (case k_fillings => k_is); (case a_wave => k_is); (case l_wave => k_is); (case c_wave => k_is); (case k_wave => k_is); (case a_told_on => k_is); (case l_told_on => k_is); (case c_told_on => k_is); (case k_told_on => k_is); (case a_cut => k_is); (case l_cut => k_is); (case c_cut => k_is); (case k_cut => k_is); (case a_law_pool => k_is); (case l_law_pool => k_is); (case c_law_pool => k_is); (case k_law_pool => k_is); (case a_law_take => k_is); (case l_law_take => k_is); (case c_law_take => k_is); (case k_law_take => k_is); (case a_law_signed => k_is); (case l_law_signed => k_is); (case c_law_signed => k_is); (case k_law_signed => k_is); (case a_law_all => k_is); (case l_law_all => k_is); (case c_law_all => k_is); (case k_law_all => k_is); (case a_law_some_signs => k_is); (case l_law_some_signs => k_is); (case c_law_some_signs => k_is); (case k_law_some_signs => k_is); (case a_law_by_thing => k_is); (case l_law_by_thing => k_is); (case c_law_by_thing => k_is); (case k_law_by_thing => k_is); (case a_law_pledges => k_is); (case l_law_pledges => k_is); (case c_law_pledges => k_is); (case k_law_pledges => k_is); (case a_law_spec => k_is); (case l_law_spec => k_is); (case c_law_spec => k_is); (case k_law_spec => k_is); (case a_law_made => k_is); (case l_law_made => k_is); (case c_law_made => k_is); (case k_law_made => k_is); (case a_law_says => k_is); (case l_law_says => k_is); (case c_law_says => k_is); (case k_law_says => k_is); (case a_law_clause_is => k_is); (case l_law_clause_is => k_is); (case c_law_clause_is => k_is); (case k_law_clause_is => k_is); (case a_law_words => k_is); (case l_law_words => k_is); (case c_law_words => k_is); (case k_law_words => k_is); (case a_law_begins => k_is); (case l_law_begins => k_is); (case c_law_begins => k_is); (case k_law_begins => k_is); (case a_law_one => k_is); (case l_law_one => k_is); (case c_law_one => k_is); (case k_law_one => k_is); (case a_law_run => k_is); (case l_law_run => k_is); (case c_law_run => k_is); (case k_law_run => k_is); (case a_law_is_run => k_is); (case l_law_is_run => k_is); (case c_law_is_run => k_is); (case k_law_is_run => k_is); (case a_law_bent_run => k_is); (case l_law_bent_run => k_is); (case c_law_bent_run => k_is); (case k_law_bent_run => k_is); (case a_law_door => k_is); (case l_law_door => k_is); (case c_law_door => k_is); (case k_law_door => k_is); (case a_law_refusal => k_is); (case l_law_refusal => k_is); (case c_law_refusal => k_is); (case k_law_refusal => k_is); (case a_law => k_is); (case l_law => k_is); (case c_law => k_is); (case k_law => k_is); (case z_len => k_is); (case z_range => k_is); (case z_max => k_is); (case z_min => k_is); (case z_repr => k_is); (case z_isinstance => k_is); (case z_int => k_is); (case z_bool => k_is); (case z_tuple => k_is); (case z_list => k_is); (case z_str => k_is); (case z_abs => k_is); (case z_sorted => k_is); (case z_enumerate => k_is); (case z_set => k_is); (case z_all => k_is); (case z_any => k_is); (case z_ValueError => k_is); (case z_ArithmeticError => k_is); (case a_Machine => k_is); (case pg_Machine => k_is); (case hdc_Machine => k_is); (case po_Machine => k_is); (case sat_Machine => k_is); (case mk_Machine => k_is); (case kc_Machine => k_is); (case fn_Machine_coming => k_is); (case fn_Machine_box_count => k_is); (case fn_Machine_input_count => k_is); (case fn_Machine_gate_list => k_is); (case fn_Machine_next_signs => k_is); (case fn_Machine_start_signs => k_is); (case fn_Machine_promise_list => k_is); (case fn_Machine_things => k_is); (case i_Machine___init__ => k_is); (case is_Machine___init__ => k_is); (case l_Machine___init__ => k_is); (case c_Machine___init__ => k_is); (case k_Machine___init__ => k_is); (case kd_Machine___init___starts => k_is); (case kt_Machine___init___starts => k_is); (case kd_Machine___init___promises => k_is); (case kt_Machine___init___promises => k_is); (case i_Machine___len__ => k_is); (case is_Machine___len__ => k_is); (case l_Machine___len__ => k_is); (case c_Machine___len__ => k_is); (case k_Machine___len__ => k_is); (case i_Machine_boxes => k_is); (case is_Machine_boxes => k_is); (case l_Machine_boxes => k_is); (case c_Machine_boxes => k_is); (case k_Machine_boxes => k_is); (case i_Machine_starts => k_is); (case is_Machine_starts => k_is); (case l_Machine_starts => k_is); (case c_Machine_starts => k_is); (case k_Machine_starts => k_is); (case i_Machine_is_word => k_is); (case is_Machine_is_word => k_is); (case l_Machine_is_word => k_is); (case c_Machine_is_word => k_is); (case k_Machine_is_word => k_is); (case i_Machine_filling => k_is); (case is_Machine_filling => k_is); (case l_Machine_filling => k_is); (case c_Machine_filling => k_is); (case k_Machine_filling => k_is); (case i_Machine_behind => k_is); (case is_Machine_behind => k_is); (case l_Machine_behind => k_is); (case c_Machine_behind => k_is); (case k_Machine_behind => k_is); (case a_RECKONINGS => k_is); (case ld_RECKONINGS => k_is); (case lit_RECKONINGS => exact ⟨⟨_, _, rfl, rfl⟩, ⟨_, _, rfl, rfl⟩, ⟨_, _, rfl, rfl⟩,  trivial⟩); (case low_RECKONINGS => decide); (case r_RECKONINGS_and => k_is); (case r_RECKONINGS_or => k_is); (case r_RECKONINGS_odd => k_is); (case a_KeptError => k_is); (case a_NoRun => k_is); (case a_NoWord => k_is); (case a_NoNumber => k_is); (case xq_NoRun => kernel_rfl); (case xk_NoRun => k_is); (case xb_NoRun => k_is); (case xt_NoRun => k_is); (case xq_NoWord => kernel_rfl); (case xk_NoWord => k_is); (case xb_NoWord => k_is); (case xt_NoWord => k_is); (case xq_NoNumber => kernel_rfl); (case xk_NoNumber => k_is); (case xb_NoNumber => k_is); (case xt_NoNumber => k_is); (case hg_NoRun => k_is); (case hk_NoRun => k_is); (case hs_NoRun => k_is); (case hd_NoRun => k_is); (case ha_NoRun => k_is); (case hn_NoRun => k_is); (case ht_NoRun => k_is); (case hm_NoRun => k_is); (case hg_NoWord => k_is); (case hk_NoWord => k_is); (case hs_NoWord => k_is); (case hd_NoWord => k_is); (case ha_NoWord => k_is); (case hn_NoWord => k_is); (case ht_NoWord => k_is); (case hm_NoWord => k_is); (case hg_NoNumber => k_is); (case hk_NoNumber => k_is); (case hs_NoNumber => k_is); (case hd_NoNumber => k_is); (case ha_NoNumber => k_is); (case hn_NoNumber => k_is); (case ht_NoNumber => k_is); (case hm_NoNumber => k_is); (case x317 => kernel_rfl); (case x318 => kernel_rfl); (case x319 => kernel_rfl); (case x320 => kernel_rfl); (case x321 => kernel_rfl); (case x322 => kernel_rfl); (case x323 => kernel_rfl); (case x324 => kernel_rfl); (case x325 => kernel_rfl); (case x326 => kernel_rfl); (case x327 => kernel_rfl); (case x328 => kernel_rfl); (case y_MOST_THINGS => k_is); (case y_MOST_BOXES => k_is); (case y_MOST_INPUTS => k_is); (case y_MOST_GATES => k_is); (case y_MOST_PROMISES => k_is); (case y_MOST_BEATS => k_is)
