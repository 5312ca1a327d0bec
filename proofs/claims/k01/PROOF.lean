import PyProof.Rows.All
import Wide.All
import OpenK.AllK
import Wide.FinOn
import PyProof.ReprRoads
import PyProof.ReprLen
import KE.KRevSl
import HandS.Base
import HandS.Call
import HandS.List
import HandS.Words
import HandS.Ends
import HandS.WordsList
import HandS.ForMost
import HandS.Wide
import HandS.IsInst
import HandS.TupAny
import HandS.Defaults
import HandS.Codes
import PySem.Challenge.RW_keptclauses_k01_clauses_or_none
set_option Elab.async false
set_option linter.all false
set_option maxRecDepth 100000
set_option maxHeartbeats 4000000
namespace KL
open PySem PySem.Spec PyProof.Rows L2
section
variable {prog : Program} {w : World} {A : Around} {E : Value → Shared → Prop} {s : Shared}
/-! a tuple read backwards: t[::-1] -/
theorem adj_back (n : Nat) : Builtin.Slice.sliceAdjust none none (-1) (n : Int) = ((n : Int) - 1, -1) := by
  unfold Builtin.Slice.sliceAdjust
  simp
theorem plc_back (n : Nat) : Builtin.Slice.slicePlaces ((n : Int) - 1) (-1) (-1) = n := by
  unfold Builtin.Slice.slicePlaces
  have h1 : ¬ ((-1 : Int) > 0) := by omega
  simp only [h1, if_false]
  split
  · simp
  · omega
theorem fm_map {α β : Type} {f : α → Option β} {g : α → β} : ∀ l : List α, (∀ k ∈ l, f k = some (g k)) → l.filterMap f = l.map g
  | [], _ => rfl
  | x :: l, h => by
    rw [List.filterMap_cons, h x List.mem_cons_self, fm_map l fun k hk => h k (List.mem_cons_of_mem _ hk)]
    rfl
theorem pick_back (xs : List Value) : ((List.range xs.length).filterMap fun (k : Nat) => xs.toArray[((xs.length : Int) - 1 + (k : Int) * -1).toNat]?) = xs.reverse := by
  have e := fm_map (f := fun (k : Nat) => xs.toArray[((xs.length : Int) - 1 + (k : Int) * -1).toNat]?) (g := fun k => (xs[xs.length - 1 - k]?).getD .none) (List.range xs.length) fun k hk => by
    have hk' := List.mem_range.mp hk
    have ei : ((xs.length : Int) - 1 + (k : Int) * -1).toNat = xs.length - 1 - k := by omega
    show xs.toArray[((xs.length : Int) - 1 + (k : Int) * -1).toNat]? = _
    rw [ei, List.getElem?_toArray]
    have hb : xs.length - 1 - k < xs.length := by omega
    rw [List.getElem?_eq_getElem hb]
    rfl
  rw [e]
  apply List.ext_getElem?
  intro i
  rw [List.getElem?_map]
  by_cases hi : i < xs.length
  · rw [List.getElem?_range hi, List.getElem?_reverse hi]
    show some ((xs[xs.length - 1 - i]?).getD .none) = _
    rw [List.getElem?_eq_getElem (show xs.length - 1 - i < xs.length by omega)]
    rfl
  · rw [List.getElem?_eq_none (by simpa using hi), List.getElem?_eq_none (by simpa using hi)]
    rfl
theorem app_back {sl : Addr} {vk : Value} {n : Nat} {Q : Int × Int × Nat → Shared → Prop} (hs : s.heap.IsSliceOf sl .none .none vk) (pk : IsPart vk (some (-1)))
    (h : Q ((n : Int) - 1, -1, n) s) : wpAny (model prog w) A (Builtin.Slice.sliceApplied (.ref sl) (pure (n : Int))) Q E s := by
  obtain ⟨o, ho, hc, hd⟩ := id hs
  unfold Builtin.Slice.sliceApplied Builtin.Slice.sliceFields
  refine wpAny_bind (wpAny_bind (wpAny_field ho hd (x := .none) rfl (wpAny_bind (wpAny_field ho hd (x := .none) rfl
    (wpAny_bind (wpAny_field ho hd (x := vk) rfl (wpAny_pure ?_)))))))
  cases pk with
  | int i t =>
    refine wpAny_bind (slicePart_int ?_)
    show wpAny _ _ (if ((-1 : Int) == 0) = true then _ else _) _ _ s
    rw [if_neg (by decide)]
    refine wpAny_bind (slicePart_none (wpAny_bind (slicePart_none (wpAny_bind (wpAny_pure ?_)))))
    show wpAny _ _ (match Builtin.Slice.sliceAdjust none none (-1) (n : Int) with | (lo, hi) => pure (lo, (-1 : Int), Builtin.Slice.slicePlaces lo hi (-1))) _ _ s
    rw [adj_back n]
    show wpAny _ _ (pure ((n : Int) - 1, (-1 : Int), Builtin.Slice.slicePlaces ((n : Int) - 1) (-1) (-1))) _ _ s
    rw [plc_back]
    exact wpAny_pure h
theorem tup_back {t sl : Addr} {its : List Value} {vk : Value} {Q : Value → Shared → Prop} (ht : IsTup s.heap t its.toArray) (hs : s.heap.IsSliceOf sl .none .none vk) (pk : IsPart vk (some (-1)))
    (h : Q (.ref s.heap.objs.size) { s with heap := s.heap.push { cls := .type "tuple", data := .seq its.reverse.toArray } })
    (hz : its.length ≤ sizeLine) : wpAny (model prog w) A (getItem (.ref t) (.ref sl)) Q E s := by
  have hok : sizeOk (.seq its.reverse.toArray) := by
    show its.reverse.toArray.size ≤ sizeLine
    rw [List.size_toArray, List.length_reverse]
    exact hz
  obtain ⟨o, ho, hc, hd⟩ := id hs
  have hT : s.TypeIs (.ref sl) "slice" := ⟨o, ho, hc⟩
  unfold getItem
  try with_reducible refine wpAny_holding ?_
  first | refine wpAny_bind (wpAny_pure ?_) | skip
  refine wpAny_bind (wpAny_sequenceKey ht.typeIs (by decide) ?_)
  refine wpAny_bind (wpAny_callSpecial?_slot (name := Str.ofString "__getitem__") ht.typeIs slot_tuple_getitem (wpAny_call_entry slot_tuple_getitem ht.typeIs entry_tuple_getitem ?_ (args_tuple_getitem _ _)))
  show wpAny _ _ (Builtin.Tuple.tupleItemsOf (.ref t) >>= _) _ _ s
  refine wpAny_bind (tupleItemsOf_ ht ?_)
  refine wpAny_bind (wpAny_typeOf hT ?_)
  rw [if_pos (by decide)]
  rw [List.size_toArray]
  refine wpAny_bind (app_back hs pk ?_)
  have hno : ¬ ((((its.length : Int) - 1) == 0 && (-1 : Int) == 1 && its.length == its.length) = true) := by simp
  show wpAny _ _ (if (((its.length : Int) - 1) == 0 && (-1 : Int) == 1 && its.length == its.length) = true then _ else _) _ _ s
  rw [if_neg hno, pick_back its]
  first
    | exact wpAny_bind (m := Builtin.Tuple.tupleExact _) (wpAny_newObj_type (wpAny_pure ⟨_, rfl, wpAny_pure h⟩) hok)
    | exact wpAny_bind (m := Builtin.Tuple.tupleExact _) (wpAny_newObj_type (wpAny_bind (wpAny_pure (wpAny_pure ⟨_, rfl, wpAny_pure h⟩))) hok)
    | exact wpAny_bind (wpAny_bind (m := Builtin.Tuple.tupleExact _) (wpAny_newObj_type (wpAny_pure (wpAny_pure ⟨_, rfl, wpAny_pure h⟩)) hok))
    | exact wpAny_bind (wpAny_bind (m := Builtin.Tuple.tupleExact _) (wpAny_newObj_type (wpAny_pure ⟨_, rfl, wpAny_pure h⟩) hok))
end
section
variable {X : Cx}
def tRevT (K : PySem.W.Frag) (te : TE) : TE := fun σ H Q => te σ H fun x H1 => ∃ a xs, x = .ref a ∧ SqT K H1 a xs ∧ ∀ p, H1 p = none → Q (.ref p) (upd H1 p (.tup xs.reverse))
theorem pe_revT {e : Expr} {te : TE} {k : Nat} {p1 p2 p3 pos : Pos} (he : PE X e te) :
    PE X (.Subscript e (.Slice none none (some (.UnaryOp .USub (.Constant (.int 1) k p1) p2)) p3) pos) (tRevT X.K te) := by
  refine ⟨fun pins s σ H Q I h => ?_⟩
  refine Subscript_ (thn (he.run pins s σ H _ I h) fun v s1 ⟨x, H1, I1, r1, a, xs, ex, hx, q⟩ => ?_)
  subst ex
  cases r1
  have pm : PO X (some (.UnaryOp .USub (.Constant (.int 1) k p1) p2)) (tPart (tUn (rU fun i => .int (-i)) (tC (.int 1)))) := po_some (pe_un un_neg pe_int)
  refine wpAny_Slice (thn (po_none.run pins s1 σ H1 (fun o G => o = none ∧ G = H1) I1 ⟨rfl, rfl⟩) fun vl s2 ⟨l, G2, I2, pl, el, e2⟩ => ?_)
  subst el e2
  refine thn (po_none.run pins s2 σ G2 (fun o G => o = none ∧ G = G2) I2 ⟨rfl, rfl⟩) fun vu s3 ⟨u, G3, I3, pu, eu, e3⟩ => ?_
  subst eu e3
  refine thn (pm.run pins s3 σ G3 (fun o G => o = some (-1) ∧ G = G3) I3 ⟨1, rfl, -1, rfl, rfl, rfl⟩) fun vs s4 ⟨o, G4, I4, ps, eo, e4⟩ => ?_
  subst eo e4
  cases pl
  cases pu
  have I5 : Inv X pins σ G4 { s4 with heap := s4.heap.push { cls := .type "slice", data := .fields #[.none, .none, vs] } } := I4.kept (t' := s4.toks) fun b ob q => Heap.get?_push_of_some _ q
  obtain ⟨its, r, ht, hz⟩ := I5.tuple hx
  have hlen := r.length
  show wpAny (model X.prog X.w) X.A (subscriptTail e (.Slice none none (some (.UnaryOp .USub (.Constant (.int 1) k p1) p2)) p3) (.ref a) (.ref s4.heap.objs.size)) (EP X pins σ Q) X.xe
    { s4 with heap := s4.heap.push { cls := .type "slice", data := .fields #[.none, .none, vs] } }
  refine tail_any (ops := [.ref a, .ref s4.heap.objs.size]) ht.typeIs slot_tuple_getitem.lookup ?_ (by with_unfolding_all rfl)
  refine tup_back ht (Heap.IsSliceOf.new _ .none .none vs) ps ?_ (by omega)
  refine ⟨.ref _, _, I5.laid (t' := s4.toks) (o := .tup xs.reverse) (fun b ob q => Heap.get?_push_of_some _ q) (Nat.le_refl _) ?_, rfl, q _ (I5.hok.fresh (Nat.le_refl _))⟩
  exact ⟨by rw [List.length_reverse]; exact hz, _, r.reverse, _, Heap.get?_push_size _ rfl, rfl, 0, rfl⟩
/-! repr of data -/
def rRep (K : PySem.W.Frag) : List V → Hp → VK → Prop := fun xs H Q => ∃ x d, xs = [x] ∧ Dp K H x d ∧ d.showable = true ∧ d.depth ≤ 60 ∧ d.shown.length ≤ sizeLine ∧ Q (.str d.shown) H
mutual
theorem noDict {K : PySem.W.Frag} {H : Hp} : ∀ (d : PyData) (x : V), Dp K H x d → d.hasDict = false
  | .none, _, _ | .bool _, _, _ | .int _, _, _ | .str _, _, _ => by unfold PyData.hasDict; rfl
  | .list ds, _, h => by
    cases h with
    | lst _ a => unfold PyData.hasDict; exact noDicts ds _ a
  | .tuple ds, _, h => by
    cases h with
    | tup _ a => unfold PyData.hasDict; exact noDicts ds _ a
  | .dict _, _, h => by cases h
theorem noDicts {K : PySem.W.Frag} {H : Hp} : ∀ (ds : List PyData) (xs : List V), DpAll K H xs ds → PyData.hasDictAll ds = false
  | [], _, _ => by unfold PyData.hasDictAll; rfl
  | d :: ds, _, h => by
    cases h with
    | cons h1 h2 => unfold PyData.hasDictAll; rw [noDict d _ h1, noDicts ds _ h2]; rfl
end
theorem call_rep (hg : X.A.guards = some []) (hu : X.A.units + 64 < cLine) : CallR X (.builtin "repr") (rRep X.K) := by
  intro pins s σ H xs us Q I r h
  obtain ⟨x, d, rfl, hd, hs, hdp, hz, q⟩ := h
  obtain ⟨u, rfl, ru⟩ := vals1 r
  obtain ⟨as, hr⟩ := Dp.reads I d x u hd ru
  have nd := noDict d x hd
  cases hd with
  | non =>
    cases (show u = Value.none from ru)
    exact PySem.P.repr_of_none ⟨.str _, H, I.tok _, ⟨_, rfl⟩, q⟩
  | bl b =>
    cases (show u = Value.bool b from ru)
    exact PySem.P.repr_of_bool ⟨.str _, H, I.tok _, ⟨_, rfl⟩, q⟩
  | int i =>
    obtain ⟨t, rfl⟩ := ru
    exact PySem.P.repr_of_int (of_decide_eq_true hs) ⟨.str _, H, I.tok _, ⟨_, rfl⟩, q⟩
  | str y =>
    obtain ⟨t, rfl⟩ := ru
    exact PySem.P.repr_of_str ⟨.str _, H, I.tok _, ⟨_, rfl⟩, q⟩ hz
  | lst _ _ =>
    cases (show u = Value.ref _ from ru)
    exact repr_of_reads' hr hs (fun z => absurd z (by rw [nd]; exact Bool.false_ne_true)) hg (by omega) (fun _ _ e => e)
      (fun h' t tk k => ⟨.str _, H, I.kept (t' := tk) k, ⟨t, rfl⟩, q⟩) hz
  | tup _ _ =>
    cases (show u = Value.ref _ from ru)
    exact repr_of_reads' hr hs (fun z => absurd z (by rw [nd]; exact Bool.false_ne_true)) hg (by omega) (fun _ _ e => e)
      (fun h' t tk k => ⟨.str _, H, I.kept (t' := tk) k, ⟨t, rfl⟩, q⟩) hz
end
end KL
namespace KL
open PySem PySem.Spec PyProof.Rows L2
/-- a def's promise where nothing is being shown by repr around it -/
structure GFn (P : Program) (w : World) (K : PySem.W.Frag) (mg : Str → Option Value) (base : Heap) (CX : CXT) (k : Nat) (f : Addr) (fd : FuncData) (ps : List Str) (sp : Sp) : Prop where
  len : ∀ vs H Q E, sp vs H Q E → vs.length = ps.length
  go : ∀ (A : Around), A.guards = some [] → Room k A → ∀ (outer : List Env) (s : Shared) (H : Hp) (args : Args) (us : List Value) (vs : List V) (Q : VK) (E : XK),
    Env0 P w K mg base A outer s H → BindsTo s fd args (ps.zip us) → Vals vs us → sp vs H Q E → codeAny (model P w) A (.call (.ref f) args) (CR CX outer P w H s Q E) s
section
variable {P : Program} {w : World} {K : PySem.W.Frag} {mg : Str → Option Value} {base : Heap} {CX : CXT} {k : Nat} {f : Addr} {fd : FuncData} {ps : List Str} {sp : Sp}
theorem GFn.of (F : FnOk P w K mg base CX k f fd ps sp) : GFn P w K mg base CX k f fd ps sp :=
  ⟨F.len, fun A _ hr outer s H args us vs Q E e b r h => F.run A outer s H args us vs Q E hr e b r h⟩
/-- a def of the text by its body -/
theorem gfn {x qual : Str} {st : Stmt} {N : List Str} (F : Fun K x qual st f fd) (S : FnScope N ps (defScope st)) (len : ∀ vs H Q E, sp vs H Q E → vs.length = ps.length)
    (body : ∀ (cdv : Value) (A : Around), A.guards = some [] → ∀ (outer : List Env) (s : Shared) (H : Hp) (vs : List V) (Q : VK) (E : XK), Room k (A.deeper (envOfC qual (defScope st) s.heap.objs.size f cdv)) → sp vs H Q E →
      ∃ t, PSs (cxOf CX P w K mg base N qual (defScope st) f cdv A outer s H E) (defBody st) t ∧ t { nx := fun _ G => Q .non G, rt := Q } (start N vs) H) :
    GFn P w K mg base CX (k + 1) f fd ps sp := by
  obtain ⟨oc, od, kV, doc, pm, an, cdv, ct, osl, rfl, lk, hcd⟩ := F.ex
  refine ⟨len, fun A hg hr outer s H args us vs Q E e0 hb r hsp => ?_⟩
  have hl := len _ _ _ _ hsp
  have up : ∀ b o, base.get? b = some o → s.heap.get? b = some o := fun b o e => (e0.bs b o e).1
  have KX : K.In s.heap := e0.mod.kin.keeps up
  have lim : s.heap.NoLimit := e0.mod.nolimit.keeps up
  have kinds : ∀ y ∈ ps.zip us, (defScope st).names.lookup y.1 = some .local ∨
      ((defScope st).names.lookup y.1 = some .cell ∧ ((cellsFrom (s.heap.objs.size + 1) (defScope st).names []).lookup y.1).isSome = true) := by
    rintro ⟨n, v⟩ hy
    cases S.par n (List.of_mem_zip hy).1 with
    | inl q => exact .inl q
    | inr q => exact .inr ⟨q, PySem.W.cellsFrom_some _ _ _ (.inl q)⟩
  refine codeAny_call_function hr.depth (KX _ _ lk) rfl S.co S.gen rfl (PySem.W.codeRec_of KX hcd) (hb _ _ _ _ ?_)
  refine wpAny_newFunctionEnv_cells S.kind kinds fun env he s1 x => ?_
  subst he
  refine ⟨lim.keeps x.toInCall.keep, codeAny_func ?_⟩
  obtain ⟨t, ht, hq⟩ := body cdv A hg outer s H vs Q E (hr.deeper _) hsp
  have I := inv_start (CX := CX) (E := E) S hr.hd e0 hl r x
  refine wpAny_mono (ht.run [] s1 (start N vs) H _ I hq) (fun fl s' hs => ?_) fun e s' hs => hs
  have ends : ∀ {σ' : L2.St} {H' : Hp} {v : V} {u : Value}, Inv (cxOf CX P w K mg base N qual (defScope st) f cdv A outer s H E) [] σ' H' s' → RelV v u → Q v H' → CE outer P w H s Q u s' :=
    fun J rv q => ⟨_, _, J.os, J.bare, J.base, J.hok, rv, q⟩
  match fl, hs with
  | .ret u, ⟨v, σ', H', J, rv, q⟩ => exact ends J rv q
  | .next, ⟨σ', H', J, q⟩ => exact ends (v := V.non) (u := Value.none) J rfl q
  | .brk, ⟨_, _, _, q⟩ => exact False.elim q
  | .cont, ⟨_, _, _, q⟩ => exact False.elim q
/-- no exception leaves it -/
theorem gfn0 {x qual : Str} {st : Stmt} {N : List Str} (F : Fun K x qual st f fd) (S : FnScope N ps (defScope st)) (len : ∀ vs H Q E, sp vs H Q E → vs.length = ps.length)
    (body : ∀ (cdv : Value) (A : Around), A.guards = some [] → ∀ (outer : List Env) (s : Shared) (H : Hp) (vs : List V) (Q : VK) (E : XK), Room k (A.deeper (envOfC qual (defScope st) s.heap.objs.size f cdv)) → sp vs H Q E →
      ∃ t, PSs (cxOf CX0 P w K mg base N qual (defScope st) f cdv A outer s H E).nox (defBody st) t ∧ t { nx := fun _ G => Q .non G, rt := Q } (start N vs) H) :
    GFn P w K mg base CX0 (k + 1) f fd ps sp :=
  gfn F S len fun cdv A hg outer s H vs Q E hr h => let ⟨t, h1, h2⟩ := body cdv A hg outer s H vs Q E hr h; ⟨t, h1.nox, h2⟩
end
section
variable {X : Cx} {CX : CXT} {k : Nat} {f : Addr} {fd : FuncData} {ps : List Str} {sp : Sp} {E : XK} {ds : List Value} {dvs : List V}
theorem run_g {pins : List (Addr × Obj)} {σ : L2.St} {H : Hp} {s : Shared} {Q : VK} {us : List Value} {vs : List V} (F : GFn X.prog X.w X.K X.mg X.base CX k f fd ps sp) (hg : X.A.guards = some []) (hr : Room k X.A)
    (hb : Binds X.K fd ps ds) (hd : Vals dvs ds) (hx : Passes CX X E) (I : Inv X pins σ H s) (r : Vals vs us) (h : sp (vs ++ dvs) H Q E) : wpAny (model X.prog X.w) X.A (call (.ref f) us) (EP X pins σ Q) X.xe s := by
  have r2 : Vals (vs ++ dvs) (us ++ ds) := r.append hd
  have hl : (us ++ ds).length = ps.length := r2.length ▸ F.len _ _ _ _ h
  refine wpAny_call (codeAny_mono (F.go X.A hg hr X.stack s H ⟨us, []⟩ (us ++ ds) (vs ++ dvs) Q E I.env0 (hb s us I.kIn hl) r2 h) ?_)
  intro r s' hq
  match r, hq with
  | .error e, hq => exact hx pins σ H s e s' I hq
  | .ok (.ret u), hq => exact I.after hq
  | .ok .next, hq | .ok .brk, hq | .ok .cont, hq => exact False.elim hq
theorem pe_callG {x : Str} {p pos : Pos} {e : Expr} {es : List Expr} {t : TA} (F : GFn X.prog X.w X.K X.mg X.base CX k f fd ps sp) (gu : X.A.guards = some []) (hr : Room k X.A) (hg : Gl X x) (hm : X.mg x = some (.ref f))
    (hk : PySem.W.keepIn X.K (.ref f) = true) (hb : Binds X.K fd ps ds) (hd : Vals dvs ds) (hx : Passes CX X E) (ha : PA X (e :: es) t) (hdb : (x == ("__debug__" : Str)) = false := by decide)
    (he : starEach (e :: es) X.env = (false, eval e X.env) :: starEach es X.env := by rfl) (hpl : (backTo pos (starEach es X.env)).any (·.1) = false := by rfl) :
    PE X (.Call (.Name x p) (e :: es) [] pos) (tCall sp dvs E t) :=
  ⟨fun pins s σ H Q I h => wpAny_Call_Name_kw (ld_glob I hg hm (PySem.W.callWith_K (h₀ := X.base) I.ok.mod.kin hk
    (thn (ha.run pos pins s σ H _ I h) fun us s1 ⟨vs, H1, I1, r, q⟩ => ⟨I1.kIn, run_g F gu hr hb hd hx I1 r q⟩) he hpl) hdb)⟩
end
/-- from the law's promise to the call of the law -/
theorem law_g {P : Program} {w : World} {K : PySem.W.Frag} {mg mb : Str → Option Value} {CX : CXT} {k : Nat} {fa a : Addr} {fd : FuncData} {x : Str} {sp : Sp} {s₁ : Shared} {vs : List Value} {ns : List Int}
    (KX : K.In s₁.heap) (hns : s₁.heap.Ns mainGlobals mg) (hb : s₁.heap.Ns builtinsNs mb) (hbb : ∀ x : Str, x ≠ "__name__" → mb x = bootBuiltins x) (hlim : s₁.heap.NoLimit) (hg : s₁.gens = #[])
    (ha : s₁.heap.get? a = some { cls := .type "list", data := .seq vs.toArray }) (hi : IntsAre vs ns) (hl : ns.length ≤ sizeLine) (hr : Room k callerA)
    (F : ∀ base : Heap, K.In base → base.Ns mainGlobals mg → GFn P w K mg base CX k fa fd [x] sp) (hbind : ∀ (s : Shared) (u : Value), BindsTo s fd ⟨[u], []⟩ [(x, u)])
    (hsp : ∀ H : Hp, Only H → SqL K H a (ns.map V.int) → sp [.ref a] H (fun v _ => v = .bl true) fun _ _ _ => False)
    (hCX : ∀ H e s', CX [] H s₁ (fun _ _ _ => False) e s' → False) :
    codeAny (model P w) callerA (.call (.ref fa) ⟨[.ref a], []⟩) (fun r s' => r = .ok (.ret (.bool true)) ∧ OldK s₁.heap s'.heap ∧ s'.os = s₁.os ∧ AllBare s'.gens) s₁ := by
  have rv := vals_ints hi
  have lenV := hi.length
  suffices core : ∀ H : Hp, Only H → SqL K H a (ns.map V.int) → HOk P w H s₁.heap → (∀ b, H b ≠ none → b = a) → (H a ≠ none → K.lookup a = none) →
      codeAny (model P w) callerA (.call (.ref fa) ⟨[.ref a], []⟩) (fun r s' => r = .ok (.ret (.bool true)) ∧ OldK s₁.heap s'.heap ∧ s'.os = s₁.os ∧ AllBare s'.gens) s₁ by
    cases hk : K.lookup a with
    | some o =>
      have e := KX a o hk
      rw [ha] at e
      cases e
      exact core (fun _ => none) (fun _ => .inl rfl) (.inr ⟨_, vs.toArray, _, hk, rfl, rfl, rfl, by rw [List.size_toArray, lenV]; exact hl, by simpa using rv⟩) (fun b u z => nomatch (show (none : Option HO) = some u from z)) (fun b z => absurd rfl z) fun z => absurd rfl z
    | none =>
      let o : Obj := { cls := .type "list", data := .seq vs.toArray }
      refine core (fun b => if b = a then some (.frz o (.lst (ns.map V.int))) else none) (fun b => ?_) (.inl (.inr ⟨o, if_pos rfl⟩)) (fun b u z => ?_) (fun b z => ?_) fun _ => hk
      · by_cases q : b = a
        · exact .inr ⟨_, _, if_pos q⟩
        · exact .inl (if_neg q)
      · by_cases q : b = a
        · have z2 := (if_pos q).symm.trans z
          cases z2
          subst q
          exact ⟨ha, by rw [List.length_map]; exact hl, vs, _, rv, ha⟩
        · have z2 := (if_neg q).symm.trans z
          cases z2
      · by_cases q : b = a
        · exact q
        · exact absurd (if_neg q) z
  intro H hO hS hok hA hK
  have at_a : ∀ {b : Addr} {u : HO}, H b = some u → b = a := fun {b u} q => hA b (by rw [q]; exact fun z => nomatch z)
  have noA : ∀ {b : Addr} {o : Obj} {es : Array DictEntry} {ep : Nat}, s₁.heap.get? b = some o → o.data = .dict es ep → H b = none := fun {b o es ep} e d => by
    match q : H b with
    | none => rfl
    | some u =>
      obtain rfl := at_a q
      rw [ha] at e; cases e
      exact nomatch (show Data.seq vs.toArray _ = Data.dict es ep from d)
  have nsK : ∀ {b : Addr} {m : Str → Option Value}, s₁.heap.Ns b m → (hidT s₁.heap H).Ns b m := fun ⟨o, es, ep, e, d, r⟩ => ⟨o, es, ep, hidT_get e (noA e d), d, r⟩
  have hKb : K.In (hidT s₁.heap H) := fun b o e => hidT_get (KX b o e) (by
    match q : H b with
    | none => rfl
    | some u =>
      obtain rfl := at_a q
      rw [hK (by rw [q]; exact fun z => nomatch z)] at e; cases e)
  have hM : Mod K mg (hidT s₁.heap H) := ⟨hKb, nsK hns, ⟨mb, nsK hb, hbb⟩, let ⟨mc, h1, h2⟩ := hlim; ⟨mc, nsK h1, h2⟩⟩
  have none_in : ∀ b : Addr, b ∉ frs [] := fun b z => nomatch (show b ∈ ([] : List Addr) from z)
  have e0 : Env0 P w K mg (hidT s₁.heap H) callerA [] s₁ H := ⟨rfl, hM, fun b o e => of_hidT e, Nat.le_of_eq (hidT_size _ _), trivial, fun b z => absurd z (none_in b), hok, .of_eq hg⟩
  have run := (F _ hKb (nsK hns)).go callerA rfl hr [] s₁ H ⟨[.ref a], []⟩ [.ref a] [.ref a] _ _ e0 (hbind s₁ (.ref a)) (.cons rfl .nil) (hsp H hO hS)
  refine codeAny_mono run fun r s' h => ?_
  match r, h with
  | .error e, h => exact (hCX H e s' h).elim
  | .ok .next, h | .ok .brk, h | .ok .cont, h => exact False.elim h
  | .ok (.ret u), ⟨v, H', os, bare, un, hok', r', q⟩ =>
    have q1 : v = .bl true := q
    subst q1
    obtain rfl : u = Value.bool true := r'
    refine ⟨rfl, OldK.of_keep fun b o e => ?_, os, bare⟩
    match q : H b with
    | none => exact un.keep b o e q (none_in b) (fun z => nomatch z)
    | some u =>
      rcases hO b with z | ⟨ob, xs, z⟩
      · rw [q] at z; cases z
      · have z2 := un.frzs b ob _ z
        obtain ⟨e1, _⟩ := hok b _ z
        obtain ⟨e2, _⟩ := hok' b _ z2
        rw [e] at e1; cases e1
        exact e2
theorem walk_g {l : PySem.W.OpenLaw} {n k : Nat} {q : Program} {loose : List Str} {XP : (Str → Option Value) → Heap → Prop} {YP : World → Heap → Prop} {d : DefRec} {K : Params → PySem.W.Frag} {sp : PySem.W.Frag → Sp} {x : Str}
    (hn : l.most = some n) (hn2 : n ≤ sizeLine) (hdf : d.params.defaults = []) (hr : Room k callerA) (hY : ∀ (w : World) (h : Heap), YP w h → (K w.params).In h)
    (F : ∀ (w : World) (mg : Str → Option Value) (fa : Addr) (h : Heap), (K w.params).In h → h.Ns mainGlobals mg → mg d.name = some (.ref fa) →
      ∃ fd : FuncData, (∀ (s : Shared) (u : Value), BindsTo s fd ⟨[u], []⟩ [(x, u)]) ∧ ∀ base : Heap, (K w.params).In base → base.Ns mainGlobals mg → GFn l.prog w (K w.params) mg base CX0 k fa fd [x] (sp (K w.params)))
    (hsp : ∀ (K : PySem.W.Frag) (H : Hp) (a : Addr) (ns : List Int), ns.length ≤ n → Only H → SqL K H a (ns.map V.int) → sp K [.ref a] H (fun v _ => v = .bl true) fun _ _ _ => False) :
    PySem.W.WalkO q loose XP YP l.row.toRowW d [] (fun f vs => PySem.call f vs) := by
  refine Att.attach_call hn hdf fun w s₀ s₁ mg mb fa o pm cd doc a vs ns G Y ho hd hcd hmg hobj hints hlen hg => ?_
  have KX := hY w _ Y
  obtain ⟨fd, hb, hF⟩ := F w mg fa _ KX G.T.g hmg
  exact law_g KX G.T.g G.T.b G.T.builtins G.T.nolimit hg hobj hints (Nat.le_trans hlen hn2) hr hF hb (fun H hO hS => hsp _ H a ns hlen hO hS) fun _ _ _ z => z
end KL
namespace KL
open PySem PySem.Spec PyProof.Rows L2
/-- a def of the text, by its name, that keeps a promise and lets no error out -/
def Df (P : Program) (w : World) (K : PySem.W.Frag) (mg : Str → Option Value) (base : Heap) (k : Nat) (x : Str) (ps : List Str) (sp : Sp) : Prop :=
  ∃ (f : Addr) (fd : FuncData), FnOk P w K mg base CX0 k f fd ps sp ∧ PySem.W.keepIn K (.ref f) = true ∧ Binds K fd ps [] ∧ mg x = some (.ref f)
theorem pe_df {X : Cx} {k : Nat} {ps : List Str} {sp : Sp} {x : Str} {p pos : Pos} {e : Expr} {es : List Expr} {t : TA} (D : Df X.prog X.w X.K X.mg X.base k x ps sp) (hr : Room k X.A) (hg : Gl X x) (ha : PA X (e :: es) t)
    (hdb : (x == ("__debug__" : Str)) = false := by decide) (he : starEach (e :: es) X.env = (false, eval e X.env) :: starEach es X.env := by rfl) (hpl : (backTo pos (starEach es X.env)).any (·.1) = false := by rfl) :
    PE X (.Call (.Name x p) (e :: es) [] pos) (tCall sp [] E0 t) := by
  obtain ⟨f, fd, F, kp, b, m⟩ := D
  exact pe_call F hr hg m kp b .nil L2.pass0 ha hdb he hpl
theorem Df.mono {P : Program} {w : World} {K : PySem.W.Frag} {mg : Str → Option Value} {base : Heap} {j k : Nat} {x : Str} {ps : List Str} {sp : Sp} (D : Df P w K mg base j x ps sp) (h : j ≤ k) : Df P w K mg base k x ps sp :=
  let ⟨f, fd, F, r⟩ := D; ⟨f, fd, F.mono h, r⟩
/-! what a draw of the pool leaves -/
def Pl (H : Hp) (p : Addr) : Prop := ∃ a b : Int, H p = some (.lst [.int a, .int b]) ∧ 0 ≤ a ∧ 0 ≤ b ∧ b < 2147483647
/-- all but what stands at p is as it was -/
def Kp (p : Addr) (H H' : Hp) : Prop := ∀ b o, b ≠ p → H b = some o → H' b = some o
theorem Kp.refl (p : Addr) (H : Hp) : Kp p H H := fun _ _ _ h => h
theorem Kp.trans {p : Addr} {H H1 H2 : Hp} (a : Kp p H H1) (b : Kp p H1 H2) : Kp p H H2 := fun c o n h => b c o n (a c o n h)
theorem Kp.of {p : Addr} {H H' : Hp} (s : Same H H') : Kp p H H' := fun b o _ h => s b o h
theorem Kp.upd (p : Addr) (H : Hp) (o : HO) : Kp p H (upd H p o) := fun b u n h => by rw [upd_ne n]; exact h
theorem Pl.same {H H' : Hp} {p : Addr} (h : Pl H p) (s : Same H H') : Pl H' p := let ⟨a, b, e, r⟩ := h; ⟨a, b, s _ _ e, r⟩
theorem same_new {H : Hp} {p : Addr} {o : HO} (h : H p = none) : Same H (upd H p o) := fun b u q => by rw [upd_ne (ne_of_none q h)]; exact q
theorem Kp.free {p : Addr} {H H' : Hp} (k : Kp p H H') {l : Addr} (n : l ≠ p) (h : H' l = none) : H l = none := by
  cases q : H l with
  | none => rfl
  | some o => rw [k l o n q] at h; cases h
theorem Pl.at {H : Hp} {p : Addr} (h : Pl H p) : H p ≠ none := by
  obtain ⟨a, b, e, _⟩ := h
  rw [e]; exact fun z => nomatch z
theorem Kp.freeP {p : Addr} {H H' : Hp} (k : Kp p H H') (h0 : Pl H' p) {l : Addr} (h : H' l = none) : H l = none :=
  k.free (fun e => h0.at (e ▸ h)) h
/-- a tuple is never the pool -/
theorem Kp.tup {K : PySem.W.Frag} {p a : Addr} {H H' : Hp} {xs : List V} (k : Kp p H H') (hp : Pl H p) (h : SqT K H a xs) : SqT K H' a xs := by
  obtain ⟨x, y, e, _⟩ := hp
  rcases h with (h | ⟨o, h⟩) | h
  · exact .inl (.inl (k _ _ (ne_of h e (by intro z; cases z)) h))
  · exact .inl (.inr ⟨o, k _ _ (ne_of h e (by intro z; cases z)) h⟩)
  · exact .inr h
theorem same_tup {K : PySem.W.Frag} {a : Addr} {H H' : Hp} {xs : List V} (s : Same H H') (h : SqT K H a xs) : SqT K H' a xs := by
  rcases h with (h | ⟨o, h⟩) | h
  · exact .inl (.inl (s _ _ h))
  · exact .inl (.inr ⟨o, s _ _ h⟩)
  · exact .inr h
theorem small {n : Nat} (h : n ≤ 1000) : n ≤ sizeLine := Nat.le_of_lt (small1000 h)
end KL
namespace KL
open PySem PySem.Spec PyProof.Rows L2
/-! ### data that can be shown -/
structure Fine (n m : Nat) (d : PyData) : Prop where
  sh : d.showable = true
  ls : d.leavesShort 128 = true
  cl : d.canLay0 = true
  wt : d.weight ≤ n
  dp : d.depth ≤ m
theorem Fine.le {n m n' m' : Nat} {d : PyData} (h : Fine n m d) (hn : n ≤ n') (hm : m ≤ m') : Fine n' m' d := ⟨h.sh, h.ls, h.cl, Nat.le_trans h.wt hn, Nat.le_trans h.dp hm⟩
theorem Fine.none {n m : Nat} : Fine n m .none := ⟨rfl, rfl, rfl, by simp only [PyData.weight]; omega, by simp only [PyData.depth]; omega⟩
theorem Fine.bool {n m : Nat} (b : Bool) : Fine n m (.bool b) := ⟨rfl, rfl, rfl, by simp only [PyData.weight]; omega, by simp only [PyData.depth]; omega⟩
theorem log_lt {i : Int} (h : i.natAbs < 2 ^ 110) : i.natAbs.log2 < 110 := by
  by_cases h0 : i.natAbs = 0
  · rw [h0]; decide
  · exact (Nat.log2_lt h0).mpr h
theorem Fine.int {m : Nat} (i : Int) (h : i.natAbs < 2 ^ 110) : Fine 110 m (.int i) := by
  have hl := log_lt h
  refine ⟨?_, ?_, ?_, ?_, by simp only [PyData.depth]; omega⟩
  · simp only [PyData.showable, decide_eq_true_eq]; omega
  · simp only [PyData.leavesShort, PyData.shown]
    refine decide_eq_true ?_
    have := int_text_length_le (k := 110) (by decide) hl
    show (Str.ofString (toString i)).length ≤ 128
    rw [PySem.ofString_length]
    omega
  · simp only [PyData.canLay0]
  · simp only [PyData.weight]; split <;> omega
structure FineAll (n m : Nat) (ds : List PyData) : Prop where
  all : ∀ d ∈ ds, Fine n m d
theorem FineAll.sh {n m : Nat} : ∀ {ds : List PyData}, FineAll n m ds → PyData.showableAll ds = true
  | [], _ => by simp only [PyData.showableAll]
  | d :: ds, h => by
    simp only [PyData.showableAll, (h.all d List.mem_cons_self).sh, Bool.true_and]
    exact FineAll.sh ⟨fun x hx => h.all x (List.mem_cons_of_mem _ hx)⟩
theorem FineAll.ls {n m : Nat} : ∀ {ds : List PyData}, FineAll n m ds → PyData.leavesShortAll 128 ds = true
  | [], _ => by simp only [PyData.leavesShortAll]
  | d :: ds, h => by
    simp only [PyData.leavesShortAll, (h.all d List.mem_cons_self).ls, Bool.true_and]
    exact FineAll.ls ⟨fun x hx => h.all x (List.mem_cons_of_mem _ hx)⟩
theorem FineAll.cl {n m : Nat} : ∀ {ds : List PyData}, FineAll n m ds → PyData.canLayAll0 ds = true
  | [], _ => by simp only [PyData.canLayAll0]
  | d :: ds, h => by
    simp only [PyData.canLayAll0, (h.all d List.mem_cons_self).cl, Bool.true_and]
    exact FineAll.cl ⟨fun x hx => h.all x (List.mem_cons_of_mem _ hx)⟩
theorem FineAll.wt {n m : Nat} : ∀ {ds : List PyData}, FineAll n m ds → PyData.weightAll ds ≤ ds.length * (n + 1)
  | [], _ => by simp only [PyData.weightAll]; omega
  | d :: ds, h => by
    simp only [PyData.weightAll, List.length_cons]
    have h1 := (h.all d List.mem_cons_self).wt
    have h2 := FineAll.wt (ds := ds) ⟨fun x hx => h.all x (List.mem_cons_of_mem _ hx)⟩
    rw [Nat.add_mul]; omega
theorem FineAll.dp {n m : Nat} : ∀ {ds : List PyData}, FineAll n m ds → PyData.depthAll ds ≤ m
  | [], _ => by simp only [PyData.depthAll]; omega
  | d :: ds, h => by
    simp only [PyData.depthAll]
    have h1 := (h.all d List.mem_cons_self).dp
    have h2 := FineAll.dp (ds := ds) ⟨fun x hx => h.all x (List.mem_cons_of_mem _ hx)⟩
    omega
theorem Fine.tuple {n m l : Nat} {ds : List PyData} (h : ∀ d ∈ ds, Fine n m d) (hl : ds.length ≤ l) : Fine (l * (n + 1)) (m + 1) (.tuple ds) := by
  have a : FineAll n m ds := ⟨h⟩
  refine ⟨by simp only [PyData.showable]; exact a.sh, by simp only [PyData.leavesShort]; exact a.ls, by simp only [PyData.canLay0]; exact a.cl, ?_, ?_⟩
  · simp only [PyData.weight]; exact Nat.le_trans a.wt (Nat.mul_le_mul_right _ hl)
  · simp only [PyData.depth]; exact Nat.succ_le_succ a.dp
theorem Fine.list {n m l : Nat} {ds : List PyData} (h : ∀ d ∈ ds, Fine n m d) (hl : ds.length ≤ l) : Fine (l * (n + 1)) (m + 1) (.list ds) := by
  have a : FineAll n m ds := ⟨h⟩
  refine ⟨by simp only [PyData.showable]; exact a.sh, by simp only [PyData.leavesShort]; exact a.ls, by simp only [PyData.canLay0]; exact a.cl, ?_, ?_⟩
  · simp only [PyData.weight]; exact Nat.le_trans a.wt (Nat.mul_le_mul_right _ hl)
  · simp only [PyData.depth]; exact Nat.succ_le_succ a.dp
theorem Fine.len {n m : Nat} {d : PyData} (h : Fine n m d) (hn : n ≤ 100000) : d.shown.length ≤ sizeLine := by
  have e := PyData.shown_le 128 (by decide) d h.ls
  have e2 : (128 + 2) * d.weight ≤ (128 + 2) * 100000 := Nat.mul_le_mul_left _ (Nat.le_trans h.wt hn)
  rw [sizeLine_eq]; omega
theorem Fine.shaped {n m : Nat} {d : PyData} (h : Fine n m d) (hm : m ≤ 60) : SeqAt.shaped d = true := by
  unfold SeqAt.shaped
  rw [h.cl, Bool.true_and]
  exact decide_eq_true (Nat.le_trans h.dp (by omega))
/-- what repr asks, of fine data -/
theorem rep_of {K : PySem.W.Frag} {H : Hp} {x : V} {d : PyData} {Q : VK} {n m : Nat} (h : Dp K H x d) (f : Fine n m d) (hn : n ≤ 100000) (hm : m ≤ 60) (q : Q (.str d.shown) H) : rRep K [x] H Q :=
  ⟨x, d, rfl, h, f.sh, Nat.le_trans f.dp hm, f.len hn, q⟩
theorem rep_bool {K : PySem.W.Frag} {H : Hp} {b : Bool} {Q : VK} (q : Q (.str (PyData.bool b).shown) H) : rRep K [.bl b] H Q := rep_of (n := 0) (m := 0) (.bl b) (Fine.bool b) (by omega) (by omega) q
/-! ### kinds -/
def tyD : PyData → String
  | .none => "NoneType"
  | .bool _ => "bool"
  | .int _ => "int"
  | .str _ => "str"
  | .list _ => "list"
  | .tuple _ => "tuple"
  | .dict _ => "dict"
theorem dpTy {K : PySem.W.Frag} {H : Hp} {x : V} {d : PyData} (h : Dp K H x d) : TyX K H x (.type (tyD d)) := by
  cases h with
  | non => exact .base .non
  | bl b => exact .base (.bl b)
  | int i => exact .base (.int i)
  | str y => exact .base (.str y)
  | lst s _ =>
    rcases s with (e | ⟨o, e⟩) | ⟨o, its, n, e, c, _⟩
    · exact .base (.lst e)
    · exact .base (.frz e)
    · exact .kList e c
  | tup s _ =>
    rcases s with (e | ⟨o, e⟩) | ⟨o, its, n, e, c, _⟩
    · exact .base (.tup e)
    · exact .fTuple e
    · exact .kTuple e c
/-- isinstance(x, T) over data -/
def isiD (d : PyData) (T : String) : Bool := match kitB (tyD d) T with
  | some b => b
  | none => false
theorem kit_int (d : PyData) : kitB (tyD d) "int" = some (match d with | .int _ | .bool _ => true | _ => false) := by cases d <;> (simp only [tyD]; decide +kernel)
theorem kit_bool (d : PyData) : kitB (tyD d) "bool" = some (match d with | .bool _ => true | _ => false) := by cases d <;> (simp only [tyD]; decide +kernel)
theorem kit_tuple (d : PyData) : kitB (tyD d) "tuple" = some (match d with | .tuple _ => true | _ => false) := by cases d <;> (simp only [tyD]; decide +kernel)
theorem kit_list (d : PyData) : kitB (tyD d) "list" = some (match d with | .list _ => true | _ => false) := by cases d <;> (simp only [tyD]; decide +kernel)
theorem kit_str (d : PyData) : kitB (tyD d) "str" = some (match d with | .str _ => true | _ => false) := by cases d <;> (simp only [tyD]; decide +kernel)
theorem isi_of {K : PySem.W.Frag} {H : Hp} {x : V} {d : PyData} {T : String} {b : Bool} {Q : VK} (h : Dp K H x d) (k : kitB (tyD d) T = some b) (q : Q (.bl b) H) : rIsi K [x, .ty T] H Q :=
  ⟨x, .ty T, .type (tyD d), .type T, b, rfl, .ty T, dpTy h, kit_ty k, q⟩
theorem atI_at {α : Type} {xs : List α} {i : Int} (h0 : 0 ≤ i) (h : i < (xs.length : Int)) : ∃ v, atI xs i = some v ∧ xs[i.toNat]? = some v := by
  have hi : i.toNat < xs.length := by omega
  refine ⟨xs[i.toNat], ?_, List.getElem?_eq_getElem hi⟩
  have q := atI_nat (List.getElem?_eq_getElem hi)
  rw [show ((i.toNat : Nat) : Int) = i by omega] at q
  exact q
theorem atI_ints {ns : List Int} {i : Int} (h0 : 0 ≤ i) (h : i < (ns.length : Int)) : ∃ v, atI (ns.map V.int) i = some (.int v) ∧ ns[i.toNat]? = some v := by
  obtain ⟨v, h1, h2⟩ := atI_at (xs := ns.map V.int) h0 (by rw [List.length_map]; exact h)
  rw [List.getElem?_map] at h2
  cases e : ns[i.toNat]? with
  | none => rw [e] at h2; cases h2
  | some u => rw [e] at h2; cases h2; exact ⟨u, h1, rfl⟩
/-! ### ints as data -/
theorem dpInts {K : PySem.W.Frag} {H : Hp} : ∀ ns : List Int, DpAll K H (ns.map V.int) (ns.map PyData.int)
  | [] => .nil
  | n :: ns => .cons (.int n) (dpInts ns)
theorem fineInts {B : Nat} {ns : List Int} (h : ∀ n ∈ ns, n.natAbs < 2 ^ 110) : ∀ d ∈ ns.map PyData.int, Fine 110 0 d := fun d hd => by
  obtain ⟨n, hn, rfl⟩ := List.mem_map.mp hd
  exact Fine.int n (h n hn)
theorem shInts (ns : List Int) : SeqAt.shaped (.list (ns.map PyData.int)) = true := by
  have h1 : ∀ ns : List Int, PyData.canLayAll0 (ns.map PyData.int) = true := fun ns => by
    induction ns with
    | nil => simp only [List.map_nil, PyData.canLayAll0]
    | cons n ns ih => simp only [List.map_cons, PyData.canLayAll0, PyData.canLay0, ih, Bool.true_and]
  have h2 : ∀ ns : List Int, PyData.depthAll (ns.map PyData.int) = 0 := fun ns => by
    induction ns with
    | nil => simp only [List.map_nil, PyData.depthAll]
    | cons n ns ih => simp only [List.map_cons, PyData.depthAll, PyData.depth, ih, Nat.max_self]
  unfold SeqAt.shaped
  simp only [PyData.canLay0, h1, PyData.depth, h2, Bool.true_and]
  decide
theorem shNil : SeqAt.shaped (.list []) = true := shInts []
theorem eqvNil (ns : List Int) : PyData.eqv (.list (ns.map PyData.int)) (.list []) = decide (ns = []) := by
  cases ns with
  | nil => simp [PyData.eqv, PyData.eqvAll]
  | cons n ns => simp [PyData.eqv, PyData.eqvAll]
mutual
theorem dpMv {K : PySem.W.Frag} {H H' : Hp} (tl : ∀ a xs, SqL K H a xs → SqL K H' a xs) (tt : ∀ a xs, SqT K H a xs → SqT K H' a xs) : ∀ (d : PyData) {x : V}, Dp K H x d → Dp K H' x d
  | .none, _, h => by cases h; exact .non
  | .bool b, _, h => by cases h; exact .bl b
  | .int i, _, h => by cases h; exact .int i
  | .str y, _, h => by cases h; exact .str y
  | .list ds, _, h => by
    cases h with
    | lst s a => exact .lst (tl _ _ s) (dpMvs tl tt ds a)
  | .tuple ds, _, h => by
    cases h with
    | tup s a => exact .tup (tt _ _ s) (dpMvs tl tt ds a)
  | .dict _, _, h => by cases h
theorem dpMvs {K : PySem.W.Frag} {H H' : Hp} (tl : ∀ a xs, SqL K H a xs → SqL K H' a xs) (tt : ∀ a xs, SqT K H a xs → SqT K H' a xs) : ∀ (ds : List PyData) {xs : List V}, DpAll K H xs ds → DpAll K H' xs ds
  | [], _, h => by cases h; exact .nil
  | d :: ds, _, h => by
    cases h with
    | cons h1 h2 => exact .cons (dpMv tl tt d h1) (dpMvs tl tt ds h2)
end
theorem dpSame {K : PySem.W.Frag} {H H' : Hp} {x : V} {d : PyData} (h : Dp K H x d) (s : Same H H') : Dp K H' x d := dpMv (fun _ _ q => s.seq q) (fun _ _ q => same_tup s q) d h
end KL
namespace KL
open PySem PySem.Spec PyProof.Rows L2
/-! ### what is told apart from the pool -/
def hid (p : Addr) (H : Hp) : Hp := fun b => if b = p then none else H b
theorem hid_same (p : Addr) (H : Hp) : Same (hid p H) H := fun b o h => by
  unfold hid at h
  split at h
  · cases h
  · exact h
theorem Kp.hid {p : Addr} {H H' : Hp} (k : Kp p H H') : Same (hid p H) (hid p H') := fun b o h => by
  unfold KL.hid at h ⊢
  split at h
  · cases h
  · rename_i n; rw [if_neg n]; exact k b o n h
theorem hid_of {p b : Addr} {H : Hp} {o : HO} (n : b ≠ p) (h : H b = some o) : hid p H b = some o := by unfold hid; rw [if_neg n]; exact h
theorem hidT {K : PySem.W.Frag} {p a : Addr} {H : Hp} {xs : List V} (hp : Pl H p) (h : SqT K H a xs) : SqT K (hid p H) a xs := by
  obtain ⟨x, y, e, _⟩ := hp
  rcases h with (h | ⟨o, h⟩) | h
  · exact .inl (.inl (hid_of (ne_of h e (by intro z; cases z)) h))
  · exact .inl (.inr ⟨o, hid_of (ne_of h e (by intro z; cases z)) h⟩)
  · exact .inr h
theorem unhidT {K : PySem.W.Frag} {p a : Addr} {H : Hp} {xs : List V} (h : SqT K (hid p H) a xs) : SqT K H a xs := same_tup (hid_same p H) h
section
variable {X : Cx}
/-- t + u, whichever object it is -/
def rCatK (K : PySem.W.Frag) : R2 := fun x y H Q => ∃ a b xs ys, x = .ref a ∧ y = .ref b ∧ SqT K H a xs ∧ SqT K H b ys ∧ xs.length + ys.length ≤ sizeLine ∧ ∀ r H', Same H H' → SqT K H' r (xs ++ ys) → Q (.ref r) H'
theorem op_catK : OpR X (binaryOp .Add) (rCatK X.K) := by
  intro pins s σ H x y v u Q I rx ry h
  obtain ⟨a, b, xs, ys, rfl, rfl, ha, hb, hz, q⟩ := h
  refine op_catA pins s σ H _ _ v u Q I rx ry ⟨a, b, xs, ys, rfl, rfl, ha, hb, hz, fun e => ?_, fun _ e => ?_, fun _ _ p hp => q p _ (same_new hp) (SqT.of upd_same)⟩
  · subst e; exact q b H (Same.refl H) hb
  · subst e; exact q a H (Same.refl H) (by rw [List.append_nil]; exact ha)
theorem cut_whole {xs : List V} {lo hi : Option Int} (h : HT.sIx xs.length 0 lo = 0 ∧ HT.sIx xs.length xs.length hi = xs.length) : cutV xs lo hi = xs := by
  unfold cutV
  rw [h.1, h.2]
  simp
theorem cut_sub {xs : List V} {lo hi : Option Int} : (∀ v ∈ cutV xs lo hi, v ∈ xs) ∧ (cutV xs lo hi).length ≤ xs.length := by
  unfold cutV
  refine ⟨fun v hv => List.mem_of_mem_drop (List.mem_of_mem_take hv), ?_⟩
  rw [List.length_take, List.length_drop]
  omega
/-- t[lo:hi], whichever object it is -/
def rSlK (K : PySem.W.Frag) : V → Option Int → Option Int → Hp → VK → Prop := fun x lo hi H Q => ∃ a xs, x = .ref a ∧ SqT K H a xs ∧ ∀ r H', Same H H' → SqT K H' r (cutV xs lo hi) → Q (.ref r) H'
theorem sl_tupK : SlR X (rSlK X.K) := by
  intro pins s σ H x v vl vu lo hi sl Q I rx hs pl pu h
  obtain ⟨a, xs, rfl, hx, q⟩ := h
  exact sl_tupA pins s σ H _ v vl vu lo hi sl Q I rx hs pl pu ⟨a, xs, rfl, hx, fun w => q a H (Same.refl H) (by rw [cut_whole w]; exact hx), fun _ p hp => q p _ (same_new hp) (SqT.of upd_same)⟩
end
theorem Fine.str1 : Fine 10 0 (.str (Str.ofString "1")) := ⟨rfl, by decide +kernel, by decide +kernel, by decide +kernel, by decide +kernel⟩
/-- an item that can be shown -/
def It (K : PySem.W.Frag) (H : Hp) (v : V) : Prop := ∃ d, Dp K H v d ∧ Fine 200 1 d
theorem It.same {K : PySem.W.Frag} {H H' : Hp} {v : V} (h : It K H v) (s : Same H H') : It K H' v := let ⟨d, h1, h2⟩ := h; ⟨d, dpSame h1 s, h2⟩
theorem It.int {K : PySem.W.Frag} {H : Hp} (i : Int) (h : i.natAbs < 2 ^ 110) : It K H (.int i) := ⟨_, .int i, (Fine.int (m := 0) i h).le (by omega) (by omega)⟩
theorem its_all {K : PySem.W.Frag} {H : Hp} : ∀ {xs : List V}, (∀ v ∈ xs, It K H v) → ∃ ds, DpAll K H xs ds ∧ ds.length = xs.length ∧ ∀ d ∈ ds, Fine 200 1 d
  | [], _ => ⟨[], .nil, rfl, fun _ h => nomatch h⟩
  | x :: xs, h => by
    obtain ⟨d, h1, h2⟩ := h x List.mem_cons_self
    obtain ⟨ds, h3, h4, h5⟩ := its_all (xs := xs) fun v hv => h v (List.mem_cons_of_mem _ hv)
    exact ⟨d :: ds, .cons h1 h3, by rw [List.length_cons, List.length_cons, h4], fun z hz => by
      rcases List.mem_cons.mp hz with e | e
      · rw [e]; exact h2
      · exact h5 z e⟩
/-- data that can be shown -/
def Dat (K : PySem.W.Frag) (H : Hp) (x : V) : Prop := ∃ d, Dp K H x d ∧ Fine 100000 3 d
theorem Dat.same {K : PySem.W.Frag} {H H' : Hp} {v : V} (h : Dat K H v) (s : Same H H') : Dat K H' v := let ⟨d, h1, h2⟩ := h; ⟨d, dpSame h1 s, h2⟩
theorem dat_tup {K : PySem.W.Frag} {H : Hp} {a : Addr} {xs : List V} (h : SqT K H a xs) (hi : ∀ v ∈ xs, It K H v) (hl : xs.length ≤ 400) : Dat K H (.ref a) := by
  obtain ⟨ds, h1, h2, h3⟩ := its_all hi
  exact ⟨_, .tup h h1, (Fine.tuple h3 (l := 400) (by omega)).le (by omega) (by omega)⟩
theorem dat_lst {K : PySem.W.Frag} {H : Hp} {a : Addr} {xs : List V} (h : SqL K H a xs) (hi : ∀ v ∈ xs, It K H v) (hl : xs.length ≤ 400) : Dat K H (.ref a) := by
  obtain ⟨ds, h1, h2, h3⟩ := its_all hi
  exact ⟨_, .lst h h1, (Fine.list h3 (l := 400) (by omega)).le (by omega) (by omega)⟩
end KL
namespace KL
open PySem PySem.Spec PyProof.Rows L2
/-- a def of the text, whatever its defaults -/
def Fb (K : PySem.W.Frag) (x qual : Str) (st : Stmt) (f : Addr) (fd : FuncData) : Prop :=
  ∃ (oc : Value) (od : Option Addr) (dV kV doc pm : Value) (an : Option Addr) (cdv ct : Value) (osl : Array (Option Value)),
    fd = PySem.W.fnOf x qual (defArgs st) (defBody st) (defScope st) dV kV doc pm an cdv ct ∧ K.lookup f = some ⟨oc, od, .func fd, osl⟩ ∧ PySem.W.codeIn K cdv qual = true
section
variable {P : Program} {w : World} {K : PySem.W.Frag} {mg : Str → Option Value} {base : Heap} {x qual : Str} {st : Stmt} {f : Addr} {fd : FuncData}
theorem Fb.ok {N ps : List Str} {k : Nat} {sp : Sp} (F : Fb K x qual st f fd) (S : FnScope N ps (defScope st)) (len : ∀ vs H Q E, sp vs H Q E → vs.length = ps.length)
    (body : ∀ (cdv : Value) (A : Around) (outer : List Env) (s : Shared) (H : Hp) (vs : List V) (Q : VK) (E : XK), Room k (A.deeper (envOfC qual (defScope st) s.heap.objs.size f cdv)) → sp vs H Q E →
      ∃ t, PSs (cxOf CX0 P w K mg base N qual (defScope st) f cdv A outer s H E).nox (defBody st) t ∧ t { nx := fun _ G => Q .non G, rt := Q } (start N vs) H) : FnOk P w K mg base CX0 (k + 1) f fd ps sp := by
  obtain ⟨oc, od, dV, kV, doc, pm, an, cdv, ct, osl, rfl, lk, hcd⟩ := F
  exact fn_of lk hcd S len fun A outer s H vs Q E hr h => let ⟨t, h1, h2⟩ := body cdv A outer s H vs Q E hr h; ⟨t, h1.nox, h2⟩
theorem Fb.of (F : Fun K x qual st f fd) : Fb K x qual st f fd := let ⟨oc, od, kV, doc, pm, an, cdv, ct, osl, h⟩ := F.ex; ⟨oc, od, .none, kV, doc, pm, an, cdv, ct, osl, h⟩
end
/-- a def called with its last defaults left out -/
def Dfd (P : Program) (w : World) (K : PySem.W.Frag) (mg : Str → Option Value) (base : Heap) (k : Nat) (x : Str) (ps : List Str) (sp : Sp) (dvs : List V) : Prop :=
  ∃ (f : Addr) (fd : FuncData) (ds : List Value), FnOk P w K mg base CX0 k f fd ps sp ∧ PySem.W.keepIn K (.ref f) = true ∧ Binds K fd ps ds ∧ Vals dvs ds ∧ mg x = some (.ref f)
theorem pe_dfd {X : Cx} {k : Nat} {ps : List Str} {sp : Sp} {dvs : List V} {x : Str} {p pos : Pos} {e : Expr} {es : List Expr} {t : TA} (D : Dfd X.prog X.w X.K X.mg X.base k x ps sp dvs) (hr : Room k X.A) (hg : Gl X x) (ha : PA X (e :: es) t)
    (hdb : (x == ("__debug__" : Str)) = false := by decide) (he : starEach (e :: es) X.env = (false, eval e X.env) :: starEach es X.env := by rfl) (hpl : (backTo pos (starEach es X.env)).any (·.1) = false := by rfl) :
    PE X (.Call (.Name x p) (e :: es) [] pos) (tCall sp dvs E0 t) := by
  obtain ⟨f, fd, ds, F, kp, b, r, m⟩ := D
  exact pe_call F hr hg m kp b r L2.pass0 ha hdb he hpl
theorem Dfd.mono {P : Program} {w : World} {K : PySem.W.Frag} {mg : Str → Option Value} {base : Heap} {j k : Nat} {x : Str} {ps : List Str} {sp : Sp} {dvs : List V} (D : Dfd P w K mg base j x ps sp dvs) (h : j ≤ k) : Dfd P w K mg base k x ps sp dvs :=
  let ⟨f, fd, ds, F, r⟩ := D; ⟨f, fd, ds, F.mono h, r⟩
theorem same_kp {p : Addr} {H H1 H2 : Hp} (s : Same H H1) (n : H p = none) (k : Kp p H1 H2) : Same H H2 := fun b o h => k b o (ne_of_none h n) (s b o h)
theorem ne_self {A B : Prop} {x : V} (h : B) : if (!decide (x = x)) = true then A else B := by rw [decide_eq_true rfl]; exact iteF h
end KL
namespace K01
open PySem PySem.Spec PyProof.Rows L2 KL
def topS (i : Nat) : Stmt := PySem.Challenge.pw_keptclauses_k01_clauses_or_none.main.body.getD i (.Pass ⟨0, 0, 0, 0⟩)
abbrev s_is_whole : Stmt := topS 2
theorem sc_is_whole : FnScope ["thing"] ["thing"] (defScope s_is_whole) := ⟨rfl, rfl, rfl, by decide +kernel, rfl, by decide +kernel, by decide +kernel⟩
abbrev s_is_number : Stmt := topS 3
theorem sc_is_number : FnScope ["thing", "least", "most"] ["thing", "least", "most"] (defScope s_is_number) := ⟨rfl, rfl, rfl, by decide +kernel, rfl, by decide +kernel, by decide +kernel⟩
abbrev s_is_sign : Stmt := topS 4
theorem sc_is_sign : FnScope ["thing", "many"] ["thing", "many"] (defScope s_is_sign) := ⟨rfl, rfl, rfl, by decide +kernel, rfl, by decide +kernel, by decide +kernel⟩
abbrev s_is_clause : Stmt := topS 6
theorem sc_is_clause : FnScope ["thing", "many", "last", "sign"] ["thing", "many"] (defScope s_is_clause) := ⟨rfl, rfl, rfl, by decide +kernel, rfl, by decide +kernel, by decide +kernel⟩
abbrev s_law_pool : Stmt := topS 8
theorem sc_law_pool : FnScope ["_law_script", "_law_k", "_law_cell", "_law_seed"] ["_law_script", "_law_k"] (defScope s_law_pool) := ⟨rfl, rfl, rfl, by decide +kernel, rfl, by decide +kernel, by decide +kernel⟩
abbrev s_law_take : Stmt := topS 9
theorem sc_law_take : FnScope ["_law_pool_here", "_law_many", "_law_digit"] ["_law_pool_here", "_law_many"] (defScope s_law_take) := ⟨rfl, rfl, rfl, by decide +kernel, rfl, by decide +kernel, by decide +kernel⟩
abbrev s_law_whole : Stmt := topS 10
theorem sc_law_whole : FnScope ["_law_thing"] ["_law_thing"] (defScope s_law_whole) := ⟨rfl, rfl, rfl, by decide +kernel, rfl, by decide +kernel, by decide +kernel⟩
abbrev s_law_clause : Stmt := topS 11
theorem sc_law_clause : FnScope ["_law_pool_here", "_law_things", "_law_most", "_law_found", "_law_thing"] ["_law_pool_here", "_law_things", "_law_most"] (defScope s_law_clause) := ⟨rfl, rfl, rfl, by decide +kernel, rfl, by decide +kernel, by decide +kernel⟩
abbrev s_law_due : Stmt := topS 13
theorem sc_law_due : FnScope ["_law_thing", "_law_things", "_law_last", "_law_sign_here"] ["_law_thing", "_law_things"] (defScope s_law_due) := ⟨rfl, rfl, rfl, by decide +kernel, rfl, by decide +kernel, by decide +kernel⟩
abbrev s_law_bent : Stmt := topS 14
theorem sc_law_bent : FnScope ["_law_pool_here", "_law_clause_here", "_law_at", "_law_odd", "_law_some"] ["_law_pool_here", "_law_clause_here"] (defScope s_law_bent) := ⟨rfl, rfl, rfl, by decide +kernel, rfl, by decide +kernel, by decide +kernel⟩
abbrev s_law : Stmt := topS 15
theorem sc_law : FnScope ["_law_script", "_law_k", "_law_pool_here", "_law_things", "_law_clause_here", "_law_thing", "_law_kept", "_law_size"] ["_law_script"] (defScope s_law) := ⟨rfl, rfl, rfl, by decide +kernel, rfl, by decide +kernel, by decide +kernel⟩
section
variable {P : Program} {w : World} {K : PySem.W.Frag} {mg : Str → Option Value} {base : Heap}
/-! ### a draw -/
def spTake (K : PySem.W.Frag) : Sp := fun vs H Q _ => ∃ (p : Addr) (m : Int), vs = [.ref p, .int m] ∧ Pl H p ∧ 1 ≤ m ∧ m < 1073741824 ∧
  ∀ (d : Int) (H' : Hp), Kp p H H' → Pl H' p → 0 ≤ d → d < m → Q (.int d) H'
theorem ok_take {f : Addr} {fd : FuncData} {k : Nat} (F : Fun K "_law_take" "_law_take" s_law_take f fd) : FnOk P w K mg base CX0 (k + 1) f fd ["_law_pool_here", "_law_many"] (spTake K) := by
  refine F.ok sc_law_take (fun vs H Q E h => ?_) (fun cdv A outer s H vs Q E hr h => ?_)
  · obtain ⟨p, m, rfl, _⟩ := h
    rfl
  obtain ⟨p, m, rfl, ⟨a, b, e, ha, hb, hb2⟩, h1, h2, q⟩ := h
  refine ⟨_, (pss_cons (ps_if (pt_cmpR op_gt (pe_ix ix_list (pv 0) pe_int (fun _ _ => rfl)) pe_int (nomark _))
       (pss_cons (ps_set (i := 2) sc_law_take.nd rfl (.inl rfl) (pe_op op_mod (pe_ix ix_list (pv 0) pe_int (fun _ _ => rfl)) (pv 1)))
       (pss_cons (ps_asg (pe_op op_fdiv (pe_ix ix_list (pv 0) pe_int (fun _ _ => rfl)) (pv 1)) (pg_sub (pv 0) pe_int set_list))
       (pss_one (ps_ret (pv 2)))))
       pss_nil)
       (pss_cons (ps_asg (pe_op op_mod (pe_op op_add (pe_op op_mul (pe_ix ix_list (pv 0) pe_int (fun _ _ => rfl)) pe_int) pe_int) pe_int) (pg_sub (pv 0) pe_int set_list))
       (pss_one (ps_ret (pe_op op_mod (pe_op op_fdiv (pe_op op_mod (pe_op op_mul (pe_ix ix_list (pv 0) pe_int (fun _ _ => rfl)) (pe_ix ix_list (pv 0) pe_int (fun _ _ => rfl))) pe_int) pe_int) (pv 1)))))), ?_⟩
  refine ⟨_, rfl, p, _, 0, .int a, rfl, rfl, SqL.of e, rfl, _, _, rfl, rfl, _, rfl, ite2 (fun c => ?_) (fun c => ?_)⟩
  · have c' : 0 < a := of_decide_eq_true c
    refine ⟨_, rfl, p, _, 0, .int a, rfl, rfl, SqL.of e, rfl, _, rfl, _, _, rfl, rfl, (by show 0 < m; omega), ?_⟩
    refine ⟨_, rfl, p, _, 0, .int a, rfl, rfl, SqL.of e, rfl, _, rfl, _, _, rfl, rfl, (by show 0 < m ∧ m < 1073741824; omega), ?_⟩
    refine ⟨_, rfl, p, _, 0, 0, rfl, rfl, e, rfl, ?_⟩
    refine ⟨_, rfl, q _ _ (Kp.upd _ _ _) ⟨a / m, b, upd_same, Int.ediv_nonneg ha (by omega), hb, hb2⟩ (Int.emod_nonneg _ (by omega)) (Int.emod_lt_of_pos _ (by omega))⟩
  · refine ⟨_, rfl, p, _, 1, .int b, rfl, rfl, SqL.of e, rfl, _, _, rfl, rfl, .inr ⟨by omega, by omega⟩, _, _, rfl, rfl, _, _, rfl, rfl, (by show (0 : Int) < 2147483647; omega), ?_⟩
    refine ⟨_, rfl, p, _, 1, 1, rfl, rfl, e, rfl, ?_⟩
    have hc0 := Int.emod_nonneg (b * 48271 + 11) (show (2147483647 : Int) ≠ 0 by omega)
    have hc1 := Int.emod_lt_of_pos (b * 48271 + 11) (show (0 : Int) < 2147483647 by omega)
    generalize hC : (b * 48271 + 11) % 2147483647 = c1 at hc0 hc1
    refine ⟨_, rfl, p, _, 1, .int c1, rfl, rfl, SqL.of upd_same, (by rw [← hC]; rfl), _, rfl, p, _, 1, .int c1, rfl, rfl, SqL.of upd_same, (by rw [← hC]; rfl), ?_⟩
    refine ⟨_, _, rfl, rfl, .inr ⟨by omega, by omega⟩, _, _, rfl, rfl, (by show (0 : Int) < 2147483629; omega), _, _, rfl, rfl, (by show (0 : Int) < 64 ∧ (64 : Int) < 1073741824; omega), _, rfl, _, _, rfl, rfl, (by show 0 < m; omega), ?_⟩
    refine q _ _ (Kp.upd _ _ _) ⟨a, c1, ?_, ha, hc0, hc1⟩ (Int.emod_nonneg _ (by omega)) (Int.emod_lt_of_pos _ (by omega))
    rw [upd_same, ← hC]; rfl

/-! ### the pool of a cell -/
def spPool (K : PySem.W.Frag) : Sp := fun vs H Q _ => ∃ (a : Addr) (ns : List Int) (k : Int), vs = [.ref a, .int k] ∧ SqL K H a (ns.map V.int) ∧ ns.length ≤ 1000 ∧ 0 ≤ k ∧
  ∀ (p : Addr) (H' : Hp), H p = none → Same H H' → Pl H' p → Q (.ref p) H'
theorem ok_pool {f : Addr} {fd : FuncData} {k : Nat} (F : Fun K "_law_pool" "_law_pool" s_law_pool f fd) (m_len : mg "len" = none) (m_int : mg "int" = none) :
    FnOk P w K mg base CX0 (k + 1) f fd ["_law_script", "_law_k"] (spPool K) := by
  refine F.ok sc_law_pool (fun vs H Q E h => ?_) (fun cdv A outer s H vs Q E hr h => ?_)
  · obtain ⟨a, ns, k, rfl, _⟩ := h
    rfl
  obtain ⟨a, ns, k, rfl, hS, hl, hk, q⟩ := h
  refine ⟨_, (pss_cons (ps_set (i := 2) sc_law_pool.nd rfl (.inl rfl) pe_int)
       (C8.pss_cut (ps_if (pt_cmpR (op_neD hr.units) (pv 0) (pe_lst pa_nil) (nomark _))
       (pss_one (ps_set (i := 2) sc_law_pool.nd rfl (.inl rfl) (pe_ix ix_list (pv 0) (pe_op op_mod (pv 1) (pe_callB call_len_seq (by rfl) m_len (by decide +kernel) (pa_cons (pv 0) pa_nil))) (fun _ _ => rfl))))
       pss_nil)
       (C8.pss_cut (ps_if (pt_cmpR op_ge (pv 1) (pe_callB call_len_seq (by rfl) m_len (by decide +kernel) (pa_cons (pv 0) pa_nil)) (nomark _))
       (pss_one (ps_set (i := 2) sc_law_pool.nd rfl (.inl rfl) (pe_ix ix_list (pe_lst (pa_cons (pe_op op_mod (pv 2) pe_int) (pa_cons (pe_op op_fdivW (pv 2) (pe_op op_pow pe_int pe_int)) pa_nil))) (pe_callTy call_int1 (by rfl) m_int (by decide +kernel) (pa_cons (pe_cmpR op_ge (pv 2) (pe_op op_pow pe_int pe_int) (nomark _)) pa_nil)) (fun _ _ => rfl))))
       pss_nil)
       (pss_cons (ps_set (i := 3) sc_law_pool.nd rfl (.inl rfl) (pe_op op_mod (pe_op op_mul (pe_op op_add (pe_op op_add (pe_op op_mod (pv 2) pe_int) (pe_op op_mul pe_int (pv 1))) pe_int) pe_int) pe_int))
       (pss_one (ps_ret (pe_lst (pa_cons (pe_op op_mul (pv 2) (pe_callTy call_int1 (by rfl) m_int (by decide +kernel) (pa_cons (pe_cmpR op_ge (pv 2) (pe_op op_pow pe_int pe_int) (nomark _)) pa_nil))) (pa_cons (pv 3) pa_nil))))))))), ?_⟩
  have hlen : (ns.map V.int).length = ns.length := List.length_map _
  -- if script != []
  refine ⟨fun σ' H' => ∃ c : Int, σ' = [some (.ref a), some (.int k), some (.int c), none] ∧ Same H H', ?_, ?_⟩
  · refine ⟨_, rfl, (by show 0 ≤ sizeLine; decide), fun l hl0 => ?_⟩
    have s1 : Same H (upd H l (.lst [])) := same_new hl0
    refine ⟨.list (ns.map PyData.int), .list [], .lst (s1.seq hS) (dpInts ns), .lst (SqL.of upd_same) .nil, shInts ns, shNil, _, rfl, ?_⟩
    rw [eqvNil]
    refine ite2 (fun c => ?_) (fun c => ⟨0, rfl, s1⟩)
    have hn : ns ≠ [] := fun z => by subst z; exact absurd c (by decide)
    have hp : 0 < ns.length := List.length_pos_iff.mpr hn
    have hlt := Int.emod_lt_of_pos k (show (0 : Int) < (ns.length : Int) by omega)
    have hge := Int.emod_nonneg k (show (ns.length : Int) ≠ 0 by omega)
    obtain ⟨v, hv, _⟩ := atI_ints (ns := ns) hge hlt
    refine ⟨_, rfl, _, rfl, _, rfl, a, _, rfl, .inl (s1.seq hS), _, _, rfl, rfl, (by rw [hlen]; show (0 : Int) < (ns.length : Int); omega), a, _, _, .int v, rfl, rfl, s1.seq hS, ?_, ?_⟩
    · rw [hlen]; exact hv
    · exact ⟨_, rfl, s1⟩
  rintro _ H1 ⟨c, rfl, s1⟩
  -- if k >= len(script)
  refine ⟨fun σ' H' => ∃ c : Int, σ' = [some (.ref a), some (.int k), some (.int c), none] ∧ Same H H', ?_, ?_⟩
  · refine ⟨_, rfl, _, rfl, a, _, rfl, .inl (s1.seq hS), _, _, rfl, rfl, _, rfl, ite2 (fun z => ?_) (fun z => ⟨c, rfl, s1⟩)⟩
    refine ⟨_, rfl, _, _, rfl, rfl, (by show (0 : Int) < 1000003; omega), _, rfl, _, _, rfl, rfl, ⟨by omega, by omega, by decide⟩, _, _, rfl, rfl, wide_div (b := 64) (by decide) (by decide) (by decide) (by decide), (by show 2 ≤ sizeLine; decide), fun l hl0 => ?_⟩
    have s2 : Same H1 (upd H1 l _) := same_new (o := .lst [.int (c % 1000003), .int (c / 10 ^ 18)]) hl0
    refine ⟨_, rfl, _, _, rfl, rfl, ⟨by omega, by omega, by decide⟩, _, _, rfl, rfl, .inr ⟨_, rfl, ?_⟩⟩
    by_cases z : (10 : Int) ^ 36 ≤ c
    · refine ⟨l, _, 1, .int (c / 10 ^ 18), rfl, ?_, SqL.of upd_same, rfl, ⟨_, rfl, s1.trans s2⟩⟩
      have e : decide ((10 : Int) ^ (Int.toNat 36) ≤ c) = true := decide_eq_true z
      rw [e]; rfl
    · refine ⟨l, _, 0, .int (c % 1000003), rfl, ?_, SqL.of upd_same, rfl, ⟨_, rfl, s1.trans s2⟩⟩
      have e : decide ((10 : Int) ^ (Int.toNat 36) ≤ c) = false := decide_eq_false z
      rw [e]; rfl
  clear s1 c H1
  rintro _ H1 ⟨c, rfl, s1⟩
  -- the seed
  refine ⟨_, rfl, _, _, rfl, rfl, (by show (0 : Int) < 2147483629; omega), _, rfl, _, _, rfl, rfl, .inl ⟨by omega, by omega⟩, _, _, rfl, rfl, _, _, rfl, rfl, _, _, rfl, rfl, .inr ⟨by omega, by omega⟩, _, _, rfl, rfl, (by show (0 : Int) < 2147483647; omega), ?_⟩
  generalize hs : ((c % 2147483629 + 104729 * k + 11) * 48271) % 2147483647 = sd
  have hs0 : 0 ≤ sd := by rw [← hs]; exact Int.emod_nonneg _ (by omega)
  have hs1 : sd < 2147483647 := by rw [← hs]; exact Int.emod_lt_of_pos _ (by omega)
  refine ⟨_, rfl, _, rfl, _, _, rfl, rfl, ⟨by omega, by omega, by decide⟩, _, _, rfl, rfl, .inr ⟨_, rfl, _, _, rfl, rfl, .inr ?_, _, rfl, (by show 2 ≤ sizeLine; decide), fun p hp => ?_⟩⟩
  · split <;> exact ⟨by omega, by omega⟩
  · refine q p _ (s1.free hp) (s1.trans (same_new hp)) ⟨_, sd, (by rw [← hs]; exact upd_same), ?_, hs0, hs1⟩
    split
    · rename_i z
      have z' : (10 : Int) ^ (Int.toNat 18) ≤ c := of_decide_eq_true z
      have : (0 : Int) ≤ 10 ^ (Int.toNat 18) := by decide
      omega
    · omega

/-! ### whole numbers, signs -/
def whB : PyData → Bool
  | .int _ => true
  | _ => false
def spWh (K : PySem.W.Frag) : Sp := fun vs H Q _ => ∃ (x : V) (d : PyData), vs = [x] ∧ Dp K H x d ∧ Q (.bl (whB d)) H
theorem ok_wh {f : Addr} {fd : FuncData} {k : Nat} (F : Fun K "is_whole" "is_whole" s_is_whole f fd) (m_isinstance : mg "isinstance" = none) (m_int : mg "int" = none) (m_bool : mg "bool" = none) :
    FnOk P w K mg base CX0 (k + 1) f fd ["thing"] (spWh K) := by
  refine F.ok sc_is_whole (fun vs H Q E h => ?_) (fun cdv A outer s H vs Q E hr h => ?_)
  · obtain ⟨x, d, rfl, _⟩ := h
    rfl
  obtain ⟨x, d, rfl, hd, q⟩ := h
  refine ⟨_, (pss_one (ps_ret (pe_and (pe_callB call_isi (by rfl) m_isinstance (by decide +kernel) (pa_cons (pv 0) (pa_cons (pe_bltn (v := .ty "int") (by rfl) m_int (by decide +kernel) rfl) pa_nil))) (pe_one (pe_not (pe_callB call_isi (by rfl) m_isinstance (by decide +kernel) (pa_cons (pv 0) (pa_cons (pe_bltn (v := .ty "bool") (by rfl) m_bool (by decide +kernel) rfl) pa_nil)))))))), ?_⟩
  refine ⟨_, rfl, _, _, _, _, _, rfl, .ty _, dpTy hd, kit_ty (kit_int d), _, rfl, ?_⟩
  cases d with
  | int i => exact iteT ⟨_, rfl, _, _, _, _, _, rfl, .ty _, dpTy hd, kit_ty (kit_bool (.int i)), _, rfl, q⟩
  | bool b => exact iteT ⟨_, rfl, _, _, _, _, _, rfl, .ty _, dpTy hd, kit_ty (kit_bool (.bool b)), _, rfl, q⟩
  | none => exact iteF q
  | str _ => exact iteF q
  | list _ => exact iteF q
  | tuple _ => exact iteF q
  | dict _ => exact iteF q
def numB : PyData → Int → Int → Bool
  | .int i, lo, hi => decide (lo ≤ i) && decide (i ≤ hi)
  | _, _, _ => false
def spNum (K : PySem.W.Frag) : Sp := fun vs H Q _ => ∃ (x : V) (d : PyData) (lo hi : Int), vs = [x, .int lo, .int hi] ∧ Dp K H x d ∧ Q (.bl (numB d lo hi)) H
theorem ok_num {f : Addr} {fd : FuncData} {k : Nat} (F : Fun K "is_number" "is_number" s_is_number f fd) (D_is_whole : Df P w K mg base k "is_whole" ["thing"] (spWh K)) :
    FnOk P w K mg base CX0 (k + 1) f fd ["thing", "least", "most"] (spNum K) := by
  refine F.ok sc_is_number (fun vs H Q E h => ?_) (fun cdv A outer s H vs Q E hr h => ?_)
  · obtain ⟨x, d, lo, hi, rfl, _⟩ := h
    rfl
  obtain ⟨x, d, lo, hi, rfl, hd, q⟩ := h
  refine ⟨_, (pss_one (ps_ret (pe_and (pe_df D_is_whole hr (by rfl) (pa_cons (pv 0) pa_nil)) (pe_one (pe_chain op_le op_le (pv 1) (pv 0) (pv 2)))))), ?_⟩
  refine ⟨_, rfl, x, d, rfl, hd, _, rfl, ?_⟩
  cases d with
  | int i =>
    cases hd
    refine iteT ⟨_, rfl, _, rfl, _, _, rfl, rfl, _, rfl, ite2 (fun c => ?_) (fun c => ?_)⟩
    · refine ⟨_, rfl, _, _, rfl, rfl, ?_⟩
      have e : numB (.int i) lo hi = decide (i ≤ hi) := by
        show (decide (lo ≤ i) && decide (i ≤ hi)) = _
        rw [c]; rfl
      rw [e] at q
      exact q
    · have e : numB (.int i) lo hi = false := by
        show (decide (lo ≤ i) && decide (i ≤ hi)) = _
        rw [Bool.eq_false_iff.mpr c]; rfl
      rw [e] at q
      exact q
  | bool b => exact iteF q
  | none => exact iteF q
  | str _ => exact iteF q
  | list _ => exact iteF q
  | tuple _ => exact iteF q
  | dict _ => exact iteF q
def signB (d : PyData) (many : Int) : Bool := numB d (-many) many && (match d with | .int i => !decide (i = 0) | _ => false)
def spSign (K : PySem.W.Frag) : Sp := fun vs H Q _ => ∃ (x : V) (d : PyData) (many : Int), vs = [x, .int many] ∧ Dp K H x d ∧ Q (.bl (signB d many)) H
theorem ok_sign {f : Addr} {fd : FuncData} {k : Nat} (F : Fun K "is_sign" "is_sign" s_is_sign f fd) (D_is_number : Df P w K mg base k "is_number" ["thing", "least", "most"] (spNum K)) :
    FnOk P w K mg base CX0 (k + 1) f fd ["thing", "many"] (spSign K) := by
  refine F.ok sc_is_sign (fun vs H Q E h => ?_) (fun cdv A outer s H vs Q E hr h => ?_)
  · obtain ⟨x, d, m, rfl, _⟩ := h
    rfl
  obtain ⟨x, d, m, rfl, hd, q⟩ := h
  refine ⟨_, (pss_one (ps_ret (pe_and (pe_df D_is_number hr (by rfl) (pa_cons (pv 0) (pa_cons (pe_un un_neg (pv 1)) (pa_cons (pv 1) pa_nil)))) (pe_one (pe_cmpR op_ne (pv 0) pe_int (nomark _)))))), ?_⟩
  refine ⟨_, rfl, _, rfl, _, rfl, _, rfl, x, d, -m, m, rfl, hd, _, rfl, ite2 (fun c => ?_) (fun c => ?_)⟩
  · cases d with
    | int i =>
      cases hd
      refine ⟨_, rfl, rfl, ?_⟩
      have e : signB (.int i) m = !decide (V.int i = V.int 0) := by
        show (numB (.int i) (-m) m && !decide (i = 0)) = _
        rw [c, dec_int]
        rfl
      rw [e] at q
      exact q
    | _ => exact absurd c Bool.false_ne_true
  · have e : signB d m = false := by
      unfold signB
      rw [Bool.eq_false_iff.mpr c]; rfl
    rw [e] at q
    exact q

/-! ### is_clause -/
/-- rising signs behind the thing last -/
def goB (many : Int) : Int → List PyData → Bool
  | _, [] => true
  | last, d :: ds => match d with
    | .int i => if signB (.int i) many = true ∧ last < (if i < 0 then -i else i) then goB many (if i < 0 then -i else i) ds else false
    | _ => false
def clB (d : PyData) (many : Int) : Bool := match d with
  | .tuple ds => goB many 0 ds
  | _ => false
def spIsCl (K : PySem.W.Frag) : Sp := fun vs H Q _ => ∃ (x : V) (d : PyData) (many : Int), vs = [x, .int many] ∧ (Dp K H x d ∨ (TyX K H x (.type "dict") ∧ d = .none)) ∧ many ≤ 60 ∧ Q (.bl (clB d many)) H
theorem dpAll_at {K : PySem.W.Frag} {H : Hp} : ∀ {xs : List V} {ds : List PyData} {i : Nat} {x : V}, DpAll K H xs ds → xs[i]? = some x → ∃ d, ds[i]? = some d ∧ Dp K H x d ∧ ds.drop i = d :: ds.drop (i + 1)
  | _, _, _, _, .nil, e => by simp at e
  | _, _, 0, _, .cons h _, e => by cases e; exact ⟨_, rfl, h, rfl⟩
  | _, _, i + 1, x, .cons _ t, e => by
    obtain ⟨d, h1, h2, h3⟩ := dpAll_at (i := i) (x := x) t (by simpa using e)
    exact ⟨d, by simpa using h1, h2, by simpa using h3⟩
theorem dpAll_len {K : PySem.W.Frag} {H : Hp} : ∀ {xs : List V} {ds : List PyData}, DpAll K H xs ds → xs.length = ds.length
  | _, _, .nil => rfl
  | _, _, .cons _ t => by rw [List.length_cons, List.length_cons, dpAll_len t]
theorem ok_iscl {f : Addr} {fd : FuncData} {k : Nat} (F : Fb K "is_clause" "is_clause" s_is_clause f fd) (D_is_sign : Df P w K mg base k "is_sign" ["thing", "many"] (spSign K))
    (m_isinstance : mg "isinstance" = none) (m_tuple : mg "tuple" = none) (m_min : mg "min" = none) (m_abs : mg "abs" = none) {tk : Tok} (g_60 : mg "MOST_THINGS" = some (.int 60 tk)) :
    FnOk P w K mg base CX0 (k + 1) f fd ["thing", "many"] (spIsCl K) := by
  refine F.ok sc_is_clause (fun vs H Q E h => ?_) (fun cdv A outer s H vs Q E hr h => ?_)
  · obtain ⟨x, d, m, rfl, _⟩ := h
    rfl
  obtain ⟨x, d, m, rfl, hd, hm, q⟩ := h
  refine ⟨_, (pss_cons (ps_if (pt_not (pt_val (pe_callB call_isi (by rfl) m_isinstance (by decide +kernel) (pa_cons (pv 0) (pa_cons (pe_bltn (v := .ty "tuple") (by rfl) m_tuple (by decide +kernel) rfl) pa_nil)))))
       (pss_one (ps_ret pe_bl))
       pss_nil)
       (pss_cons (ps_set (i := 2) sc_is_clause.nd rfl (.inl rfl) pe_int)
       (pss_cons (ps_for PassesOwn.never rfl (pi_tup (pv 0)) (pg_name (i := 3) sc_is_clause.nd rfl (.inl rfl))
       (pss_cons (ps_if (PW.pt (pw_or (pt_not (pt_val (pe_df D_is_sign hr (by rfl) (pa_cons (pv 3) (pa_cons (pe_callB (call_min2 rfl) (by rfl) m_min (by decide +kernel) (pa_cons (pv 1) (pa_cons (pe_glob (v := .int 60) (by rfl) g_60 ⟨_, rfl⟩) pa_nil))) pa_nil))))) (pw_or1 (pt_cmpR op_le (pe_callB call_abs (by rfl) m_abs (by decide +kernel) (pa_cons (pv 3) pa_nil)) (pv 2) (nomark _)))))
       (pss_one (ps_ret pe_bl))
       pss_nil)
       (pss_one (ps_set (i := 2) sc_is_clause.nd rfl (.inl rfl) (pe_callB call_abs (by rfl) m_abs (by decide +kernel) (pa_cons (pv 3) pa_nil))))))
       (pss_one (ps_ret pe_bl))))), ?_⟩
  rcases hd with hd | ⟨ht, rfl⟩
  case inr => exact ⟨_, rfl, ⟨x, .ty "tuple", .type "dict", .type "tuple", false, rfl, .ty "tuple", ht, kit_ty (by decide +kernel), _, rfl, iteT q⟩⟩
  refine ⟨_, rfl, _, _, _, _, _, rfl, .ty _, dpTy hd, kit_ty (kit_tuple d), _, rfl, ?_⟩
  cases d with
  | tuple ds =>
    cases hd with
    | @tup a xs _ hS hA =>
      refine iteF ?_
      refine ⟨_, rfl, a, rfl, ⟨_, hS⟩, for_tup (xs := xs) (fun i σ' H' => H' = H ∧ ∃ (last : Int) (y : Option V), σ' = [some (.ref a), some (.int m), some (.int last), y] ∧ goB m 0 ds = goB m last (ds.drop i)) ⟨rfl, 0, _, rfl, rfl⟩ (fun i σ' H' _ h => by rw [h.1]; exact hS) ?_ ?_⟩
      · rintro i x σ' H' ex ⟨rfl, last, y, rfl, e⟩
        obtain ⟨d, _, hx, hdr⟩ := dpAll_at hA ex
        rw [hdr] at e
        have e60 : (if (60 : Int) < m then (60 : Int) else m) = m := by rw [if_neg (by omega)]
        refine ⟨_, rfl, _, rfl, _, _, rfl, ?_⟩
        rw [e60]
        refine ⟨x, d, m, rfl, hx, _, rfl, ?_⟩
        cases d with
        | int j =>
          cases hx
          cases hs : signB (.int j) m with
          | true =>
            refine iteF ⟨_, rfl, _, rfl, _, rfl, _, _, rfl, rfl, _, rfl, ite2 (fun c => ?_) (fun c => ?_)⟩
            · have c' : (if j < 0 then -j else j) ≤ last := of_decide_eq_true c
              have z : goB m last (.int j :: ds.drop (i + 1)) = false := by
                unfold goB
                exact if_neg (fun z => by omega)
              rw [show clB (.tuple ds) m = goB m 0 ds from rfl, e, z] at q
              exact q
            · have c' : ¬ (if j < 0 then -j else j) ≤ last := of_decide_eq_false (Bool.eq_false_iff.mpr c)
              refine ⟨_, rfl, _, rfl, ⟨rfl, _, _, rfl, ?_⟩⟩
              rw [e]
              show (if signB (.int j) m = true ∧ last < (if j < 0 then -j else j) then goB m (if j < 0 then -j else j) (ds.drop (i + 1)) else false) = _
              exact if_pos ⟨hs, by omega⟩
          | false =>
            have z : goB m last (.int j :: ds.drop (i + 1)) = false := by
              unfold goB
              exact if_neg (fun z => absurd z.1 (by rw [hs]; exact Bool.false_ne_true))
            rw [show clB (.tuple ds) m = goB m 0 ds from rfl, e, z] at q
            exact iteT q
        | _ =>
          rw [show clB (.tuple ds) m = goB m 0 ds from rfl, e] at q
          exact iteT q
      · rintro σ' H' ⟨rfl, last, y, rfl, e⟩
        rw [dpAll_len hA, List.drop_length] at e
        rw [show clB (.tuple ds) m = goB m 0 ds from rfl, e] at q
        exact q
  | _ => exact iteT q

/-! ### the law's own look -/
def spWhole (K : PySem.W.Frag) : Sp := fun vs H Q _ => ∃ (x : V) (d : PyData), vs = [x] ∧ Dp K H x d ∧ Q (.bl (match d with | .int _ => true | _ => false)) H
theorem ok_whole {f : Addr} {fd : FuncData} {k : Nat} (F : Fun K "_law_whole" "_law_whole" s_law_whole f fd) (m_isinstance : mg "isinstance" = none) (m_int : mg "int" = none) (m_bool : mg "bool" = none) :
    FnOk P w K mg base CX0 (k + 1) f fd ["_law_thing"] (spWhole K) := by
  refine F.ok sc_law_whole (fun vs H Q E h => ?_) (fun cdv A outer s H vs Q E hr h => ?_)
  · obtain ⟨x, d, rfl, _⟩ := h
    rfl
  obtain ⟨x, d, rfl, hd, q⟩ := h
  refine ⟨_, (pss_one (ps_ret (pe_and (pe_callB call_isi (by rfl) m_isinstance (by decide +kernel) (pa_cons (pv 0) (pa_cons (pe_bltn (v := .ty "int") (by rfl) m_int (by decide +kernel) rfl) pa_nil))) (pe_one (pe_not (pe_callB call_isi (by rfl) m_isinstance (by decide +kernel) (pa_cons (pv 0) (pa_cons (pe_bltn (v := .ty "bool") (by rfl) m_bool (by decide +kernel) rfl) pa_nil)))))))), ?_⟩
  refine ⟨_, rfl, _, _, _, _, _, rfl, .ty _, dpTy hd, kit_ty (kit_int d), _, rfl, ?_⟩
  cases d with
  | int i => exact iteT ⟨_, rfl, _, _, _, _, _, rfl, .ty _, dpTy hd, kit_ty (kit_bool (.int i)), _, rfl, q⟩
  | bool b => exact iteT ⟨_, rfl, _, _, _, _, _, rfl, .ty _, dpTy hd, kit_ty (kit_bool (.bool b)), _, rfl, q⟩
  | none => exact iteF q
  | str _ => exact iteF q
  | list _ => exact iteF q
  | tuple _ => exact iteF q
  | dict _ => exact iteF q
def spDue (K : PySem.W.Frag) : Sp := fun vs H Q _ => ∃ (x : V) (d : PyData) (many : Int), vs = [x, .int many] ∧ (Dp K H x d ∨ (TyX K H x (.type "dict") ∧ d = .none)) ∧ Q (.bl (clB d many)) H
theorem ok_due {f : Addr} {fd : FuncData} {k : Nat} (F : Fun K "_law_due" "_law_due" s_law_due f fd) (D_law_whole : Df P w K mg base k "_law_whole" ["_law_thing"] (spWhole K))
    (m_isinstance : mg "isinstance" = none) (m_tuple : mg "tuple" = none) (m_abs : mg "abs" = none) :
    FnOk P w K mg base CX0 (k + 1) f fd ["_law_thing", "_law_things"] (spDue K) := by
  refine F.ok sc_law_due (fun vs H Q E h => ?_) (fun cdv A outer s H vs Q E hr h => ?_)
  · obtain ⟨x, d, m, rfl, _⟩ := h
    rfl
  obtain ⟨x, d, m, rfl, hd, q⟩ := h
  refine ⟨_, (pss_cons (ps_if (pt_not (pt_val (pe_callB call_isi (by rfl) m_isinstance (by decide +kernel) (pa_cons (pv 0) (pa_cons (pe_bltn (v := .ty "tuple") (by rfl) m_tuple (by decide +kernel) rfl) pa_nil)))))
       (pss_one (ps_ret pe_bl))
       pss_nil)
       (pss_cons (ps_set (i := 2) sc_law_due.nd rfl (.inl rfl) pe_int)
       (pss_cons (ps_for PassesOwn.never rfl (pi_tup (pv 0)) (pg_name (i := 3) sc_law_due.nd rfl (.inl rfl))
       (pss_cons (ps_if (PW.pt (pw_or (pt_not (pt_val (pe_df D_law_whole hr (by rfl) (pa_cons (pv 3) pa_nil)))) (pw_or (pt_cmpR op_eq (pv 3) pe_int (nomark _)) (pw_or (pt_cmpR op_gt (pe_callB call_abs (by rfl) m_abs (by decide +kernel) (pa_cons (pv 3) pa_nil)) (pv 1) (nomark _)) (pw_or1 (pt_cmpR op_le (pe_callB call_abs (by rfl) m_abs (by decide +kernel) (pa_cons (pv 3) pa_nil)) (pv 2) (nomark _)))))))
       (pss_one (ps_ret pe_bl))
       pss_nil)
       (pss_one (ps_set (i := 2) sc_law_due.nd rfl (.inl rfl) (pe_callB call_abs (by rfl) m_abs (by decide +kernel) (pa_cons (pv 3) pa_nil))))))
       (pss_one (ps_ret pe_bl))))), ?_⟩
  rcases hd with hd | ⟨ht, rfl⟩
  case inr => exact ⟨_, rfl, ⟨x, .ty "tuple", .type "dict", .type "tuple", false, rfl, .ty "tuple", ht, kit_ty (by decide +kernel), _, rfl, iteT q⟩⟩
  refine ⟨_, rfl, _, _, _, _, _, rfl, .ty _, dpTy hd, kit_ty (kit_tuple d), _, rfl, ?_⟩
  cases d with
  | tuple ds =>
    cases hd with
    | @tup a xs _ hS hA =>
      refine iteF ?_
      refine ⟨_, rfl, a, rfl, ⟨_, hS⟩, for_tup (xs := xs) (fun i σ' H' => H' = H ∧ ∃ (last : Int) (y : Option V), σ' = [some (.ref a), some (.int m), some (.int last), y] ∧ goB m 0 ds = goB m last (ds.drop i)) ⟨rfl, 0, _, rfl, rfl⟩ (fun i σ' H' _ h => by rw [h.1]; exact hS) ?_ ?_⟩
      · rintro i x σ' H' ex ⟨rfl, last, y, rfl, e⟩
        obtain ⟨d, _, hx, hdr⟩ := dpAll_at hA ex
        rw [hdr] at e
        rw [show clB (.tuple ds) m = goB m 0 ds from rfl, e] at q
        refine ⟨_, rfl, x, d, rfl, hx, _, rfl, ?_⟩
        cases d with
        | int j =>
          cases hx
          have un : goB m last (.int j :: ds.drop (i + 1)) = if signB (.int j) m = true ∧ last < (if j < 0 then -j else j) then goB m (if j < 0 then -j else j) (ds.drop (i + 1)) else false := by
            rw [goB]
          have sg : signB (.int j) m = true ↔ (j ≠ 0 ∧ (if j < 0 then -j else j) ≤ m) := by
            unfold signB numB
            simp only [Bool.and_eq_true, decide_eq_true_eq, Bool.not_eq_true', decide_eq_false_iff_not]
            split <;> omega
          refine iteF ⟨_, rfl, rfl, _, rfl, ite2 (fun c => ?_) (fun c => ?_)⟩
          · have c' : j = 0 := V.int.inj (of_decide_eq_true c)
            rw [un, if_neg (fun z => (sg.mp z.1).1 c')] at q
            exact q
          have c1 : j ≠ 0 := fun z => c (decide_eq_true (congrArg V.int z))
          refine ⟨_, rfl, _, rfl, _, rfl, _, _, rfl, rfl, _, rfl, ite2 (fun c => ?_) (fun c => ?_)⟩
          · have c' : m < (if j < 0 then -j else j) := of_decide_eq_true c
            rw [un, if_neg (fun z => by have := (sg.mp z.1).2; omega)] at q
            exact q
          have c2 : ¬ m < (if j < 0 then -j else j) := of_decide_eq_false (Bool.eq_false_iff.mpr c)
          refine ⟨_, rfl, _, rfl, _, rfl, _, _, rfl, rfl, _, rfl, ite2 (fun c => ?_) (fun c => ?_)⟩
          · have c' : (if j < 0 then -j else j) ≤ last := of_decide_eq_true c
            rw [un, if_neg (fun z => by omega)] at q
            exact q
          have c3 : ¬ (if j < 0 then -j else j) ≤ last := of_decide_eq_false (Bool.eq_false_iff.mpr c)
          refine ⟨_, rfl, _, rfl, ⟨rfl, _, _, rfl, ?_⟩⟩
          rw [e, un]
          exact if_pos ⟨sg.mpr ⟨c1, by omega⟩, by omega⟩
        | _ => exact iteT q
      · rintro σ' H' ⟨rfl, last, y, rfl, e⟩
        rw [dpAll_len hA, List.drop_length] at e
        rw [show clB (.tuple ds) m = goB m 0 ds from rfl, e] at q
        exact q
  | _ => exact iteT q

/-! ### a drawn clause -/
structure Cl (n : Nat) (cs : List Int) : Prop where
  up : cs.Pairwise fun a b => a.natAbs < b.natAbs
  all : ∀ c ∈ cs, c ≠ 0 ∧ c.natAbs ≤ n
theorem Cl.nil (n : Nat) : Cl n [] := ⟨List.Pairwise.nil, fun _ h => nomatch h⟩
theorem Cl.le {n m : Nat} {cs : List Int} (h : Cl n cs) (hm : n ≤ m) : Cl m cs := ⟨h.up, fun c hc => ⟨(h.all c hc).1, Nat.le_trans (h.all c hc).2 hm⟩⟩
theorem Cl.snoc {n : Nat} {cs : List Int} (h : Cl n cs) {c : Int} (hc : c.natAbs = n + 1) : Cl (n + 1) (cs ++ [c]) := by
  refine ⟨List.pairwise_append.mpr ⟨h.up, List.pairwise_singleton _ _, fun a ha b hb => ?_⟩, fun x hx => ?_⟩
  · rw [List.mem_singleton] at hb
    have := (h.all a ha).2
    subst hb; omega
  · rcases List.mem_append.mp hx with q | q
    · have := h.all x q
      exact ⟨this.1, by omega⟩
    · rw [List.mem_singleton] at q
      subst q
      exact ⟨fun z => by rw [z] at hc; simp at hc, by omega⟩
def spClause (K : PySem.W.Frag) : Sp := fun vs H Q _ => ∃ (p : Addr) (n most : Int), vs = [.ref p, .int n, .int most] ∧ Pl H p ∧ 0 ≤ n ∧ n ≤ 100 ∧
  ∀ (r : Addr) (cs : List Int) (H' : Hp), Kp p H H' → Pl H' p → H r = none → H' r = some (.tup (cs.map V.int)) → Cl n.toNat cs → (cs.length : Int) ≤ max most 0 → cs.length ≤ 100 → Q (.ref r) H'
theorem ok_clause {f : Addr} {fd : FuncData} {k : Nat} (F : Fun K "_law_clause" "_law_clause" s_law_clause f fd) (D_law_take : Df P w K mg base k "_law_take" ["_law_pool_here", "_law_many"] (spTake K))
    (m_len : mg "len" = none) (m_range : mg "range" = none) (m_tuple : mg "tuple" = none) : FnOk P w K mg base CX0 (k + 1) f fd ["_law_pool_here", "_law_things", "_law_most"] (spClause K) := by
  refine F.ok sc_law_clause (fun vs H Q E h => ?_) (fun cdv A outer s H vs Q E hr h => ?_)
  · obtain ⟨p, n, most, rfl, _⟩ := h
    rfl
  obtain ⟨p, n, most, rfl, hp, h0, h1, q⟩ := h
  refine ⟨_, (pss_cons (ps_set (i := 3) sc_law_clause.nd rfl (.inl rfl) (pe_lst pa_nil))
       (pss_cons (ps_for PassesOwn.never rfl (pi_range2 (by rfl) m_range (pa_cons pe_int (pa_cons (pe_op op_add (pv 1) pe_int) pa_nil))) (pg_name (i := 4) sc_law_clause.nd rfl (.inl rfl))
       (pss_one (ps_if (PW.pt (pw_and (pt_cmpR op_lt (pe_callB call_len_seq (by rfl) m_len (by decide +kernel) (pa_cons (pv 3) pa_nil)) (pv 2) (nomark _)) (pw_and1 (pt_cmpR op_eq (pe_df D_law_take hr (by rfl) (pa_cons (pv 0) (pa_cons pe_int pa_nil))) pe_int (nomark _)))))
       (pss_one (ps_expr (pe_bm PySem.F.plainAttrs_list PySem.F.slot_list_append PySem.F.type_list_append mt_append (pv 3) (pa_cons (pe_ix ix_list (pe_lst (pa_cons (pv 4) (pa_cons (pe_op op_sub pe_int (pv 4)) pa_nil))) (pe_df D_law_take hr (by rfl) (pa_cons (pv 0) (pa_cons pe_int pa_nil))) (fun _ _ => rfl)) pa_nil))))
       pss_nil)))
       (pss_one (ps_ret (pe_callTy call_tuple_of (by rfl) m_tuple (by decide +kernel) (pa_cons (pv 3) pa_nil)))))), ?_⟩
  refine ⟨(by show 0 ≤ sizeLine; decide), fun o no => ?_⟩
  have hpo : o ≠ p := fun z => hp.at (z ▸ no)
  refine ⟨_, rfl, _, _, rfl, rfl, _, _, rfl, ⟨by omega, by omega, by omega, by omega⟩, for_range (lo := 1) (n := (n + 1 - 1).toNat)
    (fun i σ' H' => ∃ (cs : List Int) (y : Option V), σ' = [some (.ref p), some (.int n), some (.int most), some (.ref o), y] ∧ Kp p H H' ∧ Pl H' p ∧ H' o = some (.lst (cs.map V.int)) ∧ Cl i cs ∧ (cs.length : Int) ≤ max most 0 ∧ cs.length ≤ i) ?_ ?_ ?_⟩
  · exact ⟨[], none, rfl, Kp.of (same_new no), hp.same (same_new no), upd_same, Cl.nil _, by simp; omega, by simp⟩
  · rintro i σ' H1 hi ⟨cs, y, rfl, kp, hp1, eo, cl, hm, hl⟩
    refine ⟨_, rfl, o, _, rfl, .inl (SqL.of eo), _, rfl, _, _, rfl, rfl, _, rfl, ite2 (fun c => ?_) (fun c => ?_)⟩
    · have c' : (((cs.map V.int).length : Nat) : Int) < most := of_decide_eq_true c
      rw [List.length_map] at c'
      refine ⟨_, rfl, p, 3, rfl, hp1, by omega, by omega, fun d H2 k2 hp2 _ _ => ?_⟩
      have eo2 := k2 _ _ hpo eo
      refine ⟨rfl, _, rfl, ite2 (fun c => ?_) (fun c => ?_)⟩
      · refine ⟨_, rfl, .inl ⟨rfl, _, SqL.of eo2⟩, ?_⟩
        refine ⟨_, rfl, _, rfl, _, _, rfl, rfl, (by show 2 ≤ sizeLine; decide), fun l nl => ?_⟩
        have s3 : Same H2 (upd H2 l (.lst [.int (1 + (i : Int)), .int (0 - (1 + (i : Int)))])) := same_new nl
        have hlp : l ≠ p := fun z => hp2.at (z ▸ nl)
        refine ⟨_, rfl, p, 2, rfl, hp2.same s3, by omega, by omega, fun d H3 k3 hp3 d0 d1 => ?_⟩
        have eo3 := k3 _ _ hpo (s3 _ _ eo2)
        have el3 := k3 _ _ hlp upd_same
        have fin : ∀ c : Int, c.natAbs = i + 1 → ∃ l xs y, V.ref o = V.ref l ∧ [V.int c] = [y] ∧ H3 l = some (.lst xs) ∧ xs.length < sizeLine ∧
            ∃ (cs : List Int) (y' : Option V), [some (V.ref p), some (.int n), some (.int most), some (.ref o), some (.int (1 + (i : Int)))] = [some (V.ref p), some (.int n), some (.int most), some (.ref o), y'] ∧
              Kp p H (upd H3 l (.lst (xs ++ [y]))) ∧ Pl (upd H3 l (.lst (xs ++ [y]))) p ∧ (upd H3 l (.lst (xs ++ [y]))) o = some (.lst (cs.map V.int)) ∧ Cl (i + 1) cs ∧ (cs.length : Int) ≤ max most 0 ∧ cs.length ≤ i + 1 := fun c hc => by
          refine ⟨o, _, _, rfl, rfl, eo3, ?_, cs ++ [c], _, rfl, ?_, ?_, ?_, cl.snoc hc, ?_, ?_⟩
          · rw [List.length_map]; exact small1000 (by omega)
          · intro b u nb hb
            rw [upd_ne (ne_of_none hb no)]
            exact k3 _ _ nb (s3 _ _ (k2 _ _ nb (kp _ _ nb hb)))
          · obtain ⟨a, b, e, r⟩ := hp3
            exact ⟨a, b, by rw [upd_ne hpo.symm]; exact e, r⟩
          · rw [upd_same, List.map_append]; rfl
          · rw [List.length_append]; simp; omega
          · rw [List.length_append]; simp; omega
        have dd : d = 0 ∨ d = 1 := by omega
        rcases dd with rfl | rfl
        · exact ⟨l, _, 0, .int (1 + (i : Int)), rfl, rfl, SqL.of el3, rfl, fin _ (by omega)⟩
        · exact ⟨l, _, 1, .int (0 - (1 + (i : Int))), rfl, rfl, SqL.of el3, rfl, fin _ (by omega)⟩
      · exact ⟨cs, _, rfl, kp.trans k2, hp2, eo2, cl.le (by omega), hm, by omega⟩
    · exact ⟨cs, _, rfl, kp, hp1, eo, cl.le (by omega), hm, by omega⟩
  · rintro σ' H1 ⟨cs, y, rfl, kp, hp1, eo, cl, hm, hl⟩
    refine ⟨_, rfl, o, _, rfl, .inl ⟨SqL.of eo, fun r nr => ?_⟩⟩
    have s2 : Same H1 (upd H1 r (.tup (cs.map V.int))) := same_new nr
    exact q r cs _ (kp.trans (Kp.of s2)) (hp1.same s2) (kp.freeP hp1 nr) upd_same (cl.le (by omega)) hm (by omega)

/-! ### a thing put otherwise -/
def spBent (K : PySem.W.Frag) : Sp := fun vs H Q _ => ∃ (p c : Addr) (cs : List Int), vs = [.ref p, .ref c] ∧ Pl H p ∧ SqT K H c (cs.map V.int) ∧ cs.length ≤ 100 ∧ (∀ n ∈ cs, n.natAbs < 2 ^ 110) ∧
  ∀ (x : V) (H' : Hp), Kp p H H' → Pl H' p → Dat K (hid p H') x → Q x H'
theorem ok_bent {f : Addr} {fd : FuncData} {k : Nat} (F : Fun K "_law_bent" "_law_bent" s_law_bent f fd) (D_law_take : Df P w K mg base k "_law_take" ["_law_pool_here", "_law_many"] (spTake K))
    (m_len : mg "len" = none) (m_list : mg "list" = none) : FnOk P w K mg base CX0 (k + 1) f fd ["_law_pool_here", "_law_clause_here"] (spBent K) := by
  refine F.ok sc_law_bent (fun vs H Q E h => ?_) (fun cdv A outer s H vs Q E hr h => ?_)
  · obtain ⟨p, c, cs, rfl, _⟩ := h
    rfl
  obtain ⟨p, c, cs, rfl, hp, hc, hl, hb, q⟩ := h
  refine ⟨_, (pss_cons (ps_set (i := 2) sc_law_bent.nd rfl (.inl rfl) (pe_df D_law_take hr (by rfl) (pa_cons (pv 0) (pa_cons (pe_op op_add (pe_callB call_len_seq (by rfl) m_len (by decide +kernel) (pa_cons (pv 1) pa_nil)) pe_int) pa_nil))))
       (pss_cons (ps_set (i := 3) sc_law_bent.nd rfl (.inl rfl) (pe_ix ix_list (pe_lst (pa_cons pe_int (pa_cons pe_bl (pa_cons pe_bl (pa_cons pe_non (pa_cons pe_str (pa_cons pe_int (pa_cons (pe_un un_neg pe_int) (pa_cons pe_int (pa_cons (pe_un un_neg pe_int) (pa_cons (pe_tup (pa_cons pe_int pa_nil)) (pa_cons (pe_lst (pa_cons pe_int pa_nil)) (pa_cons (pe_op op_pow pe_int pe_int) (pa_cons pe_int (pa_cons (pe_un un_neg pe_int) pa_nil))))))))))))))) (pe_df D_law_take hr (by rfl) (pa_cons (pv 0) (pa_cons pe_int pa_nil))) (fun _ _ => rfl)))
       (pss_cons (ps_set (i := 4) sc_law_bent.nd rfl (.inl rfl) (pe_lst (pa_cons (pe_op op_catK (pe_op op_catK (pe_slice sl_tupK (pv 1) po_none (po_some (pv 2))) (pe_tup (pa_cons (pv 3) pa_nil))) (pe_slice sl_tupK (pv 1) (po_some (pe_op op_add (pv 2) pe_int)) po_none)) (pa_cons (pe_op op_catK (pe_op op_catK (pe_slice sl_tupK (pv 1) po_none (po_some (pv 2))) (pe_tup (pa_cons (pv 3) pa_nil))) (pe_slice sl_tupK (pv 1) (po_some (pv 2)) po_none)) (pa_cons (pe_revT (pv 1)) (pa_cons (pe_op op_catK (pv 1) (pv 1)) pa_nil))))))
       (pss_one (ps_ret (pe_ix ix_list (pe_op op_cat (pv 4) (pe_lst (pa_cons (pe_callTy call_list_of (by rfl) m_list (by decide +kernel) (pa_cons (pv 1) pa_nil)) (pa_cons (pe_slice sl_tupK (pv 1) (po_some (pv 2)) po_none) (pa_cons (pe_slice sl_tupK (pv 1) po_none (po_some (pv 2))) pa_nil))))) (pe_df D_law_take hr (by rfl) (pa_cons (pv 0) (pa_cons pe_int pa_nil))) (fun _ _ => rfl))))))), ?_⟩
  have hlen : (cs.map V.int).length = cs.length := List.length_map _
  have hci : ∀ H1 : Hp, ∀ v ∈ cs.map V.int, It K H1 v := fun H1 v hv => by
    obtain ⟨n, hn, rfl⟩ := List.mem_map.mp hv
    exact It.int n (hb n hn)
  -- at
  refine ⟨_, rfl, _, rfl, c, _, rfl, .inr hc, _, _, rfl, rfl, p, _, rfl, hp, by omega, by rw [hlen]; omega, fun a H1 k1 hp1 a0 a1 => ?_⟩
  -- odd
  refine ⟨_, rfl, _, rfl, (by show 1 ≤ sizeLine; decide), fun t nt => ?_⟩
  have s2 : Same H1 (upd H1 t (.tup [.int 1])) := same_new nt
  have hp2 := hp1.same s2
  refine ⟨(by show 1 ≤ sizeLine; decide), fun l nl => ?_⟩
  have s3 : Same (upd H1 t (.tup [.int 1])) (upd (upd H1 t (.tup [.int 1])) l (.lst [.int 1])) := same_new nl
  have hp3 := hp2.same s3
  have hlp : l ≠ p := fun z => hp2.at (z ▸ nl)
  have et : SqT K (hid p (upd (upd H1 t (.tup [.int 1])) l (.lst [.int 1]))) t [.int 1] := hidT hp3 (same_tup s3 (SqT.of upd_same))
  have el : SqL K (hid p (upd (upd H1 t (.tup [.int 1])) l (.lst [.int 1]))) l [.int 1] := SqL.of (hid_of hlp upd_same)
  refine ⟨_, _, rfl, rfl, ⟨by omega, by omega, by decide⟩, _, rfl, (by show 14 ≤ sizeLine; decide), fun L nL => ?_⟩
  generalize (upd (upd H1 t (.tup [.int 1])) l (.lst [.int 1])) = H3 at *
  have s4 := same_new (o := .lst [.int 0, .bl true, .bl false, .non, .str (Str.ofString "1"), .int 61, .int (-61), .int 60, .int (-60), .ref t, .ref l, .int (10 ^ (Int.toNat 30)), .int 1, .int (-1)]) nL
  have hLp : L ≠ p := fun z => hp3.at (z ▸ nL)
  refine ⟨_, rfl, p, 14, rfl, hp3.same s4, by omega, by omega, fun d H5 k5 hp5 d0 d1 => ?_⟩
  have eL : H5 L = some _ := k5 _ _ hLp upd_same
  have s5 : Same (hid p H3) (hid p H5) := (Kp.trans (Kp.of s4) k5).hid
  obtain ⟨odd, ho1, ho2⟩ := atI_at (xs := [V.int 0, .bl true, .bl false, .non, .str (Str.ofString "1"), .int 61, .int (-61), .int 60, .int (-60), .ref t, .ref l, .int (10 ^ (Int.toNat 30)), .int 1, .int (-1)]) d0 d1
  have hodd : It K (hid p H5) odd := by
    have one : It K (hid p H3) (.int 1) := It.int 1 (by decide)
    have m := List.mem_of_getElem? ho2
    simp only [List.mem_cons, List.not_mem_nil, or_false] at m
    rcases m with rfl | rfl | rfl | rfl | rfl | rfl | rfl | rfl | rfl | rfl | rfl | rfl | rfl | rfl
    · exact It.int _ (by decide)
    · exact ⟨_, .bl _, Fine.bool _⟩
    · exact ⟨_, .bl _, Fine.bool _⟩
    · exact ⟨_, .non, Fine.none⟩
    · exact ⟨_, .str _, Fine.str1.le (by omega) (by omega)⟩
    · exact It.int _ (by decide)
    · exact It.int _ (by decide)
    · exact It.int _ (by decide)
    · exact It.int _ (by decide)
    · refine It.same ⟨.tuple [.int 1], .tup et (.cons (.int 1) .nil), ?_⟩ s5
      exact (Fine.tuple (n := 110) (m := 0) (l := 1) (fun z hz => by rw [List.mem_singleton] at hz; subst hz; exact Fine.int 1 (by decide)) (by simp)).le (by omega) (by omega)
    · refine It.same ⟨.list [.int 1], .lst el (.cons (.int 1) .nil), ?_⟩ s5
      exact (Fine.list (n := 110) (m := 0) (l := 1) (fun z hz => by rw [List.mem_singleton] at hz; subst hz; exact Fine.int 1 (by decide)) (by simp)).le (by omega) (by omega)
    · exact It.int _ (by decide)
    · exact It.int _ (by decide)
    · exact It.int _ (by decide)
  refine ⟨L, _, d, odd, rfl, rfl, SqL.of eL, ho1, ?_⟩
  have k15 : Kp p H H5 := k1.trans ((Kp.of (s2.trans (s3.trans s4))).trans k5)
  have c5 : SqT K H5 c (cs.map V.int) := k15.tup hp hc
  clear s2 s3 s4 s5 el et eL ho1 ho2 k5 hp3 hLp hlp nL nl nt k1 hp1 hp2
  have sm : ∀ n : Nat, n ≤ 1000 → n ≤ sizeLine := fun n h => small h
  have cutl : ∀ lo hi, (cutV (cs.map V.int) lo hi).length ≤ 100 := fun lo hi => by have := (cut_sub (xs := cs.map V.int) (lo := lo) (hi := hi)).2; omega
  have cuti : ∀ lo hi (G : Hp), ∀ v ∈ cutV (cs.map V.int) lo hi, It K G v := fun lo hi G v hv => hci G v (cut_sub.1 v hv)
  -- the first: clause[:at] + (odd,) + clause[at + 1:]
  refine ⟨_, rfl, _, rfl, a, rfl, c, _, rfl, c5, fun r1 H6 s6 h6 => ?_⟩
  refine ⟨_, rfl, (by show 1 ≤ sizeLine; decide), fun t2 nt2 => ?_⟩
  have s7 : Same H6 (upd H6 t2 (.tup [odd])) := same_new nt2
  refine ⟨r1, t2, _, _, rfl, rfl, same_tup s7 h6, SqT.of upd_same, sm _ (by have := cutl none (some a); simp; omega), fun r3 H8 s8 h8 => ?_⟩
  have s58 : Same H5 H8 := s6.trans (s7.trans s8)
  refine ⟨_, rfl, _, rfl, _, _, rfl, rfl, _, rfl, c, _, rfl, same_tup s58 c5, fun r4 H9 s9 h9 => ?_⟩
  refine ⟨r3, r4, _, _, rfl, rfl, same_tup s9 h8, h9, sm _ (by have := cutl none (some a); have := cutl (some (a + 1)) none; simp; omega), fun e1 H10 s10 h10 => ?_⟩
  have s5A : Same H5 H10 := s58.trans (s9.trans s10)
  clear s6 s7 s8 s9 s10 h6 h8 h9 nt2 s58
  -- the second: clause[:at] + (odd,) + clause[at:]
  refine ⟨_, rfl, _, rfl, a, rfl, c, _, rfl, same_tup s5A c5, fun r1 H6 s6 h6 => ?_⟩
  refine ⟨_, rfl, (by show 1 ≤ sizeLine; decide), fun t2 nt2 => ?_⟩
  have s7 : Same H6 (upd H6 t2 (.tup [odd])) := same_new nt2
  refine ⟨r1, t2, _, _, rfl, rfl, same_tup s7 h6, SqT.of upd_same, sm _ (by have := cutl none (some a); simp; omega), fun r3 H8 s8 h8 => ?_⟩
  have sA8 : Same H10 H8 := s6.trans (s7.trans s8)
  refine ⟨_, rfl, _, rfl, a, rfl, c, _, rfl, same_tup (s5A.trans sA8) c5, fun r4 H9 s9 h9 => ?_⟩
  refine ⟨r3, r4, _, _, rfl, rfl, same_tup s9 h8, h9, sm _ (by have := cutl none (some a); have := cutl (some a) none; simp; omega), fun e2 HB sB hB => ?_⟩
  have sAB : Same H10 HB := sA8.trans (s9.trans sB)
  clear s6 s7 s8 s9 sB h6 h8 h9 nt2 sA8
  -- the third, the fourth
  refine ⟨_, rfl, c, _, rfl, same_tup (s5A.trans sAB) c5, fun e3 n3 => ?_⟩
  have sBC : Same HB (upd HB e3 (.tup (cs.map V.int).reverse)) := same_new n3
  refine ⟨_, rfl, _, rfl, c, c, _, _, rfl, rfl, same_tup (s5A.trans (sAB.trans sBC)) c5, same_tup (s5A.trans (sAB.trans sBC)) c5, sm _ (by omega), fun e4 HD sCD h4 => ?_⟩
  have h3 : SqT K HD e3 (cs.map V.int).reverse := same_tup sCD (SqT.of upd_same)
  have sBD : Same HB HD := sBC.trans sCD
  clear sBC sCD n3
  refine ⟨(by show 4 ≤ sizeLine; decide), fun S nS => ?_⟩
  have sDE : Same HD (upd HD S (.lst [.ref e1, .ref e2, .ref e3, .ref e4])) := same_new nS
  have eS : (upd HD S (.lst [.ref e1, .ref e2, .ref e3, .ref e4])) S = some (.lst [.ref e1, .ref e2, .ref e3, .ref e4]) := upd_same
  generalize (upd HD S (.lst [.ref e1, .ref e2, .ref e3, .ref e4])) = HE at *
  have s5E : Same H5 HE := s5A.trans (sAB.trans (sBD.trans sDE))
  -- the rest
  refine ⟨_, rfl, _, rfl, c, _, rfl, .inr (same_tup s5E c5), fun l nl => ?_⟩
  have sEF : Same HE (upd HE l (.lst (cs.map V.int))) := same_new nl
  have el : (upd HE l (.lst (cs.map V.int))) l = some (.lst (cs.map V.int)) := upd_same
  have hlp : l ≠ p := fun z => ((hp5.same s5E).at (z ▸ nl)).elim
  generalize (upd HE l (.lst (cs.map V.int))) = HF at *
  refine ⟨_, rfl, _, rfl, a, rfl, c, _, rfl, same_tup (s5E.trans sEF) c5, fun e6 HG sFG h6 => ?_⟩
  refine ⟨_, rfl, _, rfl, a, rfl, c, _, rfl, same_tup (s5E.trans (sEF.trans sFG)) c5, fun e7 HH sGH h7 => ?_⟩
  refine ⟨(by show 3 ≤ sizeLine; decide), fun M nM => ?_⟩
  have sHI : Same HH (upd HH M (.lst [.ref l, .ref e6, .ref e7])) := same_new nM
  refine ⟨S, M, _, _, rfl, rfl, (sEF.trans (sFG.trans (sGH.trans sHI))) _ _ eS, upd_same, (by show 7 ≤ sizeLine; decide), fun R nR => ?_⟩
  generalize (upd HH M (.lst [.ref l, .ref e6, .ref e7])) = HI at *
  have sIJ : Same HI (upd HI R (.lst ([.ref e1, .ref e2, .ref e3, .ref e4] ++ [.ref l, .ref e6, .ref e7]))) := same_new nR
  have sEI : Same HE HI := sEF.trans (sFG.trans (sGH.trans sHI))
  have hpI : Pl HI p := hp5.same (s5E.trans sEI)
  have hRp : R ≠ p := fun z => hpI.at (z ▸ nR)
  have hpJ := hpI.same sIJ
  refine ⟨_, rfl, p, 7, rfl, hpJ, by omega, by omega, fun d2 HK kJK hpK d20 d21 => ?_⟩
  have eR : HK R = some _ := kJK _ _ hRp upd_same
  obtain ⟨x, hx1, hx2⟩ := atI_at (xs := [V.ref e1, V.ref e2, V.ref e3, V.ref e4] ++ [V.ref l, V.ref e6, V.ref e7]) d20 d21
  refine ⟨R, _, d2, x, rfl, rfl, SqL.of eR, hx1, ?_⟩
  have oddi : ∀ G, Same H5 G → It K (hid p G) odd := fun G sG => hodd.same (Kp.of sG).hid
  have goE : ∀ y, Dat K (hid p HI) y → Dat K (hid p HK) y := fun y h => h.same ((Kp.of sIJ).trans kJK).hid
  refine q x HK (k15.trans ((Kp.of (s5E.trans (sEI.trans sIJ))).trans kJK)) hpK (goE x ?_)
  have m := List.mem_of_getElem? hx2
  have three : ∀ (G : Hp) (lo hi lo2 hi2 : Option Int), It K G odd → ∀ v ∈ cutV (cs.map V.int) lo hi ++ [odd] ++ cutV (cs.map V.int) lo2 hi2, It K G v := fun G lo hi lo2 hi2 ho v hv => by
    rcases List.mem_append.mp hv with h | h
    · rcases List.mem_append.mp h with h | h
      · exact cuti lo hi G v h
      · rw [List.mem_singleton] at h; rw [h]; exact ho
    · exact cuti lo2 hi2 G v h
  have s5I : Same H5 HI := s5E.trans sEI
  simp only [List.cons_append, List.nil_append, List.mem_cons, List.not_mem_nil, or_false] at m
  rcases m with rfl | rfl | rfl | rfl | rfl | rfl | rfl
  · refine dat_tup (hidT hpI (same_tup (sAB.trans (sBD.trans (sDE.trans sEI))) h10)) (three _ _ _ _ _ (oddi _ s5I)) ?_
    have := cutl none (some a); have := cutl (some (a + 1)) none; simp; omega
  · refine dat_tup (hidT hpI (same_tup (sBD.trans (sDE.trans sEI)) hB)) (three _ _ _ _ _ (oddi _ s5I)) ?_
    have := cutl none (some a); have := cutl (some a) none; simp; omega
  · exact dat_tup (hidT hpI (same_tup (sDE.trans sEI) h3)) (fun v hv => hci _ v (List.mem_reverse.mp hv)) (by rw [List.length_reverse]; omega)
  · exact dat_tup (hidT hpI (same_tup (sDE.trans sEI) h4)) (fun v hv => hci _ v ((List.mem_append.mp hv).elim id id)) (by rw [List.length_append]; omega)
  · exact dat_lst (SqL.of (hid_of hlp ((sFG.trans (sGH.trans sHI)) _ _ el))) (hci _) (by omega)
  · exact dat_tup (hidT hpI (same_tup (sGH.trans sHI) h6)) (cuti _ _ _) (by have := cutl (some a) none; omega)
  · exact dat_tup (hidT hpI (same_tup sHI h7)) (cuti _ _ _) (by have := cutl none (some a); omega)

end
end K01
namespace K01
open PySem PySem.Spec PyProof.Rows L2 KL
section
variable {P : Program} {w : World} {K : PySem.W.Frag} {mg : Str → Option Value} {base : Heap}
def spLaw (K : PySem.W.Frag) : Sp := fun vs H Q _ => ∃ (a : Addr) (ns : List Int), vs = [.ref a] ∧ SqL K H a (ns.map V.int) ∧ ns.length ≤ 63 ∧ ∀ H', Q (.bl true) H'
theorem ok_law {f : Addr} {fd : FuncData} {k : Nat} (F : Fun K "law" "law" s_law f fd)
    (D_law_pool : Df P w K mg base k "_law_pool" ["_law_script", "_law_k"] (spPool K)) (D_law_take : Df P w K mg base k "_law_take" ["_law_pool_here", "_law_many"] (spTake K))
    (D_law_clause : Df P w K mg base k "_law_clause" ["_law_pool_here", "_law_things", "_law_most"] (spClause K)) (D_law_bent : Df P w K mg base k "_law_bent" ["_law_pool_here", "_law_clause_here"] (spBent K))
    (D_is_clause : Df P w K mg base k "is_clause" ["thing", "many"] (spIsCl K)) (D_is_clause1 : Dfd P w K mg base k "is_clause" ["thing", "many"] (spIsCl K) [.int 60])
    (D_law_due : Df P w K mg base k "_law_due" ["_law_thing", "_law_things"] (spDue K))
    (m_len : mg "len" = none) (m_range : mg "range" = none) (m_max : mg "max" = none) (m_min : mg "min" = none) (m_repr : mg "repr" = none) :
    GFn P w K mg base CX0 (k + 1) f fd ["_law_script"] (spLaw K) := by
  refine gfn0 F sc_law (fun vs H Q E h => ?_) (fun cdv A gu outer s H vs Q E hr h => ?_)
  · obtain ⟨a, ns, rfl, _⟩ := h
    rfl
  obtain ⟨a, ns, rfl, hS, hl, q⟩ := h
  refine ⟨_, (pss_cons (ps_for PassesOwn.never rfl (pi_range1 (by rfl) m_range (pa_cons (pe_callB (call_max2 rfl) (by rfl) m_max (by decide +kernel) (pa_cons pe_int (pa_cons (pe_callB (call_min2 rfl) (by rfl) m_min (by decide +kernel) (pa_cons pe_int (pa_cons (pe_callB call_len_seq (by rfl) m_len (by decide +kernel) (pa_cons (pv 0) pa_nil)) pa_nil))) pa_nil))) pa_nil)) (pg_name (i := 1) sc_law.nd rfl (.inl rfl))
       (pss_cons (ps_set (i := 2) sc_law.nd rfl (.inl rfl) (pe_df D_law_pool hr (by rfl) (pa_cons (pv 0) (pa_cons (pv 1) pa_nil))))
       (pss_cons (ps_set (i := 3) sc_law.nd rfl (.inl rfl) (pe_ix ix_list (pe_lst (pa_cons (pe_op op_add pe_int (pe_df D_law_take hr (by rfl) (pa_cons (pv 2) (pa_cons pe_int pa_nil)))) (pa_cons (pe_op op_add pe_int (pe_df D_law_take hr (by rfl) (pa_cons (pv 2) (pa_cons pe_int pa_nil)))) (pa_cons pe_int pa_nil)))) (pe_df D_law_take hr (by rfl) (pa_cons (pv 2) (pa_cons pe_int pa_nil))) (fun _ _ => rfl)))
       (pss_cons (ps_set (i := 4) sc_law.nd rfl (.inl rfl) (pe_df D_law_clause hr (by rfl) (pa_cons (pv 2) (pa_cons (pv 3) (pa_cons pe_int pa_nil)))))
       (pss_cons (ps_for PassesOwn.never rfl (pi_list (pe_lst (pa_cons (pv 4) (pa_cons (pe_df D_law_bent hr (by rfl) (pa_cons (pv 2) (pa_cons (pv 4) pa_nil))) (pa_cons (pe_df D_law_bent hr (by rfl) (pa_cons (pv 2) (pa_cons (pv 4) pa_nil))) pa_nil))))) (pg_name (i := 5) sc_law.nd rfl (.inl rfl))
       (pss_cons (ps_set (i := 6) sc_law.nd rfl (.inl rfl) (pe_callB (call_rep gu hr.units) (by rfl) m_repr (by decide +kernel) (pa_cons (pv 5) pa_nil)))
       (pss_cons (ps_for PassesOwn.never rfl (pi_list (pe_lst (pa_cons (pv 3) (pa_cons (pe_op op_sub (pv 3) pe_int) (pa_cons pe_int (pa_cons pe_int pa_nil)))))) (pg_name (i := 7) sc_law.nd rfl (.inl rfl))
       (pss_one (ps_if (pt_cmpR op_ne (pe_callB (call_rep gu hr.units) (by rfl) m_repr (by decide +kernel) (pa_cons (pe_df D_is_clause hr (by rfl) (pa_cons (pv 5) (pa_cons (pv 7) pa_nil))) pa_nil)) (pe_callB (call_rep gu hr.units) (by rfl) m_repr (by decide +kernel) (pa_cons (pe_df D_law_due hr (by rfl) (pa_cons (pv 5) (pa_cons (pv 7) pa_nil))) pa_nil)) (nomark _))
       (pss_one (ps_ret pe_bl))
       pss_nil)))
       (pss_one (ps_if (PW.pt (pw_or (pt_cmpR op_ne (pe_callB (call_rep gu hr.units) (by rfl) m_repr (by decide +kernel) (pa_cons (pe_dfd D_is_clause1 hr (by rfl) (pa_cons (pv 5) pa_nil)) pa_nil)) (pe_callB (call_rep gu hr.units) (by rfl) m_repr (by decide +kernel) (pa_cons (pe_df D_law_due hr (by rfl) (pa_cons (pv 5) (pa_cons pe_int pa_nil))) pa_nil)) (nomark _)) (pw_or1 (pt_cmpR op_ne (pe_callB (call_rep gu hr.units) (by rfl) m_repr (by decide +kernel) (pa_cons (pv 5) pa_nil)) (pv 6) (nomark _)))))
       (pss_one (ps_ret pe_bl))
       pss_nil)))))
       (pss_one (ps_for PassesOwn.never rfl (pi_list (pe_lst (pa_cons pe_non (pa_cons (pe_lst pa_nil) (pa_cons pe_dnewK (pa_cons pe_int (pa_cons pe_str (pa_cons (pe_tup pa_nil) (pa_cons pe_bl (pa_cons (pe_tup (pa_cons pe_non pa_nil)) (pa_cons (pe_tup (pa_cons (pe_tup (pa_cons pe_int pa_nil)) pa_nil)) (pa_cons (pe_tup (pa_cons (pe_lst pa_nil) pa_nil)) pa_nil)))))))))))) (pg_name (i := 5) sc_law.nd rfl (.inl rfl))
       (pss_one (ps_if (pt_cmpR op_ne (pe_callB (call_rep gu hr.units) (by rfl) m_repr (by decide +kernel) (pa_cons (pe_df D_is_clause hr (by rfl) (pa_cons (pv 5) (pa_cons (pv 3) pa_nil))) pa_nil)) (pe_callB (call_rep gu hr.units) (by rfl) m_repr (by decide +kernel) (pa_cons (pe_df D_law_due hr (by rfl) (pa_cons (pv 5) (pa_cons (pv 3) pa_nil))) pa_nil)) (nomark _))
       (pss_one (ps_ret pe_bl))
       pss_nil)))))))))
       (pss_one (ps_ret pe_bl))), ?_⟩
  have hlen : (ns.map V.int).length = ns.length := List.length_map _
  refine ⟨_, rfl, a, _, rfl, .inl hS, _, _, rfl, _, _, rfl, _, rfl, ?_, ?_, for_range (lo := 0) (fun i σ' H' => ∃ y1 y2 y3 y4 y5 y6 y7, σ' = [some (.ref a), y1, y2, y3, y4, y5, y6, y7] ∧ Same H H') ?_ ?_ ?_⟩
  · rw [hlen]; split <;> (split <;> omega)
  · rw [hlen]; split <;> (split <;> omega)
  · exact ⟨_, _, _, _, _, _, _, rfl, Same.refl H⟩
  · rintro i σ' H1 hi ⟨y1, y2, y3, y4, y5, y6, y7, rfl, s1⟩
    -- the pool
    refine ⟨_, rfl, _, rfl, a, ns, _, rfl, s1.seq hS, by omega, by omega, fun p H2 np s2 hp2 => ?_⟩
    -- how many things
    refine ⟨_, rfl, p, 8, rfl, hp2, by omega, by omega, fun d1 H3 k3 hp3 d10 d11 => ⟨_, _, rfl, rfl, ?_⟩⟩
    refine ⟨_, rfl, p, 60, rfl, hp3, by omega, by omega, fun d2 H4 k4 hp4 d20 d21 => ⟨_, _, rfl, rfl, ?_⟩⟩
    refine ⟨(by show 3 ≤ sizeLine; decide), fun l nl => ?_⟩
    have s5 := same_new (o := .lst [.int (1 + d1), .int (1 + d2), .int 60]) nl
    have hlp : l ≠ p := fun z => hp4.at (z ▸ nl)
    refine ⟨_, rfl, p, 3, rfl, hp4.same s5, by omega, by omega, fun d3 H6 k6 hp6 d30 d31 => ?_⟩
    obtain ⟨tv, ht1, ht2⟩ := atI_at (xs := [V.int (1 + d1), V.int (1 + d2), V.int 60]) d30 d31
    obtain ⟨t, rfl, t0, t1⟩ : ∃ t : Int, tv = .int t ∧ 1 ≤ t ∧ t ≤ 60 := by
      have m := List.mem_of_getElem? ht2
      simp only [List.mem_cons, List.not_mem_nil, or_false] at m
      rcases m with rfl | rfl | rfl
      · exact ⟨_, rfl, by omega, by omega⟩
      · exact ⟨_, rfl, by omega, by omega⟩
      · exact ⟨_, rfl, by omega, by omega⟩
    refine ⟨l, _, d3, .int t, rfl, rfl, SqL.of (k6 _ _ hlp upd_same), ht1, ?_⟩
    have k26 : Kp p H2 H6 := k3.trans (k4.trans ((Kp.of s5).trans k6))
    have s16 : Same H1 H6 := same_kp s2 np k26
    clear k3 k4 k6 hp3 hp4 s5 nl hlp ht1 ht2 k26 d10 d11 d20 d21 d30 d31
    -- the clause
    refine ⟨_, rfl, _, rfl, p, t, 20, rfl, hp6, by omega, by omega, fun c cs H7 k7 hp7 nc ec cl hm hcl => ?_⟩
    have hcb : ∀ n ∈ cs, n.natAbs < 2 ^ 110 := fun n hn => Nat.lt_of_le_of_lt (cl.all n hn).2 (by omega)
    -- the three things
    refine ⟨_, rfl, _, rfl, _, rfl, p, c, cs, rfl, hp7, SqT.of ec, hcl, hcb, fun x1 H8 k8 hp8 dx1 => ?_⟩
    have ec8 : SqT K H8 c (cs.map V.int) := k8.tup hp7 (SqT.of ec)
    refine ⟨_, rfl, _, rfl, p, c, cs, rfl, hp8, ec8, hcl, hcb, fun x2 H9 k9 hp9 dx2 => ?_⟩
    refine ⟨(by show 3 ≤ sizeLine; decide), fun L nL => ?_⟩
    have s9 := same_new (o := .lst [.ref c, x1, x2]) nL
    have hLp : L ≠ p := fun z => hp9.at (z ▸ nL)
    have hpA := hp9.same s9
    have dAll : ∀ x ∈ [V.ref c, x1, x2], Dat K (hid p (upd H9 L (.lst [.ref c, x1, x2]))) x := fun x hx => by
      simp only [List.mem_cons, List.not_mem_nil, or_false] at hx
      rcases hx with rfl | rfl | rfl
      · exact dat_tup (hidT hpA (same_tup s9 (k9.tup hp8 ec8))) (fun v hv => by
          obtain ⟨n, hn, rfl⟩ := List.mem_map.mp hv
          exact It.int n (hcb n hn)) (by rw [List.length_map]; omega)
      · exact dx1.same (k9.trans (Kp.of s9)).hid
      · exact dx2.same (Kp.of s9).hid
    have eL : (upd H9 L (.lst [.ref c, x1, x2])) L = some (.lst [.ref c, x1, x2]) := upd_same
    have s1A : Same H1 (upd H9 L (.lst [.ref c, x1, x2])) := (same_kp s16 (k := k7.trans (k8.trans (k9.trans (Kp.of s9)))) np)
    generalize (upd H9 L (.lst [.ref c, x1, x2])) = HA at *
    clear k7 k8 k9 s9 hp8 hp9 dx1 dx2 ec ec8 nL
    refine ⟨L, rfl, ⟨_, SqL.of eL⟩, for_list (xs := [V.ref c, x1, x2]) (fun _ σ' H' => ∃ y1 y5 y6 y7, σ' = [some (.ref a), y1, some (.ref p), some (.int t), some (.ref c), y5, y6, y7] ∧ Same HA H') ?_ ?_ ?_ ?_⟩
    · exact ⟨_, _, _, _, rfl, Same.refl _⟩
    · rintro i σ' H' _ ⟨_, _, _, _, _, sA⟩
      exact SqL.of (sA _ _ eL)
    · rintro i x σ' HB ex ⟨y1, y5, y6, y7, rfl, sB⟩
      obtain ⟨d, hd0, fd0⟩ := dAll x (List.mem_of_getElem? ex)
      have hd1 : Dp K HB x d := dpSame hd0 ((hid_same p HA).trans sB)
      -- kept
      refine ⟨_, rfl, x, d, rfl, hd1, fd0.sh, Nat.le_trans fd0.dp (by omega), fd0.len (by omega), ?_⟩
      -- the sizes
      refine ⟨_, rfl, _, rfl, _, _, rfl, rfl, (by show 4 ≤ sizeLine; decide), fun l nl => ?_⟩
      have sC := same_new (o := .lst [.int t, .int (t - 1), .int 0, .int 60]) nl
      have hd2 := dpSame hd1 sC
      have el : (upd HB l (.lst [.int t, .int (t - 1), .int 0, .int 60])) l = some (.lst [.int t, .int (t - 1), .int 0, .int 60]) := upd_same
      have sAC : Same HA (upd HB l (.lst [.int t, .int (t - 1), .int 0, .int 60])) := sB.trans sC
      generalize (upd HB l (.lst [.int t, .int (t - 1), .int 0, .int 60])) = HC at *
      refine ⟨l, rfl, ⟨_, SqL.of el⟩, for_list (xs := [V.int t, .int (t - 1), .int 0, .int 60]) (fun _ σ' H' => ∃ y1 y7, σ' = [some (.ref a), y1, some (.ref p), some (.int t), some (.ref c), some x, some (.str d.shown), y7] ∧ H' = HC) ?_ ?_ ?_ ?_⟩
      · exact ⟨_, _, rfl, rfl⟩
      · rintro i σ' H' _ ⟨_, _, _, rfl⟩
        exact SqL.of el
      · rintro i z σ' H' ez ⟨y1, y7, rfl, rfl⟩
        obtain ⟨n, rfl, hn⟩ : ∃ n : Int, z = .int n ∧ n ≤ 60 := by
          have m := List.mem_of_getElem? ez
          simp only [List.mem_cons, List.not_mem_nil, or_false] at m
          rcases m with rfl | rfl | rfl | rfl
          · exact ⟨_, rfl, by omega⟩
          · exact ⟨_, rfl, by omega⟩
          · exact ⟨_, rfl, by omega⟩
          · exact ⟨_, rfl, by omega⟩
        refine ⟨_, rfl, _, rfl, x, d, n, rfl, .inl hd2, hn, _, _, rfl, .bl _, rfl, (by show 0 ≤ 60; omega), (Fine.bool (n := 0) (m := 0) _).len (by omega), ?_⟩
        refine ⟨_, rfl, _, rfl, x, d, n, rfl, .inl hd2, _, _, rfl, .bl _, rfl, (by show 0 ≤ 60; omega), (Fine.bool (n := 0) (m := 0) _).len (by omega), ?_⟩
        exact ⟨rfl, _, rfl, ne_self ⟨_, _, rfl, rfl⟩⟩
      · rintro σ' H' ⟨y1, y7, rfl, rfl⟩
        refine ⟨_, rfl, x, d, 60, rfl, .inl hd2, by omega, _, _, rfl, .bl _, rfl, (by show 0 ≤ 60; omega), (Fine.bool (n := 0) (m := 0) _).len (by omega), ?_⟩
        refine ⟨_, rfl, x, d, 60, rfl, .inl hd2, _, _, rfl, .bl _, rfl, (by show 0 ≤ 60; omega), (Fine.bool (n := 0) (m := 0) _).len (by omega), ?_⟩
        refine ⟨rfl, _, rfl, ne_self ?_⟩
        refine ⟨_, rfl, x, d, rfl, hd2, fd0.sh, Nat.le_trans fd0.dp (by omega), fd0.len (by omega), _, rfl, rfl, _, rfl, ne_self ?_⟩
        exact ⟨_, _, _, _, rfl, sAC⟩
    · rintro σ' HB ⟨y1, y5, y6, y7, rfl, sB⟩
      -- things of other kinds
      refine ⟨(by show 0 ≤ sizeLine; decide), fun l1 n1 => ?_⟩
      have a1 := same_new (o := .lst []) n1
      have e1 : (upd HB l1 (.lst [])) l1 = some (.lst []) := upd_same
      generalize (upd HB l1 (.lst [])) = G1 at *
      refine fun dc n2 => ?_
      have a2 := same_new (o := .dK []) n2
      have e2 : (upd G1 dc (.dK [])) dc = some (.dK []) := upd_same
      generalize (upd G1 dc (.dK [])) = G2 at *
      refine ⟨(by show 0 ≤ sizeLine; decide), fun t1' n3 => ?_⟩
      have a3 := same_new (o := .tup []) n3
      have e3 : (upd G2 t1' (.tup [])) t1' = some (.tup []) := upd_same
      generalize (upd G2 t1' (.tup [])) = G3 at *
      refine ⟨(by show 1 ≤ sizeLine; decide), fun t2 n4 => ?_⟩
      have a4 := same_new (o := .tup [.non]) n4
      have e4 : (upd G3 t2 (.tup [.non])) t2 = some (.tup [.non]) := upd_same
      generalize (upd G3 t2 (.tup [.non])) = G4 at *
      refine ⟨(by show 1 ≤ sizeLine; decide), fun t3 n5 => ?_⟩
      have a5 := same_new (o := .tup [.int 1]) n5
      have e5 : (upd G4 t3 (.tup [.int 1])) t3 = some (.tup [.int 1]) := upd_same
      generalize (upd G4 t3 (.tup [.int 1])) = G5 at *
      refine ⟨(by show 1 ≤ sizeLine; decide), fun t4 n6 => ?_⟩
      have a6 := same_new (o := .tup [.ref t3]) n6
      have e6 : (upd G5 t4 (.tup [.ref t3])) t4 = some (.tup [.ref t3]) := upd_same
      generalize (upd G5 t4 (.tup [.ref t3])) = G6 at *
      refine ⟨(by show 0 ≤ sizeLine; decide), fun l2 n7 => ?_⟩
      have a7 := same_new (o := .lst []) n7
      have e7 : (upd G6 l2 (.lst [])) l2 = some (.lst []) := upd_same
      generalize (upd G6 l2 (.lst [])) = G7 at *
      refine ⟨(by show 1 ≤ sizeLine; decide), fun t5 n8 => ?_⟩
      have a8 := same_new (o := .tup [.ref l2]) n8
      have e8 : (upd G7 t5 (.tup [.ref l2])) t5 = some (.tup [.ref l2]) := upd_same
      generalize (upd G7 t5 (.tup [.ref l2])) = G8 at *
      refine ⟨(by show 10 ≤ sizeLine; decide), fun M n9 => ?_⟩
      have a9 := same_new (o := .lst [.non, .ref l1, .ref dc, .int 5, .str "()", .ref t1', .bl true, .ref t2, .ref t4, .ref t5]) n9
      have e9 : (upd G8 M (.lst [.non, .ref l1, .ref dc, .int 5, .str "()", .ref t1', .bl true, .ref t2, .ref t4, .ref t5])) M = some (.lst [.non, .ref l1, .ref dc, .int 5, .str "()", .ref t1', .bl true, .ref t2, .ref t4, .ref t5]) := upd_same
      generalize (upd G8 M (.lst [.non, .ref l1, .ref dc, .int 5, .str "()", .ref t1', .bl true, .ref t2, .ref t4, .ref t5])) = G9 at *
      have b78 := a8.trans a9
      have b69 := a7.trans b78
      have b59 := a6.trans b69
      have b49 := a5.trans b59
      have b39 := a4.trans b49
      have b29 := a3.trans b39
      have b19 := a2.trans b29
      have kind : ∀ x ∈ [V.non, .ref l1, .ref dc, .int 5, .str "()", .ref t1', .bl true, .ref t2, .ref t4, .ref t5], ∃ d, Dp K G9 x d ∨ (TyX K G9 x (.type "dict") ∧ d = .none) := fun x hx => by
        simp only [List.mem_cons, List.not_mem_nil, or_false] at hx
        rcases hx with rfl | rfl | rfl | rfl | rfl | rfl | rfl | rfl | rfl | rfl
        · exact ⟨_, .inl .non⟩
        · exact ⟨_, .inl (.lst (SqL.of (b19 _ _ e1)) .nil)⟩
        · exact ⟨_, .inr ⟨.base (.dK (b29 _ _ e2)), rfl⟩⟩
        · exact ⟨_, .inl (.int _)⟩
        · exact ⟨_, .inl (.str _)⟩
        · exact ⟨_, .inl (.tup (SqT.of (b39 _ _ e3)) .nil)⟩
        · exact ⟨_, .inl (.bl _)⟩
        · exact ⟨_, .inl (.tup (SqT.of (b49 _ _ e4)) (.cons .non .nil))⟩
        · exact ⟨_, .inl (.tup (SqT.of (b69 _ _ e6)) (.cons (.tup (SqT.of (b59 _ _ e5)) (.cons (.int 1) .nil)) .nil))⟩
        · exact ⟨_, .inl (.tup (SqT.of (a9 _ _ e8)) (.cons (.lst (SqL.of (b78 _ _ e7)) .nil) .nil))⟩
      refine ⟨M, rfl, ⟨_, SqL.of e9⟩, for_list (xs := [V.non, .ref l1, .ref dc, .int 5, .str "()", .ref t1', .bl true, .ref t2, .ref t4, .ref t5]) (fun _ σ' H' => ∃ y1 y5 y6 y7, σ' = [some (.ref a), y1, some (.ref p), some (.int t), some (.ref c), y5, y6, y7] ∧ H' = G9) ?_ ?_ ?_ ?_⟩
      · exact ⟨_, _, _, _, rfl, rfl⟩
      · rintro i σ' H' _ ⟨_, _, _, _, _, rfl⟩
        exact SqL.of e9
      · rintro i x σ' H' ex ⟨y1, y5, y6, y7, rfl, rfl⟩
        obtain ⟨d, hd⟩ := kind x (List.mem_of_getElem? ex)
        refine ⟨_, rfl, _, rfl, x, d, t, rfl, hd, by omega, _, _, rfl, .bl _, rfl, (by show 0 ≤ 60; omega), (Fine.bool (n := 0) (m := 0) _).len (by omega), ?_⟩
        refine ⟨_, rfl, _, rfl, x, d, t, rfl, hd, _, _, rfl, .bl _, rfl, (by show 0 ≤ 60; omega), (Fine.bool (n := 0) (m := 0) _).len (by omega), ?_⟩
        exact ⟨rfl, _, rfl, ne_self ⟨_, _, _, _, rfl, rfl⟩⟩
      · rintro σ' H' ⟨y1, y5, y6, y7, rfl, rfl⟩
        exact ⟨_, _, _, _, _, _, _, rfl, s1.trans (s1A.trans (sB.trans (a1.trans b19)))⟩
  · rintro σ' H1 ⟨y1, y2, y3, y4, y5, y6, y7, rfl, s1⟩
    exact q H1

end
end K01
namespace K01
open PySem PySem.Spec PyProof.Rows L2 KL
theorem all_mk {l : PySem.W.OpenLaw} {w : World} {K : PySem.W.Frag} {h : Heap} {mg : Str → Option Value} {fa : Addr} (X : K.In h) (G : h.Ns mainGlobals mg) (hfa : mg "law" = some (.ref fa))
    {f_is_whole : Addr} {od_is_whole an_is_whole : Option Addr} {sl_is_whole : Array (Option Value)} {oc_is_whole kV_is_whole dc_is_whole pm_is_whole cd_is_whole ct_is_whole : Value}
    (a_is_whole : PySem.W.nsIn K mainGlobals "is_whole" = some (some (.ref f_is_whole)))
    (l_is_whole : K.lookup f_is_whole = some ⟨oc_is_whole, od_is_whole, .func (PySem.W.fnOf "is_whole" "is_whole" (defArgs s_is_whole) (defBody s_is_whole) (defScope s_is_whole) .none kV_is_whole dc_is_whole pm_is_whole an_is_whole cd_is_whole ct_is_whole), sl_is_whole⟩)
    (c_is_whole : PySem.W.codeIn K cd_is_whole "is_whole" = true) (k_is_whole : PySem.W.keepIn K (.ref f_is_whole) = true)
    {f_is_number : Addr} {od_is_number an_is_number : Option Addr} {sl_is_number : Array (Option Value)} {oc_is_number kV_is_number dc_is_number pm_is_number cd_is_number ct_is_number : Value}
    (a_is_number : PySem.W.nsIn K mainGlobals "is_number" = some (some (.ref f_is_number)))
    (l_is_number : K.lookup f_is_number = some ⟨oc_is_number, od_is_number, .func (PySem.W.fnOf "is_number" "is_number" (defArgs s_is_number) (defBody s_is_number) (defScope s_is_number) .none kV_is_number dc_is_number pm_is_number an_is_number cd_is_number ct_is_number), sl_is_number⟩)
    (c_is_number : PySem.W.codeIn K cd_is_number "is_number" = true) (k_is_number : PySem.W.keepIn K (.ref f_is_number) = true)
    {f_is_sign : Addr} {od_is_sign an_is_sign : Option Addr} {sl_is_sign : Array (Option Value)} {oc_is_sign kV_is_sign dc_is_sign pm_is_sign cd_is_sign ct_is_sign : Value}
    (a_is_sign : PySem.W.nsIn K mainGlobals "is_sign" = some (some (.ref f_is_sign)))
    (l_is_sign : K.lookup f_is_sign = some ⟨oc_is_sign, od_is_sign, .func (PySem.W.fnOf "is_sign" "is_sign" (defArgs s_is_sign) (defBody s_is_sign) (defScope s_is_sign) .none kV_is_sign dc_is_sign pm_is_sign an_is_sign cd_is_sign ct_is_sign), sl_is_sign⟩)
    (c_is_sign : PySem.W.codeIn K cd_is_sign "is_sign" = true) (k_is_sign : PySem.W.keepIn K (.ref f_is_sign) = true)
    {f_is_clause : Addr} {od_is_clause an_is_clause : Option Addr} {sl_is_clause : Array (Option Value)} {oc_is_clause kV_is_clause dc_is_clause pm_is_clause cd_is_clause ct_is_clause : Value}
    {T_is_clause : Addr} {oT_is_clause : Value} {odT_is_clause : Option Addr} {slT_is_clause : Array (Option Value)} {nT_is_clause : Nat}
    (a_is_clause : PySem.W.nsIn K mainGlobals "is_clause" = some (some (.ref f_is_clause)))
    (l_is_clause : K.lookup f_is_clause = some ⟨oc_is_clause, od_is_clause, .func (PySem.W.fnOf "is_clause" "is_clause" (defArgs s_is_clause) (defBody s_is_clause) (defScope s_is_clause) (.ref T_is_clause) kV_is_clause dc_is_clause pm_is_clause an_is_clause cd_is_clause ct_is_clause), sl_is_clause⟩)
    (c_is_clause : PySem.W.codeIn K cd_is_clause "is_clause" = true) (k_is_clause : PySem.W.keepIn K (.ref f_is_clause) = true)
    {tD_is_clause0 : Tok}
    (lT_is_clause : K.lookup T_is_clause = some ⟨oT_is_clause, odT_is_clause, .seq #[.int 60 tD_is_clause0] nT_is_clause, slT_is_clause⟩)
    {f_law_pool : Addr} {od_law_pool an_law_pool : Option Addr} {sl_law_pool : Array (Option Value)} {oc_law_pool kV_law_pool dc_law_pool pm_law_pool cd_law_pool ct_law_pool : Value}
    (a_law_pool : PySem.W.nsIn K mainGlobals "_law_pool" = some (some (.ref f_law_pool)))
    (l_law_pool : K.lookup f_law_pool = some ⟨oc_law_pool, od_law_pool, .func (PySem.W.fnOf "_law_pool" "_law_pool" (defArgs s_law_pool) (defBody s_law_pool) (defScope s_law_pool) .none kV_law_pool dc_law_pool pm_law_pool an_law_pool cd_law_pool ct_law_pool), sl_law_pool⟩)
    (c_law_pool : PySem.W.codeIn K cd_law_pool "_law_pool" = true) (k_law_pool : PySem.W.keepIn K (.ref f_law_pool) = true)
    {f_law_take : Addr} {od_law_take an_law_take : Option Addr} {sl_law_take : Array (Option Value)} {oc_law_take kV_law_take dc_law_take pm_law_take cd_law_take ct_law_take : Value}
    (a_law_take : PySem.W.nsIn K mainGlobals "_law_take" = some (some (.ref f_law_take)))
    (l_law_take : K.lookup f_law_take = some ⟨oc_law_take, od_law_take, .func (PySem.W.fnOf "_law_take" "_law_take" (defArgs s_law_take) (defBody s_law_take) (defScope s_law_take) .none kV_law_take dc_law_take pm_law_take an_law_take cd_law_take ct_law_take), sl_law_take⟩)
    (c_law_take : PySem.W.codeIn K cd_law_take "_law_take" = true) (k_law_take : PySem.W.keepIn K (.ref f_law_take) = true)
    {f_law_whole : Addr} {od_law_whole an_law_whole : Option Addr} {sl_law_whole : Array (Option Value)} {oc_law_whole kV_law_whole dc_law_whole pm_law_whole cd_law_whole ct_law_whole : Value}
    (a_law_whole : PySem.W.nsIn K mainGlobals "_law_whole" = some (some (.ref f_law_whole)))
    (l_law_whole : K.lookup f_law_whole = some ⟨oc_law_whole, od_law_whole, .func (PySem.W.fnOf "_law_whole" "_law_whole" (defArgs s_law_whole) (defBody s_law_whole) (defScope s_law_whole) .none kV_law_whole dc_law_whole pm_law_whole an_law_whole cd_law_whole ct_law_whole), sl_law_whole⟩)
    (c_law_whole : PySem.W.codeIn K cd_law_whole "_law_whole" = true) (k_law_whole : PySem.W.keepIn K (.ref f_law_whole) = true)
    {f_law_clause : Addr} {od_law_clause an_law_clause : Option Addr} {sl_law_clause : Array (Option Value)} {oc_law_clause kV_law_clause dc_law_clause pm_law_clause cd_law_clause ct_law_clause : Value}
    (a_law_clause : PySem.W.nsIn K mainGlobals "_law_clause" = some (some (.ref f_law_clause)))
    (l_law_clause : K.lookup f_law_clause = some ⟨oc_law_clause, od_law_clause, .func (PySem.W.fnOf "_law_clause" "_law_clause" (defArgs s_law_clause) (defBody s_law_clause) (defScope s_law_clause) .none kV_law_clause dc_law_clause pm_law_clause an_law_clause cd_law_clause ct_law_clause), sl_law_clause⟩)
    (c_law_clause : PySem.W.codeIn K cd_law_clause "_law_clause" = true) (k_law_clause : PySem.W.keepIn K (.ref f_law_clause) = true)
    {f_law_due : Addr} {od_law_due an_law_due : Option Addr} {sl_law_due : Array (Option Value)} {oc_law_due kV_law_due dc_law_due pm_law_due cd_law_due ct_law_due : Value}
    (a_law_due : PySem.W.nsIn K mainGlobals "_law_due" = some (some (.ref f_law_due)))
    (l_law_due : K.lookup f_law_due = some ⟨oc_law_due, od_law_due, .func (PySem.W.fnOf "_law_due" "_law_due" (defArgs s_law_due) (defBody s_law_due) (defScope s_law_due) .none kV_law_due dc_law_due pm_law_due an_law_due cd_law_due ct_law_due), sl_law_due⟩)
    (c_law_due : PySem.W.codeIn K cd_law_due "_law_due" = true) (k_law_due : PySem.W.keepIn K (.ref f_law_due) = true)
    {f_law_bent : Addr} {od_law_bent an_law_bent : Option Addr} {sl_law_bent : Array (Option Value)} {oc_law_bent kV_law_bent dc_law_bent pm_law_bent cd_law_bent ct_law_bent : Value}
    (a_law_bent : PySem.W.nsIn K mainGlobals "_law_bent" = some (some (.ref f_law_bent)))
    (l_law_bent : K.lookup f_law_bent = some ⟨oc_law_bent, od_law_bent, .func (PySem.W.fnOf "_law_bent" "_law_bent" (defArgs s_law_bent) (defBody s_law_bent) (defScope s_law_bent) .none kV_law_bent dc_law_bent pm_law_bent an_law_bent cd_law_bent ct_law_bent), sl_law_bent⟩)
    (c_law_bent : PySem.W.codeIn K cd_law_bent "_law_bent" = true) (k_law_bent : PySem.W.keepIn K (.ref f_law_bent) = true)
    {f_law : Addr} {od_law an_law : Option Addr} {sl_law : Array (Option Value)} {oc_law kV_law dc_law pm_law cd_law ct_law : Value}
    (a_law : PySem.W.nsIn K mainGlobals "law" = some (some (.ref f_law)))
    (l_law : K.lookup f_law = some ⟨oc_law, od_law, .func (PySem.W.fnOf "law" "law" (defArgs s_law) (defBody s_law) (defScope s_law) .none kV_law dc_law pm_law an_law cd_law ct_law), sl_law⟩)
    (c_law : PySem.W.codeIn K cd_law "law" = true) (k_law : PySem.W.keepIn K (.ref f_law) = true)
    (z_len : PySem.W.nsIn K mainGlobals "len" = some none)
    (z_range : PySem.W.nsIn K mainGlobals "range" = some none)
    (z_max : PySem.W.nsIn K mainGlobals "max" = some none)
    (z_min : PySem.W.nsIn K mainGlobals "min" = some none)
    (z_repr : PySem.W.nsIn K mainGlobals "repr" = some none)
    (z_isinstance : PySem.W.nsIn K mainGlobals "isinstance" = some none)
    (z_int : PySem.W.nsIn K mainGlobals "int" = some none)
    (z_bool : PySem.W.nsIn K mainGlobals "bool" = some none)
    (z_tuple : PySem.W.nsIn K mainGlobals "tuple" = some none)
    (z_list : PySem.W.nsIn K mainGlobals "list" = some none)
    (z_abs : PySem.W.nsIn K mainGlobals "abs" = some none)
    {tk_MOST_THINGS : Tok} (y_MOST_THINGS : PySem.W.nsIn K mainGlobals "MOST_THINGS" = some (some (.int 60 tk_MOST_THINGS))) :
    ∃ fd : FuncData, (∀ (s : Shared) (v : Value), BindsTo s fd ⟨[v], []⟩ [("_law_script", v)]) ∧ ∀ base : Heap, K.In base → base.Ns mainGlobals mg → GFn l.prog w K mg base CX0 5 fa fd ["_law_script"] (spLaw K) := by
  have e := hfa.symm.trans (PySem.W.mg_of X G a_law)
  cases e
  have F_law := fun_mk (st := s_law) l_law c_law k_law
  refine ⟨PySem.W.fnOf "law" "law" (defArgs s_law) (defBody s_law) (defScope s_law) .none kV_law dc_law pm_law an_law cd_law ct_law, fun s v => .of_eq rfl, fun base _ _ => ?_⟩
  have ml {x : Str} {v : Value} (q : PySem.W.nsIn K mainGlobals x = some (some v)) : mg x = some v := PySem.W.mg_of X G q
  have mn {x : Str} (q : PySem.W.nsIn K mainGlobals x = some none) : mg x = none := PySem.W.mg_none_of X G q
  have F_is_whole := fun_mk (st := s_is_whole) l_is_whole c_is_whole k_is_whole
  have D_is_whole : Df l.prog w K mg base 1 "is_whole" _ (spWh K) := ⟨_, _, ok_wh F_is_whole (mn z_isinstance) (mn z_int) (mn z_bool), k_is_whole, F_is_whole.binds fun _ _ _ _ _ _ us hl => match us, hl with | [_], _ => rfl, ml a_is_whole⟩
  have F1 := fun_mk (st := s_is_number) l_is_number c_is_number k_is_number
  have D1 : Df l.prog w K mg base 2 "is_number" _ (spNum K) := ⟨_, _, ok_num F1 D_is_whole, k_is_number, F1.binds fun _ _ _ _ _ _ us hl => match us, hl with | [_, _, _], _ => rfl, ml a_is_number⟩
  have F2 := fun_mk (st := s_is_sign) l_is_sign c_is_sign k_is_sign
  have D2 : Df l.prog w K mg base 3 "is_sign" _ (spSign K) := ⟨_, _, ok_sign F2 D1, k_is_sign, F2.binds fun _ _ _ _ _ _ us hl => match us, hl with | [_, _], _ => rfl, ml a_is_sign⟩
  have F3 : FunD K "is_clause" "is_clause" (defArgs s_is_clause) (defBody s_is_clause) (defScope s_is_clause) [.int 60] [] f_is_clause _ := ⟨⟨_, _, _, _, _, _, _, _, _, _, rfl, l_is_clause, c_is_clause, .inr ⟨(by simp), _, _, [_], _, rfl, lT_is_clause, rfl, .cons ⟨_, rfl⟩ .nil⟩, .inl rfl⟩, k_is_clause⟩
  have G3 : FnOk l.prog w K mg base CX0 4 f_is_clause _ ["thing", "many"] (spIsCl K) := ok_iscl ⟨_, _, _, _, _, _, _, _, _, _, rfl, l_is_clause, c_is_clause⟩ D2 (mn z_isinstance) (mn z_tuple) (mn z_min) (mn z_abs) (ml y_MOST_THINGS)
  have D3 : Df l.prog w K mg base 4 "is_clause" ["thing", "many"] (spIsCl K) := by
    obtain ⟨ds, r, b⟩ := F3.binds1 (ps := ["thing", "many"]) 2 1 (by simp) rfl fun _ _ _ _ _ _ _ us its hu hi => match us, its, hu, hi with | [_, _], [_], _, _ => ⟨_, rfl, rfl⟩
    cases r
    exact ⟨_, _, G3, k_is_clause, b, ml a_is_clause⟩
  have D3d : Dfd l.prog w K mg base 4 "is_clause" ["thing", "many"] (spIsCl K) [.int 60] := by
    obtain ⟨ds, r, b⟩ := F3.binds1 (ps := ["thing", "many"]) 1 0 (by simp) rfl fun _ _ _ _ _ _ _ us its hu hi => match us, its, hu, hi with | [_], [_], _, _ => ⟨_, rfl, rfl⟩
    exact ⟨_, _, ds, G3, k_is_clause, b, r, ml a_is_clause⟩
  have F4 := fun_mk (st := s_law_pool) l_law_pool c_law_pool k_law_pool
  have D4 : Df l.prog w K mg base 2 "_law_pool" _ (spPool K) := ⟨_, _, ok_pool F4 (mn z_len) (mn z_int), k_law_pool, F4.binds fun _ _ _ _ _ _ us hl => match us, hl with | [_, _], _ => rfl, ml a_law_pool⟩
  have F5 := fun_mk (st := s_law_take) l_law_take c_law_take k_law_take
  have D5 : Df l.prog w K mg base 2 "_law_take" _ (spTake K) := ⟨_, _, ok_take F5, k_law_take, F5.binds fun _ _ _ _ _ _ us hl => match us, hl with | [_, _], _ => rfl, ml a_law_take⟩
  have F6 := fun_mk (st := s_law_whole) l_law_whole c_law_whole k_law_whole
  have D6 : Df l.prog w K mg base 2 "_law_whole" _ (spWhole K) := ⟨_, _, ok_whole F6 (mn z_isinstance) (mn z_int) (mn z_bool), k_law_whole, F6.binds fun _ _ _ _ _ _ us hl => match us, hl with | [_], _ => rfl, ml a_law_whole⟩
  have F7 := fun_mk (st := s_law_clause) l_law_clause c_law_clause k_law_clause
  have D7 : Df l.prog w K mg base 3 "_law_clause" _ (spClause K) := ⟨_, _, ok_clause F7 D5 (mn z_len) (mn z_range) (mn z_tuple), k_law_clause, F7.binds fun _ _ _ _ _ _ us hl => match us, hl with | [_, _, _], _ => rfl, ml a_law_clause⟩
  have F8 := fun_mk (st := s_law_due) l_law_due c_law_due k_law_due
  have D8 : Df l.prog w K mg base 3 "_law_due" _ (spDue K) := ⟨_, _, ok_due F8 D6 (mn z_isinstance) (mn z_tuple) (mn z_abs), k_law_due, F8.binds fun _ _ _ _ _ _ us hl => match us, hl with | [_, _], _ => rfl, ml a_law_due⟩
  have F9 := fun_mk (st := s_law_bent) l_law_bent c_law_bent k_law_bent
  have D9 : Df l.prog w K mg base 3 "_law_bent" _ (spBent K) := ⟨_, _, ok_bent F9 D5 (mn z_len) (mn z_list), k_law_bent, F9.binds fun _ _ _ _ _ _ us hl => match us, hl with | [_, _], _ => rfl, ml a_law_bent⟩
  exact ok_law F_law (D4.mono (by decide)) (D5.mono (by decide)) (D7.mono (by decide)) (D9.mono (by decide)) D3 D3d (D8.mono (by decide)) (mn z_len) (mn z_range) (mn z_max) (mn z_min) (mn z_repr)

end K01
open PySem PySem.W PyProof.Rows
set_option maxHeartbeats 0 in
theorem PySem.Challenge.cw_keptclauses_k01_clauses_or_none_holds : PySem.Challenge.rw_keptclauses_k01_clauses_or_none.Holds := by
  w_on; o_law; k_head; (case hw => w_witness2)
  k_fill
  refine KL.walk_g (l := PySem.Challenge.rw_keptclauses_k01_clauses_or_none) (n := 63) (k := 5) (x := "_law_script") (sp := K01.spLaw) rfl (by decide) rfl ⟨rfl, by decide, by decide⟩ (fun w h Y => PySem.W.kIn_of Y) ?F (fun _ _ a ns hl _ hS => ⟨a, ns, rfl, hS, hl, fun _ => rfl⟩)
  case F =>
    intro w mg fa h KX G hmg
    refine' K01.all_mk KX G hmg ?a_is_whole ?l_is_whole ?c_is_whole ?k_is_whole ?a_is_number ?l_is_number ?c_is_number ?k_is_number ?a_is_sign ?l_is_sign ?c_is_sign ?k_is_sign ?a_is_clause ?l_is_clause ?c_is_clause ?k_is_clause ?lT_is_clause ?a_law_pool ?l_law_pool ?c_law_pool ?k_law_pool ?a_law_take ?l_law_take ?c_law_take ?k_law_take ?a_law_whole ?l_law_whole ?c_law_whole ?k_law_whole ?a_law_clause ?l_law_clause ?c_law_clause ?k_law_clause ?a_law_due ?l_law_due ?c_law_due ?k_law_due ?a_law_bent ?l_law_bent ?c_law_bent ?k_law_bent ?a_law ?l_law ?c_law ?k_law ?z_len ?z_range ?z_max ?z_min ?z_repr ?z_isinstance ?z_int ?z_bool ?z_tuple ?z_list ?z_abs ?y_MOST_THINGS
    (case a_is_whole => k_is); (case l_is_whole => k_is); (case c_is_whole => k_is); (case k_is_whole => k_is); (case a_is_number => k_is); (case l_is_number => k_is); (case c_is_number => k_is); (case k_is_number => k_is); (case a_is_sign => k_is); (case l_is_sign => k_is); (case c_is_sign => k_is); (case k_is_sign => k_is); (case a_is_clause => k_is); (case l_is_clause => k_is); (case c_is_clause => k_is); (case k_is_clause => k_is); (case lT_is_clause => k_is); (case a_law_pool => k_is); (case l_law_pool => k_is); (case c_law_pool => k_is); (case k_law_pool => k_is); (case a_law_take => k_is); (case l_law_take => k_is); (case c_law_take => k_is); (case k_law_take => k_is); (case a_law_whole => k_is); (case l_law_whole => k_is); (case c_law_whole => k_is); (case k_law_whole => k_is); (case a_law_clause => k_is); (case l_law_clause => k_is); (case c_law_clause => k_is); (case k_law_clause => k_is); (case a_law_due => k_is); (case l_law_due => k_is); (case c_law_due => k_is); (case k_law_due => k_is); (case a_law_bent => k_is); (case l_law_bent => k_is); (case c_law_bent => k_is); (case k_law_bent => k_is); (case a_law => k_is); (case l_law => k_is); (case c_law => k_is); (case k_law => k_is); (case z_len => k_is); (case z_range => k_is); (case z_max => k_is); (case z_min => k_is); (case z_repr => k_is); (case z_isinstance => k_is); (case z_int => k_is); (case z_bool => k_is); (case z_tuple => k_is); (case z_list => k_is); (case z_abs => k_is); (case y_MOST_THINGS => k_is)
