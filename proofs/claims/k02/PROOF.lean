import PyProof.Rows.All
import Wide.All
import OpenK.AllK
import Wide.FinOn
import PyProof.ReprRoads
import PyProof.ReprLen
import KE.KRevSl
import HandS.Base
import HandS.Call
import HandS.List
import HandS.Words
import HandS.Ends
import HandS.WordsList
import HandS.ForMost
import HandS.Wide
import HandS.IsInst
import HandS.TupAny
import HandS.Defaults
import HandS.Codes
import HandS.SetKeys
import HandS.More
import HandS.Style
import PySem.Challenge.RW_keptclauses_k02_clauses_of_signs
set_option Elab.async false
set_option linter.all false
set_option maxRecDepth 100000
set_option maxHeartbeats 4000000
namespace KL
open PySem PySem.Spec PyProof.Rows L2
section
variable {prog : Program} {w : World} {A : Around} {E : Value → Shared → Prop} {s : Shared}
/-! a tuple read backwards: t[::-1] -/
theorem adj_back (n : Nat) : Builtin.Slice.sliceAdjust none none (-1) (n : Int) = ((n : Int) - 1, -1) := by
  unfold Builtin.Slice.sliceAdjust
  simp
theorem plc_back (n : Nat) : Builtin.Slice.slicePlaces ((n : Int) - 1) (-1) (-1) = n := by
  unfold Builtin.Slice.slicePlaces
  have h1 : ¬ ((-1 : Int) > 0) := by omega
  simp only [h1, if_false]
  split
  · simp
  · omega
theorem fm_map {α β : Type} {f : α → Option β} {g : α → β} : ∀ l : List α, (∀ k ∈ l, f k = some (g k)) → l.filterMap f = l.map g
  | [], _ => rfl
  | x :: l, h => by
    rw [List.filterMap_cons, h x List.mem_cons_self, fm_map l fun k hk => h k (List.mem_cons_of_mem _ hk)]
    rfl
theorem pick_back (xs : List Value) : ((List.range xs.length).filterMap fun (k : Nat) => xs.toArray[((xs.length : Int) - 1 + (k : Int) * -1).toNat]?) = xs.reverse := by
  have e := fm_map (f := fun (k : Nat) => xs.toArray[((xs.length : Int) - 1 + (k : Int) * -1).toNat]?) (g := fun k => (xs[xs.length - 1 - k]?).getD .none) (List.range xs.length) fun k hk => by
    have hk' := List.mem_range.mp hk
    have ei : ((xs.length : Int) - 1 + (k : Int) * -1).toNat = xs.length - 1 - k := by omega
    show xs.toArray[((xs.length : Int) - 1 + (k : Int) * -1).toNat]? = _
    rw [ei, List.getElem?_toArray]
    have hb : xs.length - 1 - k < xs.length := by omega
    rw [List.getElem?_eq_getElem hb]
    rfl
  rw [e]
  apply List.ext_getElem?
  intro i
  rw [List.getElem?_map]
  by_cases hi : i < xs.length
  · rw [List.getElem?_range hi, List.getElem?_reverse hi]
    show some ((xs[xs.length - 1 - i]?).getD .none) = _
    rw [List.getElem?_eq_getElem (show xs.length - 1 - i < xs.length by omega)]
    rfl
  · rw [List.getElem?_eq_none (by simpa using hi), List.getElem?_eq_none (by simpa using hi)]
    rfl
theorem app_back {sl : Addr} {vk : Value} {n : Nat} {Q : Int × Int × Nat → Shared → Prop} (hs : s.heap.IsSliceOf sl .none .none vk) (pk : IsPart vk (some (-1)))
    (h : Q ((n : Int) - 1, -1, n) s) : wpAny (model prog w) A (Builtin.Slice.sliceApplied (.ref sl) (pure (n : Int))) Q E s := by
  obtain ⟨o, ho, hc, hd⟩ := id hs
  unfold Builtin.Slice.sliceApplied Builtin.Slice.sliceFields
  refine wpAny_bind (wpAny_bind (wpAny_field ho hd (x := .none) rfl (wpAny_bind (wpAny_field ho hd (x := .none) rfl
    (wpAny_bind (wpAny_field ho hd (x := vk) rfl (wpAny_pure ?_)))))))
  cases pk with
  | int i t =>
    refine wpAny_bind (slicePart_int ?_)
    show wpAny _ _ (if ((-1 : Int) == 0) = true then _ else _) _ _ s
    rw [if_neg (by decide)]
    refine wpAny_bind (slicePart_none (wpAny_bind (slicePart_none (wpAny_bind (wpAny_pure ?_)))))
    show wpAny _ _ (match Builtin.Slice.sliceAdjust none none (-1) (n : Int) with | (lo, hi) => pure (lo, (-1 : Int), Builtin.Slice.slicePlaces lo hi (-1))) _ _ s
    rw [adj_back n]
    show wpAny _ _ (pure ((n : Int) - 1, (-1 : Int), Builtin.Slice.slicePlaces ((n : Int) - 1) (-1) (-1))) _ _ s
    rw [plc_back]
    exact wpAny_pure h
theorem tup_back {t sl : Addr} {its : List Value} {vk : Value} {Q : Value → Shared → Prop} (ht : IsTup s.heap t its.toArray) (hs : s.heap.IsSliceOf sl .none .none vk) (pk : IsPart vk (some (-1)))
    (h : Q (.ref s.heap.objs.size) { s with heap := s.heap.push { cls := .type "tuple", data := .seq its.reverse.toArray } })
    (hz : its.length ≤ sizeLine) : wpAny (model prog w) A (getItem (.ref t) (.ref sl)) Q E s := by
  have hok : sizeOk (.seq its.reverse.toArray) := by
    show its.reverse.toArray.size ≤ sizeLine
    rw [List.size_toArray, List.length_reverse]
    exact hz
  obtain ⟨o, ho, hc, hd⟩ := id hs
  have hT : s.TypeIs (.ref sl) "slice" := ⟨o, ho, hc⟩
  unfold getItem
  try with_reducible refine wpAny_holding ?_
  first | refine wpAny_bind (wpAny_pure ?_) | skip
  refine wpAny_bind (wpAny_sequenceKey ht.typeIs (by decide) ?_)
  refine wpAny_bind (wpAny_callSpecial?_slot (name := Str.ofString "__getitem__") ht.typeIs slot_tuple_getitem (wpAny_call_entry slot_tuple_getitem ht.typeIs entry_tuple_getitem ?_ (args_tuple_getitem _ _)))
  show wpAny _ _ (Builtin.Tuple.tupleItemsOf (.ref t) >>= _) _ _ s
  refine wpAny_bind (tupleItemsOf_ ht ?_)
  refine wpAny_bind (wpAny_typeOf hT ?_)
  rw [if_pos (by decide)]
  rw [List.size_toArray]
  refine wpAny_bind (app_back hs pk ?_)
  have hno : ¬ ((((its.length : Int) - 1) == 0 && (-1 : Int) == 1 && its.length == its.length) = true) := by simp
  show wpAny _ _ (if (((its.length : Int) - 1) == 0 && (-1 : Int) == 1 && its.length == its.length) = true then _ else _) _ _ s
  rw [if_neg hno, pick_back its]
  first
    | exact wpAny_bind (m := Builtin.Tuple.tupleExact _) (wpAny_newObj_type (wpAny_pure ⟨_, rfl, wpAny_pure h⟩) hok)
    | exact wpAny_bind (m := Builtin.Tuple.tupleExact _) (wpAny_newObj_type (wpAny_bind (wpAny_pure (wpAny_pure ⟨_, rfl, wpAny_pure h⟩))) hok)
    | exact wpAny_bind (wpAny_bind (m := Builtin.Tuple.tupleExact _) (wpAny_newObj_type (wpAny_pure (wpAny_pure ⟨_, rfl, wpAny_pure h⟩)) hok))
    | exact wpAny_bind (wpAny_bind (m := Builtin.Tuple.tupleExact _) (wpAny_newObj_type (wpAny_pure ⟨_, rfl, wpAny_pure h⟩) hok))
end
section
variable {X : Cx}
def tRevT (K : PySem.W.Frag) (te : TE) : TE := fun σ H Q => te σ H fun x H1 => ∃ a xs, x = .ref a ∧ SqT K H1 a xs ∧ ∀ p, H1 p = none → Q (.ref p) (upd H1 p (.tup xs.reverse))
theorem pe_revT {e : Expr} {te : TE} {k : Nat} {p1 p2 p3 pos : Pos} (he : PE X e te) :
    PE X (.Subscript e (.Slice none none (some (.UnaryOp .USub (.Constant (.int 1) k p1) p2)) p3) pos) (tRevT X.K te) := by
  refine ⟨fun pins s σ H Q I h => ?_⟩
  refine Subscript_ (thn (he.run pins s σ H _ I h) fun v s1 ⟨x, H1, I1, r1, a, xs, ex, hx, q⟩ => ?_)
  subst ex
  cases r1
  have pm : PO X (some (.UnaryOp .USub (.Constant (.int 1) k p1) p2)) (tPart (tUn (rU fun i => .int (-i)) (tC (.int 1)))) := po_some (pe_un un_neg pe_int)
  refine wpAny_Slice (thn (po_none.run pins s1 σ H1 (fun o G => o = none ∧ G = H1) I1 ⟨rfl, rfl⟩) fun vl s2 ⟨l, G2, I2, pl, el, e2⟩ => ?_)
  subst el e2
  refine thn (po_none.run pins s2 σ G2 (fun o G => o = none ∧ G = G2) I2 ⟨rfl, rfl⟩) fun vu s3 ⟨u, G3, I3, pu, eu, e3⟩ => ?_
  subst eu e3
  refine thn (pm.run pins s3 σ G3 (fun o G => o = some (-1) ∧ G = G3) I3 ⟨1, rfl, -1, rfl, rfl, rfl⟩) fun vs s4 ⟨o, G4, I4, ps, eo, e4⟩ => ?_
  subst eo e4
  cases pl
  cases pu
  have I5 : Inv X pins σ G4 { s4 with heap := s4.heap.push { cls := .type "slice", data := .fields #[.none, .none, vs] } } := I4.kept (t' := s4.toks) fun b ob q => Heap.get?_push_of_some _ q
  obtain ⟨its, r, ht, hz⟩ := I5.tuple hx
  have hlen := r.length
  show wpAny (model X.prog X.w) X.A (subscriptTail e (.Slice none none (some (.UnaryOp .USub (.Constant (.int 1) k p1) p2)) p3) (.ref a) (.ref s4.heap.objs.size)) (EP X pins σ Q) X.xe
    { s4 with heap := s4.heap.push { cls := .type "slice", data := .fields #[.none, .none, vs] } }
  refine tail_any (ops := [.ref a, .ref s4.heap.objs.size]) ht.typeIs slot_tuple_getitem.lookup ?_ (by with_unfolding_all rfl)
  refine tup_back ht (Heap.IsSliceOf.new _ .none .none vs) ps ?_ (by omega)
  refine ⟨.ref _, _, I5.laid (t' := s4.toks) (o := .tup xs.reverse) (fun b ob q => Heap.get?_push_of_some _ q) (Nat.le_refl _) ?_, rfl, q _ (I5.hok.fresh (Nat.le_refl _))⟩
  exact ⟨by rw [List.length_reverse]; exact hz, _, r.reverse, _, Heap.get?_push_size _ rfl, rfl, 0, rfl⟩
/-! repr of data -/
def rRep (K : PySem.W.Frag) : List V → Hp → VK → Prop := fun xs H Q => ∃ x d, xs = [x] ∧ Dp K H x d ∧ d.showable = true ∧ d.depth ≤ 60 ∧ d.shown.length ≤ sizeLine ∧ Q (.str d.shown) H
mutual
theorem noDict {K : PySem.W.Frag} {H : Hp} : ∀ (d : PyData) (x : V), Dp K H x d → d.hasDict = false
  | .none, _, _ | .bool _, _, _ | .int _, _, _ | .str _, _, _ => by unfold PyData.hasDict; rfl
  | .list ds, _, h => by
    cases h with
    | lst _ a => unfold PyData.hasDict; exact noDicts ds _ a
  | .tuple ds, _, h => by
    cases h with
    | tup _ a => unfold PyData.hasDict; exact noDicts ds _ a
  | .dict _, _, h => by cases h
theorem noDicts {K : PySem.W.Frag} {H : Hp} : ∀ (ds : List PyData) (xs : List V), DpAll K H xs ds → PyData.hasDictAll ds = false
  | [], _, _ => by unfold PyData.hasDictAll; rfl
  | d :: ds, _, h => by
    cases h with
    | cons h1 h2 => unfold PyData.hasDictAll; rw [noDict d _ h1, noDicts ds _ h2]; rfl
end
theorem call_rep (hg : X.A.guards = some []) (hu : X.A.units + 64 < cLine) : CallR X (.builtin "repr") (rRep X.K) := by
  intro pins s σ H xs us Q I r h
  obtain ⟨x, d, rfl, hd, hs, hdp, hz, q⟩ := h
  obtain ⟨u, rfl, ru⟩ := vals1 r
  obtain ⟨as, hr⟩ := Dp.reads I d x u hd ru
  have nd := noDict d x hd
  cases hd with
  | non =>
    cases (show u = Value.none from ru)
    exact PySem.P.repr_of_none ⟨.str _, H, I.tok _, ⟨_, rfl⟩, q⟩
  | bl b =>
    cases (show u = Value.bool b from ru)
    exact PySem.P.repr_of_bool ⟨.str _, H, I.tok _, ⟨_, rfl⟩, q⟩
  | int i =>
    obtain ⟨t, rfl⟩ := ru
    exact PySem.P.repr_of_int (of_decide_eq_true hs) ⟨.str _, H, I.tok _, ⟨_, rfl⟩, q⟩
  | str y =>
    obtain ⟨t, rfl⟩ := ru
    exact PySem.P.repr_of_str ⟨.str _, H, I.tok _, ⟨_, rfl⟩, q⟩ hz
  | lst _ _ =>
    cases (show u = Value.ref _ from ru)
    exact repr_of_reads' hr hs (fun z => absurd z (by rw [nd]; exact Bool.false_ne_true)) hg (by omega) (fun _ _ e => e)
      (fun h' t tk k => ⟨.str _, H, I.kept (t' := tk) k, ⟨t, rfl⟩, q⟩) hz
  | tup _ _ =>
    cases (show u = Value.ref _ from ru)
    exact repr_of_reads' hr hs (fun z => absurd z (by rw [nd]; exact Bool.false_ne_true)) hg (by omega) (fun _ _ e => e)
      (fun h' t tk k => ⟨.str _, H, I.kept (t' := tk) k, ⟨t, rfl⟩, q⟩) hz
end
end KL
namespace KL
open PySem PySem.Spec PyProof.Rows L2
/-- a def's promise where nothing is being shown by repr around it -/
structure GFn (P : Program) (w : World) (K : PySem.W.Frag) (mg : Str → Option Value) (base : Heap) (CX : CXT) (k : Nat) (f : Addr) (fd : FuncData) (ps : List Str) (sp : Sp) : Prop where
  len : ∀ vs H Q E, sp vs H Q E → vs.length = ps.length
  go : ∀ (A : Around), A.guards = some [] → Room k A → ∀ (outer : List Env) (s : Shared) (H : Hp) (args : Args) (us : List Value) (vs : List V) (Q : VK) (E : XK),
    Env0 P w K mg base A outer s H → BindsTo s fd args (ps.zip us) → Vals vs us → sp vs H Q E → codeAny (model P w) A (.call (.ref f) args) (CR CX outer P w H s Q E) s
section
variable {P : Program} {w : World} {K : PySem.W.Frag} {mg : Str → Option Value} {base : Heap} {CX : CXT} {k : Nat} {f : Addr} {fd : FuncData} {ps : List Str} {sp : Sp}
theorem GFn.of (F : FnOk P w K mg base CX k f fd ps sp) : GFn P w K mg base CX k f fd ps sp :=
  ⟨F.len, fun A _ hr outer s H args us vs Q E e b r h => F.run A outer s H args us vs Q E hr e b r h⟩
/-- a def of the text by its body -/
theorem gfn {x qual : Str} {st : Stmt} {N : List Str} (F : Fun K x qual st f fd) (S : FnScope N ps (defScope st)) (len : ∀ vs H Q E, sp vs H Q E → vs.length = ps.length)
    (body : ∀ (cdv : Value) (A : Around), A.guards = some [] → ∀ (outer : List Env) (s : Shared) (H : Hp) (vs : List V) (Q : VK) (E : XK), Room k (A.deeper (envOfC qual (defScope st) s.heap.objs.size f cdv)) → sp vs H Q E →
      ∃ t, PSs (cxOf CX P w K mg base N qual (defScope st) f cdv A outer s H E) (defBody st) t ∧ t { nx := fun _ G => Q .non G, rt := Q } (start N vs) H) :
    GFn P w K mg base CX (k + 1) f fd ps sp := by
  obtain ⟨oc, od, kV, doc, pm, an, cdv, ct, osl, rfl, lk, hcd⟩ := F.ex
  refine ⟨len, fun A hg hr outer s H args us vs Q E e0 hb r hsp => ?_⟩
  have hl := len _ _ _ _ hsp
  have up : ∀ b o, base.get? b = some o → s.heap.get? b = some o := fun b o e => (e0.bs b o e).1
  have KX : K.In s.heap := e0.mod.kin.keeps up
  have lim : s.heap.NoLimit := e0.mod.nolimit.keeps up
  have kinds : ∀ y ∈ ps.zip us, (defScope st).names.lookup y.1 = some .local ∨
      ((defScope st).names.lookup y.1 = some .cell ∧ ((cellsFrom (s.heap.objs.size + 1) (defScope st).names []).lookup y.1).isSome = true) := by
    rintro ⟨n, v⟩ hy
    cases S.par n (List.of_mem_zip hy).1 with
    | inl q => exact .inl q
    | inr q => exact .inr ⟨q, PySem.W.cellsFrom_some _ _ _ (.inl q)⟩
  refine codeAny_call_function hr.depth (KX _ _ lk) rfl S.co S.gen rfl (PySem.W.codeRec_of KX hcd) (hb _ _ _ _ ?_)
  refine wpAny_newFunctionEnv_cells S.kind kinds fun env he s1 x => ?_
  subst he
  refine ⟨lim.keeps x.toInCall.keep, codeAny_func ?_⟩
  obtain ⟨t, ht, hq⟩ := body cdv A hg outer s H vs Q E (hr.deeper _) hsp
  have I := inv_start (CX := CX) (E := E) S hr.hd e0 hl r x
  refine wpAny_mono (ht.run [] s1 (start N vs) H _ I hq) (fun fl s' hs => ?_) fun e s' hs => hs
  have ends : ∀ {σ' : L2.St} {H' : Hp} {v : V} {u : Value}, Inv (cxOf CX P w K mg base N qual (defScope st) f cdv A outer s H E) [] σ' H' s' → RelV v u → Q v H' → CE outer P w H s Q u s' :=
    fun J rv q => ⟨_, _, J.os, J.bare, J.base, J.hok, rv, q⟩
  match fl, hs with
  | .ret u, ⟨v, σ', H', J, rv, q⟩ => exact ends J rv q
  | .next, ⟨σ', H', J, q⟩ => exact ends (v := V.non) (u := Value.none) J rfl q
  | .brk, ⟨_, _, _, q⟩ => exact False.elim q
  | .cont, ⟨_, _, _, q⟩ => exact False.elim q
/-- no exception leaves it -/
theorem gfn0 {x qual : Str} {st : Stmt} {N : List Str} (F : Fun K x qual st f fd) (S : FnScope N ps (defScope st)) (len : ∀ vs H Q E, sp vs H Q E → vs.length = ps.length)
    (body : ∀ (cdv : Value) (A : Around), A.guards = some [] → ∀ (outer : List Env) (s : Shared) (H : Hp) (vs : List V) (Q : VK) (E : XK), Room k (A.deeper (envOfC qual (defScope st) s.heap.objs.size f cdv)) → sp vs H Q E →
      ∃ t, PSs (cxOf CX0 P w K mg base N qual (defScope st) f cdv A outer s H E).nox (defBody st) t ∧ t { nx := fun _ G => Q .non G, rt := Q } (start N vs) H) :
    GFn P w K mg base CX0 (k + 1) f fd ps sp :=
  gfn F S len fun cdv A hg outer s H vs Q E hr h => let ⟨t, h1, h2⟩ := body cdv A hg outer s H vs Q E hr h; ⟨t, h1.nox, h2⟩
end
section
variable {X : Cx} {CX : CXT} {k : Nat} {f : Addr} {fd : FuncData} {ps : List Str} {sp : Sp} {E : XK} {ds : List Value} {dvs : List V}
theorem run_g {pins : List (Addr × Obj)} {σ : L2.St} {H : Hp} {s : Shared} {Q : VK} {us : List Value} {vs : List V} (F : GFn X.prog X.w X.K X.mg X.base CX k f fd ps sp) (hg : X.A.guards = some []) (hr : Room k X.A)
    (hb : Binds X.K fd ps ds) (hd : Vals dvs ds) (hx : Passes CX X E) (I : Inv X pins σ H s) (r : Vals vs us) (h : sp (vs ++ dvs) H Q E) : wpAny (model X.prog X.w) X.A (call (.ref f) us) (EP X pins σ Q) X.xe s := by
  have r2 : Vals (vs ++ dvs) (us ++ ds) := r.append hd
  have hl : (us ++ ds).length = ps.length := r2.length ▸ F.len _ _ _ _ h
  refine wpAny_call (codeAny_mono (F.go X.A hg hr X.stack s H ⟨us, []⟩ (us ++ ds) (vs ++ dvs) Q E I.env0 (hb s us I.kIn hl) r2 h) ?_)
  intro r s' hq
  match r, hq with
  | .error e, hq => exact hx pins σ H s e s' I hq
  | .ok (.ret u), hq => exact I.after hq
  | .ok .next, hq | .ok .brk, hq | .ok .cont, hq => exact False.elim hq
theorem pe_callG {x : Str} {p pos : Pos} {e : Expr} {es : List Expr} {t : TA} (F : GFn X.prog X.w X.K X.mg X.base CX k f fd ps sp) (gu : X.A.guards = some []) (hr : Room k X.A) (hg : Gl X x) (hm : X.mg x = some (.ref f))
    (hk : PySem.W.keepIn X.K (.ref f) = true) (hb : Binds X.K fd ps ds) (hd : Vals dvs ds) (hx : Passes CX X E) (ha : PA X (e :: es) t) (hdb : (x == ("__debug__" : Str)) = false := by decide)
    (he : starEach (e :: es) X.env = (false, eval e X.env) :: starEach es X.env := by rfl) (hpl : (backTo pos (starEach es X.env)).any (·.1) = false := by rfl) :
    PE X (.Call (.Name x p) (e :: es) [] pos) (tCall sp dvs E t) :=
  ⟨fun pins s σ H Q I h => wpAny_Call_Name_kw (ld_glob I hg hm (PySem.W.callWith_K (h₀ := X.base) I.ok.mod.kin hk
    (thn (ha.run pos pins s σ H _ I h) fun us s1 ⟨vs, H1, I1, r, q⟩ => ⟨I1.kIn, run_g F gu hr hb hd hx I1 r q⟩) he hpl) hdb)⟩
end
/-- from the law's promise to the call of the law -/
theorem law_g {P : Program} {w : World} {K : PySem.W.Frag} {mg mb : Str → Option Value} {CX : CXT} {k : Nat} {fa a : Addr} {fd : FuncData} {x : Str} {sp : Sp} {s₁ : Shared} {vs : List Value} {ns : List Int}
    (KX : K.In s₁.heap) (hns : s₁.heap.Ns mainGlobals mg) (hb : s₁.heap.Ns builtinsNs mb) (hbb : ∀ x : Str, x ≠ "__name__" → mb x = bootBuiltins x) (hlim : s₁.heap.NoLimit) (hg : s₁.gens = #[])
    (ha : s₁.heap.get? a = some { cls := .type "list", data := .seq vs.toArray }) (hi : IntsAre vs ns) (hl : ns.length ≤ sizeLine) (hr : Room k callerA)
    (F : ∀ base : Heap, K.In base → base.Ns mainGlobals mg → GFn P w K mg base CX k fa fd [x] sp) (hbind : ∀ (s : Shared) (u : Value), BindsTo s fd ⟨[u], []⟩ [(x, u)])
    (hsp : ∀ H : Hp, Only H → SqL K H a (ns.map V.int) → sp [.ref a] H (fun v _ => v = .bl true) fun _ _ _ => False)
    (hCX : ∀ H e s', CX [] H s₁ (fun _ _ _ => False) e s' → False) :
    codeAny (model P w) callerA (.call (.ref fa) ⟨[.ref a], []⟩) (fun r s' => r = .ok (.ret (.bool true)) ∧ OldK s₁.heap s'.heap ∧ s'.os = s₁.os ∧ AllBare s'.gens) s₁ := by
  have rv := vals_ints hi
  have lenV := hi.length
  suffices core : ∀ H : Hp, Only H → SqL K H a (ns.map V.int) → HOk P w H s₁.heap → (∀ b, H b ≠ none → b = a) → (H a ≠ none → K.lookup a = none) →
      codeAny (model P w) callerA (.call (.ref fa) ⟨[.ref a], []⟩) (fun r s' => r = .ok (.ret (.bool true)) ∧ OldK s₁.heap s'.heap ∧ s'.os = s₁.os ∧ AllBare s'.gens) s₁ by
    cases hk : K.lookup a with
    | some o =>
      have e := KX a o hk
      rw [ha] at e
      cases e
      exact core (fun _ => none) (fun _ => .inl rfl) (.inr ⟨_, vs.toArray, _, hk, rfl, rfl, rfl, by rw [List.size_toArray, lenV]; exact hl, by simpa using rv⟩) (fun b u z => nomatch (show (none : Option HO) = some u from z)) (fun b z => absurd rfl z) fun z => absurd rfl z
    | none =>
      let o : Obj := { cls := .type "list", data := .seq vs.toArray }
      refine core (fun b => if b = a then some (.frz o (.lst (ns.map V.int))) else none) (fun b => ?_) (.inl (.inr ⟨o, if_pos rfl⟩)) (fun b u z => ?_) (fun b z => ?_) fun _ => hk
      · by_cases q : b = a
        · exact .inr ⟨_, _, if_pos q⟩
        · exact .inl (if_neg q)
      · by_cases q : b = a
        · have z2 := (if_pos q).symm.trans z
          cases z2
          subst q
          exact ⟨ha, by rw [List.length_map]; exact hl, vs, _, rv, ha⟩
        · have z2 := (if_neg q).symm.trans z
          cases z2
      · by_cases q : b = a
        · exact q
        · exact absurd (if_neg q) z
  intro H hO hS hok hA hK
  have at_a : ∀ {b : Addr} {u : HO}, H b = some u → b = a := fun {b u} q => hA b (by rw [q]; exact fun z => nomatch z)
  have noA : ∀ {b : Addr} {o : Obj} {es : Array DictEntry} {ep : Nat}, s₁.heap.get? b = some o → o.data = .dict es ep → H b = none := fun {b o es ep} e d => by
    match q : H b with
    | none => rfl
    | some u =>
      obtain rfl := at_a q
      rw [ha] at e; cases e
      exact nomatch (show Data.seq vs.toArray _ = Data.dict es ep from d)
  have nsK : ∀ {b : Addr} {m : Str → Option Value}, s₁.heap.Ns b m → (hidT s₁.heap H).Ns b m := fun ⟨o, es, ep, e, d, r⟩ => ⟨o, es, ep, hidT_get e (noA e d), d, r⟩
  have hKb : K.In (hidT s₁.heap H) := fun b o e => hidT_get (KX b o e) (by
    match q : H b with
    | none => rfl
    | some u =>
      obtain rfl := at_a q
      rw [hK (by rw [q]; exact fun z => nomatch z)] at e; cases e)
  have hM : Mod K mg (hidT s₁.heap H) := ⟨hKb, nsK hns, ⟨mb, nsK hb, hbb⟩, let ⟨mc, h1, h2⟩ := hlim; ⟨mc, nsK h1, h2⟩⟩
  have none_in : ∀ b : Addr, b ∉ frs [] := fun b z => nomatch (show b ∈ ([] : List Addr) from z)
  have e0 : Env0 P w K mg (hidT s₁.heap H) callerA [] s₁ H := ⟨rfl, hM, fun b o e => of_hidT e, Nat.le_of_eq (hidT_size _ _), trivial, fun b z => absurd z (none_in b), hok, .of_eq hg⟩
  have run := (F _ hKb (nsK hns)).go callerA rfl hr [] s₁ H ⟨[.ref a], []⟩ [.ref a] [.ref a] _ _ e0 (hbind s₁ (.ref a)) (.cons rfl .nil) (hsp H hO hS)
  refine codeAny_mono run fun r s' h => ?_
  match r, h with
  | .error e, h => exact (hCX H e s' h).elim
  | .ok .next, h | .ok .brk, h | .ok .cont, h => exact False.elim h
  | .ok (.ret u), ⟨v, H', os, bare, un, hok', r', q⟩ =>
    have q1 : v = .bl true := q
    subst q1
    obtain rfl : u = Value.bool true := r'
    refine ⟨rfl, OldK.of_keep fun b o e => ?_, os, bare⟩
    match q : H b with
    | none => exact un.keep b o e q (none_in b) (fun z => nomatch z)
    | some u =>
      rcases hO b with z | ⟨ob, xs, z⟩
      · rw [q] at z; cases z
      · have z2 := un.frzs b ob _ z
        obtain ⟨e1, _⟩ := hok b _ z
        obtain ⟨e2, _⟩ := hok' b _ z2
        rw [e] at e1; cases e1
        exact e2
theorem walk_g {l : PySem.W.OpenLaw} {n k : Nat} {q : Program} {loose : List Str} {XP : (Str → Option Value) → Heap → Prop} {YP : World → Heap → Prop} {d : DefRec} {K : Params → PySem.W.Frag} {sp : PySem.W.Frag → Sp} {x : Str}
    (hn : l.most = some n) (hn2 : n ≤ sizeLine) (hdf : d.params.defaults = []) (hr : Room k callerA) (hY : ∀ (w : World) (h : Heap), YP w h → (K w.params).In h)
    (F : ∀ (w : World) (mg : Str → Option Value) (fa : Addr) (h : Heap), (K w.params).In h → h.Ns mainGlobals mg → mg d.name = some (.ref fa) →
      ∃ fd : FuncData, (∀ (s : Shared) (u : Value), BindsTo s fd ⟨[u], []⟩ [(x, u)]) ∧ ∀ base : Heap, (K w.params).In base → base.Ns mainGlobals mg → GFn l.prog w (K w.params) mg base CX0 k fa fd [x] (sp (K w.params)))
    (hsp : ∀ (K : PySem.W.Frag) (H : Hp) (a : Addr) (ns : List Int), ns.length ≤ n → Only H → SqL K H a (ns.map V.int) → sp K [.ref a] H (fun v _ => v = .bl true) fun _ _ _ => False) :
    PySem.W.WalkO q loose XP YP l.row.toRowW d [] (fun f vs => PySem.call f vs) := by
  refine Att.attach_call hn hdf fun w s₀ s₁ mg mb fa o pm cd doc a vs ns G Y ho hd hcd hmg hobj hints hlen hg => ?_
  have KX := hY w _ Y
  obtain ⟨fd, hb, hF⟩ := F w mg fa _ KX G.T.g hmg
  exact law_g KX G.T.g G.T.b G.T.builtins G.T.nolimit hg hobj hints (Nat.le_trans hlen hn2) hr hF hb (fun H hO hS => hsp _ H a ns hlen hO hS) fun _ _ _ z => z
end KL
namespace KL
open PySem PySem.Spec PyProof.Rows L2
/-- a def of the text, by its name, that keeps a promise and lets no error out -/
def Df (P : Program) (w : World) (K : PySem.W.Frag) (mg : Str → Option Value) (base : Heap) (k : Nat) (x : Str) (ps : List Str) (sp : Sp) : Prop :=
  ∃ (f : Addr) (fd : FuncData), FnOk P w K mg base CX0 k f fd ps sp ∧ PySem.W.keepIn K (.ref f) = true ∧ Binds K fd ps [] ∧ mg x = some (.ref f)
theorem pe_df {X : Cx} {k : Nat} {ps : List Str} {sp : Sp} {x : Str} {p pos : Pos} {e : Expr} {es : List Expr} {t : TA} (D : Df X.prog X.w X.K X.mg X.base k x ps sp) (hr : Room k X.A) (hg : Gl X x) (ha : PA X (e :: es) t)
    (hdb : (x == ("__debug__" : Str)) = false := by decide) (he : starEach (e :: es) X.env = (false, eval e X.env) :: starEach es X.env := by rfl) (hpl : (backTo pos (starEach es X.env)).any (·.1) = false := by rfl) :
    PE X (.Call (.Name x p) (e :: es) [] pos) (tCall sp [] E0 t) := by
  obtain ⟨f, fd, F, kp, b, m⟩ := D
  exact pe_call F hr hg m kp b .nil L2.pass0 ha hdb he hpl
theorem Df.mono {P : Program} {w : World} {K : PySem.W.Frag} {mg : Str → Option Value} {base : Heap} {j k : Nat} {x : Str} {ps : List Str} {sp : Sp} (D : Df P w K mg base j x ps sp) (h : j ≤ k) : Df P w K mg base k x ps sp :=
  let ⟨f, fd, F, r⟩ := D; ⟨f, fd, F.mono h, r⟩
/-! what a draw of the pool leaves -/
def Pl (H : Hp) (p : Addr) : Prop := ∃ a b : Int, H p = some (.lst [.int a, .int b]) ∧ 0 ≤ a ∧ 0 ≤ b ∧ b < 2147483647
/-- all but what stands at p is as it was -/
def Kp (p : Addr) (H H' : Hp) : Prop := ∀ b o, b ≠ p → H b = some o → H' b = some o
theorem Kp.refl (p : Addr) (H : Hp) : Kp p H H := fun _ _ _ h => h
theorem Kp.trans {p : Addr} {H H1 H2 : Hp} (a : Kp p H H1) (b : Kp p H1 H2) : Kp p H H2 := fun c o n h => b c o n (a c o n h)
theorem Kp.of {p : Addr} {H H' : Hp} (s : Same H H') : Kp p H H' := fun b o _ h => s b o h
theorem Kp.upd (p : Addr) (H : Hp) (o : HO) : Kp p H (upd H p o) := fun b u n h => by rw [upd_ne n]; exact h
theorem Pl.same {H H' : Hp} {p : Addr} (h : Pl H p) (s : Same H H') : Pl H' p := let ⟨a, b, e, r⟩ := h; ⟨a, b, s _ _ e, r⟩
theorem same_new {H : Hp} {p : Addr} {o : HO} (h : H p = none) : Same H (upd H p o) := fun b u q => by rw [upd_ne (ne_of_none q h)]; exact q
theorem Kp.free {p : Addr} {H H' : Hp} (k : Kp p H H') {l : Addr} (n : l ≠ p) (h : H' l = none) : H l = none := by
  cases q : H l with
  | none => rfl
  | some o => rw [k l o n q] at h; cases h
theorem Pl.at {H : Hp} {p : Addr} (h : Pl H p) : H p ≠ none := by
  obtain ⟨a, b, e, _⟩ := h
  rw [e]; exact fun z => nomatch z
theorem Kp.freeP {p : Addr} {H H' : Hp} (k : Kp p H H') (h0 : Pl H' p) {l : Addr} (h : H' l = none) : H l = none :=
  k.free (fun e => h0.at (e ▸ h)) h
/-- a tuple is never the pool -/
theorem Kp.tup {K : PySem.W.Frag} {p a : Addr} {H H' : Hp} {xs : List V} (k : Kp p H H') (hp : Pl H p) (h : SqT K H a xs) : SqT K H' a xs := by
  obtain ⟨x, y, e, _⟩ := hp
  rcases h with (h | ⟨o, h⟩) | h
  · exact .inl (.inl (k _ _ (ne_of h e (by intro z; cases z)) h))
  · exact .inl (.inr ⟨o, k _ _ (ne_of h e (by intro z; cases z)) h⟩)
  · exact .inr h
theorem same_tup {K : PySem.W.Frag} {a : Addr} {H H' : Hp} {xs : List V} (s : Same H H') (h : SqT K H a xs) : SqT K H' a xs := by
  rcases h with (h | ⟨o, h⟩) | h
  · exact .inl (.inl (s _ _ h))
  · exact .inl (.inr ⟨o, s _ _ h⟩)
  · exact .inr h
theorem small {n : Nat} (h : n ≤ 1000) : n ≤ sizeLine := Nat.le_of_lt (small1000 h)
end KL
namespace KL
open PySem PySem.Spec PyProof.Rows L2
/-! ### data that can be shown -/
structure Fine (n m : Nat) (d : PyData) : Prop where
  sh : d.showable = true
  ls : d.leavesShort 128 = true
  cl : d.canLay0 = true
  wt : d.weight ≤ n
  dp : d.depth ≤ m
theorem Fine.le {n m n' m' : Nat} {d : PyData} (h : Fine n m d) (hn : n ≤ n') (hm : m ≤ m') : Fine n' m' d := ⟨h.sh, h.ls, h.cl, Nat.le_trans h.wt hn, Nat.le_trans h.dp hm⟩
theorem Fine.none {n m : Nat} : Fine n m .none := ⟨rfl, rfl, rfl, by simp only [PyData.weight]; omega, by simp only [PyData.depth]; omega⟩
theorem Fine.bool {n m : Nat} (b : Bool) : Fine n m (.bool b) := ⟨rfl, rfl, rfl, by simp only [PyData.weight]; omega, by simp only [PyData.depth]; omega⟩
theorem log_lt {i : Int} (h : i.natAbs < 2 ^ 110) : i.natAbs.log2 < 110 := by
  by_cases h0 : i.natAbs = 0
  · rw [h0]; decide
  · exact (Nat.log2_lt h0).mpr h
theorem Fine.int {m : Nat} (i : Int) (h : i.natAbs < 2 ^ 110) : Fine 110 m (.int i) := by
  have hl := log_lt h
  refine ⟨?_, ?_, ?_, ?_, by simp only [PyData.depth]; omega⟩
  · simp only [PyData.showable, decide_eq_true_eq]; omega
  · simp only [PyData.leavesShort, PyData.shown]
    refine decide_eq_true ?_
    have := int_text_length_le (k := 110) (by decide) hl
    show (Str.ofString (toString i)).length ≤ 128
    rw [PySem.ofString_length]
    omega
  · simp only [PyData.canLay0]
  · simp only [PyData.weight]; split <;> omega
structure FineAll (n m : Nat) (ds : List PyData) : Prop where
  all : ∀ d ∈ ds, Fine n m d
theorem FineAll.sh {n m : Nat} : ∀ {ds : List PyData}, FineAll n m ds → PyData.showableAll ds = true
  | [], _ => by simp only [PyData.showableAll]
  | d :: ds, h => by
    simp only [PyData.showableAll, (h.all d List.mem_cons_self).sh, Bool.true_and]
    exact FineAll.sh ⟨fun x hx => h.all x (List.mem_cons_of_mem _ hx)⟩
theorem FineAll.ls {n m : Nat} : ∀ {ds : List PyData}, FineAll n m ds → PyData.leavesShortAll 128 ds = true
  | [], _ => by simp only [PyData.leavesShortAll]
  | d :: ds, h => by
    simp only [PyData.leavesShortAll, (h.all d List.mem_cons_self).ls, Bool.true_and]
    exact FineAll.ls ⟨fun x hx => h.all x (List.mem_cons_of_mem _ hx)⟩
theorem FineAll.cl {n m : Nat} : ∀ {ds : List PyData}, FineAll n m ds → PyData.canLayAll0 ds = true
  | [], _ => by simp only [PyData.canLayAll0]
  | d :: ds, h => by
    simp only [PyData.canLayAll0, (h.all d List.mem_cons_self).cl, Bool.true_and]
    exact FineAll.cl ⟨fun x hx => h.all x (List.mem_cons_of_mem _ hx)⟩
theorem FineAll.wt {n m : Nat} : ∀ {ds : List PyData}, FineAll n m ds → PyData.weightAll ds ≤ ds.length * (n + 1)
  | [], _ => by simp only [PyData.weightAll]; omega
  | d :: ds, h => by
    simp only [PyData.weightAll, List.length_cons]
    have h1 := (h.all d List.mem_cons_self).wt
    have h2 := FineAll.wt (ds := ds) ⟨fun x hx => h.all x (List.mem_cons_of_mem _ hx)⟩
    rw [Nat.add_mul]; omega
theorem FineAll.dp {n m : Nat} : ∀ {ds : List PyData}, FineAll n m ds → PyData.depthAll ds ≤ m
  | [], _ => by simp only [PyData.depthAll]; omega
  | d :: ds, h => by
    simp only [PyData.depthAll]
    have h1 := (h.all d List.mem_cons_self).dp
    have h2 := FineAll.dp (ds := ds) ⟨fun x hx => h.all x (List.mem_cons_of_mem _ hx)⟩
    omega
theorem Fine.tuple {n m l : Nat} {ds : List PyData} (h : ∀ d ∈ ds, Fine n m d) (hl : ds.length ≤ l) : Fine (l * (n + 1)) (m + 1) (.tuple ds) := by
  have a : FineAll n m ds := ⟨h⟩
  refine ⟨by simp only [PyData.showable]; exact a.sh, by simp only [PyData.leavesShort]; exact a.ls, by simp only [PyData.canLay0]; exact a.cl, ?_, ?_⟩
  · simp only [PyData.weight]; exact Nat.le_trans a.wt (Nat.mul_le_mul_right _ hl)
  · simp only [PyData.depth]; exact Nat.succ_le_succ a.dp
theorem Fine.list {n m l : Nat} {ds : List PyData} (h : ∀ d ∈ ds, Fine n m d) (hl : ds.length ≤ l) : Fine (l * (n + 1)) (m + 1) (.list ds) := by
  have a : FineAll n m ds := ⟨h⟩
  refine ⟨by simp only [PyData.showable]; exact a.sh, by simp only [PyData.leavesShort]; exact a.ls, by simp only [PyData.canLay0]; exact a.cl, ?_, ?_⟩
  · simp only [PyData.weight]; exact Nat.le_trans a.wt (Nat.mul_le_mul_right _ hl)
  · simp only [PyData.depth]; exact Nat.succ_le_succ a.dp
theorem Fine.len {n m : Nat} {d : PyData} (h : Fine n m d) (hn : n ≤ 100000) : d.shown.length ≤ sizeLine := by
  have e := PyData.shown_le 128 (by decide) d h.ls
  have e2 : (128 + 2) * d.weight ≤ (128 + 2) * 100000 := Nat.mul_le_mul_left _ (Nat.le_trans h.wt hn)
  rw [sizeLine_eq]; omega
theorem Fine.shaped {n m : Nat} {d : PyData} (h : Fine n m d) (hm : m ≤ 60) : SeqAt.shaped d = true := by
  unfold SeqAt.shaped
  rw [h.cl, Bool.true_and]
  exact decide_eq_true (Nat.le_trans h.dp (by omega))
/-- what repr asks, of fine data -/
theorem rep_of {K : PySem.W.Frag} {H : Hp} {x : V} {d : PyData} {Q : VK} {n m : Nat} (h : Dp K H x d) (f : Fine n m d) (hn : n ≤ 100000) (hm : m ≤ 60) (q : Q (.str d.shown) H) : rRep K [x] H Q :=
  ⟨x, d, rfl, h, f.sh, Nat.le_trans f.dp hm, f.len hn, q⟩
theorem rep_bool {K : PySem.W.Frag} {H : Hp} {b : Bool} {Q : VK} (q : Q (.str (PyData.bool b).shown) H) : rRep K [.bl b] H Q := rep_of (n := 0) (m := 0) (.bl b) (Fine.bool b) (by omega) (by omega) q
/-! ### kinds -/
def tyD : PyData → String
  | .none => "NoneType"
  | .bool _ => "bool"
  | .int _ => "int"
  | .str _ => "str"
  | .list _ => "list"
  | .tuple _ => "tuple"
  | .dict _ => "dict"
theorem dpTy {K : PySem.W.Frag} {H : Hp} {x : V} {d : PyData} (h : Dp K H x d) : TyX K H x (.type (tyD d)) := by
  cases h with
  | non => exact .base .non
  | bl b => exact .base (.bl b)
  | int i => exact .base (.int i)
  | str y => exact .base (.str y)
  | lst s _ =>
    rcases s with (e | ⟨o, e⟩) | ⟨o, its, n, e, c, _⟩
    · exact .base (.lst e)
    · exact .base (.frz e)
    · exact .kList e c
  | tup s _ =>
    rcases s with (e | ⟨o, e⟩) | ⟨o, its, n, e, c, _⟩
    · exact .base (.tup e)
    · exact .fTuple e
    · exact .kTuple e c
/-- isinstance(x, T) over data -/
def isiD (d : PyData) (T : String) : Bool := match kitB (tyD d) T with
  | some b => b
  | none => false
theorem kit_int (d : PyData) : kitB (tyD d) "int" = some (match d with | .int _ | .bool _ => true | _ => false) := by cases d <;> (simp only [tyD]; decide +kernel)
theorem kit_bool (d : PyData) : kitB (tyD d) "bool" = some (match d with | .bool _ => true | _ => false) := by cases d <;> (simp only [tyD]; decide +kernel)
theorem kit_tuple (d : PyData) : kitB (tyD d) "tuple" = some (match d with | .tuple _ => true | _ => false) := by cases d <;> (simp only [tyD]; decide +kernel)
theorem kit_list (d : PyData) : kitB (tyD d) "list" = some (match d with | .list _ => true | _ => false) := by cases d <;> (simp only [tyD]; decide +kernel)
theorem kit_str (d : PyData) : kitB (tyD d) "str" = some (match d with | .str _ => true | _ => false) := by cases d <;> (simp only [tyD]; decide +kernel)
theorem isi_of {K : PySem.W.Frag} {H : Hp} {x : V} {d : PyData} {T : String} {b : Bool} {Q : VK} (h : Dp K H x d) (k : kitB (tyD d) T = some b) (q : Q (.bl b) H) : rIsi K [x, .ty T] H Q :=
  ⟨x, .ty T, .type (tyD d), .type T, b, rfl, .ty T, dpTy h, kit_ty k, q⟩
theorem atI_at {α : Type} {xs : List α} {i : Int} (h0 : 0 ≤ i) (h : i < (xs.length : Int)) : ∃ v, atI xs i = some v ∧ xs[i.toNat]? = some v := by
  have hi : i.toNat < xs.length := by omega
  refine ⟨xs[i.toNat], ?_, List.getElem?_eq_getElem hi⟩
  have q := atI_nat (List.getElem?_eq_getElem hi)
  rw [show ((i.toNat : Nat) : Int) = i by omega] at q
  exact q
theorem atI_ints {ns : List Int} {i : Int} (h0 : 0 ≤ i) (h : i < (ns.length : Int)) : ∃ v, atI (ns.map V.int) i = some (.int v) ∧ ns[i.toNat]? = some v := by
  obtain ⟨v, h1, h2⟩ := atI_at (xs := ns.map V.int) h0 (by rw [List.length_map]; exact h)
  rw [List.getElem?_map] at h2
  cases e : ns[i.toNat]? with
  | none => rw [e] at h2; cases h2
  | some u => rw [e] at h2; cases h2; exact ⟨u, h1, rfl⟩
/-! ### ints as data -/
theorem dpInts {K : PySem.W.Frag} {H : Hp} : ∀ ns : List Int, DpAll K H (ns.map V.int) (ns.map PyData.int)
  | [] => .nil
  | n :: ns => .cons (.int n) (dpInts ns)
theorem fineInts {B : Nat} {ns : List Int} (h : ∀ n ∈ ns, n.natAbs < 2 ^ 110) : ∀ d ∈ ns.map PyData.int, Fine 110 0 d := fun d hd => by
  obtain ⟨n, hn, rfl⟩ := List.mem_map.mp hd
  exact Fine.int n (h n hn)
theorem shInts (ns : List Int) : SeqAt.shaped (.list (ns.map PyData.int)) = true := by
  have h1 : ∀ ns : List Int, PyData.canLayAll0 (ns.map PyData.int) = true := fun ns => by
    induction ns with
    | nil => simp only [List.map_nil, PyData.canLayAll0]
    | cons n ns ih => simp only [List.map_cons, PyData.canLayAll0, PyData.canLay0, ih, Bool.true_and]
  have h2 : ∀ ns : List Int, PyData.depthAll (ns.map PyData.int) = 0 := fun ns => by
    induction ns with
    | nil => simp only [List.map_nil, PyData.depthAll]
    | cons n ns ih => simp only [List.map_cons, PyData.depthAll, PyData.depth, ih, Nat.max_self]
  unfold SeqAt.shaped
  simp only [PyData.canLay0, h1, PyData.depth, h2, Bool.true_and]
  decide
theorem shNil : SeqAt.shaped (.list []) = true := shInts []
theorem eqvNil (ns : List Int) : PyData.eqv (.list (ns.map PyData.int)) (.list []) = decide (ns = []) := by
  cases ns with
  | nil => simp [PyData.eqv, PyData.eqvAll]
  | cons n ns => simp [PyData.eqv, PyData.eqvAll]
mutual
theorem dpMv {K : PySem.W.Frag} {H H' : Hp} (tl : ∀ a xs, SqL K H a xs → SqL K H' a xs) (tt : ∀ a xs, SqT K H a xs → SqT K H' a xs) : ∀ (d : PyData) {x : V}, Dp K H x d → Dp K H' x d
  | .none, _, h => by cases h; exact .non
  | .bool b, _, h => by cases h; exact .bl b
  | .int i, _, h => by cases h; exact .int i
  | .str y, _, h => by cases h; exact .str y
  | .list ds, _, h => by
    cases h with
    | lst s a => exact .lst (tl _ _ s) (dpMvs tl tt ds a)
  | .tuple ds, _, h => by
    cases h with
    | tup s a => exact .tup (tt _ _ s) (dpMvs tl tt ds a)
  | .dict _, _, h => by cases h
theorem dpMvs {K : PySem.W.Frag} {H H' : Hp} (tl : ∀ a xs, SqL K H a xs → SqL K H' a xs) (tt : ∀ a xs, SqT K H a xs → SqT K H' a xs) : ∀ (ds : List PyData) {xs : List V}, DpAll K H xs ds → DpAll K H' xs ds
  | [], _, h => by cases h; exact .nil
  | d :: ds, _, h => by
    cases h with
    | cons h1 h2 => exact .cons (dpMv tl tt d h1) (dpMvs tl tt ds h2)
end
theorem dpSame {K : PySem.W.Frag} {H H' : Hp} {x : V} {d : PyData} (h : Dp K H x d) (s : Same H H') : Dp K H' x d := dpMv (fun _ _ q => s.seq q) (fun _ _ q => same_tup s q) d h
end KL
namespace KL
open PySem PySem.Spec PyProof.Rows L2
/-! ### what is told apart from the pool -/
def hid (p : Addr) (H : Hp) : Hp := fun b => if b = p then none else H b
theorem hid_same (p : Addr) (H : Hp) : Same (hid p H) H := fun b o h => by
  unfold hid at h
  split at h
  · cases h
  · exact h
theorem Kp.hid {p : Addr} {H H' : Hp} (k : Kp p H H') : Same (hid p H) (hid p H') := fun b o h => by
  unfold KL.hid at h ⊢
  split at h
  · cases h
  · rename_i n; rw [if_neg n]; exact k b o n h
theorem hid_of {p b : Addr} {H : Hp} {o : HO} (n : b ≠ p) (h : H b = some o) : hid p H b = some o := by unfold hid; rw [if_neg n]; exact h
theorem hidT {K : PySem.W.Frag} {p a : Addr} {H : Hp} {xs : List V} (hp : Pl H p) (h : SqT K H a xs) : SqT K (hid p H) a xs := by
  obtain ⟨x, y, e, _⟩ := hp
  rcases h with (h | ⟨o, h⟩) | h
  · exact .inl (.inl (hid_of (ne_of h e (by intro z; cases z)) h))
  · exact .inl (.inr ⟨o, hid_of (ne_of h e (by intro z; cases z)) h⟩)
  · exact .inr h
theorem unhidT {K : PySem.W.Frag} {p a : Addr} {H : Hp} {xs : List V} (h : SqT K (hid p H) a xs) : SqT K H a xs := same_tup (hid_same p H) h
section
variable {X : Cx}
/-- t + u, whichever object it is -/
def rCatK (K : PySem.W.Frag) : R2 := fun x y H Q => ∃ a b xs ys, x = .ref a ∧ y = .ref b ∧ SqT K H a xs ∧ SqT K H b ys ∧ xs.length + ys.length ≤ sizeLine ∧ ∀ r H', Same H H' → SqT K H' r (xs ++ ys) → Q (.ref r) H'
theorem op_catK : OpR X (binaryOp .Add) (rCatK X.K) := by
  intro pins s σ H x y v u Q I rx ry h
  obtain ⟨a, b, xs, ys, rfl, rfl, ha, hb, hz, q⟩ := h
  refine op_catA pins s σ H _ _ v u Q I rx ry ⟨a, b, xs, ys, rfl, rfl, ha, hb, hz, fun e => ?_, fun _ e => ?_, fun _ _ p hp => q p _ (same_new hp) (SqT.of upd_same)⟩
  · subst e; exact q b H (Same.refl H) hb
  · subst e; exact q a H (Same.refl H) (by rw [List.append_nil]; exact ha)
theorem cut_whole {xs : List V} {lo hi : Option Int} (h : HT.sIx xs.length 0 lo = 0 ∧ HT.sIx xs.length xs.length hi = xs.length) : cutV xs lo hi = xs := by
  unfold cutV
  rw [h.1, h.2]
  simp
theorem cut_sub {xs : List V} {lo hi : Option Int} : (∀ v ∈ cutV xs lo hi, v ∈ xs) ∧ (cutV xs lo hi).length ≤ xs.length := by
  unfold cutV
  refine ⟨fun v hv => List.mem_of_mem_drop (List.mem_of_mem_take hv), ?_⟩
  rw [List.length_take, List.length_drop]
  omega
/-- t[lo:hi], whichever object it is -/
def rSlK (K : PySem.W.Frag) : V → Option Int → Option Int → Hp → VK → Prop := fun x lo hi H Q => ∃ a xs, x = .ref a ∧ SqT K H a xs ∧ ∀ r H', Same H H' → SqT K H' r (cutV xs lo hi) → Q (.ref r) H'
theorem sl_tupK : SlR X (rSlK X.K) := by
  intro pins s σ H x v vl vu lo hi sl Q I rx hs pl pu h
  obtain ⟨a, xs, rfl, hx, q⟩ := h
  exact sl_tupA pins s σ H _ v vl vu lo hi sl Q I rx hs pl pu ⟨a, xs, rfl, hx, fun w => q a H (Same.refl H) (by rw [cut_whole w]; exact hx), fun _ p hp => q p _ (same_new hp) (SqT.of upd_same)⟩
end
theorem Fine.str1 : Fine 10 0 (.str (Str.ofString "1")) := ⟨rfl, by decide +kernel, by decide +kernel, by decide +kernel, by decide +kernel⟩
/-- an item that can be shown -/
def It (K : PySem.W.Frag) (H : Hp) (v : V) : Prop := ∃ d, Dp K H v d ∧ Fine 200 1 d
theorem It.same {K : PySem.W.Frag} {H H' : Hp} {v : V} (h : It K H v) (s : Same H H') : It K H' v := let ⟨d, h1, h2⟩ := h; ⟨d, dpSame h1 s, h2⟩
theorem It.int {K : PySem.W.Frag} {H : Hp} (i : Int) (h : i.natAbs < 2 ^ 110) : It K H (.int i) := ⟨_, .int i, (Fine.int (m := 0) i h).le (by omega) (by omega)⟩
theorem its_all {K : PySem.W.Frag} {H : Hp} : ∀ {xs : List V}, (∀ v ∈ xs, It K H v) → ∃ ds, DpAll K H xs ds ∧ ds.length = xs.length ∧ ∀ d ∈ ds, Fine 200 1 d
  | [], _ => ⟨[], .nil, rfl, fun _ h => nomatch h⟩
  | x :: xs, h => by
    obtain ⟨d, h1, h2⟩ := h x List.mem_cons_self
    obtain ⟨ds, h3, h4, h5⟩ := its_all (xs := xs) fun v hv => h v (List.mem_cons_of_mem _ hv)
    exact ⟨d :: ds, .cons h1 h3, by rw [List.length_cons, List.length_cons, h4], fun z hz => by
      rcases List.mem_cons.mp hz with e | e
      · rw [e]; exact h2
      · exact h5 z e⟩
/-- data that can be shown -/
def Dat (K : PySem.W.Frag) (H : Hp) (x : V) : Prop := ∃ d, Dp K H x d ∧ Fine 100000 3 d
theorem Dat.same {K : PySem.W.Frag} {H H' : Hp} {v : V} (h : Dat K H v) (s : Same H H') : Dat K H' v := let ⟨d, h1, h2⟩ := h; ⟨d, dpSame h1 s, h2⟩
theorem dat_tup {K : PySem.W.Frag} {H : Hp} {a : Addr} {xs : List V} (h : SqT K H a xs) (hi : ∀ v ∈ xs, It K H v) (hl : xs.length ≤ 400) : Dat K H (.ref a) := by
  obtain ⟨ds, h1, h2, h3⟩ := its_all hi
  exact ⟨_, .tup h h1, (Fine.tuple h3 (l := 400) (by omega)).le (by omega) (by omega)⟩
theorem dat_lst {K : PySem.W.Frag} {H : Hp} {a : Addr} {xs : List V} (h : SqL K H a xs) (hi : ∀ v ∈ xs, It K H v) (hl : xs.length ≤ 400) : Dat K H (.ref a) := by
  obtain ⟨ds, h1, h2, h3⟩ := its_all hi
  exact ⟨_, .lst h h1, (Fine.list h3 (l := 400) (by omega)).le (by omega) (by omega)⟩
end KL
namespace KL
open PySem PySem.Spec PyProof.Rows L2
/-- a def of the text, whatever its defaults -/
def Fb (K : PySem.W.Frag) (x qual : Str) (st : Stmt) (f : Addr) (fd : FuncData) : Prop :=
  ∃ (oc : Value) (od : Option Addr) (dV kV doc pm : Value) (an : Option Addr) (cdv ct : Value) (osl : Array (Option Value)),
    fd = PySem.W.fnOf x qual (defArgs st) (defBody st) (defScope st) dV kV doc pm an cdv ct ∧ K.lookup f = some ⟨oc, od, .func fd, osl⟩ ∧ PySem.W.codeIn K cdv qual = true
section
variable {P : Program} {w : World} {K : PySem.W.Frag} {mg : Str → Option Value} {base : Heap} {x qual : Str} {st : Stmt} {f : Addr} {fd : FuncData}
theorem Fb.ok {N ps : List Str} {k : Nat} {sp : Sp} (F : Fb K x qual st f fd) (S : FnScope N ps (defScope st)) (len : ∀ vs H Q E, sp vs H Q E → vs.length = ps.length)
    (body : ∀ (cdv : Value) (A : Around) (outer : List Env) (s : Shared) (H : Hp) (vs : List V) (Q : VK) (E : XK), Room k (A.deeper (envOfC qual (defScope st) s.heap.objs.size f cdv)) → sp vs H Q E →
      ∃ t, PSs (cxOf CX0 P w K mg base N qual (defScope st) f cdv A outer s H E).nox (defBody st) t ∧ t { nx := fun _ G => Q .non G, rt := Q } (start N vs) H) : FnOk P w K mg base CX0 (k + 1) f fd ps sp := by
  obtain ⟨oc, od, dV, kV, doc, pm, an, cdv, ct, osl, rfl, lk, hcd⟩ := F
  exact fn_of lk hcd S len fun A outer s H vs Q E hr h => let ⟨t, h1, h2⟩ := body cdv A outer s H vs Q E hr h; ⟨t, h1.nox, h2⟩
theorem Fb.of (F : Fun K x qual st f fd) : Fb K x qual st f fd := let ⟨oc, od, kV, doc, pm, an, cdv, ct, osl, h⟩ := F.ex; ⟨oc, od, .none, kV, doc, pm, an, cdv, ct, osl, h⟩
end
/-- a def called with its last defaults left out -/
def Dfd (P : Program) (w : World) (K : PySem.W.Frag) (mg : Str → Option Value) (base : Heap) (k : Nat) (x : Str) (ps : List Str) (sp : Sp) (dvs : List V) : Prop :=
  ∃ (f : Addr) (fd : FuncData) (ds : List Value), FnOk P w K mg base CX0 k f fd ps sp ∧ PySem.W.keepIn K (.ref f) = true ∧ Binds K fd ps ds ∧ Vals dvs ds ∧ mg x = some (.ref f)
theorem pe_dfd {X : Cx} {k : Nat} {ps : List Str} {sp : Sp} {dvs : List V} {x : Str} {p pos : Pos} {e : Expr} {es : List Expr} {t : TA} (D : Dfd X.prog X.w X.K X.mg X.base k x ps sp dvs) (hr : Room k X.A) (hg : Gl X x) (ha : PA X (e :: es) t)
    (hdb : (x == ("__debug__" : Str)) = false := by decide) (he : starEach (e :: es) X.env = (false, eval e X.env) :: starEach es X.env := by rfl) (hpl : (backTo pos (starEach es X.env)).any (·.1) = false := by rfl) :
    PE X (.Call (.Name x p) (e :: es) [] pos) (tCall sp dvs E0 t) := by
  obtain ⟨f, fd, ds, F, kp, b, r, m⟩ := D
  exact pe_call F hr hg m kp b r L2.pass0 ha hdb he hpl
theorem Dfd.mono {P : Program} {w : World} {K : PySem.W.Frag} {mg : Str → Option Value} {base : Heap} {j k : Nat} {x : Str} {ps : List Str} {sp : Sp} {dvs : List V} (D : Dfd P w K mg base j x ps sp dvs) (h : j ≤ k) : Dfd P w K mg base k x ps sp dvs :=
  let ⟨f, fd, ds, F, r⟩ := D; ⟨f, fd, ds, F.mono h, r⟩
theorem same_kp {p : Addr} {H H1 H2 : Hp} (s : Same H H1) (n : H p = none) (k : Kp p H1 H2) : Same H H2 := fun b o h => k b o (ne_of_none h n) (s b o h)
theorem ne_self {A B : Prop} {x : V} (h : B) : if (!decide (x = x)) = true then A else B := by rw [decide_eq_true rfl]; exact iteF h
end KL
namespace KL
open PySem PySem.Spec PyProof.Rows L2
section
variable {X : Cx}
theorem eqV_int (i j : Int) : eqV (.int i) (.int j) = decide (i = j) := by
  show (i == j) = decide (i = j)
  exact Bool.eq_iff_iff.mpr (by rw [beq_iff_eq, decide_eq_true_eq])
theorem inV_ints (n : Int) : ∀ ns : List Int, inV (.int n) (ns.map V.int) = decide (n ∈ ns)
  | [] => by simp [inV]
  | m :: ns => by
    have ih := inV_ints n ns
    unfold inV at ih ⊢
    rw [List.map_cons, List.any_cons, ih, eqV_int]
    by_cases h : m = n
    · subst h; simp
    · have h' : ¬ n = m := fun e => h e.symm
      simp [h, h']
theorem flat_ints : ∀ ns : List Int, (ns.map V.int).all flatV = true
  | [] => rfl
  | _ :: ns => by rw [List.map_cons, List.all_cons, flat_ints ns]; rfl
/-- n in ns, ints -/
def rInI (K : PySem.W.Frag) (neg : Bool) : R2 := fun x y H Q => ∃ (p : Addr) (n : Int) (ns : List Int), x = .int n ∧ y = .ref p ∧ (SqL K H p (ns.map V.int) ∨ SqT K H p (ns.map V.int)) ∧ Q (.bl (if neg then !decide (n ∈ ns) else decide (n ∈ ns))) H
theorem op_inI : OpR X (compareOp .In) (rInI X.K false) := by
  intro pins s σ H x y v u Q I rx ry h
  obtain ⟨p, n, ns, rfl, rfl, hq, q⟩ := h
  exact op_in_seq pins s σ H _ _ v u Q I rx ry ⟨p, ns.map V.int, rfl, hq, rfl, flat_ints ns, by rw [inV_ints]; exact q⟩
theorem op_notInI : OpR X (compareOp .NotIn) (rInI X.K true) := by
  intro pins s σ H x y v u Q I rx ry h
  obtain ⟨p, n, ns, rfl, rfl, hq, q⟩ := h
  exact op_notIn_seq pins s σ H _ _ v u Q I rx ry ⟨p, ns.map V.int, rfl, hq, rfl, flat_ints ns, by rw [inV_ints]; exact q⟩
theorem pi_or {tg l : Expr} {w1 w2 : TI} (h1 : PI X tg l w1) (h2 : PI X tg l w2) : PI X tg l (fun σ H R => w1 σ H R ∨ w2 σ H R) :=
  ⟨fun pins s σ H R I h => h.elim (fun h => h1.run pins s σ H R I h) (fun h => h2.run pins s σ H R I h)⟩
theorem pi_seq {tg l : Expr} {tl : TE} (hl : PE X l tl) : PI X tg l (fun σ H R => iList X.K tl σ H R ∨ iTup X.K tl σ H R) := pi_or (pi_list hl) (pi_tup hl)
end
/-! ### ints by their things -/
abbrev ab (n : Int) : Int := if n < 0 then -n else n
theorem ab_nat (n : Int) : ab n = (n.natAbs : Int) := by unfold ab; split <;> omega
theorem natAbs_eq {a b : Int} (h : a.natAbs = b.natAbs) : a = b ∨ a = -b := by omega
/-- rising lists of the same ints are the same -/
theorem rising_eq : ∀ {xs ys : List Int}, xs.Pairwise (fun a b => a.natAbs < b.natAbs) → ys.Pairwise (fun a b => a.natAbs < b.natAbs) → (∀ m, m ∈ xs ↔ m ∈ ys) → xs = ys
  | [], [], _, _, _ => rfl
  | [], y :: ys, _, _, h => absurd ((h y).mpr List.mem_cons_self) (by simp)
  | x :: xs, [], _, _, h => absurd ((h x).mp List.mem_cons_self) (by simp)
  | x :: xs, y :: ys, hx, hy, h => by
    rw [List.pairwise_cons] at hx hy
    have e : x = y := by
      have h1 := (h x).mp List.mem_cons_self
      have h2 := (h y).mpr List.mem_cons_self
      rcases List.mem_cons.mp h1 with e | e
      · exact e
      rcases List.mem_cons.mp h2 with e' | e'
      · exact e'.symm
      have a := hy.1 x e
      have b := hx.1 y e'
      omega
    subst e
    rw [rising_eq hx.2 hy.2 fun m => ?_]
    have hm := h m
    rw [List.mem_cons, List.mem_cons] at hm
    constructor
    · intro z
      rcases hm.mp (.inr z) with e | e
      · subst e; exact absurd (hx.1 m z) (by omega)
      · exact e
    · intro z
      rcases hm.mpr (.inr z) with e | e
      · subst e; exact absurd (hy.1 m z) (by omega)
      · exact e
/-- the clause of signs: rising, each once -/
structure ClOf (ns cs : List Int) : Prop where
  up : cs.Pairwise fun a b => a.natAbs < b.natAbs
  mem : ∀ m, m ∈ cs ↔ m ∈ ns
theorem ClOf.eq {ns cs ds : List Int} (h : ClOf ns cs) (h' : ClOf ns ds) : cs = ds := rising_eq h.up h'.up fun m => (h.mem m).trans (h'.mem m).symm
/-- signs that say both of a thing -/
def Both (ns : List Int) : Prop := ∃ n ∈ ns, -n ∈ ns
/-! the dict of signs by their things -/
def kvOf (ms : List Int) : List (Key × V) := ms.map fun m => (Sum.inl (ab m), V.int m)
theorem kvOf_get {ms : List Int} {k : Int} {v : V} (h : valV (kvOf ms) (.inl k) = some v) : ∃ m ∈ ms, ab m = k ∧ v = .int m := by
  induction ms with
  | nil => rw [show kvOf [] = [] from rfl, valV_nil] at h; cases h
  | cons m ms ih =>
    by_cases e : ab m = k
    · rw [show kvOf (m :: ms) = (Sum.inl (ab m), V.int m) :: kvOf ms from rfl, valV_pos (congrArg Sum.inl e)] at h
      cases h
      exact ⟨m, List.mem_cons_self, e, rfl⟩
    · rw [show kvOf (m :: ms) = (Sum.inl (ab m), V.int m) :: kvOf ms from rfl, valV_neg (fun z => e (Sum.inl.inj z))] at h
      obtain ⟨x, hx, r⟩ := ih h
      exact ⟨x, List.mem_cons_of_mem _ hx, r⟩
theorem kvOf_none {ms : List Int} {k : Int} (h : valV (kvOf ms) (.inl k) = none) : ∀ m ∈ ms, ab m ≠ k := by
  induction ms with
  | nil => intro m hm; cases hm
  | cons x ms ih =>
    by_cases e : ab x = k
    · rw [show kvOf (x :: ms) = (Sum.inl (ab x), V.int x) :: kvOf ms from rfl, valV_pos (congrArg Sum.inl e)] at h
      cases h
    · rw [show kvOf (x :: ms) = (Sum.inl (ab x), V.int x) :: kvOf ms from rfl, valV_neg (fun z => e (Sum.inl.inj z))] at h
      intro m hm
      rcases List.mem_cons.mp hm with z | z
      · rw [z]; exact e
      · exact ih h m z
theorem kvOf_put {ms : List Int} {n : Int} (h : ∀ m ∈ ms, ab m ≠ ab n) : putK (kvOf ms) (.inl (ab n)) (.int n) = kvOf (ms ++ [n]) := by
  unfold putK
  rw [if_neg ?_]
  · unfold kvOf; rw [List.map_append]; rfl
  · intro z
    obtain ⟨p, hp, e⟩ := List.any_eq_true.mp z
    obtain ⟨m, hm, rfl⟩ := List.mem_map.mp hp
    exact h m hm (Sum.inl.inj (of_decide_eq_true e))
theorem find_ab {ms : List Int} (hd : ms.Pairwise fun a b => ab a ≠ ab b) {m : Int} (hm : m ∈ ms) : (ms.find? fun x => decide (ab x = ab m)) = some m := by
  induction ms with
  | nil => cases hm
  | cons x ms ih =>
    rw [List.pairwise_cons] at hd
    rw [List.find?_cons]
    rcases List.mem_cons.mp hm with e | e
    · subst e; simp
    · rw [decide_eq_false (hd.1 m e)]
      exact ih hd.2 e
theorem ab_inj {ms : List Int} (hd : ms.Pairwise fun a b => ab a ≠ ab b) {x m : Int} (hx : x ∈ ms) (hm : m ∈ ms) (e : ab x = ab m) : x = m := by
  have h1 := find_ab hd hm
  have h2 := find_ab hd hx
  rw [e, h1] at h2
  exact (Option.some.inj h2).symm
theorem kvOf_some {ms : List Int} (hd : ms.Pairwise fun a b => ab a ≠ ab b) : ∀ m ∈ ms, valV (kvOf ms) (.inl (ab m)) = some (.int m) := by
  intro m hm
  cases e : valV (kvOf ms) (.inl (ab m)) with
  | none => exact absurd rfl (kvOf_none e m hm)
  | some v =>
    obtain ⟨x, hx, e1, rfl⟩ := kvOf_get e
    rw [ab_inj hd hx hm e1]
theorem kvOf_keys (ms : List Int) : (kvOf ms).map (·.1) = (ms.map ab).map Sum.inl := by
  unfold kvOf
  rw [List.map_map, List.map_map]
  rfl
/-- the signs by the sorted things -/
def byKeys (ms : List Int) (ys : List Int) : List Int := ys.map fun y => (ms.find? fun m => decide (ab m = y)).getD 0
theorem byKeys_ok {ms ys : List Int} (hd : ms.Pairwise fun a b => ab a ≠ ab b) (hp : ys.Perm (ms.map ab)) (hs : ys.Pairwise (· ≤ ·)) : ClOf ms (byKeys ms ys) := by
  have nd : ys.Nodup := hp.nodup_iff.mpr ((List.pairwise_map.mpr hd))
  have each : ∀ y ∈ ys, ∃ m ∈ ms, ab m = y ∧ (ms.find? fun x => decide (ab x = y)).getD 0 = m := fun y hy => by
    obtain ⟨m, hm, e⟩ := List.mem_map.mp (hp.mem_iff.mp hy)
    subst e
    exact ⟨m, hm, rfl, by rw [find_ab hd hm]; rfl⟩
  refine ⟨?_, fun m => ⟨fun h => ?_, fun h => ?_⟩⟩
  · unfold byKeys
    rw [List.pairwise_map]
    have st : ys.Pairwise (fun a b => a ≤ b ∧ a ≠ b) := hs.and nd
    refine List.Pairwise.imp_of_mem (fun {a b} ha hb h => ?_) st
    obtain ⟨m1, _, e1, f1⟩ := each a ha
    obtain ⟨m2, _, e2, f2⟩ := each b hb
    rw [f1, f2]
    rw [ab_nat] at e1 e2
    omega
  · obtain ⟨y, hy, rfl⟩ := List.mem_map.mp h
    obtain ⟨m, hm, _, f⟩ := each y hy
    rw [f]; exact hm
  · refine List.mem_map.mpr ⟨ab m, hp.mem_iff.mpr (List.mem_map.mpr ⟨m, h, rfl⟩), ?_⟩
    rw [find_ab hd h]; rfl
end KL
namespace KL
open PySem PySem.Spec PyProof.Rows L2
def sayB (bs : List Bool) (n : Int) : Bool := (bs.getD (n.natAbs - 1) false) == decide (0 < n)
theorem say_at {bs : List Bool} {n : Int} (h1 : 1 ≤ n.natAbs) (h2 : n.natAbs ≤ bs.length) : ∃ b, atI (bs.map V.bl) (ab n - 1) = some (.bl b) ∧ sayB bs n = (b == decide (0 < n)) := by
  obtain ⟨v, h3, h4⟩ := atI_at (xs := bs.map V.bl) (i := ab n - 1) (by rw [ab_nat]; omega) (by rw [ab_nat, List.length_map]; omega)
  have e : (ab n - 1).toNat = n.natAbs - 1 := by rw [ab_nat]; omega
  rw [e, List.getElem?_map] at h4
  cases q : bs[n.natAbs - 1]? with
  | none => rw [q] at h4; cases h4
  | some b =>
    rw [q] at h4; cases h4
    refine ⟨b, h3, ?_⟩
    unfold sayB
    rw [List.getD_eq_getElem?_getD, q]; rfl
theorem say_eq (b c : Bool) : decide (V.bl b = V.bl c) = (b == c) := by cases b <;> cases c <;> rfl
theorem at_int {ns : List Int} {i : Nat} {x : V} (h : (ns.map V.int)[i]? = some x) : ∃ n, x = .int n ∧ n ∈ ns ∧ ns.take (i + 1) = ns.take i ++ [n] := by
  rw [List.getElem?_map] at h
  cases q : ns[i]? with
  | none => rw [q] at h; cases h
  | some n =>
    rw [q] at h; cases h
    refine ⟨n, rfl, List.mem_of_getElem? q, ?_⟩
    rw [List.take_add_one, q]; rfl
/-- the loop of clause_of -/
def CofW (ns : List Int) (H : Hp) (a d : Addr) (i : Nat) (σ : L2.St) (H1 : Hp) : Prop :=
  ∃ (y2 y3 : Option V) (ms : List Int), σ = [some (.ref a), some (.ref d), y2, y3] ∧ Same H H1 ∧ H1 d = some (.dK (kvOf ms)) ∧ ms.Pairwise (fun a b => ab a ≠ ab b) ∧ ∀ m, m ∈ ms ↔ m ∈ ns.take i
theorem CofW.same {ns : List Int} {H : Hp} {a d : Addr} {i : Nat} {σ : L2.St} {H1 : Hp} (h : CofW ns H a d i σ H1) : Same H H1 := let ⟨_, _, _, _, s, _⟩ := h; s
theorem nd_len : ∀ {ms ns : List Int}, ms.Nodup → (∀ m ∈ ms, m ∈ ns) → ms.length ≤ ns.length
  | [], _, _, _ => Nat.zero_le _
  | m :: ms, ns, hd, h => by
    rw [List.nodup_cons] at hd
    have h1 := h m List.mem_cons_self
    have ih := nd_len (ms := ms) (ns := ns.erase m) hd.2 fun x hx => (List.mem_erase_of_ne (fun e : x = m => hd.1 (by rw [← e]; exact hx))).mpr (h x (List.mem_cons_of_mem _ hx))
    rw [List.length_erase_of_mem h1] at ih
    have := List.length_pos_of_mem h1
    rw [List.length_cons]; omega
theorem dj_len {ms ns : List Int} (dj : ms.Pairwise fun a b => ab a ≠ ab b) (h : ∀ m ∈ ms, m ∈ ns) : ms.length ≤ ns.length := by
  have nd : ms.Nodup := dj.imp fun h e => h (by rw [e])
  exact nd_len nd h
end KL
namespace KL
open PySem PySem.Spec PyProof.Rows L2
/-! rules with the written part named, for use within a comprehension -/
section
variable {X : Cx} {K : PySem.W.Frag}
theorem op_inI' (e : X.K = K) : OpR X (compareOp .In) (rInI K false) := e ▸ op_inI
theorem op_notInI' (e : X.K = K) : OpR X (compareOp .NotIn) (rInI K true) := e ▸ op_notInI
theorem ix_tup' (e : X.K = K) : IxR X (rIxT K) := e ▸ ix_tup
theorem ix_list' (e : X.K = K) : IxR X (rIxL K) := e ▸ ix_list
theorem op_eqD' (e : X.K = K) (hu : X.A.units + 64 < cLine) : OpR X (compareOp .Eq) (rEqD K) := e ▸ op_eqD hu
theorem op_neD' (e : X.K = K) (hu : X.A.units + 64 < cLine) : OpR X (compareOp .NotEq) (rNeD K) := e ▸ op_neD hu
theorem op_catK' (e : X.K = K) : OpR X (binaryOp .Add) (rCatK K) := e ▸ op_catK
theorem sl_tupK' (e : X.K = K) : SlR X (rSlK K) := e ▸ sl_tupK
theorem sl_list' (e : X.K = K) : SlR X (fun x lo hi H Q => ∃ a xs, x = .ref a ∧ SqL K H a xs ∧ ∀ p, H p = none → Q (.ref p) (upd H p (.lst (cutV xs lo hi)))) := e ▸ sl_list
theorem call_len_seq' (e : X.K = K) : CallR X (.builtin "len") (fun xs H Q => ∃ p ys, xs = [.ref p] ∧ (SqL K H p ys ∨ SqT K H p ys) ∧ Q (.int ys.length) H) := e ▸ call_len_seq
theorem call_tuple_of' (e : X.K = K) : CallR X (.type "tuple") (fun xs H Q => ∃ p ys, xs = [.ref p] ∧ ((SqL K H p ys ∧ ∀ l, H l = none → Q (.ref l) (upd H l (.tup ys))) ∨ (SqT K H p ys ∧ Q (.ref p) H))) := e ▸ call_tuple_of
theorem call_list_of' (e : X.K = K) : CallR X (.type "list") (fun xs H Q => ∃ p ys, xs = [.ref p] ∧ (SqL K H p ys ∨ SqT K H p ys) ∧ ∀ l, H l = none → Q (.ref l) (upd H l (.lst ys))) := e ▸ call_list_of
theorem call_isi' (e : X.K = K) : CallR X (.builtin "isinstance") (rIsi K) := e ▸ call_isi
theorem call_rep' (e : X.K = K) (hg : X.A.guards = some []) (hu : X.A.units + 64 < cLine) : CallR X (.builtin "repr") (rRep K) := e ▸ call_rep hg hu
theorem cr_any' (e : X.K = K) (hc : X.calm = true) : CallR X (.builtin "any") (rAny K) := e ▸ cr_any hc
theorem cr_all' (e : X.K = K) (hc : X.calm = true) : CallR X (.builtin "all") (rAll K) := e ▸ cr_all hc
theorem pi_tup' {tg l : Expr} {tl : TE} (e : X.K = K) (hl : PE X l tl) : PI X tg l (iTup K tl) := e ▸ pi_tup hl
theorem pi_list' {tg l : Expr} {tl : TE} (e : X.K = K) (hl : PE X l tl) : PI X tg l (iList K tl) := e ▸ pi_list hl
theorem pi_seq' {tg l : Expr} {tl : TE} (e : X.K = K) (hl : PE X l tl) : PI X tg l (fun σ H R => iList K tl σ H R ∨ iTup K tl σ H R) := e ▸ pi_seq hl
theorem pe_revT' {x : Expr} {te : TE} {k : Nat} {p1 p2 p3 pos : Pos} (e : X.K = K) (he : PE X x te) : PE X (.Subscript x (.Slice none none (some (.UnaryOp .USub (.Constant (.int 1) k p1) p2)) p3) pos) (tRevT K te) := e ▸ pe_revT he
end
end KL
namespace KL
open PySem PySem.Spec PyProof.Rows L2
/-- a row of the table of fillings -/
def rowB (n m : Nat) : List Bool := (List.range n).map fun (k : Nat) => decide (V.int (Builtin.bitAnd ((m : Int) / 2 ^ ((n : Int) - 1 - (k : Int)).toNat) 1) = V.int 1)
theorem rowB_len (n m : Nat) : (rowB n m).length = n := by unfold rowB; simp
theorem rowB_take {n m k : Nat} (h : k < n) : (rowB n m).take (k + 1) = (rowB n m).take k ++ [decide (V.int (Builtin.bitAnd ((m : Int) / 2 ^ ((n : Int) - 1 - (k : Int)).toNat) 1) = V.int 1)] := by
  have e : (rowB n m)[k]? = some (decide (V.int (Builtin.bitAnd ((m : Int) / 2 ^ ((n : Int) - 1 - (k : Int)).toNat) 1) = V.int 1)) := by
    unfold rowB
    rw [List.getElem?_map, List.getElem?_range h]; rfl
  rw [List.take_add_one, e]; rfl
/-- tuples of ints, one by one -/
inductive TupsI (K : PySem.W.Frag) (H : Hp) : List Addr → List (List Int) → Prop
  | nil : TupsI K H [] []
  | cons {c : Addr} {cs : List Addr} {ns : List Int} {nss : List (List Int)} : SqT K H c (ns.map V.int) → TupsI K H cs nss → TupsI K H (c :: cs) (ns :: nss)
theorem TupsI.len {K : PySem.W.Frag} {H : Hp} : ∀ {cs : List Addr} {nss : List (List Int)}, TupsI K H cs nss → cs.length = nss.length
  | _, _, .nil => rfl
  | _, _, .cons _ t => by rw [List.length_cons, List.length_cons, t.len]
theorem TupsI.mv {K : PySem.W.Frag} {H H' : Hp} (m : ∀ a xs, SqT K H a xs → SqT K H' a xs) : ∀ {cs : List Addr} {nss : List (List Int)}, TupsI K H cs nss → TupsI K H' cs nss
  | _, _, .nil => .nil
  | _, _, .cons h t => .cons (m _ _ h) (t.mv m)
theorem TupsI.same {K : PySem.W.Frag} {H H' : Hp} {cs : List Addr} {nss : List (List Int)} (h : TupsI K H cs nss) (s : Same H H') : TupsI K H' cs nss := h.mv fun _ _ q => same_tup s q
theorem TupsI.lst {K : PySem.W.Frag} {H : Hp} {D : Addr} {xs ys : List V} {cs : List Addr} {nss : List (List Int)} (h : TupsI K H cs nss) (e : H D = some (.lst xs)) : TupsI K (upd H D (.lst ys)) cs nss := h.mv fun a zs q => by
  rcases q with (q | ⟨o, q⟩) | q
  · exact .inl (.inl (by rw [upd_ne (ne_of q e (by intro z; cases z))]; exact q))
  · exact .inl (.inr ⟨o, by rw [upd_ne (ne_of q e (by intro z; cases z))]; exact q⟩)
  · exact .inr q
theorem TupsI.snoc {K : PySem.W.Frag} {H : Hp} {c : Addr} {ns : List Int} (hc : SqT K H c (ns.map V.int)) : ∀ {cs : List Addr} {nss : List (List Int)}, TupsI K H cs nss → TupsI K H (cs ++ [c]) (nss ++ [ns])
  | _, _, .nil => .cons hc .nil
  | _, _, .cons h t => .cons h (TupsI.snoc hc t)
theorem TupsI.at {K : PySem.W.Frag} {H : Hp} : ∀ {cs : List Addr} {nss : List (List Int)} {i : Nat} {x : V}, TupsI K H cs nss → (cs.map V.ref)[i]? = some x →
    ∃ c ns, x = .ref c ∧ ns ∈ nss ∧ SqT K H c (ns.map V.int) ∧ nss.take (i + 1) = nss.take i ++ [ns]
  | _, _, _, _, .nil, e => by simp at e
  | _, _, 0, _, .cons h _, e => by
    rw [List.map_cons] at e
    cases e
    exact ⟨_, _, rfl, List.mem_cons_self, h, by simp⟩
  | _, _, i + 1, x, .cons _ t, e => by
    obtain ⟨c, ns, h1, h2, h3, h4⟩ := t.at (i := i) (x := x) (by simpa using e)
    exact ⟨c, ns, h1, List.mem_cons_of_mem _ h2, h3, by rw [List.take_succ_cons, h4]; rfl⟩
theorem TupsI.dp {K : PySem.W.Frag} {H : Hp} : ∀ {cs : List Addr} {nss : List (List Int)}, TupsI K H cs nss → DpAll K H (cs.map V.ref) (nss.map fun ns => .tuple (ns.map PyData.int))
  | _, _, .nil => .nil
  | _, _, .cons h t => .cons (.tup h (dpInts _)) t.dp
theorem cl_ints : ∀ ns : List Int, PyData.canLayAll0 (ns.map PyData.int) = true
  | [] => by simp only [List.map_nil, PyData.canLayAll0]
  | _ :: ns => by simp only [List.map_cons, PyData.canLayAll0, PyData.canLay0, cl_ints ns, Bool.true_and]
theorem dp_ints : ∀ ns : List Int, PyData.depthAll (ns.map PyData.int) = 0
  | [] => by simp only [List.map_nil, PyData.depthAll]
  | _ :: ns => by simp only [List.map_cons, PyData.depthAll, PyData.depth, dp_ints ns, Nat.max_self]
theorem shTups (nss : List (List Int)) : SeqAt.shaped (.list (nss.map fun ns => .tuple (ns.map PyData.int))) = true := by
  have h1 : ∀ nss : List (List Int), PyData.canLayAll0 (nss.map fun ns => .tuple (ns.map PyData.int)) = true := fun nss => by
    induction nss with
    | nil => simp only [List.map_nil, PyData.canLayAll0]
    | cons n ns ih => simp only [List.map_cons, PyData.canLayAll0, PyData.canLay0, ih, cl_ints, Bool.true_and]
  have h2 : ∀ nss : List (List Int), PyData.depthAll (nss.map fun ns => .tuple (ns.map PyData.int)) ≤ 1 := fun nss => by
    induction nss with
    | nil => simp only [List.map_nil, PyData.depthAll]; omega
    | cons n ns ih => simp only [List.map_cons, PyData.depthAll, PyData.depth, dp_ints]; omega
  unfold SeqAt.shaped
  simp only [PyData.canLay0, h1, PyData.depth, Bool.true_and]
  exact decide_eq_true (by have := h2 nss; omega)
theorem eqvNilD (ds : List PyData) : PyData.eqv (.list ds) (.list []) = ds.isEmpty := by
  cases ds with
  | nil => simp [PyData.eqv, PyData.eqvAll]
  | cons d ds => simp [PyData.eqv, PyData.eqvAll]
end KL
namespace KL
open PySem PySem.Spec PyProof.Rows L2
/-- what the clause of signs is: None, or a new tuple -/
def CRes (H : Hp) (ns : List Int) (v : V) (H' : Hp) : Prop := (v = .non ∧ Both ns) ∨ ∃ (r : Addr) (cs : List Int), v = .ref r ∧ H r = none ∧ H' r = some (.tup (cs.map V.int)) ∧ ¬ Both ns ∧ ClOf ns cs
def IsRes (ns : List Int) (d : PyData) : Prop := (d = .none ∧ Both ns) ∨ ∃ cs : List Int, d = .tuple (cs.map PyData.int) ∧ ¬ Both ns ∧ ClOf ns cs
theorem IsRes.eq {ns : List Int} {d e : PyData} (h : IsRes ns d) (h' : IsRes ns e) : d = e := by
  rcases h with ⟨rfl, b⟩ | ⟨cs, rfl, nb, c⟩ <;> rcases h' with ⟨rfl, b'⟩ | ⟨ds, rfl, nb', c'⟩
  · rfl
  · exact absurd b nb'
  · exact absurd b' nb
  · rw [c.eq c']
theorem ClOf.len {ns cs : List Int} (h : ClOf ns cs) : cs.length ≤ ns.length :=
  nd_len (h.up.imp fun h e => by rw [e] at h; exact Nat.lt_irrefl _ h) fun m hm => (h.mem m).mp hm
theorem IsRes.fine {ns : List Int} {d : PyData} (h : IsRes ns d) (hb : ∀ n ∈ ns, n.natAbs < 2 ^ 110) (hl : ns.length ≤ 400) : Fine 100000 3 d := by
  rcases h with ⟨rfl, _⟩ | ⟨cs, rfl, _, c⟩
  · exact Fine.none
  · exact (Fine.tuple (n := 110) (m := 0) (l := 400) (fineInts (B := 0) fun n hn => hb n ((c.mem n).mp hn)) (by rw [List.length_map]; exact Nat.le_trans c.len hl)).le (by omega) (by omega)
theorem CRes.dat {K : PySem.W.Frag} {H H' : Hp} {ns : List Int} {v : V} (h : CRes H ns v H') : ∃ d, Dp K H' v d ∧ IsRes ns d := by
  rcases h with ⟨rfl, b⟩ | ⟨r, cs, rfl, _, e, nb, c⟩
  · exact ⟨_, .non, .inl ⟨rfl, b⟩⟩
  · exact ⟨_, .tup (SqT.of e) (dpInts cs), .inr ⟨cs, rfl, nb, c⟩⟩
def cutI (ns : List Int) (lo hi : Option Int) : List Int := (ns.drop (HT.sIx ns.length 0 lo)).take (HT.sIx ns.length ns.length hi - HT.sIx ns.length 0 lo)
theorem cut_ints (ns : List Int) (lo hi : Option Int) : cutV (ns.map V.int) lo hi = (cutI ns lo hi).map V.int := by
  unfold cutV cutI
  rw [List.length_map, List.map_take, List.map_drop]
theorem cutI_sub {ns : List Int} {lo hi : Option Int} : (∀ v ∈ cutI ns lo hi, v ∈ ns) ∧ (cutI ns lo hi).length ≤ ns.length := by
  unfold cutI
  refine ⟨fun v hv => List.mem_of_mem_drop (List.mem_of_mem_take hv), ?_⟩
  rw [List.length_take, List.length_drop]; omega
theorem cutI_cl {n : Nat} {ns : List Int} {lo hi : Option Int} (h : ns.Pairwise fun a b => a.natAbs < b.natAbs) : (cutI ns lo hi).Pairwise fun a b => a.natAbs < b.natAbs :=
  (h.sublist (List.drop_sublist _ _)).sublist (List.take_sublist _ _)
theorem all_key (os cs : List Int) : decide ((os.filter fun n => !decide (n ∈ cs)) = []) = os.all fun n => decide (n ∈ cs) := by
  rw [Bool.eq_iff_iff]; simp
end KL
namespace K02
open PySem PySem.Spec PyProof.Rows L2 KL
def topS (i : Nat) : Stmt := PySem.Challenge.pw_keptclauses_k02_clauses_of_signs.main.body.getD i (.Pass ⟨0, 0, 0, 0⟩)
abbrev s_clause_of : Stmt := topS 1
theorem sc_clause_of : FnScope ["signs", "chosen", "sign", "thing"] ["signs"] (defScope s_clause_of) := ⟨rfl, rfl, rfl, by decide +kernel, rfl, by decide +kernel, by decide +kernel⟩
abbrev s_says : Stmt := topS 2
theorem sc_says : FnScope ["filling", "sign"] ["filling", "sign"] (defScope s_says) := ⟨rfl, rfl, rfl, by decide +kernel, rfl, by decide +kernel, by decide +kernel⟩
abbrev s_holds : Stmt := topS 3
theorem sc_holds : FnScope ["clause", "filling", "sign"] ["clause", "filling"] (defScope s_holds) := ⟨rfl, rfl, rfl, by decide +kernel, rfl, by decide +kernel, by decide +kernel⟩
abbrev s_within : Stmt := topS 4
theorem sc_within : FnScope ["one", "other", "sign"] ["one", "other"] (defScope s_within) := ⟨rfl, rfl, rfl, by decide +kernel, rfl, by decide +kernel, by decide +kernel⟩
abbrev s_law_pool : Stmt := topS 6
theorem sc_law_pool : FnScope ["_law_script", "_law_k", "_law_cell", "_law_seed"] ["_law_script", "_law_k"] (defScope s_law_pool) := ⟨rfl, rfl, rfl, by decide +kernel, rfl, by decide +kernel, by decide +kernel⟩
abbrev s_law_take : Stmt := topS 7
theorem sc_law_take : FnScope ["_law_pool_here", "_law_many", "_law_digit"] ["_law_pool_here", "_law_many"] (defScope s_law_take) := ⟨rfl, rfl, rfl, by decide +kernel, rfl, by decide +kernel, by decide +kernel⟩
abbrev s_law_fillings : Stmt := topS 8
theorem sc_law_fillings : FnScope ["_law_size", "_law_k", "_law_number"] ["_law_size"] (defScope s_law_fillings) := ⟨rfl, rfl, rfl, by decide +kernel, rfl, by decide +kernel, by decide +kernel⟩
abbrev s_law_says : Stmt := topS 9
theorem sc_law_says : FnScope ["_law_sign_here", "_law_filling"] ["_law_sign_here", "_law_filling"] (defScope s_law_says) := ⟨rfl, rfl, rfl, by decide +kernel, rfl, by decide +kernel, by decide +kernel⟩
abbrev s_law_hold : Stmt := topS 10
theorem sc_law_hold : FnScope ["_law_clauses", "_law_filling", "_law_clause_here", "_law_sign_here"] ["_law_clauses", "_law_filling"] (defScope s_law_hold) := ⟨rfl, rfl, rfl, by decide +kernel, rfl, by decide +kernel, by decide +kernel⟩
abbrev s_law_clause : Stmt := topS 11
theorem sc_law_clause : FnScope ["_law_pool_here", "_law_things", "_law_most", "_law_found", "_law_thing"] ["_law_pool_here", "_law_things", "_law_most"] (defScope s_law_clause) := ⟨rfl, rfl, rfl, by decide +kernel, rfl, by decide +kernel, by decide +kernel⟩
abbrev s_law_sign : Stmt := topS 12
theorem sc_law_sign : FnScope ["_law_pool_here", "_law_things", "_law_thing"] ["_law_pool_here", "_law_things"] (defScope s_law_sign) := ⟨rfl, rfl, rfl, by decide +kernel, rfl, by decide +kernel, by decide +kernel⟩
abbrev s_law_due : Stmt := topS 13
theorem sc_law_due : FnScope ["_law_signs", "_law_sign_here", "_law_found", "_law_thing"] ["_law_signs"] (defScope s_law_due) := ⟨rfl, rfl, rfl, by decide +kernel, rfl, by decide +kernel, by decide +kernel⟩
abbrev s_law : Stmt := topS 14
theorem sc_law : FnScope ["_law_script", "_law_k", "_law_pool_here", "_law_things", "_law_signs", "_law_turn", "_law_kept", "_law_found", "_law_one", "_law_other", "_law_sign_here", "_law_some", "_law_thing", "_law_filling"] ["_law_script"] (defScope s_law) := ⟨rfl, rfl, rfl, by decide +kernel, rfl, by decide +kernel, by decide +kernel⟩
section
variable {P : Program} {w : World} {K : PySem.W.Frag} {mg : Str → Option Value} {base : Heap}
/-! ### what a filling says -/
def spSays (K : PySem.W.Frag) : Sp := fun vs H Q _ => ∃ (t : Addr) (bs : List Bool) (n : Int), vs = [.ref t, .int n] ∧ SqT K H t (bs.map V.bl) ∧ 1 ≤ n.natAbs ∧ n.natAbs ≤ bs.length ∧ Q (.bl (sayB bs n)) H
theorem ok_says {f : Addr} {fd : FuncData} {k : Nat} (F : Fun K "says" "says" s_says f fd) (m_abs : mg "abs" = none) : FnOk P w K mg base CX0 (k + 1) f fd ["filling", "sign"] (spSays K) := by
  refine F.ok sc_says (fun vs H Q E h => ?_) (fun cdv A outer s H vs Q E hr h => ?_)
  · obtain ⟨t, bs, n, rfl, _⟩ := h
    rfl
  obtain ⟨t, bs, n, rfl, hS, h1, h2, q⟩ := h
  refine ⟨_, (pss_one (ps_ret (pe_cmpR op_eq (pe_ix ix_tup (pv 0) (pe_op op_sub (pe_callB call_abs (by rfl) m_abs (by decide +kernel) (pa_cons (pv 1) pa_nil)) pe_int) (fun _ _ => rfl)) (pe_cmpR op_gt (pv 1) pe_int (nomark _)) (nomark _)))), ?_⟩
  obtain ⟨b, hb, e⟩ := say_at h1 h2
  exact ⟨_, rfl, _, rfl, _, rfl, _, _, rfl, rfl, t, _, _, .bl b, rfl, rfl, hS, hb, _, rfl, _, _, rfl, rfl, rfl, by rw [say_eq, ← e]; exact q⟩
def spHolds (K : PySem.W.Frag) : Sp := fun vs H Q _ => ∃ (c t : Addr) (ns : List Int) (bs : List Bool), vs = [.ref c, .ref t] ∧ SqT K H c (ns.map V.int) ∧ SqT K H t (bs.map V.bl) ∧ ns.length ≤ 1000 ∧ (∀ n ∈ ns, 1 ≤ n.natAbs ∧ n.natAbs ≤ bs.length) ∧
  ∀ H', Same H H' → Q (.bl (ns.any (sayB bs))) H'
theorem ok_holds {f : Addr} {fd : FuncData} {k : Nat} (F : Fun K "holds" "holds" s_holds f fd) (D_says : Df P w K mg base k "says" ["filling", "sign"] (spSays K)) (m_any : mg "any" = none) :
    FnOk P w K mg base CX0 (k + 1) f fd ["clause", "filling"] (spHolds K) := by
  refine F.ok sc_holds (fun vs H Q E h => ?_) (fun cdv A outer s H vs Q E hr h => ?_)
  · obtain ⟨c, t, ns, bs, rfl, _⟩ := h
    rfl
  obtain ⟨c, t, ns, bs, rfl, hc, ht, hl, hn, q⟩ := h
  refine ⟨_, (pss_one (ps_ret (pe_callB (cr_any rfl) (by rfl) m_any (by decide +kernel) (pa_cons (pe_lc (own := [("sign", 2)]) (g := gName 2) (tt := tYes) (by rfl) sc_holds.nd (pi_tup (pv 0)) (blkOk_by (by kernel_rfl)) (fun _ _ _ _ _ => (pg_name (i := 2) sc_holds.nd rfl (.inl rfl))) (fun _ _ _ _ _ => pts_nil) (fun _ _ _ _ _ => (pe_df D_says hr (by rfl) (pa_cons (pv 1) (pa_cons (pv 2) pa_nil))))) pa_nil)))), ?_⟩
  refine ⟨_, rfl, c, rfl, ⟨_, hc⟩, fun D nD => lc_tup (xs := ns.map V.int) (fun i H' => Same H H' ∧ H' D = some (.lst (((ns.take i).map (sayB bs)).map V.bl))) ⟨same_new nD, upd_same⟩ (fun i H' _ h => same_tup h.1 hc) ?_ ?_⟩
  · rintro i x H1 ex ⟨s1, e1⟩
    obtain ⟨n, rfl, hi, ht2⟩ := at_int ex
    refine ⟨rfl, _, rfl, _, rfl, t, bs, n, rfl, same_tup s1 ht, (hn n hi).1, (hn n hi).2, _, e1, ?_, ?_, ?_⟩
    · simp only [List.length_map, List.length_take]; exact small1000 (by omega)
    · exact fun b o hb => by rw [upd_ne (ne_of_none hb nD)]; exact s1 _ _ hb
    · rw [upd_same, ht2]; simp
  · rintro H1 ⟨s1, e1⟩
    refine ⟨D, ns.map (sayB bs), rfl, SqL.of ?_, ?_⟩
    · rw [e1]; simp
    · rw [List.any_map]; exact q H1 s1
def spWithin (K : PySem.W.Frag) : Sp := fun vs H Q _ => ∃ (a b : Addr) (ns ms : List Int), vs = [.ref a, .ref b] ∧ SqT K H a (ns.map V.int) ∧ SqT K H b (ms.map V.int) ∧ ns.length ≤ 1000 ∧ ∀ H', Same H H' → Q (.bl (ns.all fun n => decide (n ∈ ms))) H'
theorem ok_within {f : Addr} {fd : FuncData} {k : Nat} (F : Fun K "within" "within" s_within f fd) (m_all : mg "all" = none) : FnOk P w K mg base CX0 (k + 1) f fd ["one", "other"] (spWithin K) := by
  refine F.ok sc_within (fun vs H Q E h => ?_) (fun cdv A outer s H vs Q E hr h => ?_)
  · obtain ⟨a, b, ns, ms, rfl, _⟩ := h
    rfl
  obtain ⟨a, b, ns, ms, rfl, ha, hb, hl, q⟩ := h
  refine ⟨_, (pss_one (ps_ret (pe_callB (cr_all rfl) (by rfl) m_all (by decide +kernel) (pa_cons (pe_lc (own := [("sign", 2)]) (g := gName 2) (tt := tYes) (by rfl) sc_within.nd (pi_tup (pv 0)) (blkOk_by (by kernel_rfl)) (fun _ _ _ _ _ => (pg_name (i := 2) sc_within.nd rfl (.inl rfl))) (fun _ _ _ _ _ => pts_nil) (fun _ _ _ _ _ => (pe_cmpR (op_inI' (K := K) rfl) (pv 2) (pv 1) rfl))) pa_nil)))), ?_⟩
  refine ⟨_, rfl, a, rfl, ⟨_, ha⟩, fun D nD => lc_tup (xs := ns.map V.int) (fun i H' => Same H H' ∧ H' D = some (.lst (((ns.take i).map fun n => decide (n ∈ ms)).map V.bl))) ⟨same_new nD, upd_same⟩ (fun i H' _ h => same_tup h.1 ha) ?_ ?_⟩
  · rintro i x H1 ex ⟨s1, e1⟩
    obtain ⟨n, rfl, hi, ht2⟩ := at_int ex
    refine ⟨rfl, _, rfl, _, rfl, b, n, ms, rfl, rfl, .inr (same_tup s1 hb), _, e1, ?_, ?_, ?_⟩
    · simp only [List.length_map, List.length_take]; exact small1000 (by omega)
    · exact fun b o hb => by rw [upd_ne (ne_of_none hb nD)]; exact s1 _ _ hb
    · rw [upd_same, ht2]; simp
  · rintro H1 ⟨s1, e1⟩
    refine ⟨D, ns.map fun n => decide (n ∈ ms), rfl, SqL.of ?_, ?_⟩
    · rw [e1]; simp
    · rw [List.all_map]; exact q H1 s1

/-! ### the clause of signs -/
def spClOf (K : PySem.W.Frag) : Sp := fun vs H Q _ => ∃ (a : Addr) (ns : List Int), vs = [.ref a] ∧ (SqL K H a (ns.map V.int) ∨ SqT K H a (ns.map V.int)) ∧ ns.length < 64 ∧ (∀ n ∈ ns, n ≠ 0) ∧ ∀ (v : V) (H' : Hp), Same H H' → CRes H ns v H' → Q v H'
theorem ok_clof {f : Addr} {fd : FuncData} {k : Nat} (F : Fun K "clause_of" "clause_of" s_clause_of f fd) (m_abs : mg "abs" = none) (m_tuple : mg "tuple" = none) (m_sorted : mg "sorted" = none) :
    FnOk P w K mg base CX0 (k + 1) f fd ["signs"] (spClOf K) := by
  refine F.ok sc_clause_of (fun vs H Q E h => ?_) (fun cdv A outer s H vs Q E hr h => ?_)
  · obtain ⟨a, ns, rfl, _⟩ := h
    rfl
  obtain ⟨a, ns, rfl, hS, hl, h0, qq⟩ := h
  have qn : ∀ H', Same H H' → Both ns → Q .non H' := fun H' s b => qq _ _ s (.inl ⟨rfl, b⟩)
  have q : ∀ (r : Addr) (cs : List Int) (H' : Hp), Same H H' → H r = none → H' r = some (.tup (cs.map V.int)) → ¬ Both ns → ClOf ns cs → Q (.ref r) H' := fun r cs H' s n e b c => qq _ _ s (.inr ⟨r, cs, rfl, n, e, b, c⟩)
  refine ⟨_, (pss_cons (ps_set (i := 1) sc_clause_of.nd rfl (.inr rfl) pe_dnewK)
       (pss_cons (ps_for PassesOwn.never rfl (pi_seq (pv 0)) (pg_name (i := 2) sc_clause_of.nd rfl (.inl rfl))
       (pss_one (ps_if (pt_cmpR op_ne (pe_dsetd (pv 1) (pe_callB call_abs (by rfl) m_abs (by decide +kernel) (pa_cons (pv 2) pa_nil)) (pv 2) ⟨rfl, rfl, rfl, rfl⟩) (pv 2) (nomark _))
       (pss_one (ps_ret pe_non))
       pss_nil)))
       (pss_one (ps_ret (pe_callTy call_tuple_of (by rfl) m_tuple (by decide +kernel) (pa_cons (pe_lc (own := [("thing", 3)]) (g := gName 3) (tt := tYes) (by rfl) sc_clause_of.nd (pi_list (pe_callB (call_sortedDI rfl) (by rfl) m_sorted (by decide +kernel) (pa_cons (pv 1) pa_nil))) (blkOk_by (by kernel_rfl)) (fun _ _ _ _ _ => (pg_name (i := 3) sc_clause_of.nd rfl (.inl rfl))) (fun _ _ _ _ _ => pts_nil) (fun _ _ _ _ _ => (pe_dget (hu_of hr) (pv 1) (pv 3) (fun _ _ => rfl)))) pa_nil)))))), ?_⟩
  refine fun d nd => ?_
  have W0 : CofW ns H a d 0 [some (.ref a), some (.ref d), none, none] (upd H d (.dK [])) := ⟨_, _, [], rfl, fun b o hb => by rw [upd_ne (ne_of_none hb nd)]; exact hb, upd_same, List.Pairwise.nil, by simp⟩
  rcases hS with hS | hS
  · refine .inl ⟨_, rfl, a, rfl, ⟨_, (same_new nd).seq hS⟩, for_list (xs := ns.map V.int) (CofW ns H a d) W0 (fun i σ' H' _ h => h.same.seq hS) ?_ ?_⟩
    · rintro i x σ' H1 ex ⟨y2, y3, ms, rfl, s1, ed, dj, hm⟩
      obtain ⟨n, rfl, hi, ht⟩ := at_int ex
      refine ⟨_, rfl, d, rfl, .inl ⟨_, .inl ed⟩, _, rfl, n, rfl, _, rfl, kvOf ms, .inl (ab n), ed, rfl, ?_, fun v hv => ?_, fun hv => ?_⟩
      · rw [show (kvOf ms).length = ms.length from List.length_map _]
        have := dj_len dj (fun m hm' => (hm m).mp hm')
        exact small1000 (by rw [List.length_take] at this; omega)
      · obtain ⟨m, hm1, hm2, rfl⟩ := kvOf_get hv
        refine ⟨_, rfl, rfl, _, rfl, ite2 (fun c => ?_) (fun c => ?_)⟩
        · have c' : m ≠ n := fun z => by subst z; simp at c
          have e : m = -n := by
            rw [ab_nat, ab_nat] at hm2
            omega
          refine qn H1 s1 ⟨n, hi, ?_⟩
          rw [← e]; exact List.mem_of_mem_take ((hm m).mp hm1)
        · have c' : m = n := by
            by_cases z : m = n
            · exact z
            · exfalso; apply c; rw [dec_int]; simp [z]
          subst c'
          exact ⟨_, _, ms, rfl, s1, ed, dj, fun x => by rw [hm, ht]; simp; intro z; subst z; exact (hm _).mp hm1⟩
      · refine ⟨_, rfl, rfl, _, rfl, ne_self ?_⟩
        have nn := kvOf_none hv
        refine ⟨_, _, ms ++ [n], rfl, ?_, ?_, ?_, ?_⟩
        · exact fun b o hb => by rw [upd_ne (ne_of_none hb nd)]; exact s1 _ _ hb
        · rw [upd_same, kvOf_put nn]
        · rw [List.pairwise_append]
          exact ⟨dj, List.pairwise_singleton _ _, fun x hx y hy => by rw [List.mem_singleton] at hy; subst hy; exact nn x hx⟩
        · intro x; rw [ht, List.mem_append, List.mem_append, hm]
    · rintro σ' H1 ⟨y2, y3, ms, rfl, s1, ed, dj, hm⟩
      have hall : ∀ x, x ∈ ms ↔ x ∈ ns := fun x => by rw [hm, List.length_map, List.take_length]
      have nb : ¬ Both ns := by
        rintro ⟨n, h1, h2⟩
        have e : ab n = ab (-n) := by rw [ab_nat, ab_nat]; omega
        have := ab_inj dj ((hall n).mpr h1) ((hall (-n)).mpr h2) e
        have := h0 n h1
        omega
      have lm : ms.length < 64 := by
        have := dj_len dj (fun m hm' => (hm m).mp hm')
        rw [List.length_take] at this; simp at this; omega
      refine ⟨_, rfl, d, kvOf ms, ms.map ab, rfl, .inl ed, kvOf_keys ms, by rw [List.length_map]; exact lm, fun ys p hp hs np => ?_⟩
      have sp : Same H1 (upd H1 p (.lst (ys.map V.int))) := same_new np
      have ep : (upd H1 p (.lst (ys.map V.int))) p = some (.lst (ys.map V.int)) := upd_same
      generalize (upd H1 p (.lst (ys.map V.int))) = H2 at *
      have ok := byKeys_ok dj hp hs
      have ly : ys.length = ms.length := by rw [hp.length_eq, List.length_map]
      refine ⟨p, rfl, ⟨_, SqL.of ep⟩, fun D nD => lc_list (xs := ys.map V.int) (fun i H' => Same H2 H' ∧ H' D = some (.lst (((byKeys ms ys).take i).map V.int))) ⟨same_new nD, upd_same⟩ (fun i H' _ h => SqL.of (h.1 _ _ ep)) ?_ ?_⟩
      · rintro i x H3 ex ⟨s3, e3⟩
        obtain ⟨y, rfl, hi, ht⟩ := at_int ex
        obtain ⟨m, hmm, em⟩ := List.mem_map.mp (hp.mem_iff.mp hi)
        subst em
        refine ⟨rfl, _, rfl, _, rfl, d, .int m, rfl, ?_, _, e3, ?_, ?_, ?_⟩
        · have g := DGet.k (k := Sum.inl (ab m)) (s3 _ _ (sp _ _ ed))
          rw [kvOf_some dj m hmm] at g
          exact g
        · have lb : (byKeys ms ys).length = ys.length := List.length_map _
          simp only [List.length_map, List.length_take]; exact small1000 (by omega)
        · exact fun b o hb => by rw [upd_ne (ne_of_none hb nD)]; exact s3 _ _ hb
        · have eb : (byKeys ms ys)[i]? = some m := by
            unfold byKeys
            rw [List.getElem?_map]
            have : ys[i]? = some (ab m) := by
              have := ex
              rw [List.getElem?_map] at this
              cases q : ys[i]? with
              | none => rw [q] at this; cases this
              | some z => rw [q] at this; cases this; rfl
            rw [this]
            show some ((ms.find? fun x => decide (ab x = ab m)).getD 0) = some m
            rw [find_ab dj hmm]; rfl
          rw [upd_same, List.take_add_one, eb, List.map_append]
          rfl
      · rintro H3 ⟨s3, e3⟩
        have e4 : ((byKeys ms ys).take (ys.map V.int).length) = byKeys ms ys := List.take_of_length_le (by unfold byKeys; simp)
        rw [e4] at e3
        refine ⟨D, _, rfl, .inl ⟨SqL.of e3, fun r nr => ?_⟩⟩
        exact q r (byKeys ms ys) _ (s1.trans (sp.trans (s3.trans (same_new nr)))) ((s1.trans (sp.trans s3)).free nr) upd_same nb ⟨ok.up, fun m => (ok.mem m).trans (hall m)⟩

  · refine .inr ⟨_, rfl, a, rfl, ⟨_, same_tup (same_new nd) hS⟩, for_tup (xs := ns.map V.int) (CofW ns H a d) W0 (fun i σ' H' _ h => same_tup h.same hS) ?_ ?_⟩
    · rintro i x σ' H1 ex ⟨y2, y3, ms, rfl, s1, ed, dj, hm⟩
      obtain ⟨n, rfl, hi, ht⟩ := at_int ex
      refine ⟨_, rfl, d, rfl, .inl ⟨_, .inl ed⟩, _, rfl, n, rfl, _, rfl, kvOf ms, .inl (ab n), ed, rfl, ?_, fun v hv => ?_, fun hv => ?_⟩
      · rw [show (kvOf ms).length = ms.length from List.length_map _]
        have := dj_len dj (fun m hm' => (hm m).mp hm')
        exact small1000 (by rw [List.length_take] at this; omega)
      · obtain ⟨m, hm1, hm2, rfl⟩ := kvOf_get hv
        refine ⟨_, rfl, rfl, _, rfl, ite2 (fun c => ?_) (fun c => ?_)⟩
        · have c' : m ≠ n := fun z => by subst z; simp at c
          have e : m = -n := by
            rw [ab_nat, ab_nat] at hm2
            omega
          refine qn H1 s1 ⟨n, hi, ?_⟩
          rw [← e]; exact List.mem_of_mem_take ((hm m).mp hm1)
        · have c' : m = n := by
            by_cases z : m = n
            · exact z
            · exfalso; apply c; rw [dec_int]; simp [z]
          subst c'
          exact ⟨_, _, ms, rfl, s1, ed, dj, fun x => by rw [hm, ht]; simp; intro z; subst z; exact (hm _).mp hm1⟩
      · refine ⟨_, rfl, rfl, _, rfl, ne_self ?_⟩
        have nn := kvOf_none hv
        refine ⟨_, _, ms ++ [n], rfl, ?_, ?_, ?_, ?_⟩
        · exact fun b o hb => by rw [upd_ne (ne_of_none hb nd)]; exact s1 _ _ hb
        · rw [upd_same, kvOf_put nn]
        · rw [List.pairwise_append]
          exact ⟨dj, List.pairwise_singleton _ _, fun x hx y hy => by rw [List.mem_singleton] at hy; subst hy; exact nn x hx⟩
        · intro x; rw [ht, List.mem_append, List.mem_append, hm]
    · rintro σ' H1 ⟨y2, y3, ms, rfl, s1, ed, dj, hm⟩
      have hall : ∀ x, x ∈ ms ↔ x ∈ ns := fun x => by rw [hm, List.length_map, List.take_length]
      have nb : ¬ Both ns := by
        rintro ⟨n, h1, h2⟩
        have e : ab n = ab (-n) := by rw [ab_nat, ab_nat]; omega
        have := ab_inj dj ((hall n).mpr h1) ((hall (-n)).mpr h2) e
        have := h0 n h1
        omega
      have lm : ms.length < 64 := by
        have := dj_len dj (fun m hm' => (hm m).mp hm')
        rw [List.length_take] at this; simp at this; omega
      refine ⟨_, rfl, d, kvOf ms, ms.map ab, rfl, .inl ed, kvOf_keys ms, by rw [List.length_map]; exact lm, fun ys p hp hs np => ?_⟩
      have sp : Same H1 (upd H1 p (.lst (ys.map V.int))) := same_new np
      have ep : (upd H1 p (.lst (ys.map V.int))) p = some (.lst (ys.map V.int)) := upd_same
      generalize (upd H1 p (.lst (ys.map V.int))) = H2 at *
      have ok := byKeys_ok dj hp hs
      have ly : ys.length = ms.length := by rw [hp.length_eq, List.length_map]
      refine ⟨p, rfl, ⟨_, SqL.of ep⟩, fun D nD => lc_list (xs := ys.map V.int) (fun i H' => Same H2 H' ∧ H' D = some (.lst (((byKeys ms ys).take i).map V.int))) ⟨same_new nD, upd_same⟩ (fun i H' _ h => SqL.of (h.1 _ _ ep)) ?_ ?_⟩
      · rintro i x H3 ex ⟨s3, e3⟩
        obtain ⟨y, rfl, hi, ht⟩ := at_int ex
        obtain ⟨m, hmm, em⟩ := List.mem_map.mp (hp.mem_iff.mp hi)
        subst em
        refine ⟨rfl, _, rfl, _, rfl, d, .int m, rfl, ?_, _, e3, ?_, ?_, ?_⟩
        · have g := DGet.k (k := Sum.inl (ab m)) (s3 _ _ (sp _ _ ed))
          rw [kvOf_some dj m hmm] at g
          exact g
        · have lb : (byKeys ms ys).length = ys.length := List.length_map _
          simp only [List.length_map, List.length_take]; exact small1000 (by omega)
        · exact fun b o hb => by rw [upd_ne (ne_of_none hb nD)]; exact s3 _ _ hb
        · have eb : (byKeys ms ys)[i]? = some m := by
            unfold byKeys
            rw [List.getElem?_map]
            have : ys[i]? = some (ab m) := by
              have := ex
              rw [List.getElem?_map] at this
              cases q : ys[i]? with
              | none => rw [q] at this; cases this
              | some z => rw [q] at this; cases this; rfl
            rw [this]
            show some ((ms.find? fun x => decide (ab x = ab m)).getD 0) = some m
            rw [find_ab dj hmm]; rfl
          rw [upd_same, List.take_add_one, eb, List.map_append]
          rfl
      · rintro H3 ⟨s3, e3⟩
        have e4 : ((byKeys ms ys).take (ys.map V.int).length) = byKeys ms ys := List.take_of_length_le (by unfold byKeys; simp)
        rw [e4] at e3
        refine ⟨D, _, rfl, .inl ⟨SqL.of e3, fun r nr => ?_⟩⟩
        exact q r (byKeys ms ys) _ (s1.trans (sp.trans (s3.trans (same_new nr)))) ((s1.trans (sp.trans s3)).free nr) upd_same nb ⟨ok.up, fun m => (ok.mem m).trans (hall m)⟩


/-! ### a draw -/
def spTake (K : PySem.W.Frag) : Sp := fun vs H Q _ => ∃ (p : Addr) (m : Int), vs = [.ref p, .int m] ∧ Pl H p ∧ 1 ≤ m ∧ m < 1073741824 ∧
  ∀ (d : Int) (H' : Hp), Kp p H H' → Pl H' p → 0 ≤ d → d < m → Q (.int d) H'
theorem ok_take {f : Addr} {fd : FuncData} {k : Nat} (F : Fun K "_law_take" "_law_take" s_law_take f fd) : FnOk P w K mg base CX0 (k + 1) f fd ["_law_pool_here", "_law_many"] (spTake K) := by
  refine F.ok sc_law_take (fun vs H Q E h => ?_) (fun cdv A outer s H vs Q E hr h => ?_)
  · obtain ⟨p, m, rfl, _⟩ := h
    rfl
  obtain ⟨p, m, rfl, ⟨a, b, e, ha, hb, hb2⟩, h1, h2, q⟩ := h
  refine ⟨_, (pss_cons (ps_if (pt_cmpR op_gt (pe_ix ix_list (pv 0) pe_int (fun _ _ => rfl)) pe_int (nomark _))
       (pss_cons (ps_set (i := 2) sc_law_take.nd rfl (.inl rfl) (pe_op op_mod (pe_ix ix_list (pv 0) pe_int (fun _ _ => rfl)) (pv 1)))
       (pss_cons (ps_asg (pe_op op_fdiv (pe_ix ix_list (pv 0) pe_int (fun _ _ => rfl)) (pv 1)) (pg_sub (pv 0) pe_int set_list))
       (pss_one (ps_ret (pv 2)))))
       pss_nil)
       (pss_cons (ps_asg (pe_op op_mod (pe_op op_add (pe_op op_mul (pe_ix ix_list (pv 0) pe_int (fun _ _ => rfl)) pe_int) pe_int) pe_int) (pg_sub (pv 0) pe_int set_list))
       (pss_one (ps_ret (pe_op op_mod (pe_op op_fdiv (pe_op op_mod (pe_op op_mul (pe_ix ix_list (pv 0) pe_int (fun _ _ => rfl)) (pe_ix ix_list (pv 0) pe_int (fun _ _ => rfl))) pe_int) pe_int) (pv 1)))))), ?_⟩
  refine ⟨_, rfl, p, _, 0, .int a, rfl, rfl, SqL.of e, rfl, _, _, rfl, rfl, _, rfl, ite2 (fun c => ?_) (fun c => ?_)⟩
  · have c' : 0 < a := of_decide_eq_true c
    refine ⟨_, rfl, p, _, 0, .int a, rfl, rfl, SqL.of e, rfl, _, rfl, _, _, rfl, rfl, (by show 0 < m; omega), ?_⟩
    refine ⟨_, rfl, p, _, 0, .int a, rfl, rfl, SqL.of e, rfl, _, rfl, _, _, rfl, rfl, (by show 0 < m ∧ m < 1073741824; omega), ?_⟩
    refine ⟨_, rfl, p, _, 0, 0, rfl, rfl, e, rfl, ?_⟩
    refine ⟨_, rfl, q _ _ (Kp.upd _ _ _) ⟨a / m, b, upd_same, Int.ediv_nonneg ha (by omega), hb, hb2⟩ (Int.emod_nonneg _ (by omega)) (Int.emod_lt_of_pos _ (by omega))⟩
  · refine ⟨_, rfl, p, _, 1, .int b, rfl, rfl, SqL.of e, rfl, _, _, rfl, rfl, .inr ⟨by omega, by omega⟩, _, _, rfl, rfl, _, _, rfl, rfl, (by show (0 : Int) < 2147483647; omega), ?_⟩
    refine ⟨_, rfl, p, _, 1, 1, rfl, rfl, e, rfl, ?_⟩
    have hc0 := Int.emod_nonneg (b * 48271 + 11) (show (2147483647 : Int) ≠ 0 by omega)
    have hc1 := Int.emod_lt_of_pos (b * 48271 + 11) (show (0 : Int) < 2147483647 by omega)
    generalize hC : (b * 48271 + 11) % 2147483647 = c1 at hc0 hc1
    refine ⟨_, rfl, p, _, 1, .int c1, rfl, rfl, SqL.of upd_same, (by rw [← hC]; rfl), _, rfl, p, _, 1, .int c1, rfl, rfl, SqL.of upd_same, (by rw [← hC]; rfl), ?_⟩
    refine ⟨_, _, rfl, rfl, .inr ⟨by omega, by omega⟩, _, _, rfl, rfl, (by show (0 : Int) < 2147483629; omega), _, _, rfl, rfl, (by show (0 : Int) < 64 ∧ (64 : Int) < 1073741824; omega), _, rfl, _, _, rfl, rfl, (by show 0 < m; omega), ?_⟩
    refine q _ _ (Kp.upd _ _ _) ⟨a, c1, ?_, ha, hc0, hc1⟩ (Int.emod_nonneg _ (by omega)) (Int.emod_lt_of_pos _ (by omega))
    rw [upd_same, ← hC]; rfl

/-! ### the pool of a cell -/
def spPool (K : PySem.W.Frag) : Sp := fun vs H Q _ => ∃ (a : Addr) (ns : List Int) (k : Int), vs = [.ref a, .int k] ∧ SqL K H a (ns.map V.int) ∧ ns.length ≤ 1000 ∧ 0 ≤ k ∧
  ∀ (p : Addr) (H' : Hp), H p = none → Same H H' → Pl H' p → Q (.ref p) H'
theorem ok_pool {f : Addr} {fd : FuncData} {k : Nat} (F : Fun K "_law_pool" "_law_pool" s_law_pool f fd) (m_len : mg "len" = none) (m_int : mg "int" = none) :
    FnOk P w K mg base CX0 (k + 1) f fd ["_law_script", "_law_k"] (spPool K) := by
  refine F.ok sc_law_pool (fun vs H Q E h => ?_) (fun cdv A outer s H vs Q E hr h => ?_)
  · obtain ⟨a, ns, k, rfl, _⟩ := h
    rfl
  obtain ⟨a, ns, k, rfl, hS, hl, hk, q⟩ := h
  refine ⟨_, (pss_cons (ps_set (i := 2) sc_law_pool.nd rfl (.inl rfl) pe_int)
       (C8.pss_cut (ps_if (pt_cmpR (op_neD hr.units) (pv 0) (pe_lst pa_nil) (nomark _))
       (pss_one (ps_set (i := 2) sc_law_pool.nd rfl (.inl rfl) (pe_ix ix_list (pv 0) (pe_op op_mod (pv 1) (pe_callB call_len_seq (by rfl) m_len (by decide +kernel) (pa_cons (pv 0) pa_nil))) (fun _ _ => rfl))))
       pss_nil)
       (C8.pss_cut (ps_if (pt_cmpR op_ge (pv 1) (pe_callB call_len_seq (by rfl) m_len (by decide +kernel) (pa_cons (pv 0) pa_nil)) (nomark _))
       (pss_one (ps_set (i := 2) sc_law_pool.nd rfl (.inl rfl) (pe_ix ix_list (pe_lst (pa_cons (pe_op op_mod (pv 2) pe_int) (pa_cons (pe_op op_fdivW (pv 2) (pe_op op_pow pe_int pe_int)) pa_nil))) (pe_callTy call_int1 (by rfl) m_int (by decide +kernel) (pa_cons (pe_cmpR op_ge (pv 2) (pe_op op_pow pe_int pe_int) (nomark _)) pa_nil)) (fun _ _ => rfl))))
       pss_nil)
       (pss_cons (ps_set (i := 3) sc_law_pool.nd rfl (.inl rfl) (pe_op op_mod (pe_op op_mul (pe_op op_add (pe_op op_add (pe_op op_mod (pv 2) pe_int) (pe_op op_mul pe_int (pv 1))) pe_int) pe_int) pe_int))
       (pss_one (ps_ret (pe_lst (pa_cons (pe_op op_mul (pv 2) (pe_callTy call_int1 (by rfl) m_int (by decide +kernel) (pa_cons (pe_cmpR op_ge (pv 2) (pe_op op_pow pe_int pe_int) (nomark _)) pa_nil))) (pa_cons (pv 3) pa_nil))))))))), ?_⟩
  have hlen : (ns.map V.int).length = ns.length := List.length_map _
  -- if script != []
  refine ⟨fun σ' H' => ∃ c : Int, σ' = [some (.ref a), some (.int k), some (.int c), none] ∧ Same H H', ?_, ?_⟩
  · refine ⟨_, rfl, (by show 0 ≤ sizeLine; decide), fun l hl0 => ?_⟩
    have s1 : Same H (upd H l (.lst [])) := same_new hl0
    refine ⟨.list (ns.map PyData.int), .list [], .lst (s1.seq hS) (dpInts ns), .lst (SqL.of upd_same) .nil, shInts ns, shNil, _, rfl, ?_⟩
    rw [eqvNil]
    refine ite2 (fun c => ?_) (fun c => ⟨0, rfl, s1⟩)
    have hn : ns ≠ [] := fun z => by subst z; exact absurd c (by decide)
    have hp : 0 < ns.length := List.length_pos_iff.mpr hn
    have hlt := Int.emod_lt_of_pos k (show (0 : Int) < (ns.length : Int) by omega)
    have hge := Int.emod_nonneg k (show (ns.length : Int) ≠ 0 by omega)
    obtain ⟨v, hv, _⟩ := atI_ints (ns := ns) hge hlt
    refine ⟨_, rfl, _, rfl, _, rfl, a, _, rfl, .inl (s1.seq hS), _, _, rfl, rfl, (by rw [hlen]; show (0 : Int) < (ns.length : Int); omega), a, _, _, .int v, rfl, rfl, s1.seq hS, ?_, ?_⟩
    · rw [hlen]; exact hv
    · exact ⟨_, rfl, s1⟩
  rintro _ H1 ⟨c, rfl, s1⟩
  -- if k >= len(script)
  refine ⟨fun σ' H' => ∃ c : Int, σ' = [some (.ref a), some (.int k), some (.int c), none] ∧ Same H H', ?_, ?_⟩
  · refine ⟨_, rfl, _, rfl, a, _, rfl, .inl (s1.seq hS), _, _, rfl, rfl, _, rfl, ite2 (fun z => ?_) (fun z => ⟨c, rfl, s1⟩)⟩
    refine ⟨_, rfl, _, _, rfl, rfl, (by show (0 : Int) < 1000003; omega), _, rfl, _, _, rfl, rfl, ⟨by omega, by omega, by decide⟩, _, _, rfl, rfl, wide_div (b := 64) (by decide) (by decide) (by decide) (by decide), (by show 2 ≤ sizeLine; decide), fun l hl0 => ?_⟩
    have s2 : Same H1 (upd H1 l _) := same_new (o := .lst [.int (c % 1000003), .int (c / 10 ^ 18)]) hl0
    refine ⟨_, rfl, _, _, rfl, rfl, ⟨by omega, by omega, by decide⟩, _, _, rfl, rfl, .inr ⟨_, rfl, ?_⟩⟩
    by_cases z : (10 : Int) ^ 36 ≤ c
    · refine ⟨l, _, 1, .int (c / 10 ^ 18), rfl, ?_, SqL.of upd_same, rfl, ⟨_, rfl, s1.trans s2⟩⟩
      have e : decide ((10 : Int) ^ (Int.toNat 36) ≤ c) = true := decide_eq_true z
      rw [e]; rfl
    · refine ⟨l, _, 0, .int (c % 1000003), rfl, ?_, SqL.of upd_same, rfl, ⟨_, rfl, s1.trans s2⟩⟩
      have e : decide ((10 : Int) ^ (Int.toNat 36) ≤ c) = false := decide_eq_false z
      rw [e]; rfl
  clear s1 c H1
  rintro _ H1 ⟨c, rfl, s1⟩
  -- the seed
  refine ⟨_, rfl, _, _, rfl, rfl, (by show (0 : Int) < 2147483629; omega), _, rfl, _, _, rfl, rfl, .inl ⟨by omega, by omega⟩, _, _, rfl, rfl, _, _, rfl, rfl, _, _, rfl, rfl, .inr ⟨by omega, by omega⟩, _, _, rfl, rfl, (by show (0 : Int) < 2147483647; omega), ?_⟩
  generalize hs : ((c % 2147483629 + 104729 * k + 11) * 48271) % 2147483647 = sd
  have hs0 : 0 ≤ sd := by rw [← hs]; exact Int.emod_nonneg _ (by omega)
  have hs1 : sd < 2147483647 := by rw [← hs]; exact Int.emod_lt_of_pos _ (by omega)
  refine ⟨_, rfl, _, rfl, _, _, rfl, rfl, ⟨by omega, by omega, by decide⟩, _, _, rfl, rfl, .inr ⟨_, rfl, _, _, rfl, rfl, .inr ?_, _, rfl, (by show 2 ≤ sizeLine; decide), fun p hp => ?_⟩⟩
  · split <;> exact ⟨by omega, by omega⟩
  · refine q p _ (s1.free hp) (s1.trans (same_new hp)) ⟨_, sd, (by rw [← hs]; exact upd_same), ?_, hs0, hs1⟩
    split
    · rename_i z
      have z' : (10 : Int) ^ (Int.toNat 18) ≤ c := of_decide_eq_true z
      have : (0 : Int) ≤ 10 ^ (Int.toNat 18) := by decide
      omega
    · omega

/-! ### a drawn clause -/
structure Cl (n : Nat) (cs : List Int) : Prop where
  up : cs.Pairwise fun a b => a.natAbs < b.natAbs
  all : ∀ c ∈ cs, c ≠ 0 ∧ c.natAbs ≤ n
theorem Cl.nil (n : Nat) : Cl n [] := ⟨List.Pairwise.nil, fun _ h => nomatch h⟩
theorem Cl.le {n m : Nat} {cs : List Int} (h : Cl n cs) (hm : n ≤ m) : Cl m cs := ⟨h.up, fun c hc => ⟨(h.all c hc).1, Nat.le_trans (h.all c hc).2 hm⟩⟩
theorem Cl.snoc {n : Nat} {cs : List Int} (h : Cl n cs) {c : Int} (hc : c.natAbs = n + 1) : Cl (n + 1) (cs ++ [c]) := by
  refine ⟨List.pairwise_append.mpr ⟨h.up, List.pairwise_singleton _ _, fun a ha b hb => ?_⟩, fun x hx => ?_⟩
  · rw [List.mem_singleton] at hb
    have := (h.all a ha).2
    subst hb; omega
  · rcases List.mem_append.mp hx with q | q
    · have := h.all x q
      exact ⟨this.1, by omega⟩
    · rw [List.mem_singleton] at q
      subst q
      exact ⟨fun z => by rw [z] at hc; simp at hc, by omega⟩
def spClause (K : PySem.W.Frag) : Sp := fun vs H Q _ => ∃ (p : Addr) (n most : Int), vs = [.ref p, .int n, .int most] ∧ Pl H p ∧ 0 ≤ n ∧ n ≤ 100 ∧
  ∀ (r : Addr) (cs : List Int) (H' : Hp), Kp p H H' → Pl H' p → H r = none → H' r = some (.tup (cs.map V.int)) → Cl n.toNat cs → (cs.length : Int) ≤ max most 0 → cs.length ≤ 100 → Q (.ref r) H'
theorem ok_clause {f : Addr} {fd : FuncData} {k : Nat} (F : Fun K "_law_clause" "_law_clause" s_law_clause f fd) (D_law_take : Df P w K mg base k "_law_take" ["_law_pool_here", "_law_many"] (spTake K))
    (m_len : mg "len" = none) (m_range : mg "range" = none) (m_tuple : mg "tuple" = none) : FnOk P w K mg base CX0 (k + 1) f fd ["_law_pool_here", "_law_things", "_law_most"] (spClause K) := by
  refine F.ok sc_law_clause (fun vs H Q E h => ?_) (fun cdv A outer s H vs Q E hr h => ?_)
  · obtain ⟨p, n, most, rfl, _⟩ := h
    rfl
  obtain ⟨p, n, most, rfl, hp, h0, h1, q⟩ := h
  refine ⟨_, (pss_cons (ps_set (i := 3) sc_law_clause.nd rfl (.inl rfl) (pe_lst pa_nil))
       (pss_cons (ps_for PassesOwn.never rfl (pi_range2 (by rfl) m_range (pa_cons pe_int (pa_cons (pe_op op_add (pv 1) pe_int) pa_nil))) (pg_name (i := 4) sc_law_clause.nd rfl (.inl rfl))
       (pss_one (ps_if (PW.pt (pw_and (pt_cmpR op_lt (pe_callB call_len_seq (by rfl) m_len (by decide +kernel) (pa_cons (pv 3) pa_nil)) (pv 2) (nomark _)) (pw_and1 (pt_cmpR op_eq (pe_df D_law_take hr (by rfl) (pa_cons (pv 0) (pa_cons pe_int pa_nil))) pe_int (nomark _)))))
       (pss_one (ps_expr (pe_bm PySem.F.plainAttrs_list PySem.F.slot_list_append PySem.F.type_list_append mt_append (pv 3) (pa_cons (pe_ix ix_list (pe_lst (pa_cons (pv 4) (pa_cons (pe_op op_sub pe_int (pv 4)) pa_nil))) (pe_df D_law_take hr (by rfl) (pa_cons (pv 0) (pa_cons pe_int pa_nil))) (fun _ _ => rfl)) pa_nil))))
       pss_nil)))
       (pss_one (ps_ret (pe_callTy call_tuple_of (by rfl) m_tuple (by decide +kernel) (pa_cons (pv 3) pa_nil)))))), ?_⟩
  refine ⟨(by show 0 ≤ sizeLine; decide), fun o no => ?_⟩
  have hpo : o ≠ p := fun z => hp.at (z ▸ no)
  refine ⟨_, rfl, _, _, rfl, rfl, _, _, rfl, ⟨by omega, by omega, by omega, by omega⟩, for_range (lo := 1) (n := (n + 1 - 1).toNat)
    (fun i σ' H' => ∃ (cs : List Int) (y : Option V), σ' = [some (.ref p), some (.int n), some (.int most), some (.ref o), y] ∧ Kp p H H' ∧ Pl H' p ∧ H' o = some (.lst (cs.map V.int)) ∧ Cl i cs ∧ (cs.length : Int) ≤ max most 0 ∧ cs.length ≤ i) ?_ ?_ ?_⟩
  · exact ⟨[], none, rfl, Kp.of (same_new no), hp.same (same_new no), upd_same, Cl.nil _, by simp; omega, by simp⟩
  · rintro i σ' H1 hi ⟨cs, y, rfl, kp, hp1, eo, cl, hm, hl⟩
    refine ⟨_, rfl, o, _, rfl, .inl (SqL.of eo), _, rfl, _, _, rfl, rfl, _, rfl, ite2 (fun c => ?_) (fun c => ?_)⟩
    · have c' : (((cs.map V.int).length : Nat) : Int) < most := of_decide_eq_true c
      rw [List.length_map] at c'
      refine ⟨_, rfl, p, 3, rfl, hp1, by omega, by omega, fun d H2 k2 hp2 _ _ => ?_⟩
      have eo2 := k2 _ _ hpo eo
      refine ⟨rfl, _, rfl, ite2 (fun c => ?_) (fun c => ?_)⟩
      · refine ⟨_, rfl, .inl ⟨rfl, _, SqL.of eo2⟩, ?_⟩
        refine ⟨_, rfl, _, rfl, _, _, rfl, rfl, (by show 2 ≤ sizeLine; decide), fun l nl => ?_⟩
        have s3 : Same H2 (upd H2 l (.lst [.int (1 + (i : Int)), .int (0 - (1 + (i : Int)))])) := same_new nl
        have hlp : l ≠ p := fun z => hp2.at (z ▸ nl)
        refine ⟨_, rfl, p, 2, rfl, hp2.same s3, by omega, by omega, fun d H3 k3 hp3 d0 d1 => ?_⟩
        have eo3 := k3 _ _ hpo (s3 _ _ eo2)
        have el3 := k3 _ _ hlp upd_same
        have fin : ∀ c : Int, c.natAbs = i + 1 → ∃ l xs y, V.ref o = V.ref l ∧ [V.int c] = [y] ∧ H3 l = some (.lst xs) ∧ xs.length < sizeLine ∧
            ∃ (cs : List Int) (y' : Option V), [some (V.ref p), some (.int n), some (.int most), some (.ref o), some (.int (1 + (i : Int)))] = [some (V.ref p), some (.int n), some (.int most), some (.ref o), y'] ∧
              Kp p H (upd H3 l (.lst (xs ++ [y]))) ∧ Pl (upd H3 l (.lst (xs ++ [y]))) p ∧ (upd H3 l (.lst (xs ++ [y]))) o = some (.lst (cs.map V.int)) ∧ Cl (i + 1) cs ∧ (cs.length : Int) ≤ max most 0 ∧ cs.length ≤ i + 1 := fun c hc => by
          refine ⟨o, _, _, rfl, rfl, eo3, ?_, cs ++ [c], _, rfl, ?_, ?_, ?_, cl.snoc hc, ?_, ?_⟩
          · rw [List.length_map]; exact small1000 (by omega)
          · intro b u nb hb
            rw [upd_ne (ne_of_none hb no)]
            exact k3 _ _ nb (s3 _ _ (k2 _ _ nb (kp _ _ nb hb)))
          · obtain ⟨a, b, e, r⟩ := hp3
            exact ⟨a, b, by rw [upd_ne hpo.symm]; exact e, r⟩
          · rw [upd_same, List.map_append]; rfl
          · rw [List.length_append]; simp; omega
          · rw [List.length_append]; simp; omega
        have dd : d = 0 ∨ d = 1 := by omega
        rcases dd with rfl | rfl
        · exact ⟨l, _, 0, .int (1 + (i : Int)), rfl, rfl, SqL.of el3, rfl, fin _ (by omega)⟩
        · exact ⟨l, _, 1, .int (0 - (1 + (i : Int))), rfl, rfl, SqL.of el3, rfl, fin _ (by omega)⟩
      · exact ⟨cs, _, rfl, kp.trans k2, hp2, eo2, cl.le (by omega), hm, by omega⟩
    · exact ⟨cs, _, rfl, kp, hp1, eo, cl.le (by omega), hm, by omega⟩
  · rintro σ' H1 ⟨cs, y, rfl, kp, hp1, eo, cl, hm, hl⟩
    refine ⟨_, rfl, o, _, rfl, .inl ⟨SqL.of eo, fun r nr => ?_⟩⟩
    have s2 : Same H1 (upd H1 r (.tup (cs.map V.int))) := same_new nr
    exact q r cs _ (kp.trans (Kp.of s2)) (hp1.same s2) (kp.freeP hp1 nr) upd_same (cl.le (by omega)) hm (by omega)

/-! ### all fillings -/
def spFills (K : PySem.W.Frag) : Sp := fun vs H Q _ => ∃ (n : Nat), vs = [.int n] ∧ n ≤ 9 ∧
  ∀ (r : Addr) (ts : List Addr) (H' : Hp), Same H H' → H r = none → H' r = some (.lst (ts.map V.ref)) → ts.length = 2 ^ n → (∀ j t, ts[j]? = some t → H' t = some (.tup ((rowB n j).map V.bl))) → Q (.ref r) H'
theorem ok_fills {f : Addr} {fd : FuncData} {k : Nat} (F : Fun K "_law_fillings" "_law_fillings" s_law_fillings f fd) (m_range : mg "range" = none) (m_tuple : mg "tuple" = none) :
    FnOk P w K mg base CX0 (k + 1) f fd ["_law_size"] (spFills K) := by
  refine F.ok sc_law_fillings (fun vs H Q E h => ?_) (fun cdv A outer s H vs Q E hr h => ?_)
  · obtain ⟨n, rfl, _⟩ := h
    rfl
  obtain ⟨n, rfl, hn, q⟩ := h
  refine ⟨_, (pss_one (ps_ret (pe_lc (own := [("_law_number", 2)]) (g := gName 2) (tt := tYes) (by rfl) sc_law_fillings.nd (pi_range1 (by rfl) m_range (pa_cons (pe_op op_shl pe_int (pv 0)) pa_nil)) (blkOk_by (by kernel_rfl)) (fun _ _ _ _ _ => (pg_name (i := 2) sc_law_fillings.nd rfl (.inr rfl))) (fun _ _ _ _ _ => pts_nil) (fun _ _ _ _ _ => (pe_callTy (call_tuple_of' (K := K) rfl) (by rfl) m_tuple (by decide +kernel) (pa_cons (pe_lc (own := [("_law_k", 1)]) (g := gName 1) (tt := tYes) (by rfl) sc_law_fillings.nd (pi_range1 (by rfl) m_range (pa_cons (pv 0) pa_nil)) (blkOk_by (by kernel_rfl)) (fun _ _ _ _ _ => (pg_name (i := 1) sc_law_fillings.nd rfl (.inl rfl))) (fun _ _ _ _ _ => pts_nil) (fun _ _ _ _ _ => (pe_cmpR op_eq (pe_op op_and (pe_op op_shr (pv 2) (pe_op op_sub (pe_op op_sub (pv 0) pe_int) (pv 1))) pe_int) pe_int (nomark _)))) pa_nil)))))), ?_⟩
  have e2 : (1 : Int) * 2 ^ ((n : Int)).toNat = ((2 ^ n : Nat) : Int) := by
    rw [Int.toNat_natCast]; simp
  have p9 : 2 ^ n ≤ 512 := Nat.le_trans (Nat.pow_le_pow_right (by decide) hn) (by decide)
  generalize hN : 2 ^ n = N at *
  refine ⟨_, rfl, _, _, rfl, rfl, ⟨by omega, by omega, by decide⟩, (N : Int), congrArg (fun z => [V.int z]) e2, by omega, by omega, fun D nD => lc_range (lo := 0) (n := ((N : Int)).toNat) (fun i H' => ∃ ts : List Addr, Same H H' ∧ H' D = some (.lst (ts.map V.ref)) ∧ ts.length = i ∧ ∀ j t, ts[j]? = some t → H' t = some (.tup ((rowB n j).map V.bl))) ?_ ?_ ?_⟩
  · exact ⟨[], same_new nD, upd_same, rfl, fun j t h => by simp at h⟩
  · rintro i H1 hi ⟨ts, s1, eD, hl, ht⟩
    refine ⟨rfl, _, rfl, _, rfl, by omega, by omega, fun D2 nD2 => lc_range (lo := 0) (n := ((n : Int)).toNat) (fun k H' => Same H1 H' ∧ H' D2 = some (.lst (((rowB n i).take k).map V.bl))) ?_ ?_ ?_⟩
    · exact ⟨same_new nD2, upd_same⟩
    · rintro k H2 hk ⟨s2, e2⟩
      have hk' : k < n := by rw [Int.toNat_natCast] at hk; exact hk
      refine ⟨rfl, _, rfl, _, rfl, _, _, rfl, rfl, _, rfl, _, _, rfl, rfl, _, _, rfl, rfl, (by show (0 : Int) ≤ (n : Int) - 1 - (0 + (k : Int)); omega), _, _, rfl, rfl, rfl, _, e2, ?_, ?_, ?_⟩
      · simp only [List.length_map, List.length_take]; exact small1000 (by omega)
      · exact fun b o hb => by rw [upd_ne (ne_of_none hb nD2)]; exact s2 _ _ hb
      · rw [upd_same, rowB_take hk', List.map_append]
        show some (HO.lst _) = some (HO.lst _)
        rw [Int.zero_add, Int.zero_add]
        rfl
    · rintro H2 ⟨s2, e2⟩
      have e3 : (rowB n i).take ((n : Int)).toNat = rowB n i := List.take_of_length_le (by unfold rowB; simp)
      rw [e3] at e2
      refine ⟨D2, _, rfl, .inl ⟨SqL.of e2, fun t nt => ?_⟩⟩
      have s3 : Same H2 (upd H2 t (.tup ((rowB n i).map V.bl))) := same_new nt
      have eD3 := s3 _ _ (s2 _ _ eD)
      have et : (upd H2 t (.tup ((rowB n i).map V.bl))) t = some (.tup ((rowB n i).map V.bl)) := upd_same
      generalize (upd H2 t (.tup ((rowB n i).map V.bl))) = H3 at *
      have keep : ∀ b xs, H3 b = some (.tup xs) → (upd H3 D (.lst (ts.map V.ref ++ [.ref t]))) b = some (.tup xs) := fun b xs hb => by rw [upd_ne (ne_of hb eD3 (by intro z; cases z))]; exact hb
      refine ⟨_, eD3, ?_, ts ++ [t], ?_, ?_, ?_, fun j u hu => ?_⟩
      · rw [List.length_map, hl]; rw [Int.toNat_natCast] at hi; exact small1000 (by omega)
      · exact fun b o hb => by rw [upd_ne (ne_of_none hb nD)]; exact s3 _ _ (s2 _ _ (s1 _ _ hb))
      · rw [upd_same, List.map_append]; rfl
      · rw [List.length_append, hl]; rfl
      · by_cases hj : j < ts.length
        · rw [List.getElem?_append_left hj] at hu
          exact keep _ _ (s3 _ _ (s2 _ _ (ht j u hu)))
        · rw [List.getElem?_append_right (by omega)] at hu
          have : j - ts.length = 0 := by
            cases q : j - ts.length with
            | zero => rfl
            | succ m => rw [q] at hu; simp at hu
          rw [this] at hu
          cases hu
          have : j = i := by omega
          subst this
          exact keep _ _ et
  · rintro H1 ⟨ts, s1, eD, hl, ht⟩
    rw [Int.toNat_natCast] at hl
    exact q D ts H1 s1 nD eD hl ht

/-! ### the law's own says, hold, sign -/
def spLSays (K : PySem.W.Frag) : Sp := fun vs H Q _ => ∃ (t : Addr) (bs : List Bool) (n : Int), vs = [.int n, .ref t] ∧ SqT K H t (bs.map V.bl) ∧ 1 ≤ n.natAbs ∧ n.natAbs ≤ bs.length ∧ Q (.bl (sayB bs n)) H
theorem ok_lsays {f : Addr} {fd : FuncData} {k : Nat} (F : Fun K "_law_says" "_law_says" s_law_says f fd) (m_abs : mg "abs" = none) : FnOk P w K mg base CX0 (k + 1) f fd ["_law_sign_here", "_law_filling"] (spLSays K) := by
  refine F.ok sc_law_says (fun vs H Q E h => ?_) (fun cdv A outer s H vs Q E hr h => ?_)
  · obtain ⟨t, bs, n, rfl, _⟩ := h
    rfl
  obtain ⟨t, bs, n, rfl, hS, h1, h2, q⟩ := h
  refine ⟨_, (pss_one (ps_ret (pe_cmpR op_eq (pe_ix ix_tup (pv 1) (pe_op op_sub (pe_callB call_abs (by rfl) m_abs (by decide +kernel) (pa_cons (pv 0) pa_nil)) pe_int) (fun _ _ => rfl)) (pe_cmpR op_gt (pv 0) pe_int (nomark _)) (nomark _)))), ?_⟩
  obtain ⟨b, hb, e⟩ := say_at h1 h2
  exact ⟨_, rfl, _, rfl, _, rfl, _, _, rfl, rfl, t, _, _, .bl b, rfl, rfl, hS, hb, _, rfl, _, _, rfl, rfl, rfl, by rw [say_eq, ← e]; exact q⟩
def spHold (K : PySem.W.Frag) : Sp := fun vs H Q _ => ∃ (a t : Addr) (cs : List Addr) (nss : List (List Int)) (bs : List Bool), vs = [.ref a, .ref t] ∧ SqL K H a (cs.map V.ref) ∧ SqT K H t (bs.map V.bl) ∧ TupsI K H cs nss ∧ nss.length ≤ 1000 ∧
  (∀ ns ∈ nss, ns.length ≤ 1000 ∧ ∀ n ∈ ns, 1 ≤ n.natAbs ∧ n.natAbs ≤ bs.length) ∧ ∀ H', Same H H' → Q (.bl (nss.all fun ns => ns.any (sayB bs))) H'
theorem ok_hold {f : Addr} {fd : FuncData} {k : Nat} (F : Fun K "_law_hold" "_law_hold" s_law_hold f fd) (D_law_says : Df P w K mg base k "_law_says" ["_law_sign_here", "_law_filling"] (spLSays K)) :
    FnOk P w K mg base CX0 (k + 1) f fd ["_law_clauses", "_law_filling"] (spHold K) := by
  refine F.ok sc_law_hold (fun vs H Q E h => ?_) (fun cdv A outer s H vs Q E hr h => ?_)
  · obtain ⟨a, t, cs, nss, bs, rfl, _⟩ := h
    rfl
  obtain ⟨a, t, cs, nss, bs, rfl, ha, ht, hc, hl, hn, q⟩ := h
  refine ⟨_, (pss_one (ps_ret (pe_cmpR (op_eqD hr.units) (pe_lc (own := [("_law_clause_here", 2)]) (g := gName 2) (by rfl) sc_law_hold.nd (pi_list (pv 0)) (blkOk_by (by kernel_rfl)) (fun _ _ _ _ _ => (pg_name (i := 2) sc_law_hold.nd rfl (.inl rfl))) (fun _ _ _ _ _ => (pts_one (pt_cmpR (op_eqD' (K := K) rfl hr.units) (pe_lc (own := [("_law_sign_here", 3)]) (g := gName 3) (by rfl) sc_law_hold.nd (pi_tup' (K := K) rfl (pv 2)) (blkOk_by (by kernel_rfl)) (fun _ _ _ _ _ => (pg_name (i := 3) sc_law_hold.nd rfl (.inl rfl))) (fun _ _ _ _ _ => (pts_one (pt_val (pe_df D_law_says hr (by rfl) (pa_cons (pv 3) (pa_cons (pv 1) pa_nil)))))) (fun _ _ _ _ _ => (pv 3))) (pe_lst pa_nil) (nomark _)))) (fun _ _ _ _ _ => (pv 2))) (pe_lst pa_nil) (nomark _)))), ?_⟩
  refine ⟨_, rfl, a, rfl, ⟨_, ha⟩, fun D nD => lc_list (xs := cs.map V.ref) (fun i H' => Same H H' ∧ ∃ (ds : List Addr) (mss : List (List Int)), H' D = some (.lst (ds.map V.ref)) ∧ TupsI K H' ds mss ∧ mss = (nss.take i).filter fun ns => !ns.any (sayB bs)) ?_ ?_ ?_ ?_⟩
  · exact ⟨same_new nD, [], [], upd_same, .nil, rfl⟩
  · exact fun i H' _ h => h.1.seq ha
  · rintro i x H1 ex ⟨s1, ds, mss, eD, hd, em⟩
    obtain ⟨c, ns, rfl, hin, hc1, htk⟩ := hc.at ex
    have hc2 := same_tup s1 hc1
    obtain ⟨ln, hb⟩ := hn ns hin
    refine ⟨rfl, _, rfl, c, rfl, ⟨_, hc2⟩, fun D2 nD2 => lc_tup (xs := ns.map V.int) (fun k H' => Same H1 H' ∧ H' D2 = some (.lst (((ns.take k).filter (sayB bs)).map V.int))) ⟨same_new nD2, upd_same⟩ (fun k H' _ h => same_tup h.1 hc2) ?_ ?_⟩
    · rintro k x H2 ex2 ⟨s2, e2⟩
      obtain ⟨n, rfl, hni, htk2⟩ := at_int ex2
      refine ⟨rfl, _, rfl, _, rfl, t, bs, n, rfl, same_tup s2 (same_tup s1 ht), (hb n hni).1, (hb n hni).2, _, rfl, ite2 (fun c => ?_) (fun c => ?_)⟩
      · refine ⟨_, rfl, _, e2, ?_, ?_, ?_⟩
        · rw [List.length_map]
          exact small1000 (Nat.le_trans (List.length_filter_le _ _) (by rw [List.length_take]; omega))
        · exact fun b o hb => by rw [upd_ne (ne_of_none hb nD2)]; exact s2 _ _ hb
        · rw [upd_same, htk2, List.filter_append, List.map_append]
          simp [List.filter_cons, c]
      · refine ⟨s2, ?_⟩
        rw [htk2, List.filter_append, List.map_append, e2]
        simp [List.filter_cons, c]
    · rintro H2 ⟨s2, e2⟩
      rw [List.length_map, List.take_length] at e2
      refine ⟨(by show 0 ≤ sizeLine; decide), fun l nl => ?_⟩
      have s3 : Same H2 (upd H2 l (.lst [])) := same_new nl
      refine ⟨.list ((ns.filter (sayB bs)).map PyData.int), .list [], .lst (SqL.of (s3 _ _ e2)) (dpInts _), .lst (SqL.of upd_same) .nil, shInts _, shNil, _, rfl, ?_⟩
      rw [eqvNil]
      have s13 : Same H1 (upd H2 l (.lst [])) := s2.trans s3
      generalize (upd H2 l (.lst [])) = H3 at *
      have key : (!ns.any (sayB bs)) = decide (ns.filter (sayB bs) = []) := by
        rw [Bool.eq_iff_iff]; simp
      refine ite2 (fun z => ?_) (fun z => ?_)
      · have eD3 := s13 _ _ eD
        refine ⟨_, rfl, _, eD3, ?_, ?_, ds ++ [c], mss ++ [ns], ?_, ?_, ?_⟩
        · rw [List.length_map, hd.len, em]
          exact small1000 (Nat.le_trans (List.length_filter_le _ _) (by rw [List.length_take]; omega))
        · exact fun b o hb => by rw [upd_ne (ne_of_none hb nD)]; exact s13 _ _ (s1 _ _ hb)
        · rw [upd_same, List.map_append]; rfl
        · exact ((hd.same s13).snoc (same_tup s13 hc2)).lst eD3
        · rw [htk, List.filter_append, ← em, List.filter_cons, key, z]; rfl
      · refine ⟨s1.trans s13, ds, mss, s13 _ _ eD, hd.same s13, ?_⟩
        rw [htk, List.filter_append, ← em, List.filter_cons, key, if_neg z]; simp
  · rintro H1 ⟨s1, ds, mss, eD, hd, em⟩
    rw [List.length_map, hc.len, List.take_length] at em
    refine ⟨(by show 0 ≤ sizeLine; decide), fun l nl => ?_⟩
    have s2 : Same H1 (upd H1 l (.lst [])) := same_new nl
    refine ⟨.list (mss.map fun (ns : List Int) => PyData.tuple (ns.map PyData.int)), .list [], .lst (SqL.of (s2 _ _ eD)) (hd.same s2).dp, .lst (SqL.of upd_same) .nil, shTups _, shNil, ?_⟩
    have key : PyData.eqv (.list (mss.map fun (ns : List Int) => PyData.tuple (ns.map PyData.int))) (.list []) = nss.all fun ns => ns.any (sayB bs) := by
      rw [eqvNilD, em, Bool.eq_iff_iff]; simp
    rw [key]
    exact q _ (s1.trans s2)
def spLSign (K : PySem.W.Frag) : Sp := fun vs H Q _ => ∃ (p : Addr) (m : Int), vs = [.ref p, .int m] ∧ Pl H p ∧ 1 ≤ m ∧ m ≤ 1000 ∧ ∀ (n : Int) (H' : Hp), Kp p H H' → Pl H' p → 1 ≤ n.natAbs → (n.natAbs : Int) ≤ m → Q (.int n) H'
theorem ok_lsign {f : Addr} {fd : FuncData} {k : Nat} (F : Fun K "_law_sign" "_law_sign" s_law_sign f fd) (D_law_take : Df P w K mg base k "_law_take" ["_law_pool_here", "_law_many"] (spTake K)) :
    FnOk P w K mg base CX0 (k + 1) f fd ["_law_pool_here", "_law_things"] (spLSign K) := by
  refine F.ok sc_law_sign (fun vs H Q E h => ?_) (fun cdv A outer s H vs Q E hr h => ?_)
  · obtain ⟨p, m, rfl, _⟩ := h
    rfl
  obtain ⟨p, m, rfl, hp, h1, h2, q⟩ := h
  refine ⟨_, (pss_cons (ps_set (i := 2) sc_law_sign.nd rfl (.inl rfl) (pe_op op_add pe_int (pe_df D_law_take hr (by rfl) (pa_cons (pv 0) (pa_cons (pv 1) pa_nil)))))
       (pss_one (ps_ret (pe_ix ix_list (pe_lst (pa_cons (pv 2) (pa_cons (pe_op op_sub pe_int (pv 2)) pa_nil))) (pe_df D_law_take hr (by rfl) (pa_cons (pv 0) (pa_cons pe_int pa_nil))) (fun _ _ => rfl))))), ?_⟩
  refine ⟨_, rfl, _, rfl, p, m, rfl, hp, h1, by omega, fun d H1 k1 hp1 d0 d1 => ⟨_, _, rfl, rfl, ?_⟩⟩
  refine ⟨_, rfl, _, rfl, _, _, rfl, rfl, (by show 2 ≤ sizeLine; decide), fun l nl => ?_⟩
  have s2 := same_new (o := .lst [.int (1 + d), .int (0 - (1 + d))]) nl
  have hlp : l ≠ p := fun z => hp1.at (z ▸ nl)
  refine ⟨_, rfl, p, 2, rfl, hp1.same s2, by omega, by omega, fun e H3 k3 hp3 e0 e1 => ?_⟩
  have kk : Kp p H H3 := k1.trans ((Kp.of s2).trans k3)
  have dd : e = 0 ∨ e = 1 := by omega
  rcases dd with rfl | rfl
  · exact ⟨l, _, 0, .int (1 + d), rfl, rfl, SqL.of (k3 _ _ hlp upd_same), rfl, q _ _ kk hp3 (by omega) (by omega)⟩
  · exact ⟨l, _, 1, .int (0 - (1 + d)), rfl, rfl, SqL.of (k3 _ _ hlp upd_same), rfl, q _ _ kk hp3 (by omega) (by omega)⟩

/-! ### the law's own clause of signs -/
def spDue (K : PySem.W.Frag) : Sp := fun vs H Q _ => ∃ (a : Addr) (ns : List Int), vs = [.ref a] ∧ SqL K H a (ns.map V.int) ∧ ns.length < 64 ∧ (∀ n ∈ ns, n ≠ 0 ∧ n.natAbs ≤ 60) ∧ ∀ (v : V) (H' : Hp), Same H H' → CRes H ns v H' → Q v H'
theorem two_at {t : Int} {i : Nat} {x : V} (h : [V.int t, V.int (0 - t)][i]? = some x) : ∃ n, x = .int n ∧ [t, 0 - t].take (i + 1) = [t, 0 - t].take i ++ [n] := by
  match i, h with
  | 0, h => cases h; exact ⟨_, rfl, rfl⟩
  | 1, h => cases h; exact ⟨_, rfl, rfl⟩
theorem ok_due {f : Addr} {fd : FuncData} {k : Nat} (F : Fun K "_law_due" "_law_due" s_law_due f fd) (m_range : mg "range" = none) (m_tuple : mg "tuple" = none) : FnOk P w K mg base CX0 (k + 1) f fd ["_law_signs"] (spDue K) := by
  refine F.ok sc_law_due (fun vs H Q E h => ?_) (fun cdv A outer s H vs Q E hr h => ?_)
  · obtain ⟨a, ns, rfl, _⟩ := h
    rfl
  obtain ⟨a, ns, rfl, hS, hl, h0, qq⟩ := h
  have qn : ∀ H', Same H H' → Both ns → Q .non H' := fun H' s b => qq _ _ s (.inl ⟨rfl, b⟩)
  have q : ∀ (r : Addr) (cs : List Int) (H' : Hp), Same H H' → H r = none → H' r = some (.tup (cs.map V.int)) → ¬ Both ns → ClOf ns cs → Q (.ref r) H' := fun r cs H' s n e b c => qq _ _ s (.inr ⟨r, cs, rfl, n, e, b, c⟩)
  refine ⟨_, (pss_cons (ps_if (pt_cmpR (op_neD hr.units) (pe_lc (own := [("_law_sign_here", 1)]) (g := gName 1) (by rfl) sc_law_due.nd (pi_list (pv 0)) (blkOk_by (by kernel_rfl)) (fun _ _ _ _ _ => (pg_name (i := 1) sc_law_due.nd rfl (.inl rfl))) (fun _ _ _ _ _ => (pts_one (pt_cmpR (op_inI' (K := K) rfl) (pe_op op_sub pe_int (pv 1)) (pv 0) rfl))) (fun _ _ _ _ _ => (pv 1))) (pe_lst pa_nil) (nomark _))
       (pss_one (ps_ret pe_non))
       pss_nil)
       (pss_cons (ps_set (i := 2) sc_law_due.nd rfl (.inl rfl) (pe_lst pa_nil))
       (pss_cons (ps_for PassesOwn.never rfl (pi_range2 (by rfl) m_range (pa_cons pe_int (pa_cons pe_int pa_nil))) (pg_name (i := 3) sc_law_due.nd rfl (.inl rfl))
       (pss_one (ps_set (i := 2) sc_law_due.nd rfl (.inl rfl) (pe_op op_cat (pv 2) (pe_lc (own := [("_law_sign_here", 1)]) (g := gName 1) (by rfl) sc_law_due.nd (pi_list (pe_lst (pa_cons (pv 3) (pa_cons (pe_op op_sub pe_int (pv 3)) pa_nil)))) (blkOk_by (by kernel_rfl)) (fun _ _ _ _ _ => (pg_name (i := 1) sc_law_due.nd rfl (.inl rfl))) (fun _ _ _ _ _ => (pts_one (pt_cmpR (op_inI' (K := K) rfl) (pv 1) (pv 0) rfl))) (fun _ _ _ _ _ => (pv 1)))))))
       (pss_one (ps_ret (pe_callTy call_tuple_of (by rfl) m_tuple (by decide +kernel) (pa_cons (pv 2) pa_nil))))))), ?_⟩
  refine ⟨_, rfl, a, rfl, ⟨_, hS⟩, fun D nD => lc_list (xs := ns.map V.int) (fun i H' => Same H H' ∧ H' D = some (.lst (((ns.take i).filter fun n => decide (0 - n ∈ ns)).map V.int))) ⟨same_new nD, upd_same⟩ (fun i H' _ h => h.1.seq hS) ?_ ?_⟩
  · rintro i x H1 ex ⟨s1, e1⟩
    obtain ⟨n, rfl, hi, ht⟩ := at_int ex
    refine ⟨rfl, _, rfl, _, _, rfl, rfl, _, rfl, a, _, ns, rfl, rfl, .inl (s1.seq hS), _, rfl, ite2 (fun c => ?_) (fun c => ?_)⟩
    · refine ⟨_, rfl, _, e1, ?_, ?_, ?_⟩
      · rw [List.length_map]
        exact small1000 (Nat.le_trans (List.length_filter_le _ _) (by rw [List.length_take]; omega))
      · exact fun b o hb => by rw [upd_ne (ne_of_none hb nD)]; exact s1 _ _ hb
      · have c' : decide (0 - n ∈ ns) = true := c
        rw [upd_same, ht, List.filter_append, List.map_append, List.filter_cons, if_pos c']; rfl
    · have c' : ¬ decide (0 - n ∈ ns) = true := c
      refine ⟨s1, ?_⟩
      rw [ht, List.filter_append, List.map_append, e1, List.filter_cons, if_neg c']; simp
  rintro H1 ⟨s1, e1⟩
  rw [List.length_map, List.take_length] at e1
  refine ⟨(by show 0 ≤ sizeLine; decide), fun l nl => ?_⟩
  have s2 : Same H1 (upd H1 l (.lst [])) := same_new nl
  refine ⟨.list ((ns.filter fun n => decide (0 - n ∈ ns)).map PyData.int), .list [], .lst (SqL.of (s2 _ _ e1)) (dpInts _), .lst (SqL.of upd_same) .nil, shInts _, shNil, _, rfl, ?_⟩
  rw [eqvNil]
  have sA : Same H (upd H1 l (.lst [])) := s1.trans s2
  generalize (upd H1 l (.lst [])) = HA at *
  refine ite2 (fun c => ?_) (fun c => ?_)
  · refine qn HA sA ?_
    have c' : ns.filter (fun n => decide (0 - n ∈ ns)) ≠ [] := fun z => by rw [z] at c; exact absurd c (by decide)
    obtain ⟨n, hn⟩ := List.exists_mem_of_ne_nil _ c'
    rw [List.mem_filter] at hn
    have := of_decide_eq_true hn.2
    exact ⟨n, hn.1, by rw [Int.zero_sub] at this; exact this⟩
  have nb : ¬ Both ns := by
    rintro ⟨n, h1, h2⟩
    apply c
    have : ns.filter (fun n => decide (0 - n ∈ ns)) ≠ [] := List.ne_nil_of_mem (List.mem_filter.mpr ⟨h1, decide_eq_true (by rw [Int.zero_sub]; exact h2)⟩)
    rw [decide_eq_false this]; rfl
  refine ⟨(by show 0 ≤ sizeLine; decide), fun o no => ?_⟩
  refine ⟨_, _, rfl, ⟨by omega, by omega, by omega, by omega⟩, for_range (lo := 1) (n := (61 - 1 : Int).toNat) (fun i σ' H' => ∃ (o : Addr) (fs : List Int) (y1 y3 : Option V), σ' = [some (.ref a), y1, some (.ref o), y3] ∧ Same HA H' ∧ HA o = none ∧ H' o = some (.lst (fs.map V.int)) ∧
    fs.Pairwise (fun a b => a.natAbs < b.natAbs) ∧ (∀ m, m ∈ fs ↔ m ∈ ns ∧ m.natAbs ≤ i) ∧ fs.length ≤ 2 * i) ?_ ?_ ?_⟩
  · exact ⟨o, [], _, _, rfl, same_new no, no, upd_same, List.Pairwise.nil, fun m => ⟨fun z => by simp at z, fun z => absurd (h0 m z.1).1 (by have := z.2; omega)⟩, by simp⟩
  · rintro i σ' H1 hi ⟨o, fs, y1, y3, rfl, sB, noA, eo, up, mem, lf⟩
    refine ⟨_, rfl, _, rfl, _, rfl, _, _, rfl, rfl, (by show 2 ≤ sizeLine; decide), fun l2 nl2 => ?_⟩
    have s3 : Same H1 (upd H1 l2 (.lst [.int (1 + (i : Int)), .int (0 - (1 + (i : Int)))])) := same_new nl2
    have e2 : (upd H1 l2 (.lst [.int (1 + (i : Int)), .int (0 - (1 + (i : Int)))])) l2 = some (.lst [.int (1 + (i : Int)), .int (0 - (1 + (i : Int)))]) := upd_same
    generalize (upd H1 l2 (.lst [.int (1 + (i : Int)), .int (0 - (1 + (i : Int)))])) = H2 at *
    generalize ht : (1 + (i : Int)) = t at *
    refine ⟨l2, rfl, ⟨_, SqL.of e2⟩, fun D2 nD2 => lc_list (xs := [V.int t, .int (0 - t)]) (fun k H' => Same H2 H' ∧ H' D2 = some (.lst ((([t, 0 - t].take k).filter fun n => decide (n ∈ ns)).map V.int))) ⟨same_new nD2, upd_same⟩ (fun k H' _ h => SqL.of (h.1 _ _ e2)) ?_ ?_⟩
    · rintro k x H3 ex ⟨s4, e4⟩
      obtain ⟨n, rfl, htk⟩ := two_at ex
      refine ⟨rfl, _, rfl, _, rfl, a, _, ns, rfl, rfl, .inl (s4.seq (s3.seq (sB.seq (sA.seq hS)))), _, rfl, ite2 (fun c => ?_) (fun c => ?_)⟩
      · refine ⟨_, rfl, _, e4, ?_, ?_, ?_⟩
        · rw [List.length_map]
          exact small1000 (Nat.le_trans (List.length_filter_le _ _) (by rw [List.length_take]; simp; omega))
        · exact fun b o hb => by rw [upd_ne (ne_of_none hb nD2)]; exact s4 _ _ hb
        · have c' : decide (n ∈ ns) = true := c
          rw [upd_same, htk, List.filter_append, List.map_append, List.filter_cons, if_pos c']; rfl
      · have c' : ¬ decide (n ∈ ns) = true := c
        refine ⟨s4, ?_⟩
        rw [htk, List.filter_append, List.map_append, e4, List.filter_cons, if_neg c']; simp
    · rintro H3 ⟨s4, e4⟩
      have e4' : H3 D2 = some (.lst (([t, 0 - t].filter fun n => decide (n ∈ ns)).map V.int)) := e4
      have s14 : Same H1 H3 := s3.trans s4
      have lg : ([t, 0 - t].filter fun n => decide (n ∈ ns)).length ≤ 2 := List.length_filter_le _ _
      have hi' : i < 60 := hi
      refine ⟨o, D2, _, _, rfl, rfl, s14 _ _ eo, e4', ?_, fun p np => ⟨p, fs ++ [t, 0 - t].filter (fun n => decide (n ∈ ns)), _, _, rfl, (sB.trans s14).trans (same_new np), (sB.trans s14).free np, ?_, ?_, ?_, ?_⟩⟩
      · rw [List.length_map, List.length_map]; exact small (by omega)
      · rw [upd_same, List.map_append]
      · rw [List.pairwise_append]
        refine ⟨up, ?_, fun x hx y hy => ?_⟩
        · by_cases z1 : t ∈ ns
          · have z2 : ¬ (0 - t) ∈ ns := fun z => nb ⟨t, z1, by rw [Int.zero_sub] at z; exact z⟩
            rw [List.filter_cons, if_pos (decide_eq_true z1), List.filter_cons, if_neg (by rw [decide_eq_false z2]; exact Bool.false_ne_true)]
            exact List.pairwise_singleton _ _
          · rw [List.filter_cons, if_neg (by rw [decide_eq_false z1]; exact Bool.false_ne_true)]
            by_cases z2 : (0 - t) ∈ ns
            · rw [List.filter_cons, if_pos (decide_eq_true z2)]
              exact List.pairwise_singleton _ _
            · rw [List.filter_cons, if_neg (by rw [decide_eq_false z2]; exact Bool.false_ne_true)]
              exact List.Pairwise.nil
        · have h1 := ((mem x).mp hx).2
          have h2 := (List.mem_filter.mp hy).1
          simp only [List.mem_cons, List.not_mem_nil, or_false] at h2
          rcases h2 with rfl | rfl <;> omega
      · intro m
        rw [List.mem_append, mem, List.mem_filter]
        simp only [List.mem_cons, List.not_mem_nil, or_false, decide_eq_true_eq]
        constructor
        · rintro (z | z)
          · exact ⟨z.1, by omega⟩
          · exact ⟨z.2, by rcases z.1 with z | z <;> omega⟩
        · rintro ⟨z1, z2⟩
          by_cases z3 : m.natAbs ≤ i
          · exact .inl ⟨z1, z3⟩
          · exact .inr ⟨by omega, z1⟩
      · rw [List.length_append]; omega
  · rintro σ' H1 ⟨o, fs, y1, y3, rfl, sB, noA, eo, up, mem, lf⟩
    refine ⟨_, rfl, o, _, rfl, .inl ⟨SqL.of eo, fun r nr => ?_⟩⟩
    refine q r fs _ (sA.trans (sB.trans (same_new nr))) ((sA.trans sB).free nr) upd_same nb ⟨up, fun m => ?_⟩
    rw [mem]
    exact ⟨fun z => z.1, fun z => ⟨z, (h0 m z).2⟩⟩

end
end K02
namespace K02
open PySem PySem.Spec PyProof.Rows L2 KL
section
variable {P : Program} {w : World} {K : PySem.W.Frag} {mg : Str → Option Value} {base : Heap}
def spLaw (K : PySem.W.Frag) : Sp := fun vs H Q _ => ∃ (a : Addr) (ns : List Int), vs = [.ref a] ∧ SqL K H a (ns.map V.int) ∧ ns.length ≤ 63 ∧ ∀ H', Q (.bl true) H'
theorem ok_law {f : Addr} {fd : FuncData} {k : Nat} (F : Fun K "law" "law" s_law f fd)
    (D_law_pool : Df P w K mg base k "_law_pool" ["_law_script", "_law_k"] (spPool K)) (D_law_take : Df P w K mg base k "_law_take" ["_law_pool_here", "_law_many"] (spTake K))
    (D_law_clause : Df P w K mg base k "_law_clause" ["_law_pool_here", "_law_things", "_law_most"] (spClause K)) (D_law_sign : Df P w K mg base k "_law_sign" ["_law_pool_here", "_law_things"] (spLSign K))
    (D_clause_of : Df P w K mg base k "clause_of" ["signs"] (spClOf K)) (D_law_due : Df P w K mg base k "_law_due" ["_law_signs"] (spDue K))
    (D_within : Df P w K mg base k "within" ["one", "other"] (spWithin K)) (D_holds : Df P w K mg base k "holds" ["clause", "filling"] (spHolds K))
    (D_law_hold : Df P w K mg base k "_law_hold" ["_law_clauses", "_law_filling"] (spHold K)) (D_law_fillings : Df P w K mg base k "_law_fillings" ["_law_size"] (spFills K))
    (m_len : mg "len" = none) (m_range : mg "range" = none) (m_max : mg "max" = none) (m_min : mg "min" = none) (m_repr : mg "repr" = none) (m_tuple : mg "tuple" = none) (m_list : mg "list" = none) :
    GFn P w K mg base CX0 (k + 1) f fd ["_law_script"] (spLaw K) := by
  refine gfn0 F sc_law (fun vs H Q E h => ?_) (fun cdv A gu outer s H vs Q E hr h => ?_)
  · obtain ⟨a, ns, rfl, _⟩ := h
    rfl
  obtain ⟨a, ns, rfl, hS, hl, q⟩ := h
  refine ⟨_, (pss_cons (ps_for PassesOwn.never rfl (pi_range1 (by rfl) m_range (pa_cons (pe_callB (call_max2 rfl) (by rfl) m_max (by decide +kernel) (pa_cons pe_int (pa_cons (pe_callB (call_min2 rfl) (by rfl) m_min (by decide +kernel) (pa_cons pe_int (pa_cons (pe_callB call_len_seq (by rfl) m_len (by decide +kernel) (pa_cons (pv 0) pa_nil)) pa_nil))) pa_nil))) pa_nil)) (pg_name (i := 1) sc_law.nd rfl (.inl rfl))
       (pss_cons (ps_set (i := 2) sc_law.nd rfl (.inr rfl) (pe_df D_law_pool hr (by rfl) (pa_cons (pv 0) (pa_cons (pv 1) pa_nil))))
       (pss_cons (ps_set (i := 3) sc_law.nd rfl (.inr rfl) (pe_ix ix_list (pe_lst (pa_cons (pe_op op_add pe_int (pe_df D_law_take hr (by rfl) (pa_cons (pv 2) (pa_cons pe_int pa_nil)))) (pa_cons pe_int (pa_cons pe_int pa_nil)))) (pe_df D_law_take hr (by rfl) (pa_cons (pv 2) (pa_cons pe_int pa_nil))) (fun _ _ => rfl)))
       (pss_cons (ps_setLc (i := 4) (own := [("_law_turn", 5)]) (g := gName 5) (tt := tYes) rfl sc_law.nd rfl rfl (sw_true rfl rfl rfl (by decide +kernel)) (pi_range1 (by rfl) m_range (pa_cons (pe_df D_law_take hr (by rfl) (pa_cons (pv 2) (pa_cons pe_int pa_nil))) pa_nil)) (blkOk_by (by kernel_rfl)) (fun _ _ _ _ _ => (pg_name (i := 5) sc_law.nd rfl (.inl rfl))) (fun _ _ _ _ _ => pts_nil) (fun _ _ _ _ _ => (pe_df D_law_sign hr (by rfl) (pa_cons (pv 2) (pa_cons (pv 3) pa_nil)))))
       (pss_cons (ps_set (i := 6) sc_law.nd rfl (.inl rfl) (pe_callTy call_list_of (by rfl) m_list (by decide +kernel) (pa_cons (pv 4) pa_nil)))
       (pss_cons (ps_set (i := 7) sc_law.nd rfl (.inl rfl) (pe_df D_clause_of hr (by rfl) (pa_cons (pv 4) pa_nil)))
       (pss_cons (ps_if (PW.pt (pw_or (pt_cmpR op_ne (pe_callB (call_rep gu hr.units) (by rfl) m_repr (by decide +kernel) (pa_cons (pv 7) pa_nil)) (pe_callB (call_rep gu hr.units) (by rfl) m_repr (by decide +kernel) (pa_cons (pe_df D_law_due hr (by rfl) (pa_cons (pv 4) pa_nil)) pa_nil)) (nomark _)) (pw_or (pt_cmpR op_ne (pe_callB (call_rep gu hr.units) (by rfl) m_repr (by decide +kernel) (pa_cons (pe_df D_clause_of hr (by rfl) (pa_cons (pe_callTy call_tuple_of (by rfl) m_tuple (by decide +kernel) (pa_cons (pv 4) pa_nil)) pa_nil)) pa_nil)) (pe_callB (call_rep gu hr.units) (by rfl) m_repr (by decide +kernel) (pa_cons (pv 7) pa_nil)) (nomark _)) (pw_or1 (pt_cmpR (op_neD hr.units) (pv 4) (pv 6) (nomark _))))))
       (pss_one (ps_ret pe_bl))
       pss_nil)
       (pss_cons (ps_set (i := 8) sc_law.nd rfl (.inr rfl) (pe_df D_law_clause hr (by rfl) (pa_cons (pv 2) (pa_cons (pv 3) (pa_cons pe_int pa_nil)))))
       (pss_cons (ps_set (i := 9) sc_law.nd rfl (.inl rfl) (pe_ix ix_list (pe_lst (pa_cons (pe_df D_law_clause hr (by rfl) (pa_cons (pv 2) (pa_cons (pv 3) (pa_cons pe_int pa_nil)))) (pa_cons (pe_slice sl_tupK (pv 8) (po_some (pe_df D_law_take hr (by rfl) (pa_cons (pv 2) (pa_cons pe_int pa_nil)))) po_none) (pa_cons (pv 8) pa_nil)))) (pe_df D_law_take hr (by rfl) (pa_cons (pv 2) (pa_cons pe_int pa_nil))) (fun _ _ => rfl)))
       (pss_cons (ps_if (pt_cmpR op_ne (pe_callB (call_rep gu hr.units) (by rfl) m_repr (by decide +kernel) (pa_cons (pe_df D_within hr (by rfl) (pa_cons (pv 9) (pa_cons (pv 8) pa_nil))) pa_nil)) (pe_callB (call_rep gu hr.units) (by rfl) m_repr (by decide +kernel) (pa_cons (pe_cmpR (op_eqD hr.units) (pe_lc (own := [("_law_sign_here", 10)]) (g := gName 10) (by rfl) sc_law.nd (pi_tup (pv 9)) (blkOk_by (by kernel_rfl)) (fun _ _ _ _ _ => (pg_name (i := 10) sc_law.nd rfl (.inl rfl))) (fun _ _ _ _ _ => (pts_one (pt_cmpR (op_notInI' (K := K) rfl) (pv 10) (pv 8) rfl))) (fun _ _ _ _ _ => (pv 10))) (pe_lst pa_nil) (nomark _)) pa_nil)) (nomark _))
       (pss_one (ps_ret pe_bl))
       pss_nil)
       (pss_cons (ps_set (i := 11) sc_law.nd rfl (.inl rfl) (pe_df D_law_fillings hr (by rfl) (pa_cons (pe_callB (call_min2 rfl) (by rfl) m_min (by decide +kernel) (pa_cons pe_int (pa_cons (pv 3) pa_nil))) pa_nil)))
       (C8.pss_cut (ps_if (pt_cmpR op_gt (pv 3) pe_int (nomark _))
       (pss_one (ps_setLc (i := 11) (own := [("_law_turn", 5)]) (g := gName 5) (tt := tYes) rfl sc_law.nd rfl rfl (sw_true rfl rfl rfl (by decide +kernel)) (pi_range1 (by rfl) m_range (pa_cons pe_int pa_nil)) (blkOk_by (by kernel_rfl)) (fun _ _ _ _ _ => (pg_name (i := 5) sc_law.nd rfl (.inl rfl))) (fun _ _ _ _ _ => pts_nil) (fun _ _ _ _ _ => (pe_callTy (call_tuple_of' (K := K) rfl) (by rfl) m_tuple (by decide +kernel) (pa_cons (pe_lc (own := [("_law_thing", 12)]) (g := gName 12) (tt := tYes) (by rfl) sc_law.nd (pi_range1 (by rfl) m_range (pa_cons (pv 3) pa_nil)) (blkOk_by (by kernel_rfl)) (fun _ _ _ _ _ => (pg_name (i := 12) sc_law.nd rfl (.inl rfl))) (fun _ _ _ _ _ => pts_nil) (fun _ _ _ _ _ => (pe_cmpR op_eq (pe_df D_law_take hr (by rfl) (pa_cons (pv 2) (pa_cons pe_int pa_nil))) pe_int (nomark _)))) pa_nil)))))
       pss_nil)
       (pss_one (ps_for PassesOwn.never rfl (pi_list (pv 11)) (pg_name (i := 13) sc_law.nd rfl (.inl rfl))
       (pss_one (ps_if (PW.pt (pw_and (pt_cmpR op_eq (pe_callB call_len_seq (by rfl) m_len (by decide +kernel) (pa_cons (pv 13) pa_nil)) (pv 3) (nomark _)) (pw_and1 (pt_cmpR op_ne (pe_callB (call_rep gu hr.units) (by rfl) m_repr (by decide +kernel) (pa_cons (pe_df D_holds hr (by rfl) (pa_cons (pv 8) (pa_cons (pv 13) pa_nil))) pa_nil)) (pe_callB (call_rep gu hr.units) (by rfl) m_repr (by decide +kernel) (pa_cons (pe_df D_law_hold hr (by rfl) (pa_cons (pe_lst (pa_cons (pv 8) pa_nil)) (pa_cons (pv 13) pa_nil))) pa_nil)) (nomark _)))))
       (pss_one (ps_ret pe_bl))
       pss_nil))))))))))))))))
       (pss_one (ps_ret (pe_and (pe_cmpR (op_eqD hr.units) (pe_df D_clause_of hr (by rfl) (pa_cons (pe_lst pa_nil) pa_nil)) (pe_tup pa_nil) (nomark _)) (pe_and (pe_cmpR op_isBl (pe_df D_holds hr (by rfl) (pa_cons (pe_tup pa_nil) (pa_cons (pe_tup (pa_cons pe_bl pa_nil)) pa_nil))) pe_bl (nomark _)) (pe_one (pe_cmpR op_isBl (pe_df D_within hr (by rfl) (pa_cons (pe_tup pa_nil) (pa_cons (pe_tup pa_nil) pa_nil))) pe_bl (nomark _)))))))), ?_⟩
  have hlen : (ns.map V.int).length = ns.length := List.length_map _
  have bl0 : ∀ b : Bool, (PyData.bool b).shown.length ≤ sizeLine := fun b => (Fine.bool (n := 0) (m := 0) b).len (by omega)
  refine ⟨_, rfl, a, _, rfl, .inl hS, _, _, rfl, _, _, rfl, _, rfl, ?_, ?_, for_range (lo := 0) (fun i σ' H' => ∃ y1 y2 y3 y4 y5 y6 y7 y8 y9 y10 y11 y12 y13, σ' = [some (.ref a), y1, y2, y3, y4, y5, y6, y7, y8, y9, y10, y11, y12, y13] ∧ Same H H') ?_ ?_ ?_⟩
  · rw [hlen]; split <;> (split <;> omega)
  · rw [hlen]; split <;> (split <;> omega)
  · exact ⟨_, _, _, _, _, _, _, _, _, _, _, _, _, rfl, Same.refl H⟩
  · rintro i σ' H1 hi ⟨y1, y2, y3, y4, y5, y6, y7, y8, y9, y10, y11, y12, y13, rfl, s1⟩
    refine ⟨_, rfl, _, rfl, a, ns, _, rfl, s1.seq hS, by omega, by omega, fun p H2 np s2 hp2 => ?_⟩
    -- how many things
    refine ⟨_, rfl, p, 6, rfl, hp2, by omega, by omega, fun d1 H3 k3 hp3 d10 d11 => ⟨_, _, rfl, rfl, (by show 3 ≤ sizeLine; decide), fun l nl => ?_⟩⟩
    have s5 := same_new (o := .lst [.int (1 + d1), .int 9, .int 60]) nl
    have hlp : l ≠ p := fun z => hp3.at (z ▸ nl)
    refine ⟨_, rfl, p, 3, rfl, hp3.same s5, by omega, by omega, fun d3 H6 k6 hp6 d30 d31 => ?_⟩
    obtain ⟨tv, ht1, ht2⟩ := atI_at (xs := [V.int (1 + d1), V.int 9, V.int 60]) d30 d31
    obtain ⟨t, rfl, t0, t1⟩ : ∃ t : Int, tv = .int t ∧ 1 ≤ t ∧ t ≤ 60 := by
      have m := List.mem_of_getElem? ht2
      simp only [List.mem_cons, List.not_mem_nil, or_false] at m
      rcases m with rfl | rfl | rfl
      · exact ⟨_, rfl, by omega, by omega⟩
      · exact ⟨_, rfl, by omega, by omega⟩
      · exact ⟨_, rfl, by omega, by omega⟩
    refine ⟨l, _, d3, .int t, rfl, rfl, SqL.of (k6 _ _ hlp upd_same), ht1, ?_⟩
    have s16 : Same H1 H6 := same_kp s2 np (k3.trans ((Kp.of s5).trans k6))
    clear k3 k6 hp3 s5 nl hlp ht1 ht2 d10 d11 d30 d31 hp2
    -- the signs
    refine ⟨_, rfl, p, 13, rfl, hp6, by omega, by omega, fun d H7 k7 hp7 d0 d13 => ⟨_, rfl, by omega, by omega, fun D nD => lc_range (lo := 0) (n := d.toNat) (fun i H' => ∃ ms : List Int, Kp p H7 H' ∧ Pl H' p ∧ H' D = some (.lst (ms.map V.int)) ∧ ms.length = i ∧ ∀ n ∈ ms, n ≠ 0 ∧ (n.natAbs : Int) ≤ t) ?_ ?_ ?_⟩⟩
    · exact ⟨[], Kp.of (same_new nD), hp7.same (same_new nD), upd_same, rfl, fun n hn => nomatch hn⟩
    · rintro j H8 hj ⟨ms, k8, hp8, eD, hm, hms⟩
      have hDp : D ≠ p := fun z => hp7.at (z ▸ nD)
      refine ⟨rfl, _, rfl, _, rfl, p, t, rfl, hp8, by omega, by omega, fun n H9 k9 hp9 n1 n2 => ?_⟩
      refine ⟨_, k9 _ _ hDp eD, ?_, ms ++ [n], ?_, ?_, ?_, ?_, ?_⟩
      · rw [List.length_map]; exact small1000 (by omega)
      · exact fun b o nb hb => by rw [upd_ne (ne_of_none hb nD)]; exact k9 _ _ nb (k8 _ _ nb hb)
      · obtain ⟨x, y, e, r⟩ := hp9
        exact ⟨x, y, by rw [upd_ne hDp.symm]; exact e, r⟩
      · rw [upd_same, List.map_append]; rfl
      · rw [List.length_append, hm]; rfl
      · intro m hmm
        rcases List.mem_append.mp hmm with z | z
        · exact hms m z
        · rw [List.mem_singleton] at z; subst z; exact ⟨by omega, n2⟩
    rintro H8 ⟨ms, k8, hp8, eD, hm, hms⟩
    have lms : ms.length < 64 := by omega
    have ms0 : ∀ n ∈ ms, n ≠ 0 := fun n hn => (hms n hn).1
    have ms60 : ∀ n ∈ ms, n ≠ 0 ∧ n.natAbs ≤ 60 := fun n hn => ⟨(hms n hn).1, by have := (hms n hn).2; omega⟩
    have msb : ∀ n ∈ ms, n.natAbs < 2 ^ 110 := fun n hn => Nat.lt_of_le_of_lt (ms60 n hn).2 (by decide)
    have s18 : Same H1 H8 := same_kp s16 np (k7.trans k8)
    clear k7 k8 hp6 hp7 hms
    -- kept
    refine ⟨_, rfl, D, _, rfl, .inl (SqL.of eD), fun kk nk => ?_⟩
    have s8 : Same H8 (upd H8 kk (.lst (ms.map V.int))) := same_new nk
    have eK : (upd H8 kk (.lst (ms.map V.int))) kk = some (.lst (ms.map V.int)) := upd_same
    have eD9 := s8 _ _ eD
    have hp9 := hp8.same s8
    have s19 := s18.trans s8
    generalize (upd H8 kk (.lst (ms.map V.int))) = H9 at *
    clear s8 s18 nk hp8 eD
    -- found
    refine ⟨_, rfl, D, ms, rfl, .inl (SqL.of eD9), lms, ms0, fun fv HA sA rA => ?_⟩
    obtain ⟨dv, hdv, ires⟩ := rA.dat (K := K)
    have fin := ires.fine msb (by omega)
    -- the three looks
    refine ⟨_, rfl, fv, dv, rfl, hdv, fin.sh, Nat.le_trans fin.dp (by omega), fin.len (by omega), ?_⟩
    refine ⟨_, rfl, D, ms, rfl, SqL.of (sA _ _ eD9), lms, ms60, fun v2 HB sB rB => ?_⟩
    obtain ⟨d2, hd2, ires2⟩ := rB.dat (K := K)
    obtain rfl := ires.eq ires2
    refine ⟨v2, dv, rfl, hd2, fin.sh, Nat.le_trans fin.dp (by omega), fin.len (by omega), rfl, _, rfl, ne_self ?_⟩
    refine ⟨_, rfl, D, _, rfl, .inl ⟨SqL.of (sB _ _ (sA _ _ eD9)), fun tt ntt => ?_⟩⟩
    have sC : Same HB (upd HB tt (.tup (ms.map V.int))) := same_new ntt
    refine ⟨tt, ms, rfl, .inr (SqT.of upd_same), lms, ms0, fun v3 HD sD rD => ?_⟩
    obtain ⟨d3, hd3, ires3⟩ := rD.dat (K := K)
    obtain rfl := ires.eq ires3
    have sAD : Same HA HD := sB.trans (sC.trans sD)
    refine ⟨v3, dv, rfl, hd3, fin.sh, Nat.le_trans fin.dp (by omega), fin.len (by omega), _, rfl, fv, dv, rfl, dpSame hdv sAD, fin.sh, Nat.le_trans fin.dp (by omega), fin.len (by omega), rfl, _, rfl, ne_self ?_⟩
    have s9D : Same H9 HD := sA.trans sAD
    refine ⟨_, rfl, _, rfl, .list (ms.map PyData.int), .list (ms.map PyData.int), .lst (SqL.of (s9D _ _ eD9)) (dpInts ms), .lst (SqL.of (s9D _ _ eK)) (dpInts ms), shInts ms, shInts ms, _, rfl, ?_⟩
    rw [show PyData.eqv (.list (ms.map PyData.int)) (.list (ms.map PyData.int)) = true from SeqAt.eqv_refl _ (SeqAt.canLay_of_shaped (shInts ms))]
    refine iteF ?_
    have hpD := hp9.same s9D
    have s1D := s19.trans s9D
    clear sA sB sC sD sAD s9D rA rB rD hdv hd2 hd3 ires ires2 ires3 fin hp9 eD9 eK s19
    -- one, other
    refine ⟨_, rfl, _, rfl, p, t, 8, rfl, hpD, by omega, by omega, fun c1 cs HE kE hpE nc ec cl hcm hcl => ?_⟩
    refine ⟨_, rfl, _, rfl, p, t, 8, rfl, hpE, by omega, by omega, fun c2 cs2 HF kF hpF nc2 ec2 cl2 hcm2 hcl2 => ?_⟩
    have ec1F : SqT K HF c1 (cs.map V.int) := kF.tup hpE (SqT.of ec)
    refine ⟨_, rfl, _, rfl, p, 3, rfl, hpF, by omega, by omega, fun d4 HG kG hpG d40 d41 => ⟨d4, rfl, c1, _, rfl, kG.tup hpF ec1F, fun r3 HI sI h3 => ?_⟩⟩
    have ec1I : SqT K HI c1 (cs.map V.int) := same_tup sI (kG.tup hpF ec1F)
    have ec2I : SqT K HI c2 (cs2.map V.int) := same_tup sI (kG.tup hpF (SqT.of ec2))
    have hpI := hpG.same sI
    refine ⟨_, rfl, (by show 3 ≤ sizeLine; decide), fun L nL => ?_⟩
    have sJ := same_new (o := .lst [.ref c2, .ref r3, .ref c1]) nL
    have hLp : L ≠ p := fun z => hpI.at (z ▸ nL)
    refine ⟨_, rfl, p, 3, rfl, hpI.same sJ, by omega, by omega, fun d5 HK kK hpK d50 d51 => ?_⟩
    obtain ⟨ov, ho1, ho2⟩ := atI_at (xs := [V.ref c2, V.ref r3, V.ref c1]) d50 d51
    have mvT : ∀ x xs, SqT K HI x xs → SqT K HK x xs := fun x xs h => kK.tup (hpI.same sJ) (same_tup sJ h)
    obtain ⟨oa, os, rfl, hos, los⟩ : ∃ (oa : Addr) (os : List Int), ov = .ref oa ∧ SqT K HK oa (os.map V.int) ∧ os.length ≤ 100 := by
      have m := List.mem_of_getElem? ho2
      simp only [List.mem_cons, List.not_mem_nil, or_false] at m
      rcases m with rfl | rfl | rfl
      · exact ⟨c2, cs2, rfl, mvT _ _ ec2I, hcl2⟩
      · refine ⟨r3, cutI cs (some d4) none, rfl, ?_, Nat.le_trans cutI_sub.2 hcl⟩
        rw [← cut_ints]
        exact mvT _ _ h3
      · exact ⟨c1, cs, rfl, mvT _ _ ec1I, hcl⟩
    refine ⟨L, _, d5, .ref oa, rfl, rfl, SqL.of (kK _ _ hLp upd_same), ho1, ?_⟩
    have hc1 : SqT K HK c1 (cs.map V.int) := mvT _ _ ec1I
    have s1K : Same H1 HK := same_kp s1D np (kE.trans (kF.trans (kG.trans ((Kp.of sI).trans ((Kp.of sJ).trans kK)))))
    clear kE kF kG sI sJ kK mvT ec1F ec1I ec2I h3 hpE hpF hpG hpI hpD s1D nL hLp ho1 ho2 ec ec2 nc nc2 d40 d41 d50 d51
    -- within
    refine ⟨_, rfl, _, rfl, oa, c1, os, cs, rfl, hos, hc1, by omega, fun HL sL => ?_⟩
    refine ⟨_, _, rfl, .bl _, rfl, (by show 0 ≤ 60; omega), bl0 _, ?_⟩
    refine ⟨_, rfl, oa, rfl, ⟨_, same_tup sL hos⟩, fun D2 nD2 => lc_tup (xs := os.map V.int) (fun i H' => Same HL H' ∧ H' D2 = some (.lst (((os.take i).filter fun n => !decide (n ∈ cs)).map V.int))) ⟨same_new nD2, upd_same⟩ (fun i H' _ h => same_tup h.1 (same_tup sL hos)) ?_ ?_⟩
    · rintro j x HM ex ⟨sM, eM⟩
      obtain ⟨n, rfl, hni, htk⟩ := at_int ex
      refine ⟨rfl, _, rfl, _, rfl, c1, n, cs, rfl, rfl, .inr (same_tup sM (same_tup sL hc1)), _, rfl, ite2 (fun c => ?_) (fun c => ?_)⟩
      · have c' : (!decide (n ∈ cs)) = true := c
        refine ⟨_, rfl, _, eM, ?_, ?_, ?_⟩
        · rw [List.length_map]
          exact small1000 (Nat.le_trans (List.length_filter_le _ _) (by rw [List.length_take]; omega))
        · exact fun b o hb => by rw [upd_ne (ne_of_none hb nD2)]; exact sM _ _ hb
        · rw [upd_same, htk, List.filter_append, List.map_append, List.filter_cons, if_pos c']; rfl
      · have c' : ¬ (!decide (n ∈ cs)) = true := c
        refine ⟨sM, ?_⟩
        rw [htk, List.filter_append, List.map_append, eM, List.filter_cons, if_neg c']; simp
    rintro HM ⟨sM, eM⟩
    rw [List.length_map, List.take_length] at eM
    refine ⟨(by show 0 ≤ sizeLine; decide), fun l2 nl2 => ?_⟩
    have sN : Same HM (upd HM l2 (.lst [])) := same_new nl2
    refine ⟨.list ((os.filter fun n => !decide (n ∈ cs)).map PyData.int), .list [], .lst (SqL.of (sN _ _ eM)) (dpInts _), .lst (SqL.of upd_same) .nil, shInts _, shNil, ?_⟩
    rw [eqvNil, all_key]
    refine ⟨_, _, rfl, .bl _, rfl, (by show 0 ≤ 60; omega), bl0 _, rfl, _, rfl, ne_self ?_⟩
    have sKN : Same HK (upd HM l2 (.lst [])) := sL.trans (sM.trans sN)
    generalize (upd HM l2 (.lst [])) = HN at *
    clear sL sM sN eM hos
    -- the fillings
    refine ⟨_, rfl, _, _, rfl, (if t < 7 then t else 7).toNat, ?_, ?_, fun sm ts HO sO nsm esm lts hts => ?_⟩
    · show [V.int (if t < 7 then t else 7)] = [V.int (((if t < 7 then t else 7).toNat : Nat) : Int)]
      rw [Int.toNat_of_nonneg (by split <;> omega)]
    · split <;> omega
    have hpO := (hpK.same sKN).same sO
    have s1O := s1K.trans (sKN.trans sO)
    have hc1O := same_tup sO (same_tup sKN hc1)
    clear sKN sO hpK s1K hc1
    refine ⟨fun σ' H' => ∃ (sm : Addr) (ts : List Addr) (y1 y4 y5 y6 y7 y9 y10 y12 y13 : Option V), σ' = [some (.ref a), y1, some (.ref p), some (.int t), y4, y5, y6, y7, some (.ref c1), y9, y10, some (.ref sm), y12, y13] ∧ Same H1 H' ∧ SqT K H' c1 (cs.map V.int) ∧
      H' sm = some (.lst (ts.map V.ref)) ∧ ∀ u ∈ ts, ∃ bs : List Bool, H' u = some (.tup (bs.map V.bl)), ?_, ?_⟩
    · refine ⟨_, rfl, _, _, rfl, rfl, _, rfl, ite2 (fun c => ?_) (fun c => ?_)⟩
      · refine ⟨_, rfl, by omega, by omega, fun D3 nD3 => lc_range (lo := 0) (n := (9 : Int).toNat) (fun j H' => ∃ ts : List Addr, Kp p HO H' ∧ Pl H' p ∧ H' D3 = some (.lst (ts.map V.ref)) ∧ ts.length = j ∧ ∀ u ∈ ts, ∃ bs : List Bool, H' u = some (.tup (bs.map V.bl))) ?_ ?_ ?_⟩
        · exact ⟨[], Kp.of (same_new nD3), hpO.same (same_new nD3), upd_same, rfl, fun u hu => nomatch hu⟩
        · rintro j HP hj ⟨ts, kP, hpP, eP, lt, hts⟩
          have hDp : D3 ≠ p := fun z => hpO.at (z ▸ nD3)
          refine ⟨rfl, _, rfl, _, rfl, by omega, by omega, fun D4 nD4 => lc_range (lo := 0) (n := t.toNat) (fun m H' => ∃ bs : List Bool, Kp p HP H' ∧ Pl H' p ∧ H' D4 = some (.lst (bs.map V.bl)) ∧ bs.length = m) ?_ ?_ ?_⟩
          · exact ⟨[], Kp.of (same_new nD4), hpP.same (same_new nD4), upd_same, rfl⟩
          · rintro m HQ hm ⟨bs, kQ, hpQ, eQ, lb⟩
            have hD4p : D4 ≠ p := fun z => hpP.at (z ▸ nD4)
            refine ⟨rfl, _, rfl, p, 2, rfl, hpQ, by omega, by omega, fun d6 HR kR hpR _ _ => ?_⟩
            refine ⟨rfl, _, kR _ _ hD4p eQ, ?_, bs ++ [decide (V.int d6 = V.int 1)], ?_, ?_, ?_, ?_⟩
            · rw [List.length_map]; exact small1000 (by omega)
            · exact fun b o nb hb => by rw [upd_ne (ne_of_none hb nD4)]; exact kR _ _ nb (kQ _ _ nb hb)
            · obtain ⟨x, y, e, r⟩ := hpR
              exact ⟨x, y, by rw [upd_ne hD4p.symm]; exact e, r⟩
            · rw [upd_same, List.map_append]; rfl
            · rw [List.length_append, lb]; rfl
          · rintro HQ ⟨bs, kQ, hpQ, eQ, lb⟩
            refine ⟨D4, _, rfl, .inl ⟨SqL.of eQ, fun u nu => ?_⟩⟩
            have sR : Same HQ (upd HQ u (.tup (bs.map V.bl))) := same_new nu
            have eu : (upd HQ u (.tup (bs.map V.bl))) u = some (.tup (bs.map V.bl)) := upd_same
            generalize (upd HQ u (.tup (bs.map V.bl))) = HR at *
            have eD3 := sR _ _ (kQ _ _ hDp eP)
            have keep : ∀ b xs, HR b = some (.tup xs) → (upd HR D3 (.lst (ts.map V.ref ++ [.ref u]))) b = some (.tup xs) := fun b xs hb => by rw [upd_ne (ne_of hb eD3 (by intro z; cases z))]; exact hb
            refine ⟨_, eD3, ?_, ts ++ [u], ?_, ?_, ?_, ?_, fun x hx => ?_⟩
            · rw [List.length_map]; have hj' : j < 9 := hj; exact small1000 (by omega)
            · exact fun b o nb hb => by rw [upd_ne (ne_of_none hb nD3)]; exact sR _ _ (kQ _ _ nb (kP _ _ nb hb))
            · obtain ⟨x, y, e, r⟩ := hpQ
              exact ⟨x, y, by rw [upd_ne hDp.symm]; exact sR _ _ e, r⟩
            · rw [upd_same, List.map_append]; rfl
            · rw [List.length_append, lt]; rfl
            · rcases List.mem_append.mp hx with z | z
              · obtain ⟨bs', hb'⟩ := hts x z
                have hxp : x ≠ p := fun e => by
                  subst e
                  obtain ⟨x1, x2, e1, _⟩ := hpP
                  rw [hb'] at e1; cases e1
                exact ⟨bs', keep _ _ (sR _ _ (kQ _ _ hxp hb'))⟩
              · rw [List.mem_singleton] at z; subst z
                exact ⟨bs, keep _ _ eu⟩
        · rintro HP ⟨ts, kP, hpP, eP, lt, hts⟩
          exact ⟨D3, ts, _, _, _, _, _, _, _, _, _, rfl, same_kp s1O np kP, kP.tup hpO hc1O, eP, hts⟩
      · refine ⟨sm, ts, _, _, _, _, _, _, _, _, _, rfl, s1O, hc1O, esm, fun u hu => ?_⟩
        obtain ⟨j, hj⟩ := List.getElem?_of_mem hu
        exact ⟨_, hts j u hj⟩
    clear s1O hc1O esm lts hts hpO nsm sm ts
    rintro _ HO' ⟨sm, ts, y1, y4, y5, y6, y7, y9, y10, y12, y13, rfl, s1O, hc1O, esm, hts⟩
    refine ⟨_, rfl, sm, rfl, ⟨_, SqL.of esm⟩, for_list (xs := ts.map V.ref) (fun _ σ' H' => ∃ y1 y4 y5 y6 y7 y9 y10 y12 y13, σ' = [some (.ref a), y1, some (.ref p), some (.int t), y4, y5, y6, y7, some (.ref c1), y9, y10, some (.ref sm), y12, y13] ∧ Same HO' H') ?_ ?_ ?_ ?_⟩
    · exact ⟨_, _, _, _, _, _, _, _, _, rfl, Same.refl _⟩
    · rintro j σ' H' _ ⟨_, _, _, _, _, _, _, _, _, _, sP⟩
      exact SqL.of (sP _ _ esm)
    · rintro j x σ' HP ex ⟨y1, y4, y5, y6, y7, y9, y10, y12, y13, rfl, sP⟩
      obtain ⟨u, hu, rfl⟩ := List.mem_map.mp (List.mem_of_getElem? ex)
      obtain ⟨bs, hbs⟩ := hts u hu
      have hbsP := sP _ _ hbs
      refine ⟨_, rfl, u, _, rfl, .inr (SqT.of hbsP), _, rfl, rfl, _, rfl, ite2 (fun c => ?_) (fun c => ⟨_, _, _, _, _, _, _, _, _, rfl, sP⟩)⟩
      have c' : (((bs.map V.bl).length : Nat) : Int) = t := V.int.inj (of_decide_eq_true c)
      rw [List.length_map] at c'
      have bnd : ∀ n ∈ cs, 1 ≤ n.natAbs ∧ n.natAbs ≤ bs.length := fun n hn => by
        have := cl.all n hn
        exact ⟨by omega, by omega⟩
      refine ⟨_, rfl, _, rfl, c1, u, cs, bs, rfl, same_tup sP hc1O, SqT.of hbsP, by omega, bnd, fun HQ sQ => ?_⟩
      refine ⟨_, _, rfl, .bl _, rfl, (by show 0 ≤ 60; omega), bl0 _, ?_⟩
      refine ⟨_, rfl, (by show 1 ≤ sizeLine; decide), fun l3 nl3 => ?_⟩
      have sR : Same HQ (upd HQ l3 (.lst [.ref c1])) := same_new nl3
      refine ⟨_, rfl, l3, u, [c1], [cs], bs, rfl, SqL.of upd_same, SqT.of (sR _ _ (sQ _ _ hbsP)), .cons (same_tup sR (same_tup sQ (same_tup sP hc1O))) .nil, by simp, fun z hz => ?_, fun HS sS => ?_⟩
      · rw [List.mem_singleton] at hz; subst hz; exact ⟨by omega, bnd⟩
      · have e : ([cs].all fun ns => ns.any (sayB bs)) = cs.any (sayB bs) := by simp
        rw [e]
        exact ⟨_, _, rfl, .bl _, rfl, (by show 0 ≤ 60; omega), bl0 _, rfl, _, rfl, ne_self ⟨_, _, _, _, _, _, _, _, _, rfl, sP.trans (sQ.trans (sR.trans sS))⟩⟩
    · rintro σ' HP ⟨y1, y4, y5, y6, y7, y9, y10, y12, y13, rfl, sP⟩
      exact ⟨_, _, _, _, _, _, _, _, _, _, _, _, _, rfl, s1.trans (s1O.trans sP)⟩
  · rintro σ' H1 ⟨y1, y2, y3, y4, y5, y6, y7, y8, y9, y10, y11, y12, y13, rfl, s1⟩
    refine ⟨(by show 0 ≤ sizeLine; decide), fun l nl => ?_⟩
    refine ⟨l, [], rfl, .inl (SqL.of upd_same), by simp, (fun n hn => nomatch hn), fun v H2 s2 r2 => ?_⟩
    rcases r2 with ⟨_, n, hn, _⟩ | ⟨r, cs, rfl, _, er, _, cl⟩
    · exact nomatch hn
    have ecs : cs = [] := by
      cases cs with
      | nil => rfl
      | cons c cs => exact absurd ((cl.mem c).mp List.mem_cons_self) (by simp)
    subst ecs
    refine ⟨(by show 0 ≤ sizeLine; decide), fun t0 nt0 => ?_⟩
    refine ⟨.tuple [], .tuple [], .tup (SqT.of ((same_new nt0) _ _ er)) .nil, .tup (SqT.of upd_same) .nil, by decide +kernel, by decide +kernel, _, rfl, ?_⟩
    rw [show PyData.eqv (.tuple []) (.tuple []) = true by decide +kernel]
    refine iteT ?_
    refine ⟨(by show 0 ≤ sizeLine; decide), fun t1 nt1 => ⟨(by show 1 ≤ sizeLine; decide), fun t2 nt2 => ?_⟩⟩
    refine ⟨t1, t2, [], [true], rfl, SqT.of ((same_new nt2) _ _ upd_same), SqT.of upd_same, by simp, (fun n hn => nomatch hn), fun H3 s3 => ?_⟩
    refine ⟨_, _, rfl, rfl, _, rfl, iteT ?_⟩
    refine ⟨(by show 0 ≤ sizeLine; decide), fun t3 nt3 => ⟨(by show 0 ≤ sizeLine; decide), fun t4 nt4 => ?_⟩⟩
    exact ⟨t3, t4, [], [], rfl, SqT.of ((same_new nt4) _ _ upd_same), SqT.of upd_same, by simp, fun H4 s4 => ⟨_, _, rfl, rfl, q H4⟩⟩

end
end K02
namespace K02
open PySem PySem.Spec PyProof.Rows L2 KL
theorem all_mk {l : PySem.W.OpenLaw} {w : World} {K : PySem.W.Frag} {h : Heap} {mg : Str → Option Value} {fa : Addr} (X : K.In h) (G : h.Ns mainGlobals mg) (hfa : mg "law" = some (.ref fa))
    {f_clause_of : Addr} {od_clause_of an_clause_of : Option Addr} {sl_clause_of : Array (Option Value)} {oc_clause_of kV_clause_of dc_clause_of pm_clause_of cd_clause_of ct_clause_of : Value}
    (a_clause_of : PySem.W.nsIn K mainGlobals "clause_of" = some (some (.ref f_clause_of)))
    (l_clause_of : K.lookup f_clause_of = some ⟨oc_clause_of, od_clause_of, .func (PySem.W.fnOf "clause_of" "clause_of" (defArgs s_clause_of) (defBody s_clause_of) (defScope s_clause_of) .none kV_clause_of dc_clause_of pm_clause_of an_clause_of cd_clause_of ct_clause_of), sl_clause_of⟩)
    (c_clause_of : PySem.W.codeIn K cd_clause_of "clause_of" = true) (k_clause_of : PySem.W.keepIn K (.ref f_clause_of) = true)
    {f_says : Addr} {od_says an_says : Option Addr} {sl_says : Array (Option Value)} {oc_says kV_says dc_says pm_says cd_says ct_says : Value}
    (a_says : PySem.W.nsIn K mainGlobals "says" = some (some (.ref f_says)))
    (l_says : K.lookup f_says = some ⟨oc_says, od_says, .func (PySem.W.fnOf "says" "says" (defArgs s_says) (defBody s_says) (defScope s_says) .none kV_says dc_says pm_says an_says cd_says ct_says), sl_says⟩)
    (c_says : PySem.W.codeIn K cd_says "says" = true) (k_says : PySem.W.keepIn K (.ref f_says) = true)
    {f_holds : Addr} {od_holds an_holds : Option Addr} {sl_holds : Array (Option Value)} {oc_holds kV_holds dc_holds pm_holds cd_holds ct_holds : Value}
    (a_holds : PySem.W.nsIn K mainGlobals "holds" = some (some (.ref f_holds)))
    (l_holds : K.lookup f_holds = some ⟨oc_holds, od_holds, .func (PySem.W.fnOf "holds" "holds" (defArgs s_holds) (defBody s_holds) (defScope s_holds) .none kV_holds dc_holds pm_holds an_holds cd_holds ct_holds), sl_holds⟩)
    (c_holds : PySem.W.codeIn K cd_holds "holds" = true) (k_holds : PySem.W.keepIn K (.ref f_holds) = true)
    {f_within : Addr} {od_within an_within : Option Addr} {sl_within : Array (Option Value)} {oc_within kV_within dc_within pm_within cd_within ct_within : Value}
    (a_within : PySem.W.nsIn K mainGlobals "within" = some (some (.ref f_within)))
    (l_within : K.lookup f_within = some ⟨oc_within, od_within, .func (PySem.W.fnOf "within" "within" (defArgs s_within) (defBody s_within) (defScope s_within) .none kV_within dc_within pm_within an_within cd_within ct_within), sl_within⟩)
    (c_within : PySem.W.codeIn K cd_within "within" = true) (k_within : PySem.W.keepIn K (.ref f_within) = true)
    {f_law_pool : Addr} {od_law_pool an_law_pool : Option Addr} {sl_law_pool : Array (Option Value)} {oc_law_pool kV_law_pool dc_law_pool pm_law_pool cd_law_pool ct_law_pool : Value}
    (a_law_pool : PySem.W.nsIn K mainGlobals "_law_pool" = some (some (.ref f_law_pool)))
    (l_law_pool : K.lookup f_law_pool = some ⟨oc_law_pool, od_law_pool, .func (PySem.W.fnOf "_law_pool" "_law_pool" (defArgs s_law_pool) (defBody s_law_pool) (defScope s_law_pool) .none kV_law_pool dc_law_pool pm_law_pool an_law_pool cd_law_pool ct_law_pool), sl_law_pool⟩)
    (c_law_pool : PySem.W.codeIn K cd_law_pool "_law_pool" = true) (k_law_pool : PySem.W.keepIn K (.ref f_law_pool) = true)
    {f_law_take : Addr} {od_law_take an_law_take : Option Addr} {sl_law_take : Array (Option Value)} {oc_law_take kV_law_take dc_law_take pm_law_take cd_law_take ct_law_take : Value}
    (a_law_take : PySem.W.nsIn K mainGlobals "_law_take" = some (some (.ref f_law_take)))
    (l_law_take : K.lookup f_law_take = some ⟨oc_law_take, od_law_take, .func (PySem.W.fnOf "_law_take" "_law_take" (defArgs s_law_take) (defBody s_law_take) (defScope s_law_take) .none kV_law_take dc_law_take pm_law_take an_law_take cd_law_take ct_law_take), sl_law_take⟩)
    (c_law_take : PySem.W.codeIn K cd_law_take "_law_take" = true) (k_law_take : PySem.W.keepIn K (.ref f_law_take) = true)
    {f_law_fillings : Addr} {od_law_fillings an_law_fillings : Option Addr} {sl_law_fillings : Array (Option Value)} {oc_law_fillings kV_law_fillings dc_law_fillings pm_law_fillings cd_law_fillings ct_law_fillings : Value}
    (a_law_fillings : PySem.W.nsIn K mainGlobals "_law_fillings" = some (some (.ref f_law_fillings)))
    (l_law_fillings : K.lookup f_law_fillings = some ⟨oc_law_fillings, od_law_fillings, .func (PySem.W.fnOf "_law_fillings" "_law_fillings" (defArgs s_law_fillings) (defBody s_law_fillings) (defScope s_law_fillings) .none kV_law_fillings dc_law_fillings pm_law_fillings an_law_fillings cd_law_fillings ct_law_fillings), sl_law_fillings⟩)
    (c_law_fillings : PySem.W.codeIn K cd_law_fillings "_law_fillings" = true) (k_law_fillings : PySem.W.keepIn K (.ref f_law_fillings) = true)
    {f_law_says : Addr} {od_law_says an_law_says : Option Addr} {sl_law_says : Array (Option Value)} {oc_law_says kV_law_says dc_law_says pm_law_says cd_law_says ct_law_says : Value}
    (a_law_says : PySem.W.nsIn K mainGlobals "_law_says" = some (some (.ref f_law_says)))
    (l_law_says : K.lookup f_law_says = some ⟨oc_law_says, od_law_says, .func (PySem.W.fnOf "_law_says" "_law_says" (defArgs s_law_says) (defBody s_law_says) (defScope s_law_says) .none kV_law_says dc_law_says pm_law_says an_law_says cd_law_says ct_law_says), sl_law_says⟩)
    (c_law_says : PySem.W.codeIn K cd_law_says "_law_says" = true) (k_law_says : PySem.W.keepIn K (.ref f_law_says) = true)
    {f_law_hold : Addr} {od_law_hold an_law_hold : Option Addr} {sl_law_hold : Array (Option Value)} {oc_law_hold kV_law_hold dc_law_hold pm_law_hold cd_law_hold ct_law_hold : Value}
    (a_law_hold : PySem.W.nsIn K mainGlobals "_law_hold" = some (some (.ref f_law_hold)))
    (l_law_hold : K.lookup f_law_hold = some ⟨oc_law_hold, od_law_hold, .func (PySem.W.fnOf "_law_hold" "_law_hold" (defArgs s_law_hold) (defBody s_law_hold) (defScope s_law_hold) .none kV_law_hold dc_law_hold pm_law_hold an_law_hold cd_law_hold ct_law_hold), sl_law_hold⟩)
    (c_law_hold : PySem.W.codeIn K cd_law_hold "_law_hold" = true) (k_law_hold : PySem.W.keepIn K (.ref f_law_hold) = true)
    {f_law_clause : Addr} {od_law_clause an_law_clause : Option Addr} {sl_law_clause : Array (Option Value)} {oc_law_clause kV_law_clause dc_law_clause pm_law_clause cd_law_clause ct_law_clause : Value}
    (a_law_clause : PySem.W.nsIn K mainGlobals "_law_clause" = some (some (.ref f_law_clause)))
    (l_law_clause : K.lookup f_law_clause = some ⟨oc_law_clause, od_law_clause, .func (PySem.W.fnOf "_law_clause" "_law_clause" (defArgs s_law_clause) (defBody s_law_clause) (defScope s_law_clause) .none kV_law_clause dc_law_clause pm_law_clause an_law_clause cd_law_clause ct_law_clause), sl_law_clause⟩)
    (c_law_clause : PySem.W.codeIn K cd_law_clause "_law_clause" = true) (k_law_clause : PySem.W.keepIn K (.ref f_law_clause) = true)
    {f_law_sign : Addr} {od_law_sign an_law_sign : Option Addr} {sl_law_sign : Array (Option Value)} {oc_law_sign kV_law_sign dc_law_sign pm_law_sign cd_law_sign ct_law_sign : Value}
    (a_law_sign : PySem.W.nsIn K mainGlobals "_law_sign" = some (some (.ref f_law_sign)))
    (l_law_sign : K.lookup f_law_sign = some ⟨oc_law_sign, od_law_sign, .func (PySem.W.fnOf "_law_sign" "_law_sign" (defArgs s_law_sign) (defBody s_law_sign) (defScope s_law_sign) .none kV_law_sign dc_law_sign pm_law_sign an_law_sign cd_law_sign ct_law_sign), sl_law_sign⟩)
    (c_law_sign : PySem.W.codeIn K cd_law_sign "_law_sign" = true) (k_law_sign : PySem.W.keepIn K (.ref f_law_sign) = true)
    {f_law_due : Addr} {od_law_due an_law_due : Option Addr} {sl_law_due : Array (Option Value)} {oc_law_due kV_law_due dc_law_due pm_law_due cd_law_due ct_law_due : Value}
    (a_law_due : PySem.W.nsIn K mainGlobals "_law_due" = some (some (.ref f_law_due)))
    (l_law_due : K.lookup f_law_due = some ⟨oc_law_due, od_law_due, .func (PySem.W.fnOf "_law_due" "_law_due" (defArgs s_law_due) (defBody s_law_due) (defScope s_law_due) .none kV_law_due dc_law_due pm_law_due an_law_due cd_law_due ct_law_due), sl_law_due⟩)
    (c_law_due : PySem.W.codeIn K cd_law_due "_law_due" = true) (k_law_due : PySem.W.keepIn K (.ref f_law_due) = true)
    {f_law : Addr} {od_law an_law : Option Addr} {sl_law : Array (Option Value)} {oc_law kV_law dc_law pm_law cd_law ct_law : Value}
    (a_law : PySem.W.nsIn K mainGlobals "law" = some (some (.ref f_law)))
    (l_law : K.lookup f_law = some ⟨oc_law, od_law, .func (PySem.W.fnOf "law" "law" (defArgs s_law) (defBody s_law) (defScope s_law) .none kV_law dc_law pm_law an_law cd_law ct_law), sl_law⟩)
    (c_law : PySem.W.codeIn K cd_law "law" = true) (k_law : PySem.W.keepIn K (.ref f_law) = true)
    (z_len : PySem.W.nsIn K mainGlobals "len" = some none)
    (z_range : PySem.W.nsIn K mainGlobals "range" = some none)
    (z_max : PySem.W.nsIn K mainGlobals "max" = some none)
    (z_min : PySem.W.nsIn K mainGlobals "min" = some none)
    (z_repr : PySem.W.nsIn K mainGlobals "repr" = some none)
    (z_int : PySem.W.nsIn K mainGlobals "int" = some none)
    (z_tuple : PySem.W.nsIn K mainGlobals "tuple" = some none)
    (z_list : PySem.W.nsIn K mainGlobals "list" = some none)
    (z_abs : PySem.W.nsIn K mainGlobals "abs" = some none)
    (z_any : PySem.W.nsIn K mainGlobals "any" = some none)
    (z_all : PySem.W.nsIn K mainGlobals "all" = some none)
    (z_sorted : PySem.W.nsIn K mainGlobals "sorted" = some none) :
    ∃ fd : FuncData, (∀ (s : Shared) (v : Value), BindsTo s fd ⟨[v], []⟩ [("_law_script", v)]) ∧ ∀ base : Heap, K.In base → base.Ns mainGlobals mg → GFn l.prog w K mg base CX0 3 fa fd ["_law_script"] (spLaw K) := by
  have e := hfa.symm.trans (PySem.W.mg_of X G a_law)
  cases e
  have F_law := fun_mk (st := s_law) l_law c_law k_law
  refine ⟨PySem.W.fnOf "law" "law" (defArgs s_law) (defBody s_law) (defScope s_law) .none kV_law dc_law pm_law an_law cd_law ct_law, fun s v => .of_eq rfl, fun base _ _ => ?_⟩
  have ml {x : Str} {v : Value} (q : PySem.W.nsIn K mainGlobals x = some (some v)) : mg x = some v := PySem.W.mg_of X G q
  have mn {x : Str} (q : PySem.W.nsIn K mainGlobals x = some none) : mg x = none := PySem.W.mg_none_of X G q
  have F_clause_of := fun_mk (st := s_clause_of) l_clause_of c_clause_of k_clause_of
  have D_clause_of : Df l.prog w K mg base 1 "clause_of" _ (spClOf K) := ⟨_, _, ok_clof F_clause_of (mn z_abs) (mn z_tuple) (mn z_sorted), k_clause_of, F_clause_of.binds fun _ _ _ _ _ _ us hl => match us, hl with | [_], _ => rfl, ml a_clause_of⟩
  have F_says := fun_mk (st := s_says) l_says c_says k_says
  have D_says : Df l.prog w K mg base 1 "says" _ (spSays K) := ⟨_, _, ok_says F_says (mn z_abs), k_says, F_says.binds fun _ _ _ _ _ _ us hl => match us, hl with | [_, _], _ => rfl, ml a_says⟩
  have F_holds := fun_mk (st := s_holds) l_holds c_holds k_holds
  have D_holds : Df l.prog w K mg base 2 "holds" _ (spHolds K) := ⟨_, _, ok_holds F_holds D_says (mn z_any), k_holds, F_holds.binds fun _ _ _ _ _ _ us hl => match us, hl with | [_, _], _ => rfl, ml a_holds⟩
  have F_within := fun_mk (st := s_within) l_within c_within k_within
  have D_within : Df l.prog w K mg base 1 "within" _ (spWithin K) := ⟨_, _, ok_within F_within (mn z_all), k_within, F_within.binds fun _ _ _ _ _ _ us hl => match us, hl with | [_, _], _ => rfl, ml a_within⟩
  have F_law_pool := fun_mk (st := s_law_pool) l_law_pool c_law_pool k_law_pool
  have D_law_pool : Df l.prog w K mg base 1 "_law_pool" _ (spPool K) := ⟨_, _, ok_pool F_law_pool (mn z_len) (mn z_int), k_law_pool, F_law_pool.binds fun _ _ _ _ _ _ us hl => match us, hl with | [_, _], _ => rfl, ml a_law_pool⟩
  have F_law_take := fun_mk (st := s_law_take) l_law_take c_law_take k_law_take
  have D_law_take : Df l.prog w K mg base 1 "_law_take" _ (spTake K) := ⟨_, _, ok_take F_law_take , k_law_take, F_law_take.binds fun _ _ _ _ _ _ us hl => match us, hl with | [_, _], _ => rfl, ml a_law_take⟩
  have F_law_fillings := fun_mk (st := s_law_fillings) l_law_fillings c_law_fillings k_law_fillings
  have D_law_fillings : Df l.prog w K mg base 1 "_law_fillings" _ (spFills K) := ⟨_, _, ok_fills F_law_fillings (mn z_range) (mn z_tuple), k_law_fillings, F_law_fillings.binds fun _ _ _ _ _ _ us hl => match us, hl with | [_], _ => rfl, ml a_law_fillings⟩
  have F_law_says := fun_mk (st := s_law_says) l_law_says c_law_says k_law_says
  have D_law_says : Df l.prog w K mg base 1 "_law_says" _ (spLSays K) := ⟨_, _, ok_lsays F_law_says (mn z_abs), k_law_says, F_law_says.binds fun _ _ _ _ _ _ us hl => match us, hl with | [_, _], _ => rfl, ml a_law_says⟩
  have F_law_hold := fun_mk (st := s_law_hold) l_law_hold c_law_hold k_law_hold
  have D_law_hold : Df l.prog w K mg base 2 "_law_hold" _ (spHold K) := ⟨_, _, ok_hold F_law_hold D_law_says, k_law_hold, F_law_hold.binds fun _ _ _ _ _ _ us hl => match us, hl with | [_, _], _ => rfl, ml a_law_hold⟩
  have F_law_clause := fun_mk (st := s_law_clause) l_law_clause c_law_clause k_law_clause
  have D_law_clause : Df l.prog w K mg base 2 "_law_clause" _ (spClause K) := ⟨_, _, ok_clause F_law_clause D_law_take (mn z_len) (mn z_range) (mn z_tuple), k_law_clause, F_law_clause.binds fun _ _ _ _ _ _ us hl => match us, hl with | [_, _, _], _ => rfl, ml a_law_clause⟩
  have F_law_sign := fun_mk (st := s_law_sign) l_law_sign c_law_sign k_law_sign
  have D_law_sign : Df l.prog w K mg base 2 "_law_sign" _ (spLSign K) := ⟨_, _, ok_lsign F_law_sign D_law_take, k_law_sign, F_law_sign.binds fun _ _ _ _ _ _ us hl => match us, hl with | [_, _], _ => rfl, ml a_law_sign⟩
  have F_law_due := fun_mk (st := s_law_due) l_law_due c_law_due k_law_due
  have D_law_due : Df l.prog w K mg base 1 "_law_due" _ (spDue K) := ⟨_, _, ok_due F_law_due (mn z_range) (mn z_tuple), k_law_due, F_law_due.binds fun _ _ _ _ _ _ us hl => match us, hl with | [_], _ => rfl, ml a_law_due⟩
  exact ok_law F_law (D_law_pool.mono (by decide)) (D_law_take.mono (by decide)) D_law_clause D_law_sign (D_clause_of.mono (by decide)) (D_law_due.mono (by decide)) (D_within.mono (by decide)) D_holds D_law_hold (D_law_fillings.mono (by decide))
    (mn z_len) (mn z_range) (mn z_max) (mn z_min) (mn z_repr) (mn z_tuple) (mn z_list)

end K02
open PySem PySem.W PyProof.Rows
set_option maxHeartbeats 0 in
theorem PySem.Challenge.cw_keptclauses_k02_clauses_of_signs_holds : PySem.Challenge.rw_keptclauses_k02_clauses_of_signs.Holds := by
  w_on; o_law; k_head; (case hw => w_witness2)
  k_fill
  refine KL.walk_g (l := PySem.Challenge.rw_keptclauses_k02_clauses_of_signs) (n := 63) (k := 3) (x := "_law_script") (sp := K02.spLaw) rfl (by decide) rfl ⟨rfl, by decide, by decide⟩ (fun w h Y => PySem.W.kIn_of Y) ?F (fun _ _ a ns hl _ hS => ⟨a, ns, rfl, hS, hl, fun _ => rfl⟩)
  case F =>
    intro w mg fa h KX G hmg
    refine' K02.all_mk KX G hmg ?a_clause_of ?l_clause_of ?c_clause_of ?k_clause_of ?a_says ?l_says ?c_says ?k_says ?a_holds ?l_holds ?c_holds ?k_holds ?a_within ?l_within ?c_within ?k_within ?a_law_pool ?l_law_pool ?c_law_pool ?k_law_pool ?a_law_take ?l_law_take ?c_law_take ?k_law_take ?a_law_fillings ?l_law_fillings ?c_law_fillings ?k_law_fillings ?a_law_says ?l_law_says ?c_law_says ?k_law_says ?a_law_hold ?l_law_hold ?c_law_hold ?k_law_hold ?a_law_clause ?l_law_clause ?c_law_clause ?k_law_clause ?a_law_sign ?l_law_sign ?c_law_sign ?k_law_sign ?a_law_due ?l_law_due ?c_law_due ?k_law_due ?a_law ?l_law ?c_law ?k_law ?z_len ?z_range ?z_max ?z_min ?z_repr ?z_int ?z_tuple ?z_list ?z_abs ?z_any ?z_all ?z_sorted
    (case a_clause_of => k_is); (case l_clause_of => k_is); (case c_clause_of => k_is); (case k_clause_of => k_is); (case a_says => k_is); (case l_says => k_is); (case c_says => k_is); (case k_says => k_is); (case a_holds => k_is); (case l_holds => k_is); (case c_holds => k_is); (case k_holds => k_is); (case a_within => k_is); (case l_within => k_is); (case c_within => k_is); (case k_within => k_is); (case a_law_pool => k_is); (case l_law_pool => k_is); (case c_law_pool => k_is); (case k_law_pool => k_is); (case a_law_take => k_is); (case l_law_take => k_is); (case c_law_take => k_is); (case k_law_take => k_is); (case a_law_fillings => k_is); (case l_law_fillings => k_is); (case c_law_fillings => k_is); (case k_law_fillings => k_is); (case a_law_says => k_is); (case l_law_says => k_is); (case c_law_says => k_is); (case k_law_says => k_is); (case a_law_hold => k_is); (case l_law_hold => k_is); (case c_law_hold => k_is); (case k_law_hold => k_is); (case a_law_clause => k_is); (case l_law_clause => k_is); (case c_law_clause => k_is); (case k_law_clause => k_is); (case a_law_sign => k_is); (case l_law_sign => k_is); (case c_law_sign => k_is); (case k_law_sign => k_is); (case a_law_due => k_is); (case l_law_due => k_is); (case c_law_due => k_is); (case k_law_due => k_is); (case a_law => k_is); (case l_law => k_is); (case c_law => k_is); (case k_law => k_is); (case z_len => k_is); (case z_range => k_is); (case z_max => k_is); (case z_min => k_is); (case z_repr => k_is); (case z_int => k_is); (case z_tuple => k_is); (case z_list => k_is); (case z_abs => k_is); (case z_any => k_is); (case z_all => k_is); (case z_sorted => k_is)
