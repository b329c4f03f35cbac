import PyProof.Rows.All
import Wide.All
import OpenK.AllK
import Wide.FinOn
import HandS.ForMost
import HandS.ForExc
import HandS.Strs
import HandS.SetFor
import HandS.SetKeys
import HandS.TupAny
import HandS.Style
import HandS.Gcd
import HandS.Wide
import HandS.IsInst
import HandS.Conv
import HandS.Flow
import PyProof.ReprRoads
import HandS.More
import PyProof.ReprLen
import HandS.ExcInit
import HandS.ExcField
import HandS.ExcIs
import KE.KExcInit
import HandS.MakeKw
import KE.KTryMore
import HandS.HotCalls
import KE.KUnpack
import HandS.Lambda
import HandS.Words
import HandS.EndTab
import KE.KNest
import HandS.Defaults
import HandS.HeadHook1
import HandS.HeadHook2
import HandS.HeadHook3
import HandS.HeadHook4
import HandS.Head0
import HandS.Head1
import HandS.Head2
import HandS.Head3
import HandS.HeadEnd
import HandS.SortInts
import KE.GoesEnum
import KE.KMathGC
import HandS.SetBool
import HandS.Zip
import HandS.Property
import HandS.ExcOwn
import HandS.ExcCtx
import HandS.MakeKwOnly
import HandS.Set
import HandS.List
import HandS.OwnEq
import HandS.SlotsOwn
import PyProof.InstNe
import OpenK.KOwn
import HandS.Small
import OpenK.KOps
import PyProof.Conv_bool
import PyProof.StrHeap
import PyProof.CallFns
import HandS.FStr
import HandS.Call
import PySem.Challenge.RW_rimorders_k09_lots_made_and_refused
set_option Elab.async false
set_option linter.all false
set_option maxRecDepth 100000
set_option maxHeartbeats 4000000
/-! general rules of mine: repr of data, set of a list of ints, t[:0:-1] -/
namespace Gn
open PySem PySem.Spec PyProof.Rows L2
section
variable {X : Cx}
/-! repr of lists and tuples -/
mutual
theorem dp_nodict {K : PySem.W.Frag} {H : Hp} : ∀ (d : PyData) (v : V), Dp K H v d → d.hasDict = false
  | .none, _, _ => by simp only [PyData.hasDict]
  | .bool _, _, _ => by simp only [PyData.hasDict]
  | .int _, _, _ => by simp only [PyData.hasDict]
  | .str _, _, _ => by simp only [PyData.hasDict]
  | .list ds, _, h => by
    cases h with
    | lst _ ha => simp only [PyData.hasDict]; exact dps_nodict ds _ ha
  | .tuple ds, _, h => by
    cases h with
    | tup _ ha => simp only [PyData.hasDict]; exact dps_nodict ds _ ha
  | .dict _, _, h => by cases h
theorem dps_nodict {K : PySem.W.Frag} {H : Hp} : ∀ (ds : List PyData) (vs : List V), DpAll K H vs ds → PyData.hasDictAll ds = false
  | [], _, _ => by simp only [PyData.hasDictAll]
  | d :: ds, _, h => by
    cases h with
    | cons h1 h2 => simp only [PyData.hasDictAll, dp_nodict d _ h1, dps_nodict ds _ h2, Bool.or_self]
end
/-- repr(x), x a list or a tuple of data -/
def rRepr (K : PySem.W.Frag) : List V → Hp → VK → Prop := fun xs H Q => ∃ a d, xs = [V.ref a] ∧ Dp K H (.ref a) d ∧ d.showable = true ∧ d.depth < 60 ∧ d.shown.length ≤ sizeLine ∧ Q (.str d.shown) H
theorem cr_repr (hg : X.A.guards = some []) (hu : X.A.units + 64 < cLine) : CallR X (.builtin "repr") (rRepr X.K) := by
  intro pins s σ H xs us Q I r h
  obtain ⟨a, d, rfl, hd, hs, hdp, hz, q⟩ := h
  rw [Vals.ref1 r]
  obtain ⟨as, rd⟩ := Dp.reads I d _ _ hd rfl
  exact repr_of_reads' rd hs (PySem.PyData.noDict_hsm (dp_nodict d _ hd)) hg (by omega) (fun _ _ e => e) (fun h' u tk k => ⟨.str d.shown, H, I.kept (t' := tk) k, ⟨u, rfl⟩, q⟩) hz
end
end Gn
set_option Elab.async false
set_option linter.all false
set_option maxRecDepth 100000
set_option maxHeartbeats 4000000
namespace Gn
open PySem PySem.Spec PyProof.Rows L2
/-- the empty set object as the machine lays it -/
abbrev eSet (w : World) : Obj := { cls := .type "set", dict := none, data := .set #[] 0 (.fresh 0 0 (!w.params.followText "set-order")) }
section
variable {P : Program} {w : World} {A : Around} {E : Value → Shared → Prop} {s : Shared}
/-- what the init leaves: a set of the ints ns at S, no older object changed -/
abbrev Filled (w : World) (ns : List Int) (s0 : Shared) (S : Addr) (s2 : Shared) : Prop := ∃ (h' : Heap) (tk c : Nat), s2 = { s0 with heap := h', toks := tk } ∧ SetR w h' S (fun j => decide (j ∈ ns)) c ∧ c ≤ ns.length ∧ ∀ b o, s0.heap.get? b = some o → h'.get? b = some o
set_option maxHeartbeats 6000000 in
/-- set(l), l a list of ints -/
theorem set_of_ints {l : Addr} {its : Array Value} (ns : List Int) {Q : Value → Shared → Prop} (hh : A.handled = none) (hl : s.heap.IsList l its) (hi : IntsAre its.toList ns) (hb : ns.length + 1 < scanBound)
    (h : ∀ s2, Filled w ns s s.heap.objs.size s2 → Q (.ref s.heap.objs.size) s2) : wpAny (model P w) A (call (.type "set") [.ref l]) Q E s := by
  have hN : its.size = ns.length := by have q := IntsAre.length hi; rw [Array.length_toList] at q; exact q
  obtain ⟨c, tl, hmro⟩ := F.called_set.mro; have hmade := F.called_set.made; have hsub := F.called_set.sub
  refine wpAny_call (codeAny_of_tree ?_); show wpAny _ _ (callAny (.type "set") _) _ _ _
  refine wpAny_pure ⟨Code.quiet_builtin _ (by decide +kernel), codeAny_builtin F.entry_type_call ?_⟩; rw [Around.under_plain (weight_type_call_type "set" [.ref l] []) rfl]
  have h1 := F.called_set.notType; have h2 := F.called_set.canCreate; have hct := F.typeCall_set_1 (.ref l)
  repeat (any_goals (first | assumption | wp_step))
  refine codeAny_mono (code_set_led1 (.ref l) (E := E) (Q₁ := fun v z => v = .ref s.heap.objs.size ∧ z = { s with heap := s.heap.push (eSet w) }) ⟨rfl, rfl⟩) fun r z hr => ?_
  cases r with
  | error e => exact hr
  | ok fl =>
    cases fl with
    | ret obj =>
      obtain ⟨rfl, rfl⟩ := hr
      have hS : (s.heap.push (eSet w)).get? s.heap.objs.size = some (eSet w) := Heap.get?_push_size _ rfl
      have hT : Shared.TypeIs { s with heap := s.heap.push (eSet w) } (.ref s.heap.objs.size) "set" := ⟨_, hS, rfl⟩
      have hli := F.called_set.init.lookup; have hbi := F.called_set.init.bind (.ref s.heap.objs.size)
      repeat (any_goals (first | assumption | wp_step))
      refine codeAny_mono (codeAny_call_builtin (R := wants (fun r z => r = .none ∧ Filled w ns s s.heap.objs.size z) E) F.called_set.init.plain F.entry_set_init (check_set_init_1 hT ?_)) fun r2 z2 hr2 => ?_
      · obtain ⟨⟨lc, ld, lx, ls⟩, hol, hcl, nl, hdl⟩ := hl
        simp only at hcl hdl
        subst hcl; subst hdl
        have hol' : (s.heap.push (eSet w)).get? l = some { cls := .type "list", dict := ld, data := .seq its nl, slots := ls } := Heap.get?_push_of_some _ hol
        have hsls := F.sub_list_set; have hslf := F.sub_list_frozenset; have hne : (Value.type "list" == Value.type "dict") = false := by decide
        have hl1 : (s.heap.push (eSet w)).IsList l its := ⟨_, hol', rfl, nl, rfl⟩
        unfold Builtin.«set.__init__» noKeywords Builtin.Frozenset.updateFrom
        generalize hPI : pyIter = PI
        wp_walk
        subst hPI
        refine wpAny_pyIter_list hl1 (wpAny_bind (wpAny_runValue ?_))
        have hlS : l < s.heap.objs.size := Heap.lt_size hol
        have h3 : A.in1.in1.in1.handled = none := by simp [hh]
        have z1 : (s.heap.push (eSet w)).objs.size = s.heap.objs.size + 1 := Heap.size_push ..
        have nI : l ≠ (s.heap.push (eSet w)).objs.size := by rw [z1]; exact Nat.ne_of_lt (Nat.lt_succ_of_lt hlS)
        have nF : s.heap.objs.size ∉ [(s.heap.push (eSet w)).objs.size, l] := by
          rw [z1]; intro q; rcases List.mem_cons.mp q with q | q
          · exact Nat.succ_ne_self _ q.symm
          · exact Nat.ne_of_gt hlS (List.mem_singleton.mp q)
        have hval : ∀ (i : Nat) (v : Value), its[i]? = some v → ∃ k t, ns[i]? = some k ∧ v = .int k t := fun i v hv => by
          have hil : i < ns.length := by rw [← hN]; exact (Array.getElem?_eq_some_iff.mp hv).1
          obtain ⟨t, e⟩ := IntsAre.int_at hi i v (by rw [Array.getElem?_toList]; exact hv)
          exact ⟨ns[i], t, List.getElem?_eq_getElem hil, by rw [e, List.getD_eq_getElem?_getD, List.getElem?_eq_getElem hil] <;> rfl⟩
        refine set_update_ints ((Walks.list h3 _ l nI its).toS) s.heap.objs.size nF ns hN hb hval (its.size - 0) 0 _ (by omega) (Nat.zero_le _) ⟨⟨_, Heap.get?_push_size _ rfl, rfl, rfl⟩, (hl1.push _)⟩ ⟨0, Nat.le_refl 0, setR_new_at (Heap.get?_push_of_some _ hS)⟩ ?_
        intro z' c' hm hc' hS'
        obtain ⟨h', g2, d', tk', os'⟩ := z'
        obtain rfl : g2 = s.gens := hm.gens
        obtain rfl : d' = s.drawn := hm.drawn
        obtain rfl : os' = s.os := hm.os
        show wpAny _ _ _ _ _ _
        refine wpAny_pure ?_; show wpAny _ _ (ret Value.none) _ _ _; rw [hN] at hc'
        refine wpAny_pure ⟨rfl, h', tk', c', rfl, hS', hc', fun b o e => ?_⟩
        have hb0 : b < s.heap.objs.size := Heap.lt_size e
        refine hm.heap b o (fun q => ?_) (Heap.get?_push_of_some _ (Heap.get?_push_of_some _ e))
        rcases List.mem_cons.mp q with q | q
        · exact Nat.ne_of_lt hb0 q
        · exact Nat.ne_of_lt (Nat.lt_succ_of_lt hb0) ((List.mem_singleton.mp q).trans z1)
      · cases r2 with
        | error e => exact hr2
        | ok fl2 =>
          cases fl2 with
          | ret r =>
            obtain ⟨rfl, h', tk, c', rfl, hS', hc', hk'⟩ := hr2
            repeat (any_goals (first | assumption | wp_step))
            exact h _ ⟨_, _, _, rfl, hS', hc', hk'⟩
          | _ => exact hr2.elim
    | _ => exact hr.elim
end
section
variable {X : Cx}
/-- set(l) of a list of fewer than 64 ints -/
def rSetI (K : PySem.W.Frag) (w : World) : List V → Hp → VK → Prop := fun xs H Q => ∃ (l : Addr) (ns : List Int), xs = [.ref l] ∧ SqL K H l (ns.map V.int) ∧ ns.length < 64 ∧ ∀ p c, H p = none → c ≤ ns.length → Q (.ref p) (upd H p (SetO w p (fun j => decide (j ∈ ns)) c))
theorem cr_setI (hc : X.calm = true) : CallR X (.type "set") (rSetI X.K X.w) := by
  intro pins s σ H xs us Q I r h
  obtain ⟨l, ns, rfl, hl, hf, q⟩ := h
  rw [Vals.ref1 r]
  obtain ⟨its, rv, pl, hz⟩ := I.list hl
  refine set_of_ints ns (I.ok.hd hc) pl.isList (by simpa using intsAre_of rv) (by unfold scanBound; omega) fun s2 hs => ?_
  obtain ⟨h', tk, c, rfl, hS, hcn, k⟩ := hs
  exact ⟨.ref s.heap.objs.size, _, I.laid (t' := tk) k (Nat.le_refl _) (setO_new hS), rfl, q _ c (I.hok.fresh (Nat.le_refl _)) hcn⟩
end
end Gn
set_option Elab.async false
set_option linter.all false
set_option maxRecDepth 100000
set_option maxHeartbeats 4000000
namespace Gn
open PySem PySem.Spec PyProof.Rows L2
/-! t[:0:-1], t a tuple -/
theorem back_adjust (n : Nat) : Builtin.Slice.slicePlaces (Builtin.Slice.sliceAdjust none (some 0) (-1) (n : Int)).1 (Builtin.Slice.sliceAdjust none (some 0) (-1) (n : Int)).2 (-1) = n - 1 ∧ (Builtin.Slice.sliceAdjust none (some 0) (-1) (n : Int)).1 = (n : Int) - 1 := by
  have a : (Builtin.Slice.sliceAdjust none (some 0) (-1) (n : Int)) = ((n : Int) - 1, min 0 ((n : Int) - 1)) := by
    simp only [Builtin.Slice.sliceAdjust, show ((-1 : Int) < 0) = True by decide, show ((0 : Int) < 0) = False by decide, if_true, if_false]
  rw [a]
  refine ⟨?_, rfl⟩
  unfold Builtin.Slice.slicePlaces
  simp only [show ((-1 : Int) > 0) = False by decide, if_false, show (-(-1) : Int) = 1 by decide, Int.ediv_one]
  split <;> omega
theorem back_pick (xs : Array Value) : ((List.range (xs.size - 1)).filterMap fun (m : Nat) => xs[(((xs.size : Nat) : Int) - 1 + (m : Int) * (-1)).toNat]?).toArray = (xs.toList.drop 1).reverse.toArray := by
  congr 1
  have g : ∀ k, k ≤ xs.size - 1 → ((List.range k).filterMap fun (m : Nat) => xs[(((xs.size : Nat) : Int) - 1 + (m : Int) * (-1)).toNat]?) = ((xs.toList.drop 1).reverse).take k := by
    intro k
    induction k with
    | zero => intro _; rfl
    | succ k ih =>
      intro hk
      have i1 : (((xs.size : Nat) : Int) - 1 + (k : Int) * (-1)).toNat = xs.size - 1 - k := by omega
      have i2 : xs.size - 1 - k < xs.size := by omega
      have hl : k < (xs.toList.drop 1).reverse.length := by rw [List.length_reverse, List.length_drop, Array.length_toList]; omega
      rw [List.range_succ, List.filterMap_append, ih (by omega), List.take_add_one, List.getElem?_eq_getElem hl]
      congr 1
      simp only [List.filterMap_cons, List.filterMap_nil, i1, Array.getElem?_eq_getElem i2, Option.toList]
      congr 1
      rw [List.getElem_reverse, List.getElem_drop]
      simp only [List.length_drop, Array.length_toList, Array.getElem_toList]
      congr 1
      omega
  rw [g _ (Nat.le_refl _)]
  refine List.take_of_length_le ?_
  rw [List.length_reverse, List.length_drop, Array.length_toList]
  exact Nat.le_refl _
section
variable {prog : Program} {w : World} {A : Around} {E : Value → Shared → Prop} {s : Shared}
theorem back_item {t sl : Addr} {its : Array Value} {vl vu vs : Value} {Q : Value → Shared → Prop} (ht : IsTup s.heap t its) (hs : s.heap.IsSliceOf sl vl vu vs) (pl : IsPart vl none) (pu : IsPart vu (some 0)) (ps : IsPart vs (some (-1)))
    (h : Q (.ref s.heap.objs.size) { s with heap := s.heap.push { cls := .type "tuple", data := .seq (its.toList.drop 1).reverse.toArray } }) (hz : its.size ≤ sizeLine) : wpAny (model prog w) A (getItem (.ref t) (.ref sl)) Q E s := by
  have hfit : sizeOk (.seq (its.toList.drop 1).reverse.toArray) := by
    show ((its.toList.drop 1).reverse).toArray.size ≤ sizeLine
    rw [List.size_toArray, List.length_reverse, List.length_drop, Array.length_toList]; omega
  obtain ⟨os, hos, hcs, hds⟩ := id hs
  unfold getItem
  try with_reducible refine wpAny_holding ?_
  first | refine wpAny_bind (wpAny_pure ?_) | skip
  refine wpAny_bind (wpAny_sequenceKey ht.typeIs (by decide) (wpAny_bind (wpAny_callSpecial?_slot (name := Str.ofString "__getitem__") ht.typeIs PyProof.Rows.slot_tuple_getitem (wpAny_call_entry PyProof.Rows.slot_tuple_getitem ht.typeIs PyProof.Rows.entry_tuple_getitem ?_ (PyProof.Rows.args_tuple_getitem _ _)))))
  show wpAny _ _ (Builtin.Tuple.tupleItemsOf (.ref t) >>= _) _ _ s
  refine wpAny_bind (PyProof.Rows.tupleItemsOf_ ht (wpAny_bind (wpAny_typeOf (show s.TypeIs (.ref sl) "slice" from ⟨os, hos, hcs⟩) ?_)))
  rw [if_pos (by decide)]
  refine wpAny_bind ?_
  unfold Builtin.Slice.sliceApplied Builtin.Slice.sliceFields
  refine wpAny_bind (wpAny_bind (wpAny_field hos hds (x := vl) rfl (wpAny_bind (wpAny_field hos hds (x := vu) rfl (wpAny_bind (wpAny_field hos hds (x := vs) rfl (wpAny_pure (wpAny_bind (HT.slicePart_ ps ?_)))))))))
  show wpAny _ _ (if ((-1 : Int) == 0) = true then _ else _) _ _ s
  rw [if_neg (by decide)]
  refine wpAny_bind (HT.slicePart_ pl (wpAny_bind (HT.slicePart_ pu (wpAny_bind (wpAny_pure ?_)))))
  have e1 := (back_adjust its.size).1
  have e2 := (back_adjust its.size).2
  show wpAny _ _ (pure ((Builtin.Slice.sliceAdjust none (some 0) (-1) (its.size : Int)).1, (-1 : Int), Builtin.Slice.slicePlaces (Builtin.Slice.sliceAdjust none (some 0) (-1) (its.size : Int)).1 (Builtin.Slice.sliceAdjust none (some 0) (-1) (its.size : Int)).2 (-1))) _ _ s
  rw [e1, e2]
  refine wpAny_pure ?_
  have no : ¬ ((((its.size : Nat) : Int) - 1 == 0 && (-1 : Int) == 1 && (its.size - 1) == its.size) = true) := by
    rw [show ((-1 : Int) == 1) = false by decide]; simp
  show wpAny _ _ (if ((((its.size : Nat) : Int) - 1 == 0 && (-1 : Int) == 1 && (its.size - 1) == its.size) = true) then _ else _) _ _ s
  rw [if_neg no, back_pick]
  first
    | exact wpAny_bind (m := Builtin.Tuple.tupleExact _) (wpAny_newObj_type (wpAny_pure ⟨_, rfl, wpAny_pure h⟩) hfit)
    | exact wpAny_bind (wpAny_bind (m := Builtin.Tuple.tupleExact _) (wpAny_newObj_type (wpAny_pure ⟨_, rfl, wpAny_pure h⟩) hfit))
    | exact wpAny_bind (wpAny_bind (m := Builtin.Tuple.tupleExact _) (wpAny_newObj_type (wpAny_pure (wpAny_pure ⟨_, rfl, wpAny_pure h⟩)) hfit))
end
def tBack (K : PySem.W.Frag) (te : TE) : TE := fun σ H Q => te σ H fun x H1 => ∃ a xs, x = .ref a ∧ SqT K H1 a xs ∧ ∀ p, H1 p = none → Q (.ref p) (upd H1 p (.tup (xs.drop 1).reverse))
section
variable {X : Cx}
theorem pe_back {e : Expr} {te : TE} {k k0 : Nat} {p0 p1 p2 p3 pos : Pos} (he : PE X e te) : PE X (.Subscript e (.Slice none (some (.Constant (.int 0) k0 p0)) (some (.UnaryOp .USub (.Constant (.int 1) k p1) p2)) p3) pos) (tBack X.K te) := by
  refine ⟨fun pins s σ H Q I h => ?_⟩
  refine Subscript_ (thn (he.run pins s σ H _ I h) fun v s1 ⟨x, H1, I1, r1, q1⟩ => ?_)
  obtain ⟨a, xs, ex, hx, q⟩ := q1
  subst ex
  cases r1
  have hup : PO X (some (.Constant (.int 0) k0 p0)) (tPart (tC (.int 0))) := po_some pe_int
  have hst : PO X (some (.UnaryOp .USub (.Constant (.int 1) k p1) p2)) (tPart (tUn (rU fun i => .int (-i)) (tC (.int 1)))) := po_some (pe_un un_neg pe_int)
  refine wpAny_Slice (thn (po_none.run pins s1 σ H1 (fun o H2 => o = none ∧ H2 = H1) I1 ⟨rfl, rfl⟩) fun vl s2 ⟨l, H2, I2, pl, el, e2⟩ => ?_)
  subst el e2
  refine thn (hup.run pins s2 σ H2 (fun o H3 => o = some 0 ∧ H3 = H2) I2 ⟨0, rfl, rfl, rfl⟩) fun vu s3 ⟨u, H3, I3, pu, eu, e3⟩ => ?_
  subst eu e3
  refine thn (hst.run pins s3 σ H3 (fun o H4 => o = some (-1) ∧ H4 = H3) I3 ⟨1, rfl, -1, rfl, rfl, rfl⟩) fun vs s4 ⟨o, H4, I4, ps, eo, e4⟩ => ?_
  subst eo e4
  have I5 : Inv X pins σ H4 { s4 with heap := s4.heap.push { cls := .type "slice", data := .fields #[vl, vu, vs] } } := I4.kept (t' := s4.toks) fun b ob q => Heap.get?_push_of_some _ q
  obtain ⟨its, r, ht, hz⟩ := I5.tuple hx
  have hlen := r.length
  show wpAny (model X.prog X.w) X.A (subscriptTail e (.Slice none (some (.Constant (.int 0) k0 p0)) (some (.UnaryOp .USub (.Constant (.int 1) k p1) p2)) p3) (.ref a) (.ref s4.heap.objs.size)) (EP X pins σ Q) X.xe { s4 with heap := s4.heap.push { cls := .type "slice", data := .fields #[vl, vu, vs] } }
  refine tail_any (ops := [.ref a, .ref s4.heap.objs.size]) ht.typeIs (PyProof.Rows.slot_tuple_getitem.lookup) ?_ (by with_unfolding_all rfl)
  refine back_item ht (Heap.IsSliceOf.new _ vl vu vs) pl pu ps ?_ (by rw [List.size_toArray]; omega)
  refine ⟨.ref _, _, I5.laid (t' := s4.toks) (o := .tup (xs.drop 1).reverse) (fun b ob q => Heap.get?_push_of_some _ q) (Nat.le_refl _) ?_, rfl, q _ (I5.hok.fresh (Nat.le_refl _))⟩
  exact ⟨by rw [List.length_reverse, List.length_drop]; omega, _, (Vals.drop 1 r).reverse, ⟨_, Heap.get?_push_size _ rfl, rfl, _, rfl⟩⟩
end
end Gn
set_option Elab.async false
set_option linter.all false
set_option maxRecDepth 100000
set_option maxHeartbeats 4000000
namespace Gn
open PySem PySem.Spec PyProof.Rows L2
/-- a def's promise where no repr runs around (the guards are known to be none) -/
structure FnG (P : Program) (w : World) (K : PySem.W.Frag) (mg : Str → Option Value) (base : Heap) (CX : CXT) (k : Nat) (f : Addr) (fd : FuncData) (ps : List Str) (sp : Sp) : Prop where
  len : ∀ vs H Q E, sp vs H Q E → vs.length = ps.length
  run : ∀ (A : Around) (outer : List Env) (s : Shared) (H : Hp) (args : Args) (us : List Value) (vs : List V) (Q : VK) (E : XK), A.guards = some [] → Room k A → Env0 P w K mg base A outer s H → BindsTo s fd args (ps.zip us) → Vals vs us → sp vs H Q E →
    codeAny (model P w) A (.call (.ref f) args) (CR CX outer P w H s Q E) s
section
variable {P : Program} {w : World} {K : PySem.W.Frag} {mg : Str → Option Value} {base : Heap}
theorem FnG.of {CX : CXT} {k : Nat} {f : Addr} {fd : FuncData} {ps : List Str} {sp : Sp} (F : FnOk P w K mg base CX k f fd ps sp) : FnG P w K mg base CX k f fd ps sp := ⟨F.len, fun A o s H a us vs Q E _ => F.run A o s H a us vs Q E⟩
theorem funG {CX : CXT} {x qual : Str} {st : Stmt} {f : Addr} {fd : FuncData} {N ps : List Str} {k : Nat} {sp : Sp} (F : Fun K x qual st f fd) (S : FnScope N ps (defScope st)) (len : ∀ vs H Q E, sp vs H Q E → vs.length = ps.length)
    (hbody : ∀ (cdv : Value) (A : Around) (outer : List Env) (s : Shared) (H : Hp) (vs : List V) (Q : VK) (E : XK), (A.deeper (envOfC qual (defScope st) s.heap.objs.size f cdv)).guards = some [] → Room k (A.deeper (envOfC qual (defScope st) s.heap.objs.size f cdv)) → sp vs H Q E →
      ∃ t, PSs (cxOf CX P w K mg base N qual (defScope st) f cdv A outer s H E) (defBody st) t ∧ t { nx := fun _ H' => Q .non H', rt := Q } (start N vs) H) : FnG P w K mg base CX (k + 1) f fd ps sp := by
  obtain ⟨oc, od, kV, doc, pm, an, cdv, ct, osl, rfl, lk, hcd⟩ := F.ex
  refine ⟨len, fun A outer s H args us vs Q E hg hr e0 hb r hsp => ?_⟩
  have KX : K.In s.heap := e0.mod.kin.keeps fun b o e => (e0.bs b o e).1
  have hkind : ∀ y ∈ ps.zip us, (defScope st).names.lookup y.1 = some .local ∨ ((defScope st).names.lookup y.1 = some .cell ∧ ((cellsFrom (s.heap.objs.size + 1) (defScope st).names []).lookup y.1).isSome = true) := fun y hy =>
    (S.par y.1 (List.of_mem_zip hy).1).elim .inl fun q => .inr ⟨q, PySem.W.cellsFrom_some _ _ _ (.inl q)⟩
  refine codeAny_call_function hr.depth (KX _ _ lk) rfl S.co S.gen rfl (PySem.W.codeRec_of KX hcd) (hb _ _ _ _ (wpAny_newFunctionEnv_cells S.kind hkind fun env he s1 x => ?_))
  subst he
  refine ⟨(e0.mod.nolimit.keeps fun b o e => (e0.bs b o e).1).keeps x.toInCall.keep, codeAny_func ?_⟩
  obtain ⟨t, ht, hq⟩ := hbody cdv A outer s H vs Q E hg (hr.deeper _) hsp
  have I : Inv (cxOf CX P w K mg base N qual (defScope st) f cdv A outer s H E) [] (start N vs) H s1 := inv_start S hr.hd e0 (len _ _ _ _ hsp) r x
  refine wpAny_mono (ht.run [] s1 (start N vs) H _ I hq) (fun fl s' hs => ?_) fun _ _ hs => hs
  cases fl with
  | ret u => obtain ⟨v, σ', H', J, rv, q⟩ := hs; exact ⟨v, H', J.os, J.bare, J.base, J.hok, rv, q⟩
  | next => obtain ⟨σ', H', J, q⟩ := hs; exact ⟨V.non, H', J.os, J.bare, J.base, J.hok, rfl, q⟩
  | brk => obtain ⟨_, _, _, q⟩ := hs; exact False.elim q
  | cont => obtain ⟨_, _, _, q⟩ := hs; exact False.elim q
/-- as Fun.ok: nothing leaves the def -/
theorem funG0 {x qual : Str} {st : Stmt} {f : Addr} {fd : FuncData} {N ps : List Str} {k : Nat} {sp : Sp} (F : Fun K x qual st f fd) (S : FnScope N ps (defScope st)) (len : ∀ vs H Q E, sp vs H Q E → vs.length = ps.length)
    (hbody : ∀ (cdv : Value) (A : Around) (outer : List Env) (s : Shared) (H : Hp) (vs : List V) (Q : VK) (E : XK), (A.deeper (envOfC qual (defScope st) s.heap.objs.size f cdv)).guards = some [] → Room k (A.deeper (envOfC qual (defScope st) s.heap.objs.size f cdv)) → sp vs H Q E →
      ∃ t, PSs (cxOf CX0 P w K mg base N qual (defScope st) f cdv A outer s H E).nox (defBody st) t ∧ t { nx := fun _ H' => Q .non H', rt := Q } (start N vs) H) : FnG P w K mg base CX0 (k + 1) f fd ps sp :=
  funG F S len fun cdv A outer s H vs Q E hg hr hsp => by
    obtain ⟨t, h, q⟩ := hbody cdv A outer s H vs Q E hg hr hsp
    exact ⟨t, h.nox, q⟩
end
section
variable {X : Cx} {CX : CXT} {k : Nat} {f : Addr} {fd : FuncData} {ps ks : List Str} {sp : Sp} {dvs : List V} {ds : List Value} {E : XK} {x : Str} {p pos : Pos} {e : Expr} {es : List Expr} {kws : List Keyword} {t tk : TA}
theorem back_of {pins : List (Addr × Obj)} {σ : L2.St} {H : Hp} {s s' : Shared} {Q : VK} (hx : Passes CX X E) (I : Inv X pins σ H s) {r : Result} (h : CR CX X.stack X.prog X.w H s Q E r s') :
    match r with | .ok (.ret u) => EP X pins σ Q u s' | .ok _ => False | .error e => X.xe e s' := by
  cases r with
  | error e => exact hx pins σ H s e s' I h
  | ok fl => cases fl with
    | ret u => exact I.after h
    | next => exact h
    | brk => exact h
    | cont => exact h
theorem run_fnG {pins : List (Addr × Obj)} {σ : L2.St} {H : Hp} {s : Shared} {Q : VK} {us : List Value} {vs : List V} (F : FnG X.prog X.w X.K X.mg X.base CX k f fd ps sp) (hg : X.A.guards = some []) (hr : Room k X.A) (hb : Binds X.K fd ps ds) (hd : Vals dvs ds) (hx : Passes CX X E)
    (I : Inv X pins σ H s) (r : Vals vs us) (h : sp (vs ++ dvs) H Q E) : wpAny (model X.prog X.w) X.A (call (.ref f) us) (EP X pins σ Q) X.xe s := by
  have r2 : Vals (vs ++ dvs) (us ++ ds) := r.append hd
  refine wpAny_call (codeAny_mono (F.run X.A X.stack s H ⟨us, []⟩ (us ++ ds) (vs ++ dvs) Q E hg hr I.env0 (hb s us I.kIn (by rw [← r2.length]; exact F.len _ _ _ _ h)) r2 h) fun r s' hq => ?_)
  have z := back_of hx I hq
  cases r with
  | error e => exact z
  | ok fl => cases fl with
    | ret u => exact z
    | next => exact z.elim
    | brk => exact z.elim
    | cont => exact z.elim
theorem pe_callG (F : FnG X.prog X.w X.K X.mg X.base CX k f fd ps sp) (hgu : X.A.guards = some []) (hr : Room k X.A) (hg : Gl X x) (hm : X.mg x = some (.ref f)) (hk : PySem.W.keepIn X.K (.ref f) = true) (hb : Binds X.K fd ps ds) (hd : Vals dvs ds) (hx : Passes CX X E)
    (ha : PA X (e :: es) t) (hdb : (x == ("__debug__" : Str)) = false := by decide) (he : starEach (e :: es) X.env = (false, eval e X.env) :: starEach es X.env := by rfl) (hpl : (backTo pos (starEach es X.env)).any (·.1) = false := by rfl) :
    PE X (.Call (.Name x p) (e :: es) [] pos) (tCall sp dvs E t) := ⟨fun pins s σ H Q I h =>
  wpAny_Call_Name_kw (ld_glob I hg hm (PySem.W.callWith_K (h₀ := X.base) I.ok.mod.kin hk (thn (ha.run pos pins s σ H _ I h) fun us s1 ⟨vs, H1, I1, r, q⟩ => ⟨I1.kIn, run_fnG F hgu hr hb hd hx I1 r q⟩) he hpl) hdb)⟩
end
/-! the end of a law -/
section
variable {P : Program} {w : World} {K : PySem.W.Frag} {mg mb : Str → Option Value}
theorem lawG {CX : CXT} {k : Nat} {fa a : Addr} {fd : FuncData} {x : Str} {sp : Sp} {s₁ : Shared} {vs : List Value} {ns : List Int}
    (KX : K.In s₁.heap) (hns : s₁.heap.Ns mainGlobals mg) (hb : s₁.heap.Ns builtinsNs mb) (hbb : ∀ x : Str, x ≠ "__name__" → mb x = bootBuiltins x) (hlim : s₁.heap.NoLimit) (hg : s₁.gens = #[])
    (ha : s₁.heap.get? a = some { cls := .type "list", data := .seq vs.toArray }) (hi : IntsAre vs ns) (hl : ns.length ≤ sizeLine) (hr : Room k callerA)
    (F : ∀ base : Heap, K.In base → base.Ns mainGlobals mg → FnG P w K mg base CX k fa fd [x] sp) (hbind : ∀ (s : Shared) (u : Value), BindsTo s fd ⟨[u], []⟩ [(x, u)])
    (hsp : ∀ H : Hp, Only H → SqL K H a (ns.map V.int) → sp [.ref a] H (fun v _ => v = .bl true) fun _ _ _ => False) (hCX : ∀ H e s', CX [] H s₁ (fun _ _ _ => False) e s' → False) :
    codeAny (model P w) callerA (.call (.ref fa) ⟨[.ref a], []⟩) (fun r s' => r = .ok (.ret (.bool true)) ∧ OldK s₁.heap s'.heap ∧ s'.os = s₁.os ∧ AllBare s'.gens) s₁ := by
  have rv := vals_ints hi
  have main : ∀ H : Hp, Only H → SqL K H a (ns.map V.int) → HOk P w H s₁.heap → (∀ b, H b ≠ none → b = a ∧ K.lookup a = none) →
      codeAny (model P w) callerA (.call (.ref fa) ⟨[.ref a], []⟩) (fun r s' => r = .ok (.ret (.bool true)) ∧ OldK s₁.heap s'.heap ∧ s'.os = s₁.os ∧ AllBare s'.gens) s₁ := by
    intro H hO hS hok hA
    have untr : ∀ {b : Addr}, b ≠ a ∨ K.lookup a ≠ none → H b = none := fun {b} h => by
      cases q : H b with
      | none => rfl
      | some u => have z := hA b (by rw [q]; simp); exact (h.elim (fun n => n z.1) fun n => n z.2).elim
    have ns_of : ∀ {b : Addr} {m : Str → Option Value}, s₁.heap.Ns b m → (hidT s₁.heap H).Ns b m := fun {b m} ⟨o, es, ep, e, d, r⟩ => ⟨o, es, ep, hidT_get e (untr (.inl fun z => by
      subst z
      rw [ha] at e
      cases e
      exact absurd (show Data.seq vs.toArray _ = Data.dict es ep from d) (fun z => by cases z))), d, r⟩
    have kb : K.In (hidT s₁.heap H) := fun b o e => hidT_get (KX b o e) (by
      by_cases z : b = a
      · exact untr (.inr fun y => by subst z; rw [y] at e; cases e)
      · exact untr (.inl z))
    have md : Mod K mg (hidT s₁.heap H) := ⟨kb, ns_of hns, ⟨mb, ns_of hb, hbb⟩, let ⟨mc, h1, h2⟩ := hlim; ⟨mc, ns_of h1, h2⟩⟩
    have e0 : Env0 P w K mg (hidT s₁.heap H) callerA [] s₁ H := ⟨rfl, md, fun b o e => of_hidT e, Nat.le_of_eq (hidT_size _ _), trivial, fun b hb => absurd (show b ∈ ([] : List Addr) from hb) (by simp), hok, .of_eq hg⟩
    refine codeAny_mono ((F _ kb (ns_of hns)).run callerA [] s₁ H ⟨[.ref a], []⟩ [.ref a] [.ref a] _ _ rfl hr e0 (hbind s₁ (.ref a)) (.cons rfl .nil) (hsp H hO hS)) fun r s' h => ?_
    cases r with
    | error e => exact (hCX H e s' h).elim
    | ok fl => cases fl with
      | next => exact False.elim h
      | brk => exact False.elim h
      | cont => exact False.elim h
      | ret u =>
        obtain ⟨v, H', os, bare, un, hok', r', q⟩ := h
        obtain rfl : v = .bl true := q
        obtain rfl : u = Value.bool true := r'
        refine ⟨rfl, OldK.of_keep fun b o e => ?_, os, bare⟩
        rcases hO b with z | ⟨ob, xs, z⟩
        · exact un.keep b o e z (fun y => nomatch y) (fun y => nomatch y)
        · obtain ⟨e1, _⟩ := hok b _ z
          obtain ⟨e2, _⟩ := hok' b _ (un.frzs b ob _ z)
          exact e2.trans (e1.symm.trans e)
  cases hk : K.lookup a with
  | some o =>
    have e := KX a o hk
    rw [ha] at e
    cases e
    exact main (fun _ => none) (fun _ => .inl rfl) (.inr ⟨_, vs.toArray, _, hk, rfl, rfl, rfl, by rw [List.size_toArray, hi.length]; exact hl, by simpa using rv⟩) (fun b u z => by cases (show (none : Option HO) = some u from z)) fun b z => absurd rfl z
  | none =>
    have at_ : ∀ {b : Addr} {u : HO}, (if b = a then some (HO.frz { cls := .type "list", data := .seq vs.toArray } (.lst (ns.map V.int))) else none) = some u → b = a ∧ u = .frz { cls := .type "list", data := .seq vs.toArray } (.lst (ns.map V.int)) := fun {b u} z => by
      by_cases y : b = a
      · rw [if_pos y] at z; exact ⟨y, (Option.some.inj z).symm⟩
      · rw [if_neg y] at z; cases z
    refine main (fun b => if b = a then some (.frz { cls := .type "list", data := .seq vs.toArray } (.lst (ns.map V.int))) else none) (fun b => ?_) (.inl (.inr ⟨{ cls := .type "list", data := .seq vs.toArray }, if_pos rfl⟩)) (fun b u z => ?_) fun b z => ⟨?_, hk⟩
    · by_cases y : b = a
      · exact .inr ⟨_, _, if_pos y⟩
      · exact .inl (if_neg y)
    · obtain ⟨rfl, rfl⟩ := at_ z
      exact ⟨ha, by rw [List.length_map]; exact hl, vs, _, rv, ha⟩
    · by_cases y : b = a
      · exact y
      · exact absurd (if_neg y) z
theorem walkG {l : PySem.W.OpenLaw} {n k : Nat} {q : Program} {loose : List Str} {XP : (Str → Option Value) → Heap → Prop} {YP : World → Heap → Prop} {d : DefRec} {K : Params → PySem.W.Frag} {CX : World → CXT} {sp : World → Sp} {x : Str}
    (hn : l.most = some n) (hn2 : n ≤ sizeLine) (hdf : d.params.defaults = []) (hr : Room k callerA) (hY : ∀ (w : World) (h : Heap), YP w h → (K w.params).In h)
    (F : ∀ (w : World) (mg : Str → Option Value) (fa : Addr) (h : Heap), (K w.params).In h → h.Ns mainGlobals mg → mg d.name = some (.ref fa) →
      ∃ fd : FuncData, (∀ (s : Shared) (u : Value), BindsTo s fd ⟨[u], []⟩ [(x, u)]) ∧ ∀ base : Heap, (K w.params).In base → base.Ns mainGlobals mg → FnG l.prog w (K w.params) mg base (CX w) k fa fd [x] (sp w))
    (hsp : ∀ (w : World) (H : Hp) (a : Addr) (ns : List Int), ns.length ≤ n → Only H → SqL (K w.params) H a (ns.map V.int) → sp w [.ref a] H (fun v _ => v = .bl true) fun _ _ _ => False)
    (hCX : ∀ (w : World) (H : Hp) (s : Shared) (e : Value) (s' : Shared), CX w [] H s (fun _ _ _ => False) e s' → False) : PySem.W.WalkO q loose XP YP l.row.toRowW d [] (fun f vs => PySem.call f vs) :=
  Att.attach_call hn hdf fun w s₀ s₁ mg mb fa o pm cd doc a vs ns G Y ho hd hcd hmg hobj hints hlen hg => by
    obtain ⟨fd, hb, hF⟩ := F w mg fa _ (hY w _ Y) G.T.g hmg
    exact lawG (hY w _ Y) G.T.g G.T.b G.T.builtins G.T.nolimit hg hobj hints (Nat.le_trans hlen hn2) hr hF hb (fun H hO hS => hsp w H a ns hlen hO hS) fun H e s' => hCX w H s₁ e s'
end
end Gn
set_option Elab.async false
set_option linter.all false
set_option maxRecDepth 100000
set_option maxHeartbeats 4000000
namespace Gn
open PySem PySem.Spec PyProof.Rows L2
section
variable {X : Cx} {CX : CXT} {k : Nat} {f : Addr} {fd : FuncData} {ps ks : List Str} {sp : Sp} {E : XK} {x : Str} {p pos : Pos} {kws : List Keyword} {tk : TA} {g : List Value → List Value → List Value} {gV : List V → List V → List V}
/-- f(k = v, ..): keywords alone -/
theorem pe_callK0 (F : FnOk X.prog X.w X.K X.mg X.base CX k f fd ps sp) (hr : Room k X.A) (hg : Gl X x) (hm : X.mg x = some (.ref f)) (hk : PySem.W.keepIn X.K (.ref f) = true) (hb : KBinds X.K fd ps ks g gV) (hx : Passes CX X E) (hkw : PK X kws tk)
    (hall : (backToKw pos (keywordEach kws X.env)).all (·.1.isSome) = true := by rfl) (hks : (backToKw pos (keywordEach kws X.env)).filterMap (·.1) = ks := by rfl) (hdb : (x == ("__debug__" : Str)) = false := by decide)
    (hpl : ((backTo pos (starEach [] X.env)).any (·.1) || (backToKw pos (keywordEach kws X.env)).any (·.1.isNone)) = false := by rfl) : PE X (.Call (.Name x p) [] kws pos) (tCallK sp gV E tNil tk) := ⟨fun pins s σ H Q I h =>
  wpAny_Call_Name_kw (ld_glob I hg hm (PySem.W.callWith_KW0 (h₀ := X.base) I.ok.mod.kin hk hall (thn (hkw.run pos pins s σ H _ I h) fun ws s2 ⟨zs, H2, I2, rz, q2⟩ => ⟨I2.kIn, by
    rw [hks]
    exact run_fnk (us := []) (vs := []) F hr hb hx I2 .nil rz q2⟩) hpl) hdb)⟩
end
/-! keywords in the parameters' order, and two the other way round -/
def kw1 {α : Type} : List α → List α → List α
  | [], [a] => [a]
  | _, _ => []
def kw2 {α : Type} : List α → List α → List α
  | [], [a, b] => [a, b]
  | _, _ => []
def kw2s {α : Type} : List α → List α → List α
  | [], [a, b] => [b, a]
  | _, _ => []
section
variable {K : PySem.W.Frag} {fd : FuncData} {ps ks : List Str}
theorem kb1 {p : Str} (h : ∀ a : Value, bindArgs fd ⟨[], [(p, a)]⟩ = pure [(p, a)]) : KBinds K fd [p] [p] kw1 kw1 :=
  ⟨fun s us ws _ hl => match us, ws, hl with
    | [], [a], _ => .of_eq (h a)
    | [], [], z => (nomatch z)
    | [], _ :: _ :: _, z => (nomatch z)
    | _ :: _, _, z => (nomatch z), fun {vs us zs ws} r rz => by
    cases r with
    | nil => cases rz with
      | nil => exact .nil
      | cons a b => cases b with
        | nil => exact .cons a .nil
        | cons _ _ => exact .nil
    | cons _ _ => exact .nil⟩
theorem kb2 {p q : Str} (h : ∀ a b : Value, bindArgs fd ⟨[], [(p, a), (q, b)]⟩ = pure [(p, a), (q, b)]) : KBinds K fd [p, q] [p, q] kw2 kw2 :=
  ⟨fun s us ws _ hl => match us, ws, hl with
    | [], [a, b], _ => .of_eq (h a b)
    | [], [], z => (nomatch z)
    | [], [_], z => (nomatch z)
    | [], _ :: _ :: _ :: _, z => (nomatch z)
    | _ :: _, _, z => (nomatch z), fun {vs us zs ws} r rz => by
    cases r with
    | nil => cases rz with
      | nil => exact .nil
      | cons a b => cases b with
        | nil => exact .nil
        | cons c d => cases d with
          | nil => exact .cons a (.cons c .nil)
          | cons _ _ => exact .nil
    | cons _ _ => exact .nil⟩
theorem kb2s {p q : Str} (h : ∀ a b : Value, bindArgs fd ⟨[], [(q, b), (p, a)]⟩ = pure [(p, a), (q, b)]) : KBinds K fd [p, q] [q, p] kw2s kw2s :=
  ⟨fun s us ws _ hl => match us, ws, hl with
    | [], [b, a], _ => .of_eq (h a b)
    | [], [], z => (nomatch z)
    | [], [_], z => (nomatch z)
    | [], _ :: _ :: _ :: _, z => (nomatch z)
    | _ :: _, _, z => (nomatch z), fun {vs us zs ws} r rz => by
    cases r with
    | nil => cases rz with
      | nil => exact .nil
      | cons a b => cases b with
        | nil => exact .nil
        | cons c d => cases d with
          | nil => exact .cons c (.cons a .nil)
          | cons _ _ => exact .nil
    | cons _ _ => exact .nil⟩
end
end Gn
namespace Gn
open PySem PySem.Spec PyProof.Rows L2
/-- a conditional expression whose two ways change nothing -/
theorem tif {c : Bool} {ta tb : TE} {σ : L2.St} {H : Hp} {Q : VK} (v1 v2 : V) (h1 : c = true → ∀ R : VK, R v1 H → ta σ H R) (h2 : c = false → ∀ R : VK, R v2 H → tb σ H R) (k : ∀ v, (c = true → v = v1) → (c = false → v = v2) → Q v H) : if c = true then ta σ H Q else tb σ H Q := by
  cases c with
  | true => exact iteT (h1 rfl Q (k v1 (fun _ => rfl) (fun z => nomatch z)))
  | false => exact iteF (h2 rfl Q (k v2 (fun z => nomatch z) (fun _ => rfl)))
theorem cut_mem {xs : List V} {lo hi : Option Int} {x : V} (h : x ∈ cutV xs lo hi) : x ∈ xs := by
  unfold cutV at h
  exact List.mem_of_mem_drop (List.mem_of_mem_take h)
theorem int_at {ns : List Int} {x : V} (h : x ∈ ns.map V.int) : ∃ z, x = V.int z := by
  obtain ⟨z, _, e⟩ := List.mem_map.mp h
  exact ⟨z, e.symm⟩
theorem same_put {H : Hp} {p : Addr} {o : HO} (h : H p = none) : Same H (upd H p o) := fun b x e => by
  rw [upd_ne (ne_of_none e h)]
  exact e
theorem fmod_ge {a b : Int} (h : 0 < b) : 0 ≤ a.fmod b := by
  rw [Int.fmod_eq_emod_of_nonneg _ (by omega)]; exact Int.emod_nonneg _ (by omega)
theorem fmod_lt {a b : Int} (h : 0 < b) : a.fmod b < b := by
  rw [Int.fmod_eq_emod_of_nonneg _ (by omega)]; exact Int.emod_lt_of_pos _ h
end Gn
set_option Elab.async false
set_option linter.all false
set_option maxRecDepth 100000
set_option maxHeartbeats 4000000
namespace Gn
open PySem PySem.Spec PyProof.Rows L2
/-- tuple(xs) of a list: a new tuple -/
def rTupL (K : PySem.W.Frag) : List V → Hp → VK → Prop := fun xs H Q => ∃ p ys, xs = [V.ref p] ∧ SqL K H p ys ∧ ∀ l, H l = none → Q (.ref l) (upd H l (.tup ys))
theorem cr_tupL {X : Cx} : CallR X (.type "tuple") (rTupL X.K) := by
  intro pins s σ H xs us Q I r h
  obtain ⟨p, ys, e, h1, h2⟩ := h
  exact call_tuple_of pins s σ H xs us Q I r ⟨p, ys, e, .inl ⟨h1, h2⟩⟩
end Gn
set_option Elab.async false
set_option linter.all false
set_option maxRecDepth 100000
set_option maxHeartbeats 4000000
namespace Gn
open PySem PySem.Spec PyProof.Rows L2
/-- small data: may be shown, may be compared; its text has at most c signs, its depth is at most e -/
structure Sm (c e : Nat) (d : PyData) : Prop where
  sh : d.showable = true
  ln : d.shown.length ≤ c
  dp : d.depth ≤ e
  cl : d.canLay0 = true
theorem sum_le {c : Nat} : ∀ {ts : List Str}, (∀ t ∈ ts, t.length ≤ c) → (ts.map (·.length)).sum ≤ ts.length * c
  | [], _ => by simp
  | t :: ts, h => by
    have h1 := h t List.mem_cons_self
    have h2 := sum_le fun x hx => h x (List.mem_cons_of_mem t hx)
    rw [List.map_cons, List.sum_cons, List.length_cons, Nat.succ_mul]
    omega
theorem Sm.all {c e : Nat} : ∀ {ds : List PyData}, (∀ d ∈ ds, Sm c e d) → PyData.showableAll ds = true ∧ (∀ t ∈ PyData.shownAll ds, t.length ≤ c) ∧ (PyData.shownAll ds).length = ds.length ∧ PyData.depthAll ds ≤ e ∧ PyData.canLayAll0 ds = true
  | [], _ => ⟨rfl, (fun t h => by simp [PyData.shownAll] at h), rfl, Nat.zero_le _, rfl⟩
  | d :: ds, h => by
    have a := h d List.mem_cons_self
    obtain ⟨b1, b2, b3, b4, b5⟩ := Sm.all fun x hx => h x (List.mem_cons_of_mem d hx)
    refine ⟨by simp only [PyData.showableAll, a.sh, b1, Bool.and_self], fun t ht => ?_, by simp only [PyData.shownAll, List.length_cons, b3], by simp only [PyData.depthAll]; exact Nat.max_le.mpr ⟨a.dp, b4⟩, by simp only [PyData.canLayAll0, a.cl, b5, Bool.and_self]⟩
    simp only [PyData.shownAll] at ht
    rcases List.mem_cons.mp ht with rfl | ht
    · exact a.ln
    · exact b2 t ht
theorem Sm.tup {c e n : Nat} {ds : List PyData} (h : ∀ d ∈ ds, Sm c e d) (hn : ds.length ≤ n) : Sm (n * (c + 2) + 3) (e + 1) (.tuple ds) := by
  obtain ⟨b1, b2, b3, b4, b5⟩ := Sm.all h
  refine ⟨by simpa only [PyData.showable] using b1, ?_, by simp only [PyData.depth]; omega, by simpa only [PyData.canLay0] using b5⟩
  simp only [PyData.shown]
  have z := tupleText_len_le (PyData.shownAll ds)
  have y := sum_le b2
  rw [b3] at z y
  have w := Nat.mul_le_mul_right (c + 2) hn
  rw [Nat.mul_add] at w
  omega
theorem Sm.lst {c e n : Nat} {ds : List PyData} (h : ∀ d ∈ ds, Sm c e d) (hn : ds.length ≤ n) : Sm (n * (c + 2) + 3) (e + 1) (.list ds) := by
  obtain ⟨b1, b2, b3, b4, b5⟩ := Sm.all h
  refine ⟨by simpa only [PyData.showable] using b1, ?_, by simp only [PyData.depth]; omega, by simpa only [PyData.canLay0] using b5⟩
  simp only [PyData.shown]
  have z := listText_len_le (PyData.shownAll ds)
  have y := sum_le b2
  rw [b3] at z y
  have w := Nat.mul_le_mul_right (c + 2) hn
  rw [Nat.mul_add] at w
  omega
theorem Sm.int {i : Int} (h : i.natAbs < 2 ^ 1000) : Sm 1921 0 (.int i) := by
  have hl : i.natAbs.log2 < 1920 := Nat.lt_trans (PySem.Flt.log2_lt_of (by decide) h) (by decide)
  exact ⟨by simp only [PyData.showable, hl, decide_true], by simp only [PyData.shown]; exact int_text_len_1921 hl, by simp only [PyData.depth]; exact Nat.le_refl 0, rfl⟩
theorem Sm.shaped {c e : Nat} {d : PyData} (h : Sm c e d) (he : e ≤ 64) : SeqAt.shaped d = true := by
  unfold SeqAt.shaped
  rw [h.cl, decide_eq_true (Nat.le_trans h.dp he)]; rfl
theorem Sm.ints {n : Nat} {ns : List Int} (h : ∀ i ∈ ns, i.natAbs < 2 ^ 1000) (hn : ns.length ≤ n) : Sm (n * 1923 + 3) 1 (.tuple (ns.map PyData.int)) :=
  Sm.tup (c := 1921) (e := 0) (fun d hd => by
    obtain ⟨i, hi, rfl⟩ := List.mem_map.mp hd
    exact Sm.int (h i hi)) (by rw [List.length_map]; exact hn)
end Gn
set_option Elab.async false
set_option linter.all false
set_option maxRecDepth 100000
set_option maxHeartbeats 4000000
namespace Gn
open PySem PySem.Spec PyProof.Rows L2
/-- a conditional expression whose two ways give the same data -/
theorem tIf_dp {tt : TT} {ta tb : TE} {σ : L2.St} {H : Hp} {Q : VK} {K : PySem.W.Frag} {d : PyData} (c : Bool) (ht : ∀ R : Bool → Hp → Prop, R c H → tt σ H R)
    (h1 : c = true → ∀ R : VK, (∀ v H', Same H H' → Dp K H' v d → R v H') → ta σ H R) (h2 : c = false → ∀ R : VK, (∀ v H', Same H H' → Dp K H' v d → R v H') → tb σ H R)
    (k : ∀ v H', Same H H' → Dp K H' v d → Q v H') : tIf tt ta tb σ H Q := by
  refine ht _ ?_
  cases c with
  | true => exact iteT (h1 rfl Q k)
  | false => exact iteF (h2 rfl Q k)
/-- t[lo:hi], whether it is all of t or not -/
theorem slA_of {K : PySem.W.Frag} {a : Addr} {xs : List V} {lo hi : Option Int} {H : Hp} {Q : VK} (h : SqT K H a xs) (k : ∀ b H', Same H H' → SqT K H' b (cutV xs lo hi) → Q (.ref b) H') : rSlA K (.ref a) lo hi H Q := by
  refine ⟨a, xs, rfl, h, fun hw => k a H (Same.refl H) ?_, fun _ p hp => k p _ (same_put hp) (SqT.of upd_same)⟩
  have e : cutV xs lo hi = xs := by
    unfold cutV
    rw [hw.1, hw.2, List.drop_zero, Nat.sub_zero, List.take_length]
  rw [e]; exact h
/-- t + u, whether one of them is empty or not -/
theorem catA_of {K : PySem.W.Frag} {a b : Addr} {xs ys : List V} {H : Hp} {Q : VK} (h1 : SqT K H a xs) (h2 : SqT K H b ys) (hz : xs.length + ys.length ≤ sizeLine) (k : ∀ c H', Same H H' → SqT K H' c (xs ++ ys) → Q (.ref c) H') : rCatA K (.ref a) (.ref b) H Q := by
  refine ⟨a, b, xs, ys, rfl, rfl, h1, h2, hz, fun e => k b H (Same.refl H) ?_, fun _ e => k a H (Same.refl H) ?_, fun _ _ p hp => k p _ (same_put hp) (SqT.of upd_same)⟩
  · rw [e]; exact h2
  · rw [e, List.append_nil]; exact h1
theorem cut_one (xs : List V) : cutV xs none (some 1) = xs.take 1 := by
  unfold cutV
  rw [show HT.sIx xs.length 0 none = 0 from HT.sIx_none .., show HT.sIx xs.length xs.length (some 1) = min 1 xs.length from HT.sIx_nat xs.length xs.length 1, List.drop_zero, Nat.sub_zero]
  cases xs with
  | nil => rfl
  | cons x r => rw [show min 1 (x :: r).length = 1 by rw [List.length_cons]; omega]
/-- keywords of a def of the text -/
theorem kwOf1 {K : PySem.W.Frag} {x qual : Str} {st : Stmt} {f : Addr} {fd : FuncData} {p : Str} (F : Fun K x qual st f fd)
    (h : ∀ (kV doc pm : Value) (an : Option Addr) (cdv ct a : Value), bindArgs (PySem.W.fnOf x qual (defArgs st) (defBody st) (defScope st) .none kV doc pm an cdv ct) ⟨[], [(p, a)]⟩ = pure [(p, a)]) : KBinds K fd [p] [p] kw1 kw1 := by
  obtain ⟨oc, od, kV, doc, pm, an, cdv, ct, osl, rfl, lk, hcd⟩ := F.ex
  exact kb1 fun a => h kV doc pm an cdv ct a
theorem kwOf2 {K : PySem.W.Frag} {x qual : Str} {st : Stmt} {f : Addr} {fd : FuncData} {p q : Str} (F : Fun K x qual st f fd)
    (h : ∀ (kV doc pm : Value) (an : Option Addr) (cdv ct a b : Value), bindArgs (PySem.W.fnOf x qual (defArgs st) (defBody st) (defScope st) .none kV doc pm an cdv ct) ⟨[], [(p, a), (q, b)]⟩ = pure [(p, a), (q, b)]) : KBinds K fd [p, q] [p, q] kw2 kw2 := by
  obtain ⟨oc, od, kV, doc, pm, an, cdv, ct, osl, rfl, lk, hcd⟩ := F.ex
  exact kb2 fun a b => h kV doc pm an cdv ct a b
theorem kwOf2s {K : PySem.W.Frag} {x qual : Str} {st : Stmt} {f : Addr} {fd : FuncData} {p q : Str} (F : Fun K x qual st f fd)
    (h : ∀ (kV doc pm : Value) (an : Option Addr) (cdv ct a b : Value), bindArgs (PySem.W.fnOf x qual (defArgs st) (defBody st) (defScope st) .none kV doc pm an cdv ct) ⟨[], [(q, b), (p, a)]⟩ = pure [(p, a), (q, b)]) : KBinds K fd [p, q] [q, p] kw2s kw2s := by
  obtain ⟨oc, od, kV, doc, pm, an, cdv, ct, osl, rfl, lk, hcd⟩ := F.ex
  exact kb2s fun a b => h kV doc pm an cdv ct a b
end Gn
set_option Elab.async false
set_option linter.all false
set_option maxRecDepth 100000
set_option maxHeartbeats 4000000
namespace Gn
open PySem PySem.Spec PyProof.Rows L2
/-- for x in reversed(xs): what holds behind i turns -/
theorem for_rv {K : PySem.W.Frag} {a : Addr} {xs : List V} {g : TG} {tb : TS} {D : Ends} {σ : L2.St} {H : Hp} (Pv : Nat → L2.St → Hp → Prop) (h0 : Pv 0 σ H) (hl : ∀ i σ H, i ≤ xs.length → Pv i σ H → SqL K H a xs)
    (hs : ∀ i x σ H, i < xs.length → xs[xs.length - 1 - i]? = some x → Pv i σ H → g x σ H fun σ2 H2 => tb { D with nx := Pv (i + 1), ct := Pv (i + 1), bk := D.nx } σ2 H2) (hd : ∀ σ H, Pv xs.length σ H → D.nx σ H) :
    ∃ W : Nat → Nat → L2.St → Hp → Prop, (∃ m, W 0 m σ H) ∧ ∀ i m σ H, W i m σ H →
      ((Itv K a xs.length).stop i H ∧ D.nx σ H) ∨ ((Itv K a xs.length).go i H ∧ ∃ N : L2.St → Hp → Prop, (∀ σ' H', N σ' H' → ∃ m', m' < m ∧ W (i + 1) m' σ' H') ∧ ∀ x H', (Itv K a xs.length).yld i H x H' → g x σ H' fun σ2 H2 => tb { D with nx := N, ct := N, bk := D.nx } σ2 H2) := by
  refine ⟨fun i m σ H => m = xs.length - i ∧ i ≤ xs.length ∧ Pv i σ H, ⟨xs.length, by simp, Nat.zero_le _, h0⟩, fun i m σ H ⟨em, hi, p⟩ => ?_⟩
  subst em
  have q := hl i σ H hi p
  rcases Nat.lt_or_ge i xs.length with c | c
  · have c2 : xs.length - 1 - i < xs.length := by omega
    refine .inr ⟨⟨c, xs, xs[xs.length - 1 - i], q, List.getElem?_eq_getElem c2⟩, Pv (i + 1), fun σ' H' p' => ⟨xs.length - (i + 1), by omega, rfl, c, p'⟩, fun x H' y => ?_⟩
    obtain ⟨rfl, y⟩ := y
    exact hs i x σ _ c (y xs q) p
  · obtain rfl : i = xs.length := by omega
    exact .inl ⟨Nat.le_refl _, hd σ H p⟩
end Gn
namespace Gn
open PySem PySem.Spec PyProof.Rows L2
/-- a test and a second one, their answers as one -/
theorem and_join {c : Bool} {t : TT} {σ : L2.St} {H : Hp} {Q : Bool → Hp → Prop} (e : Bool) (h1 : c = true → ∀ R : Bool → Hp → Prop, R e H → t σ H R) (h2 : c = false → e = false) (k : Q e H) : if c = true then t σ H Q else Q false H := by
  cases c with
  | true => exact iteT (h1 rfl Q k)
  | false => rw [h2 rfl] at k; exact iteF k
end Gn
set_option Elab.async false
set_option linter.all false
set_option maxRecDepth 100000
set_option maxHeartbeats 4000000
/-! own exceptions over any built-in base: kept as values -/
namespace Gn
open PySem PySem.Spec PyProof.Rows L2
/-- own classes, then a tail -/
inductive Past (t : List Value) : List Value → Prop
  | base : Past t t
  | own {c : Addr} {r : List Value} : Past t r → Past t (.ref c :: r)
section
variable {t l : List Value}
theorem Past.has (h : Past t l) (n : String) : l.contains (.type n) = t.contains (.type n) := by
  induction h with
  | base => rfl
  | own _ ih =>
    rw [List.contains_cons, ih]
    rfl
theorem Past.pass (h : Past t l) {u : Value} {x : Str} (ht : refuseLoop u x t = pure ()) : refuseLoop u x l = pure () := by
  induction h with
  | base => exact ht
  | own _ ih => exact (refuseLoop_ref u x _ _).trans ih
end
/-- what is built in of a base class -/
structure Bas (B nw it : String) (t : List Value) : Prop where
  ex : ExcBaseFacts B nw it t
  st : StoreFacts B t "object.__setattr__" "object"
theorem basV : Bas "ValueError" "ValueError.__new__" "ValueError.__init__" [.type "ValueError", .type "Exception", .type "BaseException", .type "object"] := ⟨F.excBase_ValueError, F.store_ValueError⟩
theorem basL : Bas "LookupError" "LookupError.__new__" "LookupError.__init__" [.type "LookupError", .type "Exception", .type "BaseException", .type "object"] := ⟨F.excBase_LookupError, F.store_LookupError⟩
theorem basA : Bas "ArithmeticError" "ArithmeticError.__new__" "ArithmeticError.__init__" [.type "ArithmeticError", .type "Exception", .type "BaseException", .type "object"] := ⟨F.excBase_ArithmeticError, F.store_ArithmeticError⟩
/-- what the written part says of an own class over such a base -/
structure OwC (K : PySem.W.Frag) (C : Addr) : Prop where
  cls : ∃ (nm q : Str) (N : Addr) (bs bm : List Value) (sn : List Str) (sub : List Value) (ab : Bool) (col : Option Bool) (dd : Option Addr) (k0 k1 k2 k3 k5 : Option Value) (B nw it : String) (tl : List Value),
    K.lookup C = some (excClassObj nm q C N bs bm true sn sub ab col dd k0 k1 k2 k3 k5 nw) ∧ Past tl bm ∧ Bas B nw it tl
  sa : PySem.W.findIn K (.ref C) "__setattr__" = some (some (.builtin "object.__setattr__"))
  exC : PySem.W.subIn K (.ref C) (.type "BaseException") = some true
  tyC : PySem.W.typeIn K (.ref C) = some (.type "type")
  kC : PySem.W.keepIn K (.ref C) = true
section
open Builtin Builtin.ObjectAttr
variable {P : Program} {w : World} {A : Around} {R : Result → Shared → Prop} {hp : Heap} {g : Array GenState} {d : Drawn} {t : Nat} {os : OsState} {K : PySem.W.Frag}
  {f : Str} {tk : Tok} {v : Value} {x C dx : Addr} {fv : Array Value} {cd : ClassData} {m0 : Str → Option Value} {nl : List Str} {tl : List Value} {B nw it : String}
theorem hasO (T : Bas B nw it tl) : tl.contains (.type "object") = true := T.st.hasOwner
/-- x.f = v, x without a dict -/
theorem own_put (T : Bas B nw it tl) (KX : K.In hp) (ox : hp.get? x = some { cls := .ref C, data := .fields fv }) (oc : PySem.W.clsIn K C = some cd)
    (om : Past tl cd.mro) (od : cd.hasDict = true) (on : PySem.W.findIn K (.ref C) f = some none)
    (fin : ∀ h' k' dx, (∀ b o, b ≠ x → hp.get? b = some o → h'.get? b = some o) → hp.objs.size ≤ dx → dx ≠ x →
      h'.get? x = some { cls := .ref C, dict := some dx, data := .fields fv } → h'.Ns1 dx (fun y => if y = f then some v else none) → R (.ok (.ret .none)) ⟨h', g, d, k', os⟩) :
    codeAny (model P w) A (.call (.builtin "object.__setattr__") ⟨[.ref x, .str f tk, v], []⟩) R ⟨hp, g, d, t, os⟩ := by
  have J : PySem.W.InstAt hp x { cls := .ref C, data := .fields fv } C none := ⟨ox, rfl, rfl, trivial⟩
  have S0 := F.store_object
  have hob : cd.mro.contains (.type "object") = true := (om.has "object").trans (hasO T)
  have nem : cd.mro.isEmpty = false := by
    cases e : cd.mro with
    | nil =>
      rw [e] at hob
      cases hob
    | cons _ _ => rfl
  have xs : x ≠ hp.objs.size := Nat.ne_of_lt (Heap.lt_size ox)
  have isO : PySem.W.Looks (model P w) hp (isInstance (.ref x) (.type "object")) true := J.type.andThen (PySem.W.looks_mroIn KX (by
    unfold PySem.W.mroIn
    rw [oc, Option.bind_some, if_neg (by rw [nem]; decide), hob]))
  refine codeAny_call_builtin S0.slot.plain S0.entry (@PySem.W.check_slot (model P w) _ _ ⟨hp, g, d, t, os⟩ "object.__setattr__" "object" "__setattr__"
    (.ref x) [.str f tk, v] [] _ S0.kind S0.split isO (S0.args (.ref x) (.str f tk) v) ?_)
  have l1 : PySem.W.Looks (model P w) hp (mroOf (.ref C)) cd.mro := (PySem.W.looks_clsIn KX oc).andThen .now
  have l2 : PySem.W.Looks (model P w) hp (storeTaker? none) none := .now
  have l3 : PySem.W.Looks (model P w) hp (classData C) cd := PySem.W.looks_clsIn KX oc
  rw [PySem.W.osa_eq, refuse_eq]
  refine wpAny_bind (wpAny_bind (J.type.at (wpAny_bind (l1.at ?_))))
  rw [om.pass (T.st.passes _)]
  refine wpAny_pure (wpAny_bind (J.type.at (wpAny_bind ((PySem.W.looks_findIn KX on).at (wpAny_bind (l2.at ?_))))))
  show wpAny _ _ (storeInOwnDict (.ref x) (.ref C) (.str f tk) f v false) _ _ _
  obtain ⟨c1, c2, c3, c4, c5, c6, c7, c8, c9, c10, c11⟩ := cd
  dsimp only at od
  subst od
  unfold storeInOwnDict ownDictForStores
  repeat (first
    | with_reducible refine PySem.HandSPX.store_in_new ?_ ?_
    | with_reducible refine wpAny_loadPart_at ox ?_
    | with_reducible refine l3.at ?_
    | wp_step)
  · exact ⟨_, #[], _, (Heap.get?_update_ne _ _ _ _ xs.symm).trans (Heap.get?_push_at rfl rfl), rfl, fun e z => absurd z (by simp), fun _ => rfl⟩
  · intro h' k' hn hs
    have ox1 : (hp.push { cls := .type "dict", data := .dict #[] }).get? x = some { cls := .ref C, data := .fields fv } := Heap.get?_push_of_some _ ox
    refine fin h' k' hp.objs.size (fun b o hb q => ?_) (Nat.le_refl _) xs.symm ?_ hn
    · exact (hs.2 b (Nat.ne_of_lt (Heap.lt_size q))).trans ((Heap.get?_update_ne _ _ _ _ hb).trans (Heap.get?_push_of_some _ q))
    · exact (hs.2 x xs).trans (Heap.get?_update_self _ ox1 rfl)
/-- x.f = v, x with its dict -/
theorem own_put2 (T : Bas B nw it tl) (KX : K.In hp) (ox : hp.get? x = some { cls := .ref C, dict := some dx, data := .fields fv }) (hns : hp.Ns1 dx m0) (hw : Within m0 nl) (hz : nl.length ≤ 1000)
    (oc : PySem.W.clsIn K C = some cd) (om : Past tl cd.mro) (od : cd.hasDict = true) (on : PySem.W.findIn K (.ref C) f = some none)
    (fin : ∀ h' k', (∀ b o, b ≠ dx → hp.get? b = some o → h'.get? b = some o) → h'.Ns1 dx (fun y => if y = f then some v else m0 y) → R (.ok (.ret .none)) ⟨h', g, d, k', os⟩) :
    codeAny (model P w) A (.call (.builtin "object.__setattr__") ⟨[.ref x, .str f tk, v], []⟩) R ⟨hp, g, d, t, os⟩ := by
  obtain ⟨oD, _, _, qD, _, _⟩ := hns.count hw
  have J : PySem.W.InstAt hp x { cls := .ref C, dict := some dx, data := .fields fv } C (some oD) := ⟨ox, rfl, rfl, qD⟩
  have S0 := F.store_object
  have hob : cd.mro.contains (.type "object") = true := (om.has "object").trans (hasO T)
  have nem : cd.mro.isEmpty = false := by
    cases e : cd.mro with
    | nil =>
      rw [e] at hob
      cases hob
    | cons _ _ => rfl
  have isO : PySem.W.Looks (model P w) hp (isInstance (.ref x) (.type "object")) true := J.type.andThen (PySem.W.looks_mroIn KX (by
    unfold PySem.W.mroIn
    rw [oc, Option.bind_some, if_neg (by rw [nem]; decide), hob]))
  refine codeAny_call_builtin S0.slot.plain S0.entry (@PySem.W.check_slot (model P w) _ _ ⟨hp, g, d, t, os⟩ "object.__setattr__" "object" "__setattr__"
    (.ref x) [.str f tk, v] [] _ S0.kind S0.split isO (S0.args (.ref x) (.str f tk) v) ?_)
  have l1 : PySem.W.Looks (model P w) hp (mroOf (.ref C)) cd.mro := (PySem.W.looks_clsIn KX oc).andThen .now
  have l2 : PySem.W.Looks (model P w) hp (storeTaker? none) none := .now
  have l3 : PySem.W.Looks (model P w) hp (classData C) cd := PySem.W.looks_clsIn KX oc
  rw [PySem.W.osa_eq, refuse_eq]
  refine wpAny_bind (wpAny_bind (J.type.at (wpAny_bind (l1.at ?_))))
  rw [om.pass (T.st.passes _)]
  refine wpAny_pure (wpAny_bind (J.type.at (wpAny_bind ((PySem.W.looks_findIn KX on).at (wpAny_bind (l2.at ?_))))))
  show wpAny _ _ (storeInOwnDict (.ref x) (.ref C) (.str f tk) f v false) _ _ _
  obtain ⟨c1, c2, c3, c4, c5, c6, c7, c8, c9, c10, c11⟩ := cd
  dsimp only at od
  subst od
  unfold storeInOwnDict ownDictForStores
  repeat (first
    | with_reducible refine PySem.OEX.store_in_old hns hw hz ?_
    | with_reducible refine wpAny_loadPart_at ox ?_
    | with_reducible refine l3.at ?_
    | wp_step)
  intro h' k' hn hs
  exact fin h' k' (fun b o hb q => (hs.2 b hb).trans q) hn
end
end Gn
set_option Elab.async false
set_option linter.all false
set_option maxRecDepth 100000
set_option maxHeartbeats 4000000
namespace Gn
open PySem PySem.Spec PyProof.Rows L2
section
variable {X : Cx} {pins : List (Addr × Obj)} {σ : L2.St} {H : Hp} {s : Shared} {a C dx : Addr} {f : Str} {y : V} {u : Value} {fs : List (Str × V)} {Q : Unit → Shared → Prop} {E : Value → Shared → Prop} {A : Around}
theorem put_new (T : OwC X.K C) (I : Inv X pins σ H s) (ea : H a = some (exo a C none)) (on : PySem.W.findIn X.K (.ref C) f = some none) (ry : RelV y u)
    (fin : ∀ dx s', H dx = none → dx ≠ a → Inv X pins σ (upd (upd H dx (exd dx [(f, y)])) a (exo a C (some dx))) s' → Q () s') : wpAny (model X.prog X.w) A (setAttr (.ref a) f u) Q E s := by
  obtain ⟨nm, q, N, bs, bm, sn, sub, ab, col, dd, k0, k1, k2, k3, k5, B, nw, it, tl, lk, pt, TB⟩ := T.cls
  have oc : PySem.W.clsIn X.K C = some { name := nm, bases := bs, mro := .ref C :: bm, ns := N, qualname := q, hasDict := true, slotNames := sn, subclasses := sub, abstract := ab, collection := col, hasDel := false } := by
    unfold PySem.W.clsIn
    rw [lk] <;> rfl
  obtain ⟨t1, ho⟩ := exo_at I.hok ea
  obtain ⟨hp, g, d, t, os⟩ := s
  refine PySem.W.set_plain I.kIn (ox := { cls := .ref C, dict := none, data := .fields #[.ref t1, .none, .none, .none, .bool false, .none] }) (od := none) ⟨ho, rfl, rfl, trivial⟩ T.sa ?_
  refine own_put TB I.kIn ho oc (.own pt) rfl on fun h' t' dx kp dn dne hx hn => ?_
  have fd : H dx = none := I.hok.fresh dn
  have old : ∀ {b : Addr} {o : Obj}, hp.get? b = some o → b ≠ dx := fun {b o} z => Nat.ne_of_lt (Nat.lt_of_lt_of_le (Heap.lt_size z) dn)
  have noa : ∀ {b : Addr}, H b = none → b ≠ a := fun {b} n z => by
    rw [z, ea] at n
    cases n
  have U : Un X.fs [] H (upd (upd H dx (exd dx [(f, y)])) a (exo a C (some dx))) hp h' := {
    keep := fun b o z n _ _ => kp b o (noa n) z
    slot := fun b o z n _ _ => ⟨o.slots, kp b o (noa n) z⟩
    free := fun b o z n _ => by
      rw [upd_ne (noa n), upd_ne (old z)]
      exact n
    there := fun b o z _ => by
      by_cases hb : b = a
      · exact ⟨_, by rw [hb]; exact hx⟩
      · exact ⟨o, kp b o hb z⟩
    tups := fun b xs z => by
      rw [upd_ne (at_ne ea z exo_tup), upd_ne (ne_of_none z fd)]
      exact z
    frzs := fun b o v z => by
      rw [upd_ne (at_ne ea z exo_frz), upd_ne (ne_of_none z fd)]
      exact z
    tbls := fun b ps z => ⟨#[], by
      rw [upd_ne (at_ne ea z exo_tbl), upd_ne (ne_of_none z fd), z]
      simp⟩ }
  refine fin dx _ fd dne (I.un (t' := t') U fun b o z => ?_)
  by_cases ba : b = a
  · subst ba
    rw [upd_same] at z
    cases z
    exact exo_ok hx
  · rw [upd_ne ba] at z
    by_cases bd : b = dx
    · subst bd
      rw [upd_same] at z
      cases z
      exact exd_ok hn (relO_put (fs := []) ry fun g => True.intro)
    · rw [upd_ne bd] at z
      refine (I.hok b o z).stay (fun c v hc q => kp c v ?_ q) (fun c hc => ?_) fun c xs hc => ?_
      · rcases hc with hc | hc
        · rw [hc]
          exact ba
        · exact at_ne ea hc exo_own
      · rw [upd_ne (at_ne ea hc exo_own), upd_ne (ne_of_none hc fd)]
        exact hc
      · rw [upd_ne (at_ne ea hc exo_tup), upd_ne (ne_of_none hc fd)]
        exact hc
theorem put_old (T : OwC X.K C) (I : Inv X pins σ H s) (ea : H a = some (exo a C (some dx))) (ed : H dx = some (exd dx fs)) (hl : fs.length ≤ 900) (on : PySem.W.findIn X.K (.ref C) f = some none) (ry : RelV y u)
    (fin : ∀ s', Inv X pins σ (upd H dx (exd dx ((f, y) :: fs))) s' → Q () s') : wpAny (model X.prog X.w) A (setAttr (.ref a) f u) Q E s := by
  obtain ⟨nm, q, N, bs, bm, sn, sub, ab, col, dd, k0, k1, k2, k3, k5, B, nw, it, tl, lk, pt, TB⟩ := T.cls
  have oc : PySem.W.clsIn X.K C = some { name := nm, bases := bs, mro := .ref C :: bm, ns := N, qualname := q, hasDict := true, slotNames := sn, subclasses := sub, abstract := ab, collection := col, hasDel := false } := by
    unfold PySem.W.clsIn
    rw [lk] <;> rfl
  obtain ⟨t1, ho⟩ := exo_at I.hok ea
  obtain ⟨mA, hns, rel⟩ := exd_at I.hok ed
  have hw := within_of rel
  obtain ⟨hp, g, d, t, os⟩ := s
  obtain ⟨oD, _, _, qD, _, _⟩ := hns.count hw
  refine PySem.W.set_plain I.kIn (ox := { cls := .ref C, dict := some dx, data := .fields #[.ref t1, .none, .none, .none, .bool false, .none] }) (od := some oD) ⟨ho, rfl, rfl, qD⟩ T.sa ?_
  have small : (fs.map (·.1)).length ≤ 1000 := by
    rw [List.length_map]
    omega
  refine own_put2 TB I.kIn ho hns hw small oc (.own pt) rfl on fun h' t' kp hn => ?_
  have hd : ∃ o, h'.get? dx = some o := by
    obtain ⟨o, _, _, z, _⟩ := hn
    exact ⟨o, z⟩
  exact fin _ (I.write (t' := t') (x := dx) (e := dx) (o := exd dx ((f, y) :: fs)) (by rw [ed]; exact True.intro) (.inl rfl) kp hd (exd_ok hn (relO_put ry rel)))
end
/-- self.f = e -/
def tPut (K : PySem.W.Frag) (f : Str) (to te : TE) : TS := fun D σ H => te σ H fun y H1 => to σ H1 fun x H2 => ∃ a C : Addr, x = .ref a ∧ OwC K C ∧ PySem.W.findIn K (.ref C) f = some none ∧
  ((H2 a = some (exo a C none) ∧ ∀ d, H2 d = none → d ≠ a → D.nx σ (upd (upd H2 d (exd d [(f, y)])) a (exo a C (some d)))) ∨
    ∃ (d : Addr) (fs : List (Str × V)), H2 a = some (exo a C (some d)) ∧ H2 d = some (exd d fs) ∧ fs.length ≤ 900 ∧ D.nx σ (upd H2 d (exd d ((f, y) :: fs))))
/-- C(e, ..) kept -/
def tOwn (C : Addr) (sp : Sp) (dvs : List V) (ta : TA) : TE := fun σ H Q => ta σ H fun vs H1 => vs.length ≤ 1000 ∧ ∀ a, H1 a = none →
  sp (.ref a :: (vs ++ dvs)) (upd H1 a (exo a C none)) (fun v H2 => v = .non ∧ Q (.ref a) H2) (fun _ _ _ => False)
section
variable {X : Cx} {o e : Expr} {es : List Expr} {to te : TE} {ta : TA} {f : Str} {p p' pos : Pos}
theorem ps_put (ho : PE X o to) (he : PE X e te) (hs : swapsWith e (some (.Attribute o f p')) pos.line X.env = pure false := by rfl) : PS X (.Assign [.Attribute o f p'] e pos) (tPut X.K f to te) := by
  refine ⟨fun pins s σ H D I h => ?_⟩
  refine plainObj_wpAny_Assign_Attribute (thn (he.run pins s σ H _ I h) fun v s1 ⟨y, H1, I1, r1, q1⟩ => ?_) hs
  refine thn (ho.run pins s1 σ H1 _ I1 q1) fun u s2 ⟨x, H2, I2, r2, a, C, ex, T, on, q⟩ => ?_
  subst ex
  obtain rfl : u = Value.ref a := r2
  rcases q with ⟨ea, q⟩ | ⟨dx, fs, ea, ed, hl, q⟩
  · exact put_new T I2 ea on r1 fun dx s' n ne J => ⟨σ, _, J, q dx n ne⟩
  · exact put_old T I2 ea ed hl on r1 fun s' J => ⟨σ, _, J, q⟩
theorem own_made {CX : CXT} {C fI : Addr} {k : Nat} {fd : FuncData} {ps : List Str} {sp : Sp} {ds us : List Value} {dvs vs : List V} {pins : List (Addr × Obj)} {σ : L2.St} {H1 : Hp} {s1 : Shared} {Q : VK} (T : OwC X.K C)
    (iC : PySem.W.findIn X.K (.ref C) "__init__" = some (some (.ref fI))) (tI : PySem.W.typeIn X.K (.ref fI) = some (.type "function")) (F1 : FnOk X.prog X.w X.K X.mg X.base CX k fI fd ps sp) (hr : Room (k + 1) X.A) (hb : Binds X.K fd ps ds) (hd : Vals dvs ds)
    (hx : Passes CX X (fun _ _ _ => False)) (I1 : Inv X pins σ H1 s1) (r1 : Vals vs us) (q1 : ∀ a, H1 a = none → sp (.ref a :: (vs ++ dvs)) (upd H1 a (exo a C none)) (fun v H2 => v = .non ∧ Q (.ref a) H2) (fun _ _ _ => False)) (hz : vs.length ≤ 1000) :
    wpAny (model X.prog X.w) X.A (call (.ref C) us) (EP X pins σ Q) X.xe s1 := by
  obtain ⟨nm, q, N, bs, bm, sn, sub, ab, col, dd, k0, k1, k2, k3, k5, B, nw, it, tl, lk, pt, TB⟩ := T.cls
  obtain ⟨hp, g, dr, tk, os⟩ := s1
  have up : hp.objs.size ≤ hp.objs.size + 1 := Nat.le_succ _
  have hn : H1 (hp.objs.size + 1) = none := I1.hok.fresh up
  have hq := q1 (hp.objs.size + 1) hn
  have kk : ∀ b o, hp.get? b = some o → ((hp.push (PySem.W.kdv_tup us)).push (PySem.HandSPX.excO C hp.objs.size)).get? b = some o := fun b o z =>
    Heap.get?_push_of_some _ (Heap.get?_push_of_some _ z)
  have got : ((hp.push (PySem.W.kdv_tup us)).push (PySem.HandSPX.excO C hp.objs.size)).get? (hp.objs.size + 1) = some (PySem.HandSPX.excO C hp.objs.size) := by heap_get
  have I2 := I1.laid (t' := tk) (a := hp.objs.size + 1) (o := exo (hp.objs.size + 1) C none) kk up (exo_ok got)
  have r2 : Vals (V.ref (hp.objs.size + 1) :: (vs ++ dvs)) (Value.ref (hp.objs.size + 1) :: (us ++ ds)) := .cons rfl (r1.append hd)
  have hl : (Value.ref (hp.objs.size + 1) :: us ++ ds).length = ps.length := by
    have z := r2.length
    rw [F1.len _ _ _ _ hq] at z
    exact z.symm
  have few : us.length ≤ sizeLine := by
    rw [← Paired.length r1, sizeLine_eq]
    omega
  refine wpAny_call (PySem.HandSPX.call_own TB.ex (fun n => pt.has n) (I1.kIn _ _ lk) (PySem.W.looks_findIn I1.kIn iC) (fun me => PySem.W.bind_fn I1.kIn me tI) few (codeAny_mono
    (F1.run _ X.stack _ _ ⟨Value.ref (hp.objs.size + 1) :: us, []⟩ (Value.ref (hp.objs.size + 1) :: (us ++ ds)) _ _ (fun _ _ _ => False) (hr.make C us []) (I2.env0.make C us []) (hb _ (Value.ref (hp.objs.size + 1) :: us) I2.kIn hl) r2 hq) fun r s' z => ?_))
  cases r with
  | error er => exact hx pins σ _ _ er s' I2 z
  | ok fl =>
    cases fl with
    | ret u =>
      obtain ⟨v, H2, os2, bare2, un2, hok2, rv, ev, q2⟩ := z
      subst ev
      obtain ⟨h2, g2, d2, t2, os'⟩ := s'
      exact ⟨rv, .ref (hp.objs.size + 1), H2, I1.call' (ch := []) os2 ((Un.laid kk up hn).trans un2) hok2 bare2 (fun b y => absurd y (by simp)), rfl, q2⟩
    | next => exact False.elim z
    | brk => exact False.elim z
    | cont => exact False.elim z
theorem pe_own {CX : CXT} {x : Str} {C fI : Addr} {k : Nat} {fd : FuncData} {ps : List Str} {sp : Sp} {ds : List Value} {dvs : List V} (T : OwC X.K C) (iC : PySem.W.findIn X.K (.ref C) "__init__" = some (some (.ref fI)))
    (tI : PySem.W.typeIn X.K (.ref fI) = some (.type "function")) (F1 : FnOk X.prog X.w X.K X.mg X.base CX k fI fd ps sp) (hr : Room (k + 1) X.A) (hb : Binds X.K fd ps ds) (hd : Vals dvs ds) (hx : Passes CX X (fun _ _ _ => False)) (hg : Gl X x)
    (hm : X.mg x = some (.ref C)) (ha : PA X (e :: es) ta) (hdb : (x == ("__debug__" : Str)) = false := by decide) (he : starEach (e :: es) X.env = (false, eval e X.env) :: starEach es X.env := by rfl) (hpl : (backTo pos (starEach es X.env)).any (·.1) = false := by rfl) :
    PE X (.Call (.Name x p) (e :: es) [] pos) (tOwn C sp dvs ta) := ⟨fun pins s σ H Q I h =>
  wpAny_Call_Name_kw (ld_glob I hg hm (PySem.W.callWith_K (h₀ := X.base) I.ok.mod.kin T.kC (thn (ha.run pos pins s σ H _ I h) fun us s1 ⟨vs, H1, I1, r1, hz, q1⟩ => ⟨I1.kIn, own_made T iC tI F1 hr hb hd hx I1 r1 q1 hz⟩) he hpl) hdb)⟩
theorem pe_own0 {CX : CXT} {x : Str} {C fI : Addr} {k : Nat} {fd : FuncData} {ps : List Str} {sp : Sp} {ds : List Value} {dvs : List V} (T : OwC X.K C) (iC : PySem.W.findIn X.K (.ref C) "__init__" = some (some (.ref fI)))
    (tI : PySem.W.typeIn X.K (.ref fI) = some (.type "function")) (F1 : FnOk X.prog X.w X.K X.mg X.base CX k fI fd ps sp) (hr : Room (k + 1) X.A) (hb : Binds X.K fd ps ds) (hd : Vals dvs ds) (hx : Passes CX X (fun _ _ _ => False)) (hg : Gl X x)
    (hm : X.mg x = some (.ref C)) (hdb : (x == ("__debug__" : Str)) = false := by decide) : PE X (.Call (.Name x p) [] [] pos) (tOwn C sp dvs tNil) := ⟨fun pins s σ H Q I h =>
  wpAny_Call_Name_kw (ld_glob I hg hm (PySem.W.callWith_K0 I.kIn T.kC (own_made (us := []) (vs := []) T iC tI F1 hr hb hd hx I .nil h.2 h.1)) hdb)⟩
end
end Gn
set_option Elab.async false
set_option linter.all false
set_option maxRecDepth 100000
set_option maxHeartbeats 4000000
namespace Gn
open PySem PySem.Spec PyProof.Rows L2
section
variable {X : Cx} {e : Expr} {es : List Expr} {ta : TA} {p pos : Pos}
/-- the exception without a dict is let go -/
theorem bare_gone {pins : List (Addr × Obj)} {σ : L2.St} {H1 H2 : Hp} {Q : XK} {hp hp2 h2 : Heap} {g1 g2 : Array GenState} {d1 d2 : Drawn} {t1 t2 : Nat} {os1 os2 : OsState} {a C : Addr} (T : Raises X (.ref C)) (I1 : Inv X pins σ H1 ⟨hp, g1, d1, t1, os1⟩)
    (ha : hp.objs.size ≤ a) (kp : ∀ b o, hp.get? b = some o → hp2.get? b = some o) (un : Un (frs X.stack) [] (upd H1 a (exo a C none)) H2 hp2 h2) (hok : HOk X.prog X.w H2 h2) (ho : os2 = os1) (hb : AllBare g2)
    (ea : H2 a = some (exo a C none)) (q : Q (.ref C) none (del H2 a)) : MkP X pins σ Q (.ref a) ⟨h2, g2, d2, t2, os2⟩ := by
  obtain ⟨t0, hoe⟩ := exo_at hok ea
  have hn : H1 a = none := I1.hok.fresh ha
  obtain ⟨G, y1, y2⟩ := restrict h2 fun b => decide (b ≠ a)
  have gk : ∀ b, b ≠ a → G.get? b = h2.get? b := fun b z => y1 b (decide_eq_true z)
  have ge : G.get? a = none := y2 a (by simp)
  have old : ∀ {b : Addr} {o : Obj}, hp.get? b = some o → b ≠ a := fun {b o} z => Nat.ne_of_lt (Nat.lt_of_lt_of_le (Heap.lt_size z) ha)
  have fr : ∀ {b : Addr}, b ≠ a → H1 b = none → upd H1 a (exo a C none) b = none := fun {b} z n => (upd_ne z).trans n
  have U : Un (frs X.stack) [] H1 (del H2 a) hp G := {
    keep := fun b o z n hf hx => (gk b (old z)).trans (un.keep b o (kp b o z) (fr (old z) n) hf hx)
    slot := fun b o z n hf hx => by
      rw [gk b (old z)]
      exact un.slot b o (kp b o z) (fr (old z) n) hf hx
    free := fun b o z n hx => (del_ne (old z)).trans (un.free b o (kp b o z) (fr (old z) n) hx)
    there := fun b o z hx => by
      rw [gk b (old z)]
      exact un.there b o (kp b o z) hx
    tups := fun b xs z => (del_ne (ne_of_none z hn)).trans (un.tups b xs ((upd_ne (ne_of_none z hn)).trans z))
    frzs := fun b o v z => (del_ne (ne_of_none z hn)).trans (un.frzs b o v ((upd_ne (ne_of_none z hn)).trans z))
    tbls := fun b ps z => by
      rw [del_ne (ne_of_none z hn)]
      exact un.tbls b ps ((upd_ne (ne_of_none z hn)).trans z) }
  have hok3 : HOk X.prog X.w (del H2 a) G := fun b o z => by
    have ba : b ≠ a := fun e => by
      rw [e, del_same] at z
      cases z
    rw [del_ne ba] at z
    have noa : ∀ {c : Addr}, H2 c = some (.own b) → c ≠ a := fun {c} hc => at_ne ea hc exo_own
    refine (hok b o z).stay (fun c v hc y => ?_) (fun c hc => (del_ne (noa hc)).trans hc) fun c xs hc => (del_ne (at_ne ea hc exo_tup)).trans hc
    have ca : c ≠ a := by
      rcases hc with hc | hc
      · rw [hc]
        exact ba
      · exact noa hc
    exact (gk c ca).trans y
  have J : Inv X pins σ (del H2 a) ⟨G, g2, d2, t2, os2⟩ := I1.call' (ch := []) ho U hok3 hb (fun b z => absurd z (by simp))
  refine ⟨a, _, _, ⟨G, g2, d2, t2, os2⟩, _, .ref C, none, rfl, J, fun b o z => ?_, ge, hoe, ⟨rfl, rfl⟩, rfl, rfl, del_same, rfl, hb, T, q⟩
  by_cases ba : b = a
  · rw [ba, ge] at z
    cases z
  · exact (gk b ba).symm.trans z
/-- C(e, ..) raised -/
def tThr (C : Addr) (sp : Sp) (dvs : List V) (ta : TA) : L2.St → Hp → XK → Prop := fun σ H Q => ta σ H fun vs H1 => vs.length ≤ 1000 ∧ ∀ a, H1 a = none →
  sp (.ref a :: (vs ++ dvs)) (upd H1 a (exo a C none)) (fun v H2 => v = .non ∧
    ((∃ (d : Addr) (fs : List (Str × V)), H2 a = some (exo a C (some d)) ∧ H2 d = some (exd d fs) ∧ H1 d = none ∧ Q (.ref C) (some d) (upd (del H2 a) d (.xd fs))) ∨ (H2 a = some (exo a C none) ∧ Q (.ref C) none (del H2 a)))) (fun _ _ _ => False)
theorem own_thrown {CX : CXT} {C fI : Addr} {k : Nat} {fd : FuncData} {ps : List Str} {sp : Sp} {ds us : List Value} {dvs vs : List V} {pins : List (Addr × Obj)} {σ : L2.St} {H1 : Hp} {s1 : Shared} {Q : XK} (T : OwC X.K C)
    (iC : PySem.W.findIn X.K (.ref C) "__init__" = some (some (.ref fI))) (tI : PySem.W.typeIn X.K (.ref fI) = some (.type "function")) (F1 : FnOk X.prog X.w X.K X.mg X.base CX k fI fd ps sp) (hr : Room (k + 1) X.A) (hb : Binds X.K fd ps ds) (hd : Vals dvs ds)
    (hx : Passes CX X (fun _ _ _ => False)) (I1 : Inv X pins σ H1 s1) (r1 : Vals vs us) (hz : vs.length ≤ 1000)
    (q1 : ∀ a, H1 a = none → sp (.ref a :: (vs ++ dvs)) (upd H1 a (exo a C none)) (fun v H2 => v = .non ∧
      ((∃ (d : Addr) (fs : List (Str × V)), H2 a = some (exo a C (some d)) ∧ H2 d = some (exd d fs) ∧ H1 d = none ∧ Q (.ref C) (some d) (upd (del H2 a) d (.xd fs))) ∨ (H2 a = some (exo a C none) ∧ Q (.ref C) none (del H2 a)))) (fun _ _ _ => False)) :
    wpAny (model X.prog X.w) X.A (call (.ref C) us) (MkP X pins σ Q) X.xe s1 := by
  obtain ⟨nm, q, N, bs, bm, sn, sub, ab, col, dd, k0, k1, k2, k3, k5, B, nw, it, tl, lk, pt, TB⟩ := T.cls
  obtain ⟨hp, g, dr, tk, os⟩ := s1
  have up : hp.objs.size ≤ hp.objs.size + 1 := Nat.le_succ _
  have hn : H1 (hp.objs.size + 1) = none := I1.hok.fresh up
  have hq := q1 (hp.objs.size + 1) hn
  have kk : ∀ b o, hp.get? b = some o → ((hp.push (PySem.W.kdv_tup us)).push (PySem.HandSPX.excO C hp.objs.size)).get? b = some o := fun b o z =>
    Heap.get?_push_of_some _ (Heap.get?_push_of_some _ z)
  have got : ((hp.push (PySem.W.kdv_tup us)).push (PySem.HandSPX.excO C hp.objs.size)).get? (hp.objs.size + 1) = some (PySem.HandSPX.excO C hp.objs.size) := by heap_get
  have I2 := I1.laid (t' := tk) (a := hp.objs.size + 1) (o := exo (hp.objs.size + 1) C none) kk up (exo_ok got)
  have r2 : Vals (V.ref (hp.objs.size + 1) :: (vs ++ dvs)) (Value.ref (hp.objs.size + 1) :: (us ++ ds)) := .cons rfl (r1.append hd)
  have hl : (Value.ref (hp.objs.size + 1) :: us ++ ds).length = ps.length := by
    have z := r2.length
    rw [F1.len _ _ _ _ hq] at z
    exact z.symm
  have few : us.length ≤ sizeLine := by
    rw [← Paired.length r1, sizeLine_eq]
    omega
  refine wpAny_call (PySem.HandSPX.call_own TB.ex (fun n => pt.has n) (I1.kIn _ _ lk) (PySem.W.looks_findIn I1.kIn iC) (fun me => PySem.W.bind_fn I1.kIn me tI) few (codeAny_mono
    (F1.run _ X.stack _ _ ⟨Value.ref (hp.objs.size + 1) :: us, []⟩ (Value.ref (hp.objs.size + 1) :: (us ++ ds)) _ _ (fun _ _ _ => False) (hr.make C us []) (I2.env0.make C us []) (hb _ (Value.ref (hp.objs.size + 1) :: us) I2.kIn hl) r2 hq) fun r s' z => ?_))
  cases r with
  | error er => exact hx pins σ _ _ er s' I2 z
  | ok fl =>
    cases fl with
    | ret u =>
      obtain ⟨v, H2, os2, bare2, un2, hok2, rv, ev, z2⟩ := z
      subst ev
      obtain ⟨h2, g2, d2, t2, os'⟩ := s'
      rcases z2 with ⟨dq, fs, ea, ed, hd1, q2⟩ | ⟨ea, q2⟩
      · exact ⟨rv, mk_end (raises_own T.exC T.tyC) I1 up kk un2 hok2 os2 bare2 ea ed hd1 q2⟩
      · exact ⟨rv, bare_gone (raises_own T.exC T.tyC) I1 up kk un2 hok2 os2 bare2 ea q2⟩
    | next => exact False.elim z
    | brk => exact False.elim z
    | cont => exact False.elim z
/-- raise C(e, ..) -/
theorem pmk_exo {CX : CXT} {x : Str} {C fI : Addr} {k : Nat} {fd : FuncData} {ps : List Str} {sp : Sp} {ds : List Value} {dvs : List V} (T : OwC X.K C) (iC : PySem.W.findIn X.K (.ref C) "__init__" = some (some (.ref fI)))
    (tI : PySem.W.typeIn X.K (.ref fI) = some (.type "function")) (F1 : FnOk X.prog X.w X.K X.mg X.base CX k fI fd ps sp) (hr : Room (k + 1) X.A) (hb : Binds X.K fd ps ds) (hd : Vals dvs ds) (hx : Passes CX X (fun _ _ _ => False)) (hg : Gl X x)
    (hm : X.mg x = some (.ref C)) (ha : PA X (e :: es) ta) (hdb : (x == ("__debug__" : Str)) = false := by decide) (he : starEach (e :: es) X.env = (false, eval e X.env) :: starEach es X.env := by rfl) (hpl : (backTo pos (starEach es X.env)).any (·.1) = false := by rfl) :
    PMk X (.Call (.Name x p) (e :: es) [] pos) (tThr C sp dvs ta) := fun pins s σ H Q I h =>
  wpAny_Call_Name_kw (ld_glob I hg hm (PySem.W.callWith_K (h₀ := X.base) I.ok.mod.kin T.kC (thn (ha.run pos pins s σ H _ I h) fun us s1 ⟨vs, H1, I1, r1, hz, q1⟩ => ⟨I1.kIn, own_thrown T iC tI F1 hr hb hd hx I1 r1 hz q1⟩) he hpl) hdb)
/-- raise C() -/
theorem pmk_exo0 {CX : CXT} {x : Str} {C fI : Addr} {k : Nat} {fd : FuncData} {ps : List Str} {sp : Sp} {ds : List Value} {dvs : List V} (T : OwC X.K C) (iC : PySem.W.findIn X.K (.ref C) "__init__" = some (some (.ref fI)))
    (tI : PySem.W.typeIn X.K (.ref fI) = some (.type "function")) (F1 : FnOk X.prog X.w X.K X.mg X.base CX k fI fd ps sp) (hr : Room (k + 1) X.A) (hb : Binds X.K fd ps ds) (hd : Vals dvs ds) (hx : Passes CX X (fun _ _ _ => False)) (hg : Gl X x)
    (hm : X.mg x = some (.ref C)) (hdb : (x == ("__debug__" : Str)) = false := by decide) : PMk X (.Call (.Name x p) [] [] pos) (tThr C sp dvs tNil) := fun pins s σ H Q I h =>
  wpAny_Call_Name_kw (ld_glob I hg hm (PySem.W.callWith_K0 I.kIn T.kC (own_thrown (us := []) (vs := []) T iC tI F1 hr hb hd hx I .nil h.1 h.2)) hdb)
end
/-! ### such a value: its fields, and of which classes it is -/
/-- e.f -/
def tFld (K : PySem.W.Frag) (f : Str) (te : TE) : TE := fun σ H Q => te σ H fun x H1 => ∃ (a C d : Addr) (fs : List (Str × V)) (v : V), x = .ref a ∧ H1 a = some (exo a C (some d)) ∧ H1 d = some (exd d fs) ∧ XfC K C ∧ PySem.W.findIn K (.ref C) f = some none ∧ fs.lookup f = some v ∧ Q v H1
theorem inst_at {X : Cx} {pins : List (Addr × Obj)} {σ : L2.St} {H : Hp} {s : Shared} {a C d : Addr} (I : Inv X pins σ H s) (ea : H a = some (exo a C (some d))) {fs : List (Str × V)} (ed : H d = some (exd d fs)) :
    ∃ (ox od : Obj), PySem.W.InstAt s.heap a ox C (some od) ∧ ∀ n, ∃ o, PySem.W.lookIn n od = some o ∧ RelO (fs.lookup n) o := by
  obtain ⟨t1, ho⟩ := exo_at I.hok ea
  obtain ⟨mA, hns, rel⟩ := exd_at I.hok ed
  obtain ⟨od, hd, hl⟩ := lookIn_ns hns
  exact ⟨_, od, ⟨ho, rfl, rfl, hd⟩, fun n => ⟨_, hl n, rel n⟩⟩
theorem pe_fld {X : Cx} {e : Expr} {te : TE} {pos : Pos} {f : Str} (he : PE X e te) (hb : attributeBase e f X.env (eval e X.env) = eval e X.env := by rfl) : PE X (.Attribute e f pos) (tFld X.K f te) := by
  refine ⟨fun pins s σ H Q I h => ?_⟩
  refine attr_of hb (thn (he.run pins s σ H _ I h) fun u s1 ⟨x, H1, I1, rx, a, C, d, fs, v, ex, ea, ed, T, on, lf, q⟩ => ?_)
  subst ex
  obtain rfl : u = Value.ref a := rx
  obtain ⟨ox, od, J, rel⟩ := inst_at I1 ea ed
  obtain ⟨o1, l1, r1⟩ := rel f
  obtain ⟨y, hy, ry⟩ := RelO.some_of (v := v) (o := o1) (by rw [← lf]; exact r1)
  subst hy
  exact HandSPX.exc_get I1.kIn J T.ga T.gg T.exC (PySem.W.findObj_own T.hdC on rfl l1) (handed_of ry) ⟨v, H1, I1.tok _, ry, q⟩
end Gn
set_option Elab.async false
set_option linter.all false
set_option maxRecDepth 100000
set_option maxHeartbeats 4000000
/-! isinstance of such a value, with a dict or none -/
namespace PySem.W
open PySem PySem.Spec PySem.Calls PyProof.Rows
section
variable {P : Program} {w : World} {A : Around} {E : Value → Shared → Prop} {s : Shared} {K : Frag} {x D : Addr} {ox : Obj} {od : Option Obj}
theorem gn_found {C : Addr} {n : Str} {a g : Value} (hc : (clsIn K C).isSome = true) (ha : findIn K (.ref C) n = some (some a)) (hg : specialIn K a "__get__" = some (some g)) (ht : takesIn K a = some true) : findObj K C od n = some (.bind g a) := by
  obtain ⟨cd, hc⟩ := Option.isSome_iff_exists.mp hc
  unfold findObj
  simp [hc, ha, hg, ht]
theorem gn_class {Q : Option Value → Shared → Prop} (C : L2.ExcC K D) (X : K.In s.heap) (I : InstAt s.heap x ox D od) (h : Q (some (.ref D)) { s with toks := s.toks + 1 }) : wpAny (model P w) A (getAttr? (.ref x) "__class__") Q E s := by
  obtain ⟨hga, hgt, hsub, hdct, ha, hn, htk, hm⟩ := C
  have fd : findObj K D od "__class__" = some (.bind (.builtin "getset_descriptor.__get__") (.builtin "object.__class__")) :=
    gn_found (by
      obtain ⟨cd, z, _⟩ := any_some hdct
      rw [z]
      rfl) ha hn htk
  obtain ⟨hp, g, d, t, os⟩ := s
  have T0 := I.type (M := model P w)
  have T1 := looks_findIn (M := model P w) X hga
  have T2 := looks_findIn (M := model P w) X hgt
  have T3 := looks_find (M := model P w) X I fd
  have isB : Looks (model P w) hp (isInstance (.ref x) (.type "BaseException")) true := T0.andThen (looks_subIn X hsub)
  have n0 : (false && onTheHeap (Value.builtin "BaseException.__getattribute__")) = false := rfl
  have n2 : (Value.builtin "BaseException.__getattribute__" == Value.builtin "object.__getattribute__") = false := by decide +kernel
  have n1 : (onTheHeap (Value.ref D) && Value.builtin "BaseException.__getattribute__" == Value.builtin "object.__getattribute__") = false := by
    rw [n2]
    rfl
  unfold getAttr? getAttrBy? getAttrBy
  refine wpAny_bind (wpAny_mkText (wpAny_bind (wpAny_attempt (wpAny_holding (wpAny_bind (T0.at (wpAny_bind (T1.at ?_))))))))
  show wpAny _ _ (if (onTheHeap (Value.ref D) && Value.builtin "BaseException.__getattribute__" == Value.builtin "object.__getattribute__") = true then _ else _) _ _ _
  rw [n1, if_neg Bool.false_ne_true]
  unfold getAttrByItsOwn hookBefore
  refine wpAny_bind ?_
  rw [if_pos (show onTheHeap (Value.ref D) = true from rfl)]
  refine T2.at ?_
  refine wpAny_bind (wpAny_attempt (wpAny_holding ?_))
  unfold callGetattribute
  rw [n0, if_neg Bool.false_ne_true]
  unfold boundAndCalled
  rw [PySem.F.excAttr_ValueError.ga.bind (.ref x)]
  refine wpAny_bind (wpAny_pure ?_)
  show wpAny _ _ (call (.builtin "BaseException.__getattribute__") [.ref x, .str "__class__" t]) _ _ _
  refine wpAny_call (codeAny_call_builtin PySem.F.excAttr_ValueError.ga.plain PySem.F.entry_bexc_ga ?_)
  refine @check_slot (model P w) _ _ ⟨hp, g, d, t + 1, os⟩ "BaseException.__getattribute__" "BaseException" "__getattribute__" (.ref x)
    [.str "__class__" t] [] _ (by decide +kernel) (by decide +kernel) isB (PySem.F.args_bexc_ga (.ref x) (.str "__class__" t)) ?_
  unfold Builtin.«object.__getattribute__»
  refine wpAny_bind (wpAny_of_eq (a := ((Value.ref x : Value), [Value.str "__class__" t])) (by first
    | rfl
    | (simp only [slotArgs]; rfl)) ?_)
  refine wpAny_bind (wpAny_pure (wpAny_bind (T0.at (wpAny_bind (T3.at ?_)))))
  show wpAny _ _ (holding [Value.builtin "object.__class__"] (call (.builtin "getset_descriptor.__get__") [.builtin "object.__class__", .ref x, .ref D]) >>= ret) _ _ _
  refine wpAny_bind (wpAny_holding (wpAny_call (class_get (s := ⟨hp, g, d, t + 1, os⟩) (ox := ox) (od := od) X I hm ?_)))
  refine wpAny_pure ?_
  show wpAny _ _ (handedOut (.ref D)) _ _ _
  rw [handedOut_of (v := .ref D) rfl]
  first
    | exact wpAny_pure (wpAny_pure h)
    | exact wpAny_pure h
    | exact wpAny_pure (wpAny_bind (wpAny_pure (wpAny_pure h)))
theorem gn_kit (C : L2.ExcC K D) : KitX K (.ref x) (.ref D) (fun h => ∃ ox od, InstAt h x ox D od) where
  ty := fun _ _ _ ⟨_, _, I⟩ => I.type
  it := fun _ _ X _ => by
    obtain ⟨cdD, z, _⟩ := any_some C.hd
    unfold clsIn at z
    split at z
    · rename_i c' d' cd' sl' ho
      intro A' Q' E' s' k q
      unfold isType loadHead
      exact wpAny_bind (wpAny_loadPart (k _ _ (X _ _ ho)) (wpAny_pure q))
    · cases z
  ne := fun h tp dd its n sl X htp => by
    obtain ⟨cdD, z, _⟩ := any_some C.hd
    refine Bool.eq_false_iff.mpr fun q => ?_
    have e : D = tp := Value.ref.inj (beq_iff_eq.mp q)
    subst e
    unfold clsIn at z
    split at z
    · rename_i c' d' cd' sl' ho
      have y := (X _ _ ho).symm.trans htp
      cases y
    · cases z
  ca := fun X ⟨_, _, I⟩ k => gn_class C X I k
end
end PySem.W
namespace Gn
open PySem PySem.Spec PyProof.Rows L2
theorem inst_any {X : Cx} {pins : List (Addr × Obj)} {σ : L2.St} {H : Hp} {s : Shared} {a C : Addr} {d : Option Addr} (I : Inv X pins σ H s) (ea : H a = some (exo a C d)) (hd : ∀ y, d = some y → ∃ fs, H y = some (exd y fs)) :
    ∃ ox od, PySem.W.InstAt s.heap a ox C od := by
  cases d with
  | none =>
    obtain ⟨t1, ho⟩ := exo_at I.hok ea
    exact ⟨_, none, ho, rfl, rfl, trivial⟩
  | some y =>
    obtain ⟨fs, ed⟩ := hd y rfl
    obtain ⟨ox, od, J, _⟩ := inst_at I ea ed
    exact ⟨ox, _, J⟩
/-- isinstance(e, c), e an own exception that is kept -/
def rIsO (K : PySem.W.Frag) : List V → Hp → VK → Prop := fun xs H Q => ∃ (a D : Addr) (d : Option Addr) (c : V) (cv : Value) (b : Bool), xs = [.ref a, c] ∧ ExcC K D ∧ H a = some (exo a D d) ∧ (∀ y, d = some y → ∃ fs, H y = some (exd y fs)) ∧
  (∀ u, RelV c u → u = cv) ∧ PySem.W.kitOne K (.ref D) cv = some b ∧ Q (.bl b) H
theorem cr_isO {X : Cx} : CallR X (.builtin "isinstance") (rIsO X.K) := by
  intro pins s σ H xs us Q I r h
  obtain ⟨a, D, d, c, cv, b, rfl, C, ea, hd, hcv, e, q⟩ := h
  cases r with
  | cons rx rr =>
    cases rr with
    | cons rt rr =>
      cases rr
      cases rx
      have ec := hcv _ rt
      subst ec
      exact PySem.W.kia_one (PySem.W.gn_kit C) I.kIn (inst_any I ea hd) e (fun z => nomatch z) fun tk => ⟨.bl b, H, I.kept (t' := tk) fun _ _ z => z, rfl, q⟩
/-- isinstance(e, c), e the exception that the suite holds, with a dict or none -/
def rIsH (K : PySem.W.Frag) (D a : Addr) (d : Option Addr) : List V → Hp → VK → Prop := fun xs H Q => ∃ (c : V) (cv : Value) (b : Bool), xs = [.ref a, c] ∧ (∀ y, d = some y → ∃ fs, H y = some (.xd fs)) ∧ (∀ u, RelV c u → u = cv) ∧ PySem.W.kitOne K (.ref D) cv = some b ∧ Q (.bl b) H
theorem cr_isH {X : Cx} {a D : Addr} {d : Option Addr} {oe : Obj} {pn : List (Addr × Obj)} (C : ExcC X.K D) (hz : Zc (.ref D) d oe) (hf : ∃ vs, oe.data = .fields vs) : CallR (X.suite a ((a, oe) :: pn)) (.builtin "isinstance") (rIsH X.K D a d) := by
  intro pins s σ H xs us Q I r h
  obtain ⟨c, cv, b, rfl, hd, hcv, e, q⟩ := h
  cases r with
  | cons rx rr =>
    cases rr with
    | cons rt rr =>
      cases rr
      cases rx
      have ec := hcv _ rt
      subst ec
      obtain ⟨at0, _⟩ := I.pin (a, oe) (List.mem_append.mpr (.inl List.mem_cons_self))
      obtain ⟨vs, hv⟩ := hf
      have J : ∃ ox od, PySem.W.InstAt s.heap a ox D od := by
        obtain ⟨oc, dd, oda, osl⟩ := oe
        obtain ⟨h1, h2⟩ := hz
        dsimp only at h1 h2 hv
        subst h1 h2 hv
        cases dd with
        | none => exact ⟨_, none, at0, rfl, rfl, trivial⟩
        | some y =>
          obtain ⟨fs, ed⟩ := hd y rfl
          obtain ⟨mA, hns, _⟩ := (show ObjOk X.prog X.w H s.heap y (.xd fs) from I.hok y _ ed)
          obtain ⟨od, ho, _⟩ := lookIn_ns hns
          exact ⟨_, some od, at0, rfl, rfl, ho⟩
      exact PySem.W.kia_one (PySem.W.gn_kit C) I.kIn J e (fun z => nomatch z) fun tk => ⟨.bl b, H, I.kept (t' := tk) fun _ _ z => z, rfl, q⟩
end Gn
set_option Elab.async false
set_option linter.all false
set_option maxRecDepth 100000
set_option maxHeartbeats 4000000
/-! the same made by keywords -/
namespace Gn
open PySem PySem.Spec PyProof.Rows L2
section
variable {M : Model} {A : Around} {E : Value → Shared → Prop} {h : Heap} {g : Array GenState} {d : Drawn} {t : Nat} {os : OsState}
variable {nm q : Str} {C N : Addr} {bs bm tl : List Value} {hd : Bool} {sn : List Str} {sub : List Value} {ab : Bool} {col : Option Bool} {dd : Option Addr} {k0 k1 k2 k3 k5 : Option Value} {B nw it : String} {rest : List Value} {kw : List (Str × Value)}
theorem kw_new_check (T : ExcBaseFacts B nw it tl) (pt : ∀ n : String, bm.contains (.type n) = tl.contains (.type n)) {Q : Unit → Shared → Prop}
    (lk : h.get? C = some (excClassObj nm q C N bs bm hd sn sub ab col dd k0 k1 k2 k3 k5 nw)) (fin : Q () ⟨h, g, d, t, os⟩) : wpAny M A (checkBuiltinCall nw ⟨.ref C :: rest, kw⟩) Q E ⟨h, g, d, t, os⟩ := by
  have inB : (Value.ref C :: bm).contains (.type B) = true := by
    rw [List.contains_cons, pt, T.hasB, Bool.or_true]
  have ns := T.noStar
  simp only [checkBuiltinCall, T.newKind, T.newSplit, T.newRow]
  repeat (first
    | refine wpAny_loadPart_at lk ?_
    | (refine wpAny_isSubtype_exc lk ?_; rw [inB])
    | refine wpAny_staticBase_exc lk ?_
    | refine wpAny_madeBy_exc lk ?_
    | simp only [bne_self_eq_false, Bool.false_eq_true, if_false]
    | wp_step)
  exact fin
end
section
variable {P : Program} {w : World} {A : Around} {E : Value → Shared → Prop} {R : Result → Shared → Prop} {h : Heap} {g : Array GenState} {d : Drawn} {t : Nat} {os : OsState}
variable {nm q : Str} {C N : Addr} {bs bm tl : List Value} {hd : Bool} {sn : List Str} {sub : List Value} {ab : Bool} {col : Option Bool} {dd : Option Addr} {k0 k1 k2 k3 k5 : Option Value} {B nw it : String} {rest : List Value} {kw : List (Str × Value)} {fI : Addr}
theorem kw_new (T : ExcBaseFacts B nw it tl) (pt : ∀ n : String, bm.contains (.type n) = tl.contains (.type n)) (lk : h.get? C = some (excClassObj nm q C N bs bm hd sn sub ab col dd k0 k1 k2 k3 k5 nw))
    (fin : R (.ok (.ret (.ref (h.objs.size + 1)))) ⟨(h.push (PySem.W.kdv_tup rest)).push (PySem.HandSPX.excO C h.objs.size), g, d, t, os⟩) (few : rest.length ≤ sizeLine) : codeAny (model P w) A (.builtin nw ⟨.ref C :: rest, kw⟩) R ⟨h, g, d, t, os⟩ := by
  have y0 := T.ends
  have y1 : (Value.ref C :: bm).contains (.type B) = true := by
    rw [List.contains_cons, pt, T.hasB, Bool.or_true]
  have y2 : (Value.ref C :: bm).contains (.type "AttributeError") = false := by
    rw [List.contains_cons, pt, T.noAttr]
    rfl
  have y3 : (Value.ref C :: bm).contains (.type "NameError") = false := by
    rw [List.contains_cons, pt, T.noName]
    rfl
  refine codeAny_builtinAt T.entry ?_
  unfold Builtin.«BaseException.__new__»
  refine PySem.wpAt_bind ?_
  show PySem.wpAt _ _ _ (stack >>= _) _ _ _
  refine PySem.wpAt_bind (PySem.wpAt_stack fun p below => PySem.wpAt_of_wpAny ?_)
  wp_walk
  refine PySem.wpAt_of_wpAny ?_
  rw [T.owner]
  repeat (first
    | with_reducible refine wpAny_madeHere_exc T.canon lk ?_
    | with_reducible refine wpAny_loadPart_at lk ?_
    | (with_reducible refine wpAny_isSubtype_exc lk ?_; first | rw [y1] | rw [y2] | rw [y3])
    | wp_step)
  show R _ _
  rw [Heap.size_push]
  exact fin
theorem kw_type_call (T : ExcBaseFacts B nw it tl) (pt : ∀ n : String, bm.contains (.type n) = tl.contains (.type n)) {Q : Fin → Shared → Prop} (lk : h.get? C = some (excClassObj nm q C N bs bm hd sn sub ab col dd k0 k1 k2 k3 k5 nw))
    (li : PySem.W.Looks (model P w) h (typeLookup (.ref C) "__init__") (some (.ref fI))) (lb : ∀ me, PySem.W.Looks (model P w) h (bindSpecial (.ref fI) me) (.ref fI, [me])) (few : rest.length ≤ sizeLine)
    (fin : codeAny (model P w) A (.call (.ref fI) ⟨.ref (h.objs.size + 1) :: rest, kw⟩) (fun r s' => match r with | .ok (.ret v) => v = .none ∧ Q (.done (.ret (.ref (h.objs.size + 1)))) s' | .ok _ => False | .error e => E e s')
      ⟨(h.push (PySem.W.kdv_tup rest)).push (PySem.HandSPX.excO C h.objs.size), g, d, t, os⟩) : wpAny (model P w) A (Builtin.«type.__call__» ⟨.ref C :: rest, kw⟩) Q E ⟨h, g, d, t, os⟩ := by
  repeat (first
    | with_reducible refine wpAny_loadPart_at lk ?_
    | with_reducible refine wpAny_madeBy_exc lk ?_
    | wp_step)
  refine codeAny_call_builtin_code (Code.quiet_builtin _ T.quiet) (kw_new_check T pt lk ?_)
  refine kw_new T pt lk ?_ few
  show wpAny _ _ _ _ _ _
  have kp : ∀ b o, h.get? b = some o → ((h.push (PySem.W.kdv_tup rest)).push (PySem.HandSPX.excO C h.objs.size)).get? b = some o := fun b o z =>
    Heap.get?_push_of_some _ (Heap.get?_push_of_some _ z)
  have lk1 := kp _ _ lk
  have at1 : ((h.push (PySem.W.kdv_tup rest)).push (PySem.HandSPX.excO C h.objs.size)).get? (h.objs.size + 1) = some (PySem.HandSPX.excO C h.objs.size) := by heap_get
  have inC : (Value.ref C :: bm).contains (.ref C) = true := by simp
  have i1 := li.keeps kp
  have b1 := (lb (.ref (h.objs.size + 1))).keeps kp
  unfold isInstance
  repeat (first
    | with_reducible refine wpAny_loadPart_at at1 ?_
    | (with_reducible refine wpAny_isSubtype_exc lk1 ?_; rw [inC])
    | wp_step)
  show wpAny _ _ (typeLookup (.ref C) _) _ _ _
  refine i1.at ?_
  refine wpAny_holding (wpAny_bind (b1.at ?_))
  refine wpAny_bind (wpAny_call (codeAny_mono fin fun r s' z => ?_))
  rcases r with e | (v | _ | _ | _)
  · exact z
  all_goals first
    | exact False.elim z
    | skip
  obtain ⟨rfl, z⟩ := z
  first
    | exact wpAny_pure (wpAny_pure z)
    | (wp_walk; exact z)
theorem kw_call (T : ExcBaseFacts B nw it tl) (pt : ∀ n : String, bm.contains (.type n) = tl.contains (.type n)) (lk : h.get? C = some (excClassObj nm q C N bs bm hd sn sub ab col dd k0 k1 k2 k3 k5 nw))
    (li : PySem.W.Looks (model P w) h (typeLookup (.ref C) "__init__") (some (.ref fI))) (lb : ∀ me, PySem.W.Looks (model P w) h (bindSpecial (.ref fI) me) (.ref fI, [me])) (few : rest.length ≤ sizeLine)
    (fin : codeAny (model P w) (A.under (.builtin "type.__call__" ⟨.ref C :: rest, kw⟩)) (.call (.ref fI) ⟨.ref (h.objs.size + 1) :: rest, kw⟩) (PySem.W.InitBack (h.objs.size + 1) R) ⟨(h.push (PySem.W.kdv_tup rest)).push (PySem.HandSPX.excO C h.objs.size), g, d, t, os⟩) :
    codeAny (model P w) A (.call (.ref C) ⟨rest, kw⟩) R ⟨h, g, d, t, os⟩ := by
  have f1 := tc_lookup
  have f2 := tc_bind (.ref C)
  have ty : (⟨h, g, d, t, os⟩ : Shared).TypeIs (.ref C) "type" := ⟨_, lk, rfl⟩
  have isT : PySem.W.Looks (model P w) h (isInstance (.ref C) (.type "type")) true := by
    intro A' Q' E' s' k q
    have lk2 := k _ _ lk
    have f3 := tc_sub
    unfold isInstance
    obtain ⟨h', g', d', t', os'⟩ := s'
    repeat (first
      | assumption
      | with_reducible refine wpAny_loadPart_at lk2 ?_
      | wp_step)
  refine codeAny_of_tree ?_
  show wpAny _ _ (callAny (.ref C) _) _ _ _
  repeat (any_goals (first
    | assumption
    | with_reducible refine wpAny_loadPart_at lk ?_
    | wp_step))
  refine ⟨rfl, ?_⟩
  refine codeAny_call_builtin_at (Code.quiet_builtin _ (by decide +kernel)) entry_typeCall (@PySem.W.check_slot (model P w) _ _ _ "type.__call__" "type" "__call__" (.ref C) rest kw _ tc_kind tc_split isT (PySem.W.tc_args _ _ _) (kw_type_call T pt lk li lb few ?_))
  refine codeAny_mono fin fun r s' z => ?_
  rcases r with e | (v | _ | _ | _) <;> exact z
end
end Gn
set_option Elab.async false
set_option linter.all false
set_option maxRecDepth 100000
set_option maxHeartbeats 4000000
namespace Gn
open PySem PySem.Spec PyProof.Rows L2
/-- C(k = e, ..) kept -/
def tOwnK (C : Addr) (m : Nat) (sp : Sp) (gV : List V → List V → List V) (tk : TA) : TE := fun σ H Q => tk σ H fun zs H1 => zs.length = m ∧ ∀ a, H1 a = none →
  sp (gV [.ref a] zs) (upd H1 a (exo a C none)) (fun v H2 => v = .non ∧ Q (.ref a) H2) (fun _ _ _ => False)
section
variable {X : Cx} {tk : TA} {kws : List Keyword} {p pos : Pos}
theorem own_madeK {CX : CXT} {C fI : Addr} {k : Nat} {fd : FuncData} {ps ks : List Str} {sp : Sp} {ws : List Value} {zs : List V} {g : List Value → List Value → List Value} {gV : List V → List V → List V} {pins : List (Addr × Obj)} {σ : L2.St} {H1 : Hp} {s1 : Shared} {Q : VK} (T : OwC X.K C)
    (iC : PySem.W.findIn X.K (.ref C) "__init__" = some (some (.ref fI))) (tI : PySem.W.typeIn X.K (.ref fI) = some (.type "function")) (F1 : FnOk X.prog X.w X.K X.mg X.base CX k fI fd ps sp) (hr : Room (k + 1) X.A) (hb : KBn X.K fd ps 1 ks g gV)
    (hx : Passes CX X (fun _ _ _ => False)) (I1 : Inv X pins σ H1 s1) (rz : Vals zs ws) (lz : zs.length = ks.length) (q1 : ∀ a, H1 a = none → sp (gV [.ref a] zs) (upd H1 a (exo a C none)) (fun v H2 => v = .non ∧ Q (.ref a) H2) (fun _ _ _ => False)) :
    wpAny (model X.prog X.w) X.A (call (.ref C) [] (ks.zip ws)) (EP X pins σ Q) X.xe s1 := by
  obtain ⟨nm, q, N, bs, bm, sn, sub, ab, col, dd, k0, k1, k2, k3, k5, B, nw, it, tl, lk, pt, TB⟩ := T.cls
  obtain ⟨hp, gg, dr, tok, os⟩ := s1
  have up : hp.objs.size ≤ hp.objs.size + 1 := Nat.le_succ _
  have hn : H1 (hp.objs.size + 1) = none := I1.hok.fresh up
  have hq := q1 (hp.objs.size + 1) hn
  have kk : ∀ b o, hp.get? b = some o → ((hp.push (PySem.W.kdv_tup [])).push (PySem.HandSPX.excO C hp.objs.size)).get? b = some o := fun b o z =>
    Heap.get?_push_of_some _ (Heap.get?_push_of_some _ z)
  have got : ((hp.push (PySem.W.kdv_tup [])).push (PySem.HandSPX.excO C hp.objs.size)).get? (hp.objs.size + 1) = some (PySem.HandSPX.excO C hp.objs.size) := by heap_get
  have I2 := I1.laid (t' := tok) (a := hp.objs.size + 1) (o := exo (hp.objs.size + 1) C none) kk up (exo_ok got)
  have rs : Vals [V.ref (hp.objs.size + 1)] [Value.ref (hp.objs.size + 1)] := .cons rfl .nil
  have r2 := hb.rel rs rz
  have l2 : ws.length = ks.length := rz.length.symm.trans lz
  refine wpAny_call (kw_call TB.ex (fun n => pt.has n) (I1.kIn _ _ lk) (PySem.W.looks_findIn I1.kIn iC) (fun me => PySem.W.bind_fn I1.kIn me tI) (by rw [sizeLine_eq]; decide) (codeAny_mono
    (F1.run _ X.stack _ _ ⟨[Value.ref (hp.objs.size + 1)], ks.zip ws⟩ (g [Value.ref (hp.objs.size + 1)] ws) _ _ (fun _ _ _ => False) (hr.make C [] (ks.zip ws)) (I2.env0.make C [] (ks.zip ws)) (hb.to _ [Value.ref (hp.objs.size + 1)] ws I2.kIn rfl l2) r2 hq) fun r s' z => ?_))
  cases r with
  | error er => exact hx pins σ _ _ er s' I2 z
  | ok fl =>
    cases fl with
    | ret u =>
      obtain ⟨v, H2, os2, bare2, un2, hok2, rv, ev, q2⟩ := z
      subst ev
      obtain ⟨h2, g2, d2, t2, os'⟩ := s'
      exact ⟨rv, .ref (hp.objs.size + 1), H2, I1.call' (ch := []) os2 ((Un.laid kk up hn).trans un2) hok2 bare2 (fun b y => absurd y (by simp)), rfl, q2⟩
    | next => exact False.elim z
    | brk => exact False.elim z
    | cont => exact False.elim z
theorem pe_ownK {CX : CXT} {x : Str} {C fI : Addr} {k : Nat} {fd : FuncData} {ps ks : List Str} {sp : Sp} {g : List Value → List Value → List Value} {gV : List V → List V → List V} (T : OwC X.K C) (iC : PySem.W.findIn X.K (.ref C) "__init__" = some (some (.ref fI)))
    (tI : PySem.W.typeIn X.K (.ref fI) = some (.type "function")) (F1 : FnOk X.prog X.w X.K X.mg X.base CX k fI fd ps sp) (hr : Room (k + 1) X.A) (hb : KBn X.K fd ps 1 ks g gV) (hx : Passes CX X (fun _ _ _ => False)) (hg : Gl X x)
    (hm : X.mg x = some (.ref C)) (hkw : PK X kws tk) (hall : (backToKw pos (keywordEach kws X.env)).all (·.1.isSome) = true := by rfl) (hks : (backToKw pos (keywordEach kws X.env)).filterMap (·.1) = ks := by rfl) (hdb : (x == ("__debug__" : Str)) = false := by decide)
    (hpl : ((backTo pos (starEach [] X.env)).any (·.1) || (backToKw pos (keywordEach kws X.env)).any (·.1.isNone)) = false := by rfl) :
    PE X (.Call (.Name x p) [] kws pos) (tOwnK C ks.length sp gV tk) := ⟨fun pins s σ H Q I h =>
  wpAny_Call_Name_kw (ld_glob I hg hm (PySem.W.callWith_KW0 (h₀ := X.base) I.ok.mod.kin T.kC hall (thn (hkw.run pos pins s σ H _ I h) fun ws s2 ⟨zs, H2, I2, rz, lz, q2⟩ => ⟨I2.kIn, by
    rw [hks]
    exact own_madeK T iC tI F1 hr hb hx I2 rz lz q2⟩) hpl) hdb)⟩
end
/-! one keyword, and two the other way round, behind the object itself -/
def kq1 {α : Type} : List α → List α → List α
  | [s], [a] => [s, a]
  | _, _ => []
def kq2s {α : Type} : List α → List α → List α
  | [s], [a, b] => [s, b, a]
  | _, _ => []
section
variable {K : PySem.W.Frag} {fd : FuncData}
theorem kn1 {p0 p : Str} (h : ∀ s a : Value, bindArgs fd ⟨[s], [(p, a)]⟩ = pure [(p0, s), (p, a)]) : KBn K fd [p0, p] 1 [p] kq1 kq1 :=
  ⟨fun s us ws _ l1 l2 => match us, ws, l1, l2 with
    | [x], [a], _, _ => .of_eq (h x a), fun {vs us zs ws} r rz => by
    cases r with
    | nil => exact .nil
    | cons a b => cases b with
      | nil => cases rz with
        | nil => exact .nil
        | cons c d => cases d with
          | nil => exact .cons a (.cons c .nil)
          | cons _ _ => exact .nil
      | cons _ _ => exact .nil⟩
theorem kn2s {p0 p q : Str} (h : ∀ s a b : Value, bindArgs fd ⟨[s], [(q, b), (p, a)]⟩ = pure [(p0, s), (p, a), (q, b)]) : KBn K fd [p0, p, q] 1 [q, p] kq2s kq2s :=
  ⟨fun s us ws _ l1 l2 => match us, ws, l1, l2 with
    | [x], [b, a], _, _ => .of_eq (h x a b), fun {vs us zs ws} r rz => by
    cases r with
    | nil => exact .nil
    | cons a b => cases b with
      | nil => cases rz with
        | nil => exact .nil
        | cons c d => cases d with
          | nil => exact .nil
          | cons e f => cases f with
            | nil => exact .cons a (.cons e (.cons c .nil))
            | cons _ _ => exact .nil
      | cons _ _ => exact .nil⟩
end
end Gn
set_option Elab.async false
set_option linter.all false
set_option maxRecDepth 100000
set_option maxHeartbeats 4000000
/-! own exceptions whose __init__ keeps what is passed -/
namespace Gn
open PySem PySem.Spec PyProof.Rows L2
/-- at a: an exception of the class at C that has these fields -/
def Kept (H : Hp) (a C : Addr) (fs : List (Str × V)) : Prop := (fs = [] ∧ H a = some (exo a C none)) ∨ ∃ d, H a = some (exo a C (some d)) ∧ H d = some (exd d fs)
theorem Kept.same {H H' : Hp} {a C : Addr} {fs : List (Str × V)} (h : Kept H a C fs) (e : Same H H') : Kept H' a C fs := by
  rcases h with ⟨z, h⟩ | ⟨d, h1, h2⟩
  · exact .inl ⟨z, e _ _ h⟩
  · exact .inr ⟨d, e _ _ h1, e _ _ h2⟩
/-- the same, its dict new -/
def NewE (H H' : Hp) (a C : Addr) (fs : List (Str × V)) : Prop := (fs = [] ∧ H' a = some (exo a C none)) ∨ ∃ d, H d = none ∧ H' a = some (exo a C (some d)) ∧ H' d = some (exd d fs)
theorem NewE.kept {H H' : Hp} {a C : Addr} {fs : List (Str × V)} (h : NewE H H' a C fs) : Kept H' a C fs := by
  rcases h with h | ⟨d, _, h⟩
  · exact .inl h
  · exact .inr ⟨d, h⟩
/-- all but a is as it was -/
def But (H H' : Hp) (a : Addr) : Prop := ∀ b o, b ≠ a → H b = some o → H' b = some o
def spIni (K : PySem.W.Frag) (fl : List Str) : Sp := fun vs H Q _ => ∃ (a C : Addr) (xs : List V), vs = .ref a :: xs ∧ xs.length = fl.length ∧ OwC K C ∧ (∀ f ∈ fl, PySem.W.findIn K (.ref C) f = some none) ∧ H a = some (exo a C none) ∧
  ∀ H', But H H' a → NewE H H' a C (fl.zip xs).reverse → Q .non H'
section
variable {P : Program} {w : World} {K : PySem.W.Frag} {mg : Str → Option Value} {base : Heap} {f : Addr} {fd : FuncData} {qual : Str} {st : Stmt}
theorem but_put {H : Hp} {a d : Addr} {o o' : HO} (hd : H d = none) : But H (upd (upd H d o) a o') a := fun b u hb z => by
  rw [upd_ne hb, upd_ne (ne_of_none z hd)]
  exact z
theorem ini0 {pos : Pos} (F : Fun K "__init__" qual st f fd) (S : FnScope ["self"] ["self"] (defScope st)) (hb : defBody st = [.Pass pos]) : FnOk P w K mg base CX0 1 f fd ["self"] (spIni K []) := by
  refine F.ok S (fun vs H Q E h => ?_) (fun cdv A outer s H vs Q E hr h => ?_)
  · obtain ⟨a, C, xs, rfl, l, _⟩ := h
    cases xs with
    | nil => rfl
    | cons _ _ => cases l
  · obtain ⟨a, C, xs, rfl, l, _, _, ea, q⟩ := h
    rw [hb]
    match xs, l with
    | [], _ => exact ⟨_, pss_one ps_pass, q H (fun b o _ z => z) (.inl ⟨rfl, ea⟩)⟩
theorem ini1 {n : Str} {p1 p2 p3 pos : Pos} (F : Fun K "__init__" qual st f fd) (S : FnScope ["self", n] ["self", n] (defScope st)) (hb : defBody st = [.Assign [.Attribute (.Name "self" p1) n p2] (.Name n p3) pos])
    (v0 : Vis (defScope st) "self") (v1 : Vis (defScope st) n) (d1 : (n == ("__debug__" : Str)) = false) (c1 : (n == ("__classdict__" : Str)) = false) :
    FnOk P w K mg base CX0 1 f fd ["self", n] (spIni K [n]) := by
  refine F.ok S (fun vs H Q E h => ?_) (fun cdv A outer s H vs Q E hr h => ?_)
  · obtain ⟨a, C, xs, rfl, l, _⟩ := h
    rw [List.length_cons, l]
    rfl
  · obtain ⟨a, C, xs, rfl, l, T, no, ea, q⟩ := h
    rw [hb]
    match xs, l with
    | [x], _ =>
      refine ⟨_, pss_one (ps_put (pv 0 rfl v0) (pv 1 rfl v1 d1 c1)), ?_⟩
      exact ⟨_, rfl, _, rfl, a, C, rfl, T, no n (List.mem_singleton.mpr rfl), .inl ⟨ea, fun d hd ne => q _ (but_put hd) (.inr ⟨d, hd, upd_same, by rw [upd_ne ne, upd_same]; rfl⟩)⟩⟩
theorem ini2 {n m : Str} {p1 p2 p3 p4 p5 p6 pos pos' : Pos} (F : Fun K "__init__" qual st f fd) (S : FnScope ["self", n, m] ["self", n, m] (defScope st))
    (hb : defBody st = [.Assign [.Attribute (.Name "self" p1) n p2] (.Name n p3) pos, .Assign [.Attribute (.Name "self" p4) m p5] (.Name m p6) pos'])
    (v0 : Vis (defScope st) "self") (v1 : Vis (defScope st) n) (d1 : (n == ("__debug__" : Str)) = false) (c1 : (n == ("__classdict__" : Str)) = false) (v2 : Vis (defScope st) m) (d2 : (m == ("__debug__" : Str)) = false) (c2 : (m == ("__classdict__" : Str)) = false) :
    FnOk P w K mg base CX0 1 f fd ["self", n, m] (spIni K [n, m]) := by
  refine F.ok S (fun vs H Q E h => ?_) (fun cdv A outer s H vs Q E hr h => ?_)
  · obtain ⟨a, C, xs, rfl, l, _⟩ := h
    rw [List.length_cons, l]
    rfl
  · obtain ⟨a, C, xs, rfl, l, T, no, ea, q⟩ := h
    rw [hb]
    match xs, l with
    | [x, y], _ =>
      refine ⟨_, pss_cons (ps_put (pv 0 rfl v0) (pv 1 rfl v1 d1 c1)) (pss_one (ps_put (pv 0 rfl v0) (pv 2 rfl v2 d2 c2))), ?_⟩
      refine ⟨_, rfl, _, rfl, a, C, rfl, T, no n (by simp), .inl ⟨ea, fun d hd ne => ?_⟩⟩
      refine ⟨_, rfl, _, rfl, a, C, rfl, T, no m (by simp), .inr ⟨d, _, upd_same, by rw [upd_ne ne, upd_same], by show 1 ≤ 900; decide, ?_⟩⟩
      refine q _ (fun b o hb z => ?_) (.inr ⟨d, hd, by rw [upd_ne (Ne.symm ne), upd_same], upd_same⟩)
      rw [upd_ne (ne_of_none z hd), upd_ne hb, upd_ne (ne_of_none z hd)]
      exact z
end
/-- such a class of the text: its name, the fields in the order of its parameters -/
structure OwE (P : Program) (w : World) (K : PySem.W.Frag) (mg : Str → Option Value) (base : Heap) (nm : Str) (fl : List Str) (C f : Addr) (fd : FuncData) : Prop where
  own : OwC K C
  ini : PySem.W.findIn K (.ref C) "__init__" = some (some (.ref f))
  ty : PySem.W.typeIn K (.ref f) = some (.type "function")
  xf : XfC K C
  ex : ExcC K C
  no : ∀ n ∈ fl, PySem.W.findIn K (.ref C) n = some none
  g : mg nm = some (.ref C)
  run : FnOk P w K mg base CX0 1 f fd ("self" :: fl) (spIni K fl)
  b : Binds K fd ("self" :: fl) []
def tMk (C : Addr) (fl : List Str) (ta : TA) : TE := fun σ H Q => ta σ H fun vs H1 => vs.length = fl.length ∧ ∀ a H2, Same H1 H2 → Kept H2 a C (fl.zip vs).reverse → Q (.ref a) H2
def tMkK (C : Addr) (fl : List Str) (gV : List V → List V) (n : Nat) (ta : TA) : TE := fun σ H Q => ta σ H fun zs H1 => zs.length = n ∧ ∀ a H2, Same H1 H2 → Kept H2 a C (fl.zip (gV zs)).reverse → Q (.ref a) H2
theorem PE.imp {X : Cx} {e : Expr} {t t' : TE} (h : PE X e t) (k : ∀ σ H Q, t' σ H Q → t σ H Q) : PE X e t' := ⟨fun pins s σ H Q I z => h.run pins s σ H Q I (k σ H Q z)⟩
theorem same_but {H H2 : Hp} {a : Addr} {o : HO} (ha : H a = none) (h : But (upd H a o) H2 a) : Same H H2 := fun b u z => h b u (ne_of_none z ha) (by rw [upd_ne (ne_of_none z ha)]; exact z)
section
variable {X : Cx} {nm : Str} {fl : List Str} {C f : Addr} {fd : FuncData} {e : Expr} {es : List Expr} {ta : TA} {p pos : Pos}
theorem pe_mk (T : OwE X.prog X.w X.K X.mg X.base nm fl C f fd) (hl : fl.length ≤ 1000) (hr : Room 2 X.A) (hg : Gl X nm) (hx : Passes CX0 X (fun _ _ _ => False)) (ha : PA X (e :: es) ta) (hdb : (nm == ("__debug__" : Str)) = false := by decide)
    (he : starEach (e :: es) X.env = (false, eval e X.env) :: starEach es X.env := by rfl) (hpl : (backTo pos (starEach es X.env)).any (·.1) = false := by rfl) : PE X (.Call (.Name nm p) (e :: es) [] pos) (tMk C fl ta) :=
  ⟨fun pins s σ H Q I h => wpAny_Call_Name_kw (ld_glob I hg T.g (PySem.W.callWith_K (h₀ := X.base) I.ok.mod.kin T.own.kC (thn (ha.run pos pins s σ H _ I h) fun us s1 ⟨vs, H1, I1, r1, l, k⟩ => ⟨I1.kIn,
    own_made (dvs := []) T.own T.ini T.ty T.run hr T.b .nil hx I1 r1 (fun a n => ⟨a, C, vs, by rw [List.append_nil], l, T.own, T.no, upd_same, fun H2 bt kt => ⟨rfl, k a H2 (same_but n bt) kt.kept⟩⟩) (by omega)⟩) he hpl) hdb)⟩
theorem pe_mk0 (T : OwE X.prog X.w X.K X.mg X.base nm [] C f fd) (hr : Room 2 X.A) (hg : Gl X nm) (hx : Passes CX0 X (fun _ _ _ => False)) (hdb : (nm == ("__debug__" : Str)) = false := by decide) :
    PE X (.Call (.Name nm p) [] [] pos) (tMk C [] tNil) :=
  ⟨fun pins s σ H Q I h => wpAny_Call_Name_kw (ld_glob I hg T.g (PySem.W.callWith_K0 I.kIn T.own.kC
    (own_made (us := []) (vs := []) (dvs := []) T.own T.ini T.ty T.run hr T.b .nil hx I .nil (fun a n => ⟨a, C, [], rfl, rfl, T.own, T.no, upd_same, fun H2 bt kt => ⟨rfl, h.2 a H2 (same_but n bt) kt.kept⟩⟩) (by decide))) hdb)⟩
theorem pe_mkK {kws : List Keyword} {tk : TA} {ks : List Str} {g : List Value → List Value → List Value} {gV : List V → List V → List V} (T : OwE X.prog X.w X.K X.mg X.base nm fl C f fd) (hb : KBn X.K fd ("self" :: fl) 1 ks g gV) (hr : Room 2 X.A) (hg : Gl X nm)
    (hgV : ∀ (s : V) (zs : List V), zs.length = ks.length → ∃ ys, gV [s] zs = s :: ys ∧ ys.length = fl.length ∧ ∀ s', gV [s'] zs = s' :: ys) (hx : Passes CX0 X (fun _ _ _ => False)) (hkw : PK X kws tk)
    (hall : (backToKw pos (keywordEach kws X.env)).all (·.1.isSome) = true := by rfl) (hks : (backToKw pos (keywordEach kws X.env)).filterMap (·.1) = ks := by rfl) (hdb : (nm == ("__debug__" : Str)) = false := by decide)
    (hpl : ((backTo pos (starEach [] X.env)).any (·.1) || (backToKw pos (keywordEach kws X.env)).any (·.1.isNone)) = false := by rfl) :
    PE X (.Call (.Name nm p) [] kws pos) (tMkK C fl (fun zs => (gV [.non] zs).tail) ks.length tk) :=
  ⟨fun pins s σ H Q I h => wpAny_Call_Name_kw (ld_glob I hg T.g (PySem.W.callWith_KW0 (h₀ := X.base) I.ok.mod.kin T.own.kC hall (thn (hkw.run pos pins s σ H _ I h) fun ws s2 ⟨zs, H2, I2, rz, lz, q2⟩ => ⟨I2.kIn, by
    rw [hks]
    obtain ⟨ys, e0, l0, e1⟩ := hgV .non zs lz
    exact own_madeK T.own T.ini T.ty T.run hr hb hx I2 rz lz fun a n => ⟨a, C, ys, e1 _, l0, T.own, T.no, upd_same, fun H3 bt kt => ⟨rfl, q2 a H3 (same_but n bt) (by show Kept H3 a C (fl.zip (gV [V.non] zs).tail).reverse; rw [e0]; exact kt.kept)⟩⟩⟩) hpl) hdb)⟩
/-- the rest of what is asked of such a value -/
theorem Kept.at {H : Hp} {a C : Addr} {fs : List (Str × V)} (h : Kept H a C fs) : ∃ d, H a = some (exo a C d) ∧ ∀ y, d = some y → ∃ fs, H y = some (exd y fs) := by
  rcases h with ⟨_, h⟩ | ⟨d, h1, h2⟩
  · exact ⟨none, h, fun y z => nomatch z⟩
  · exact ⟨some d, h1, fun y z => by cases z; exact ⟨_, h2⟩⟩
end
/-- such a one raised: what a handler gets -/
theorem thr_of {K : PySem.W.Frag} {C : Addr} {n : Str} {i : Nat} {x : V} {σ : L2.St} {H : Hp} {Q : XK} (T : OwC K C) (no : PySem.W.findIn K (.ref C) n = some none) (hs : σ[i]? = some (some x))
    (k : ∀ d H', Same H H' → H d = none → H' d = some (.xd [(n, x)]) → Q (.ref C) (some d) H') : tThr C (spIni K [n]) [] (tCons (tVar i) tNil) σ H Q := by
  refine ⟨x, hs, Nat.le_of_ble_eq_true rfl, fun a ha => ⟨a, C, [x], rfl, rfl, T, fun f hf => by rw [List.mem_singleton.mp hf]; exact no, upd_same, fun H2 bt kt => ⟨rfl, .inl ?_⟩⟩⟩
  rcases kt with ⟨z, _⟩ | ⟨d, hd, h1, h2⟩
  · cases z
  · have da : d ≠ a := fun z => by
      rw [z, upd_same] at hd
      cases hd
    have hd1 : H d = none := by
      rw [upd_ne da] at hd
      exact hd
    refine ⟨d, _, h1, h2, hd1, k d _ (fun b o z => ?_) hd1 upd_same⟩
    rw [upd_ne (ne_of_none z hd1), del_ne (ne_of_none z ha)]
    exact bt b o (ne_of_none z ha) (by rw [upd_ne (ne_of_none z ha)]; exact z)
end Gn
set_option Elab.async false
set_option linter.all false
set_option maxRecDepth 100000
set_option maxHeartbeats 4000000
/-! a handler for three classes, whose exception has a name -/
namespace L2
open PySem PySem.Spec PyProof.Rows
/-- what such a handler wants where its body raises -/
def wTri (K : PySem.W.Frag) (cs : List Value) (j : Nat) (su : Addr → Value → Option Addr → TS) (Wo : WX) (D : Ends) : WX := fun C d τ G =>
  ∃ hit, PySem.W.exmAny K C cs = some hit ∧
    (hit = true → ∀ x, G x = none → su x C d { rt := D.rt, nx := fun τ' G' => D.nx (τ'.set j none) G', ct := fun τ' G' => D.ct (τ'.set j none) G', bk := fun τ' G' => D.bk (τ'.set j none) G' } (τ.set j (some (.ref x))) G) ∧
    (hit = false → Wo C d τ G)
def triO (u v z : Value) : Obj := { cls := .type "tuple", data := .seq [u, v, z].toArray }
section
variable {X : Cx} {pins : List (Addr × Obj)} {τ : St} {G : Hp} {t0 t1 : Shared}
theorem ev_named {Q E : Value → Shared → Prop} {x : Str} {c : Value} {ps : Pos} (J : Inv X pins τ G t1) (nm : Names X x c) (z : Q c t1) : wpAny (model X.prog X.w) X.A (eval (.Name x ps) X.env) Q E t1 := by
  obtain ⟨g, nd, m⟩ := nm
  rcases m with e | ⟨e, b, o⟩
  · exact ld_glob J g e z nd
  · exact ld_blt J g e b z o nd
theorem ev_tri {Q E : Value → Shared → Prop} {x y z : Str} {u v r : Value} {p1 p2 p3 pt : Pos} {kk : Nat} (J : Inv X pins τ G t1) (n1 : Names X x u) (n2 : Names X y v) (n3 : Names X z r)
    (q : Q (.ref t1.heap.objs.size) { t1 with heap := t1.heap.push (triO u v r) }) : wpAny (model X.prog X.w) X.A (eval (.Tuple [.Name x p1, .Name y p2, .Name z p3] kk pt) X.env) Q E t1 :=
  wpAny_Tuple (wpAny_items_cons (ev_named J n1 (wpAny_items_cons (ev_named J n2 (wpAny_items_cons (ev_named J n3 (wpAny_items_nil ⟨by size_fits, q⟩)))))))
/-- the handler's side: x flies, as it was told, and all else stands -/
structure Down (X : Cx) (pins : List (Addr × Obj)) (τ : St) (G : Hp) (t0 t1 : Shared) (B : Heap) (x : Addr) (C : Value) (d : Option Addr) : Prop where
  was : Inv X pins τ G t0
  nb : ∀ b o, t0.heap.get? b = some o → b ∉ frs X.stack → B.get? b = some o
  up : t0.heap.UpToSlots t1.heap
  fly : HandSPX.FlyingZ B (X.env :: X.outer) x (Zc C d) t1.heap
  new : G x = none
  os : t1.os = t0.os
  ag : AllBare t1.gens
variable {B : Heap} {x : Addr} {C : Value} {d : Option Addr}
theorem Down.inv (S : Down X pins τ G t0 t1 B x C d) : Inv X pins τ G t1 := S.was.landed S.nb S.fly.1 S.up S.os S.ag
theorem Down.on (S : Down X pins τ G t0 t1 B x C d) {h : Heap} (f : HandSPX.FlyingZ B (X.env :: X.outer) x (Zc C d) h) (u : t1.heap.UpToSlots h) : Down X pins τ G t0 { t1 with heap := h } B x C d :=
  ⟨S.was, S.nb, S.up.trans u, f, S.new, S.os, S.ag⟩
theorem Down.more (S : Down X pins τ G t0 t1 B x C d) (o : Obj) : Down X pins τ G t0 { t1 with heap := t1.heap.push o } B x C d := by
  have k : ∀ b u, t1.heap.get? b = some u → (t1.heap.push o).get? b = some u := fun _ _ z => Heap.get?_push_of_some _ z
  refine S.on ?_ (Heap.UpToSlots.of_keeps k)
  obtain ⟨a1, a2, a3, oe, w, T, oT, r, g1, g2, g3, g4, g5, g6, g7, g8⟩ := S.fly
  exact ⟨fun b u z => k b u (a1 b u z), a2, a3.of_keeps fun b u z _ => ⟨u, k b u z, rfl⟩, oe, w, T, oT, r, k _ _ g1, g2, g3, g4, g5, g6, k _ _ g7, g8⟩
theorem Down.suite (S : Down X pins τ G t0 t1 B x C d) (es : X.stack = X.env :: X.outer) (ef : X.env.frame = some X.env.locals) :
    ∃ oe, t1.heap.get? x = some oe ∧ Zc C d oe ∧ (∃ w, oe.data = .fields w) ∧ Inv (X.suite x ((x, oe) :: (X.pn ++ pins))) [] τ G t1 := by
  obtain ⟨oe, w, g, z, dt⟩ := S.fly.there
  have off : x ∉ frs (X.env :: X.outer) := fun m => by
    obtain ⟨_, o', e, nf⟩ := S.fly.2.2.1.mem m
    cases g.symm.trans e
    exact nf _ dt
  refine ⟨oe, g, z, ⟨w, dt⟩, S.inv.suite g dt S.new (fun e => off ?_) fun m => off ?_⟩
  · exact List.mem_filterMap.mpr ⟨X.env, by simp, by rw [ef, e]⟩
  · obtain ⟨v, m1, m2⟩ := List.mem_filterMap.mp m
    exact List.mem_filterMap.mpr ⟨v, List.mem_cons.mpr (.inr m1), m2⟩
end
section
variable {X : Cx} {y1 y2 y3 n : Str} {u1 u2 u3 : Value} {j : Nat} {bd su : List Stmt} {s₀ : Stmt} {q1 q2 q3 qt qh qq : Pos} {kk : Nat} {tb : WX → TS} {ts : Addr → Value → Option Addr → TS} {Wo : WX}
theorem ps_try_tri (es : X.stack = X.env :: X.outer) (ef : X.env.frame = some X.env.locals) (nd : X.N.Nodup) (at_ : X.N[j]? = some n) (lo : X.env.kindOf n = some .local) (m1 : Names X y1 u1) (m2 : Names X y2 u2) (m3 : Names X y3 u3) (tk : Takes X Wo)
    (B : ∀ (W : WX) (pn : List (Addr × Obj)) (xe : Value → Shared → Prop), Takes (X.tr pn xe) W → PassesOwn (model X.prog X.w) X.A X.env xe → PSs (X.tr pn xe) bd (tb W))
    (S : ∀ (x : Addr) (oe : Obj) (C : Value) (d : Option Addr) (pn : List (Addr × Obj)), Zc C d oe → (∃ w, oe.data = .fields w) → PSs (X.suite x ((x, oe) :: pn)) (s₀ :: su) (ts x C d)) :
    PS X (.Try bd [.ExceptHandler (some (.Tuple [.Name y1 q1, .Name y2 q2, .Name y3 q3] kk qt)) (some n) (s₀ :: su) qh] [] [] qq) (fun D τ G => tb (wTri X.K [u1, u2, u3] j ts Wo D) D τ G) := by
  constructor
  intro pins t τ G D J want
  have ok := J.ok
  have frames : X.A.frames = some (X.env :: X.outer) := ok.frames.trans (by rw [es])
  let hs := [ExceptHandler.ExceptHandler (some (.Tuple [.Name y1 q1, .Name y2 q2, .Name y3 q3] kk qt)) (some n) (s₀ :: su) qh]
  let after : Value → Shared → Prop := fun e t1 => wpAny (model X.prog X.w) X.A (noteFrame e X.env) (fun _ t2 => wpAny (model X.prog X.w) X.A (setFlight e none) (fun _ t3 => wpAny (model X.prog X.w) X.A (handleBy e X.env hs) (SP X pins D) X.xe t3) X.xe t2) X.xe t1
  have look : Takes (X.tr (X.pn ++ pins) after) (wTri X.K [u1, u2, u3] j ts Wo D) := by
    rintro e t1 ⟨x, H0, sI, pi, τ1, G1, C, d, rfl, J1, nb, up, sky, new, os, ag, hit, hm, yes, no⟩
    show wpAny (model X.prog X.w) X.A (noteFrame (.ref x) X.env) _ _ _
    rw [show X.stack = X.env :: X.outer from es] at sky
    refine Sky.land Zc.steady frames ef sky fun h fl u => ?_
    have D1 : Down X pins τ1 G1 sI { t1 with heap := h } H0 x C d := ⟨J1.ofTry ok, nb, up.trans u, fl, new, os, ag⟩
    obtain ⟨oe, ge, gz, gd, I1⟩ := D1.suite es ef
    refine wpAny_handleBy_cons (codeAny_handlers_test (ev_tri I1 m1 m2 m3 ?_)) (by intro z; cases z)
    have D2 := D1.more (triO u1 u2 u3)
    have there : (h.push (triO u1 u2 u3)).get? x = some oe := Heap.get?_push_of_some _ ge
    have LT : PySem.W.Looks (model X.prog X.w) (h.push (triO u1 u2 u3)) (typeOf (.ref x)) C := fun A Q E s k z => wpAny_typeOf_ref (k _ _ there) (by rw [gz.1]; exact z)
    refine (PySem.W.exm_tup3 D2.inv.kIn LT (Heap.get?_push_size h rfl) hm).here ?_
    cases hit
    · show wpAny _ X.A (handleBy (.ref x) X.env []) _ _ _
      refine wpAny_handleBy_nil ?_
      obtain ⟨_, _, _, o2, w, T, _, _, g1, _, g3, g4, _⟩ := id D2.fly
      have away : wpAny (model X.prog X.w) X.A (setFlight (.ref x) X.env.frame) (fun _ t5 => wpAny (model X.prog X.w) X.A (throw (.ref x) : Sem Flow) (SP X pins D) X.xe t5) X.xe { t1 with heap := h.push (triO u1 u2 u3) } := by
        rw [ef]
        exact HandSPX.setFlight_upZ D2.fly fun h' held u' => wpAny_throw (tk _ _ ⟨x, H0, sI, pins, τ1, G1, C, d, rfl, D2.was, nb, D2.up.trans u', .inr (.inr (by rw [es]; exact held)), new, os, ag, no rfl⟩)
      unfold PySem.passOn
      refine wpAny_bind (wpAny_field g1 g3 g4 ?_)
      rw [if_neg (by simp : ¬ ((Value.ref T == Value.none) = true))]
      first
        | exact wpAny_bind (wpAny_pure (wpAny_bind away))
        | exact wpAny_bind away
    · refine codeAny_handlers_suite_as (HandSPX.lands_againZ D2.fly fun h' fl' u' => ?_)
      obtain ⟨o3, _, z3, d3, I3⟩ := (D2.on fl' u').suite es ef
      refine store_ok (X := X.suite x ((x, o3) :: (X.pn ++ pins))) (v := .ref x) I3 nd at_ (.inl lo) rfl (fun t5 I5 => ?_) (.inr lo)
      have off : ∀ {τ6 : St} {G6 : Hp} {t6 : Shared} {Q : Shared → Prop}, Inv (X.suite x ((x, o3) :: (X.pn ++ pins))) [] τ6 G6 t6 → (∀ t7, Inv X pins (τ6.set j none) G6 t7 → Q t7) →
          wpAny (model X.prog X.w) X.A (do bindName X.env n .none; unbindBehindTheSuite X.env n qh) (fun _ t7 => Q t7) X.xe t6 := fun I6 go => gone_ok (I6.unsuite ok) nd at_ lo go
      refine wpAny_mono ((S x o3 C d (X.pn ++ pins) z3 d3).run [] t5 _ G1 _ I5 (yes rfl x new)) (fun fl t6 out => ?_) fun _ _ z => z.elim
      cases fl <;> first
        | (obtain ⟨τ6, G6, I6, w6⟩ := out; exact off I6 fun t7 I7 => ⟨_, _, I7, w6⟩)
        | (obtain ⟨v6, τ6, G6, I6, e6, w6⟩ := out; exact off I6 fun t7 I7 => ⟨_, _, _, I7, e6, w6⟩)
  refine wpAny_Try_except (wpAny_mono ((B _ _ after look PassesOwn.looking).run [] t τ G D (J.toTry _) want) (fun fl t1 out => ?_) fun _ _ z => z)
  cases fl <;> first
    | (obtain ⟨τ1, G1, I1, w1⟩ := out; exact wpAny_execs_nil ⟨τ1, G1, I1.ofTry ok, w1⟩)
    | (obtain ⟨τ1, G1, I1, w1⟩ := out; exact ⟨τ1, G1, I1.ofTry ok, w1⟩)
    | (obtain ⟨v1, τ1, G1, I1, e1, w1⟩ := out; exact ⟨v1, τ1, G1, I1.ofTry ok, e1, w1⟩)
end
end L2
set_option Elab.async false
set_option linter.all false
set_option maxRecDepth 100000
set_option maxHeartbeats 4000000
/-! within a handler: a walk over a list comes to its end; a comprehension over a list -/
namespace HotX
open PySem PySem.Spec PyProof.Rows
section
variable {prog : Program} {w : World} {A : Around} {E : Value → Shared → Prop} {s : Shared}
theorem list_ends {j l y : Addr} {i : Nat} {vs : Array Value} {Q : Option Value → Shared → Prop} (hot : HotAt A y s.heap) (ne : y ≠ j) (J : s.heap.IsListIter j l i) (L : s.heap.IsList l vs) (out : vs[i]? = none)
    (q : ∀ h, (∀ b o, b ≠ j → s.heap.get? b = some o → h.get? b = some o) → Q none { s with heap := h }) : wpAny (model prog w) A (pyNext (.ref j)) Q E s := by
  obtain ⟨o, ho, hc, hd⟩ := id J
  obtain ⟨ol, hol, _, nl, hdl⟩ := L
  obtain ⟨hh, oy, ys, h1, d1, c1⟩ := hot
  unfold pyNext
  refine wpAny_bind (wpAny_attempt (wpAny_callSpecial?_slot (name := Str.ofString "__next__") J.typeIs slot_listiter_next (wpAny_call_entry slot_listiter_next J.typeIs entry_listiter_next ?_ (args_listiter_next _))))
  change wpAny _ _ (field (.ref j) 0 >>= _) _ _ s
  refine wpAny_bind (wpAny_field ho hd (x := .ref l) rfl ?_)
  show wpAny _ _ (ite ((Value.ref l == Value.none) = true) _ _) _ _ _
  rw [if_neg (fun z => nomatch z : ¬ ((Value.ref l == Value.none) = true))]
  change wpAny _ _ (field (.ref j) 1 >>= _) _ _ s
  refine wpAny_bind (wpAny_field ho hd (x := .int i 0) rfl ?_)
  change wpAny _ _ (seqItems? (.ref l) >>= _) _ _ s
  refine wpAny_bind (wpAny_seqItems hol hdl ?_)
  simp only [Int.toNat_natCast, out]
  refine wpAny_bind (wpAny_rule (wpAny_bind (wpAny_setField ho hd (by simp) ?_)))
  change wpAny _ _ (newExc (.type "StopIteration") [] >>= _) _ _ _
  refine wpAny_bind ?_
  simp only [newExc, newTuple]
  have k1 : ∀ b u, b ≠ j → s.heap.get? b = some u → (s.heap.update j (Obj.mapFields (·.setIfInBounds 0 Value.none))).get? b = some u := fun b u n e => (Heap.get?_update_other _ _ n.symm).trans e
  refine wpAny_bind (wpAny_newObj_type ?_ (by size_fits))
  refine wpAny_bind (m := firstArgMember _ _) (wpAny_of_eq (a := Value.none) (by first | rfl | (simp only [firstArgMember]; rfl)) ?_)
  refine wpAny_newObj_type ?_ (by size_fits)
  have top := Heap.get?_push_of_some { cls := .type "tuple", data := .seq ([] : List Value).toArray } (k1 y oy ne h1)
  refine raiseNew_hot ⟨hh, oy, ys, Heap.get?_push_of_some _ top, d1, c1⟩ (Nat.ne_of_lt (Heap.lt_size top)) (Heap.get?_push_size _ rfl) rfl (by first | (simp; done) | (simp; omega)) ?_
  refine wpAny_bind (wpAny_isInstance (T := "StopIteration") (b := true) ⟨_, Heap.get?_update_self _ (Heap.get?_push_size _ rfl) rfl, rfl⟩ isSubtype_stop (wpAny_pure (q _ fun b u n e => ?_)))
  have z := Heap.get?_push_of_some { cls := .type "tuple", data := .seq ([] : List Value).toArray } (k1 b u n e)
  rw [Heap.get?_update_other _ _ (Nat.ne_of_gt (Heap.lt_size z))]
  exact Heap.get?_push_of_some _ z
/-- all items of a list, taken one by one -/
theorem list_items {l y : Addr} {vs : Array Value} {Q : List Value → Shared → Prop} (hot : HotAt A y s.heap) (L : s.heap.IsList l vs) (q : ∀ h, Heap.ExtBut s.heap.objs.size s.heap h → Q vs.toList { s with heap := h }) :
    wpAny (model prog w) A (unpackItems (.ref l) vs.size none) Q E s := by
  have lj : l ≠ s.heap.objs.size := by
    obtain ⟨o, e, _⟩ := L
    exact Nat.ne_of_lt (Heap.lt_size e)
  obtain ⟨hh, oy, ys, h1, d1, c1⟩ := hot
  have yj : y ≠ s.heap.objs.size := Nat.ne_of_lt (Heap.lt_size h1)
  unfold unpackItems
  refine wpAny_bind ?_
  unfold notIterableAtAll
  refine wpAny_bind (wpAny_specialOf L.typeIs slot_list_iter.lookup (wpAny_pure ?_))
  simp only [Bool.false_eq_true, if_false]
  refine wpAny_bind (wpAny_holding (wpAny_pyIter_list L (wpAny_bind (wpAny_holding (PySem.W.kun_draw lj vs.size 0 _ _ ⟨_, Heap.get?_push_size _ rfl, rfl, rfl⟩ (L.push _) (by omega) fun h2 i2 s2 => ?_)))))
  have all : List.take vs.size (List.drop 0 vs.toList) = vs.toList := by
    rw [List.drop_zero]
    exact List.take_of_length_le (by simp)
  rw [all, if_neg (by simp)]
  have k2 : ∀ b o, b ≠ s.heap.objs.size → s.heap.get? b = some o → h2.get? b = some o := fun b o n e => s2.extBut b o n (Heap.get?_push_of_some _ e)
  refine wpAny_bind (wpAny_holding (list_ends ⟨hh, oy, ys, k2 _ _ yj h1, d1, c1⟩ yj i2 ((L.push _).extBut s2.extBut lj) (by simp) fun h3 k3 => ?_))
  simp only [Option.isSome_none, Bool.false_eq_true, if_false]
  exact wpAny_pure (q h3 fun b o n e => k3 b o n (k2 b o n e))
end
end HotX
namespace L2
open PySem PySem.Spec PyProof.Rows HotX L2H
section
variable {X : Cx} {pins : List (Addr × Obj)} {τ : St} {G : Hp} {t : Shared} {Q : VK} {elt tg src : Expr} {ifs : List Expr} {sc : Scope} {own : List (Str × Nat)} {pa pb : Pos} {ti te : TE} {g : TG} {tt : TT} {use : Option (Value → Sem Unit)} {Qf : Value → Shared → Prop}
/-- what is handled stood there when the context was entered -/
structure Seen (Y : Cx) (p : Addr × Obj) : Prop where
  hot : Hot1 Y.A p
  get : Y.s_0.heap.get? p.1 = some p.2
  free : Y.H_0 p.1 = none
  nofs : p.1 ∉ Y.fs
  noex : p.1 ∉ Y.ex
theorem Seen.at {Y : Cx} {p : Addr × Obj} {pins : List (Addr × Obj)} {τ : St} {G : Hp} {t : Shared} (S : Seen Y p) (I : Inv Y pins τ G t) : HotAt Y.A p.1 t.heap := by
  obtain ⟨h, v, d, c⟩ := S.hot
  exact ⟨h, p.2, v, I.base.keep p.1 p.2 S.get S.free S.nofs S.noex, d, c⟩
/-- a, b = a list of two, and so on -/
theorem pg_lstH {Y : Cx} {p : Addr × Obj} {es : List Expr} {k : Nat} {u : TGs} {n : Nat} {pos : Pos} (S : Seen Y p) (h : PGs Y es u) (hn : (assignEach es Y.env).length = n := by rfl) (ns : (assignEach es Y.env).findIdx? (·.1) = none := by rfl) : PG Y (.Tuple es k pos) (gLst Y.K n u) := by
  constructor
  rintro pins t τ G v w0 Q I r ⟨a, xs, rfl, hq, hl, want⟩
  cases r
  obtain ⟨its, rv, pl, hz⟩ := I.list hq
  rw [PyProof.Rows.assign_Tuple]
  refine wpAny_bind (wpAny_standAt ?_)
  unfold unpack
  rw [show (assignEach es Y.env).length = its.toArray.size by simp [hn, ← hl, rv.length], ns]
  refine wpAny_bind (wpAny_holding (list_items (S.at I) pl.isList fun h' hx => ?_))
  exact h.run pins _ τ G xs _ Q (I.kept (t' := t.toks) fun b o e => hx b o (Nat.ne_of_lt (Heap.lt_size e)) e) (by simpa using rv) want
/-- a comprehension over a list, within a handler: what is wished is as tLc has it -/
theorem lc_hot {p : Addr × Obj} (hot : Hot1 X.A p) (pm : p ∈ X.pn) (nd : X.N.Nodup) (I : Inv X pins τ G t) (hi : PE X src ti) (ok : BlkOk X.N X.env.scope sc own)
    (hg : ∀ (s : Shared) (H : Hp) (C : Addr) (cl : List (Str × Addr)) (fp : List Addr), Seen (X.blk s H sc (compEnvC sc cl C X.env) fp) p → PG (X.blk s H sc (compEnvC sc cl C X.env) fp) tg g)
    (ht : ∀ (s : Shared) (H : Hp) (C : Addr) (cl : List (Str × Addr)) (fp : List Addr), Seen (X.blk s H sc (compEnvC sc cl C X.env) fp) p → PTs (X.blk s H sc (compEnvC sc cl C X.env) fp) ifs tt)
    (he : ∀ (s : Shared) (H : Hp) (C : Addr) (cl : List (Str × Addr)) (fp : List Addr), Seen (X.blk s H sc (compEnvC sc cl C X.env) fp) p → PE (X.blk s H sc (compEnvC sc cl C X.env) fp) elt te)
    (fo : ∀ x, foldedSetIterable src X.env x = pure x) (want : tLc (iList X.K ti) g tt te (own.map (·.2)) τ G Q)
    (out : ∀ D C t' m G', Inv X pins τ G' t' → Q (.ref D) G' → t'.heap.Ns C m → FpOk X pins G' C → compPost (model X.prog X.w) X.A X.xe use Qf (.ref D) C (.ok .next) t') :
    wpAny (model X.prog X.w) X.A (comprehension (.ListComp elt [⟨tg, src, ifs, 0⟩] sc pa) sc X.env pb (newList []) false (eval src X.env) use) Qf X.xe t := by
  have cap : ∀ y ∈ sc.names, y.2 = .free → ∃ c, X.env.cells.lookup y.1 = some c := fun y m e => I.ok.has _ (ok.free y m e)
  refine wpAny_comprehension_free (use := use) rfl fo (closure_ok cap) ok.kind (fun y m e => by rw [ok.uniq y m, e]) (thn (hi.run pins t τ G _ I want) fun v t1 q1 => ?_)
  obtain ⟨x, G1, I1, r1, l, rfl, ⟨xs, hl⟩, q1⟩ := q1
  obtain rfl : v = Value.ref l := r1
  obtain ⟨_, _, pl, _⟩ := I1.list hl
  refine wpAny_pyIter_list pl.isList ?_
  -- the walk j, the new list D
  obtain ⟨j, ej⟩ : ∃ j, j = t1.heap.objs.size := ⟨_, rfl⟩
  rw [← ej]
  obtain ⟨t2, e2⟩ : ∃ t2 : Shared, t2 = { t1 with heap := t1.heap.push { cls := .type "list_iterator", data := .fields #[.ref l, .int 0 0] } } := ⟨_, rfl⟩
  rw [← e2]
  have I2 : Inv X pins τ G1 t2 := by rw [e2]; exact I1.kept (t' := t1.toks) fun b o e => Heap.get?_push_of_some _ e
  have at2 : t2.heap.IsListIter j l 0 := by rw [e2, ej]; exact ⟨_, Heap.get?_push_size _ rfl, rfl, rfl⟩
  have ok2 : FpOk X pins G1 j := by rw [ej]; exact I1.fpOk (Nat.le_refl _) (I1.hok.fresh (Nat.le_refl _))
  refine wpAny_newObj_type (newEnv_comp ?_) (by show 0 ≤ sizeLine; decide)
  obtain ⟨D, eD⟩ : ∃ D, D = t2.heap.objs.size := ⟨_, rfl⟩
  rw [← eD]
  have nD : G1 D = none := I2.hok.fresh (by rw [eD]; exact Nat.le_refl _)
  have jD : j < D := by rw [eD]; obtain ⟨o, e, _⟩ := at2; exact Heap.lt_size e
  obtain ⟨W, ⟨m0, w0⟩, turn⟩ := q1 D nD
  obtain ⟨t3, e3⟩ : ∃ t3 : Shared, t3 = { t2 with heap := t2.heap.push { cls := .type "list", data := .seq ([] : List Value).toArray } } := ⟨_, rfl⟩
  obtain ⟨G3, eG⟩ : ∃ G3, G3 = upd G1 D (.lst []) := ⟨_, rfl⟩
  rw [← eG] at w0
  have I3 : Inv X pins τ G3 t3 := by
    rw [e3, eG]
    exact I2.laid (t' := t2.toks) (fun b o e => Heap.get?_push_of_some _ e) (by rw [eD]; exact Nat.le_refl _) ⟨Nat.zero_le _, [], 0, .nil, by rw [eD]; exact Heap.get?_push_size _ rfl⟩
  have at3 : t3.heap.IsListIter j l 0 := by rw [e3]; exact at2.at fun o e => Heap.get?_push_of_some _ e
  have j3 : G3 j = none := by rw [eG, upd_ne (Nat.ne_of_lt jD)]; exact ok2.1
  have ok3 : FpOk X pins G3 j := ⟨j3, ok2.2⟩
  have lt3 : j < t3.heap.objs.size := by obtain ⟨o, e, _⟩ := at3; exact Heap.lt_size e
  -- the thing that is handled, seen from within
  obtain ⟨ph, pv, pd, pc⟩ := id hot
  obtain ⟨pg3, pn3, pL, pF, _⟩ := I3.pin p (List.mem_append_left _ pm)
  have pS : p.1 ∉ frs X.stack := fun m => (List.mem_cons.mp (I3.stkSub p.1 m)).elim pL pF
  have pj : p.1 ≠ j := ok3.2.2.2.2.2 p (List.mem_append_left _ pm)
  have B := block_start I3 ok nd (fp := [j]) fun b m => by
    obtain rfl := List.mem_singleton.mp m
    exact ⟨ok3, lt3⟩
  have seen : Seen (X.blk t3 G3 sc (compEnvC sc (cellsFrom (t3.heap.objs.size + 1) sc.names (cloFrom X.env.cells sc.names [])) t3.heap.objs.size X.env) [j]) p := ⟨hot, pg3, pn3, pS, by simpa using pj⟩
  have g' := hg t3 G3 t3.heap.objs.size (cellsFrom (t3.heap.objs.size + 1) sc.names (cloFrom X.env.cells sc.names [])) [j] seen
  have t' := ht t3 G3 t3.heap.objs.size (cellsFrom (t3.heap.objs.size + 1) sc.names (cloFrom X.env.cells sc.names [])) [j] seen
  have e' := he t3 G3 t3.heap.objs.size (cellsFrom (t3.heap.objs.size + 1) sc.names (cloFrom X.env.cells sc.names [])) [j] seen
  rw [← e3]
  show codeAny _ _ (.compStart (.ListComp elt [⟨tg, src, ifs, 0⟩] sc pa) 0 (.ref j) (.ref D) (compEnvC sc (cellsFrom (t3.heap.objs.size + 1) sc.names (cloFrom X.env.cells sc.names [])) t3.heap.objs.size X.env)) (compPost (model X.prog X.w) X.A X.xe use Qf (.ref D) t3.heap.objs.size) { t3 with heap := pushCells (t3.heap.push { cls := .type "dict", data := .dict #[] }) sc.names }
  obtain ⟨ce, ec⟩ : ∃ ce, ce = compEnvC sc (cellsFrom (t3.heap.objs.size + 1) sc.names (cloFrom X.env.cells sc.names [])) t3.heap.objs.size X.env := ⟨_, rfl⟩
  have cl : ce.locals = t3.heap.objs.size := by rw [ec]; rfl
  rw [← ec] at B g' t' e' ⊢
  obtain ⟨t4, e4⟩ : ∃ t4 : Shared, t4 = { t3 with heap := pushCells (t3.heap.push { cls := .type "dict", data := .dict #[] }) sc.names } := ⟨_, rfl⟩
  rw [← e4] at B ⊢
  have at4 : t4.heap.IsListIter j l 0 := by rw [e4]; exact at3.at fun o e => pushCells_keeps _ _ _ _ (Heap.get?_push_of_some _ e)
  have fpB : ∀ {τ' : St} {G' : Hp} {s' : Shared}, Inv (X.blk t3 G3 sc ce [j]) [] τ' G' s' → G' j = none → FpOk (X.blk t3 G3 sc ce [j]) [] G' j := fun I' n =>
    ⟨n, (I'.ok.exf j (by simp)).1, I'.ok.exfs j (by simp), .inl (by simp), fun x c e => (I'.ok.exf j (by simp)).2 x c e, fun p hp => nomatch (show p ∈ ([] : List (Addr × Obj)) ++ [] from hp)⟩
  refine codeAny_compStart_list ?loop (wpAny_pyIter_listiter at4 ?loop)
  refine compLoop_any (fun n s' => ∃ i G', Inv (X.blk t3 G3 sc ce [j]) [] (wipe τ (own.map (·.2))) G' s' ∧ s'.heap.IsListIter j l i ∧ G' j = none ∧ W i n G') ?_ m0 ⟨0, G3, B, at4, j3, w0⟩
  rintro n s5 ⟨i, G5, I5, at5, n5, w5⟩
  have F5 := fpB I5 n5
  rcases turn i n G5 w5 with ⟨⟨ys, hy, le⟩, qq⟩ | ⟨⟨ys, y, hy, hyi⟩, Nx, again, step⟩
  · obtain ⟨its, rv, py, _⟩ := I5.list hy
    have p5 : s5.heap.get? p.1 = some p.2 := I5.base.keep p.1 p.2 pg3 pn3 pS (by simpa using pj)
    refine list_ends (A := X.A) ⟨ph, p.2, pv, p5, pd, pc⟩ pj at5 py.isList (by have := rv.length; simp; omega) fun h k => ?_
    have I6 : Inv (X.blk t3 G3 sc ce [j]) [] (wipe τ (own.map (·.2))) G5 { s5 with heap := h } := I5.turned (t' := s5.toks) k F5.1 F5.2.1 F5.2.2.2.1 F5.2.2.2.2.1 F5.2.2.2.2.2
    obtain ⟨m, hm, _⟩ := I6.loc
    have hm : ({ s5 with heap := h } : Shared).heap.Ns ce.locals m := hm
    have nC : G5 ce.locals = none := I6.free
    rw [cl] at hm nC
    have I7 : Inv X pins τ G5 { s5 with heap := h } := I3.call' (ch := [j]) I6.os I6.base I6.hok I6.bare fun b hb => by
      obtain rfl := List.mem_singleton.mp hb
      exact ⟨ok3.2.2.2.1, ok3.2.1, ok3.2.2.2.2.1, ok3.2.2.2.2.2⟩
    exact out D _ _ m G5 I7 qq hm (I3.fpOk (Nat.le_refl _) nC)
  · obtain ⟨its, rv, py, _⟩ := I5.list hy
    obtain ⟨u, hu, ru⟩ := rv.get hyi
    refine wpAny_pyNext_list_item at5 py.isList (x := u) (by simpa using hu) fun h at6 sb => ?_
    have I6 : Inv (X.blk t3 G3 sc ce [j]) [] (wipe τ (own.map (·.2))) G5 { s5 with heap := h } := I5.turned (t' := s5.toks) (fun b o n e => (sb.2 b n).trans e) F5.1 F5.2.1 F5.2.2.2.1 F5.2.2.2.2.1 F5.2.2.2.2.2
    obtain ⟨oj, gj, cj, dj⟩ := id at6
    refine go_of (s := { s5 with heap := h }) gj cj dj (by decide) ?_
    have I6' : Inv (X.blk t3 G3 sc ce [j]) ([] ++ [(j, oj)]) (wipe τ (own.map (·.2))) G5 { s5 with heap := h } := I6.pins_of fun q hq => by
      obtain rfl : q = (j, oj) := by simpa using hq
      exact ⟨gj, n5, F5.2.1, F5.2.2.1, fun v z => by rw [dj] at z; cases z⟩
    refine thnF (g'.run _ _ _ G5 y u _ I6' ru (step y G5 ⟨rfl, fun zs hz => by rw [I5.list_inj hz hy]; exact hyi⟩)) fun _ s8 ⟨τ8, G8, I8, w8, q8⟩ => ?_
    refine thnF (t'.run _ s8 τ8 G8 _ I8 q8) fun b s9 ⟨G9, I9, q9⟩ => ?_
    have fin : ∀ {s' : Shared} {G' : Hp}, Inv (X.blk t3 G3 sc ce [j]) ([] ++ [(j, oj)]) τ8 G' s' → Nx G' → ∃ m, m < n ∧ ∃ i G', Inv (X.blk t3 G3 sc ce [j]) [] (wipe τ (own.map (·.2))) G' s' ∧ s'.heap.IsListIter j l i ∧ G' j = none ∧ W i m G' := fun {s' G'} J nx => by
      obtain ⟨m', lm, w'⟩ := again G' nx
      have pj' := J.pin (j, oj) (by simp)
      refine ⟨m', lm, i + 1, G', (J.unpinned (pins := [])).weak (by rw [← w8, wipe_length]) (fun k v e => ?_), ⟨oj, pj'.1, cj, dj⟩, pj'.2.1, w'⟩
      rw [← w8] at e
      exact (wipe_some e).1
    cases b
    · simp only [Bool.false_eq_true, if_false] at q9 ⊢
      exact fin I9 q9
    · simp only [if_true] at q9 ⊢
      exact thnF (e'.run _ s9 τ8 G9 _ I9 q9) fun z s10 ⟨yv, G10, I10, r10, acc, d10, z10, nx⟩ => app_ok (X := X.blk t3 G3 sc ce [j]) I10 d10 z10 r10 fun s11 I11 => fin I11 nx
end
end L2
set_option Elab.async false
set_option linter.all false
set_option maxRecDepth 100000
set_option maxHeartbeats 4000000
/-! own exceptions raised, and caught by one of three classes: their context is known to be None, so that the handler may call -/
namespace Gn
open PySem PySem.Spec PyProof.Rows L2
section
variable {X : Cx} {e : Expr} {es : List Expr} {ta : TA} {p pos : Pos}
/-- the exception without a dict is let go -/
theorem bare_goneN {pins : List (Addr × Obj)} {σ : L2.St} {H1 H2 : Hp} {Q : XK} {hp hp2 h2 : Heap} {g1 g2 : Array GenState} {d1 d2 : Drawn} {t1 t2 : Nat} {os1 os2 : OsState} {a C : Addr} (T : Raises X (.ref C)) (I1 : Inv X pins σ H1 ⟨hp, g1, d1, t1, os1⟩)
    (ha : hp.objs.size ≤ a) (kp : ∀ b o, hp.get? b = some o → hp2.get? b = some o) (un : Un (frs X.stack) [] (upd H1 a (exo a C none)) H2 hp2 h2) (hok : HOk X.prog X.w H2 h2) (ho : os2 = os1) (hb : AllBare g2)
    (ea : H2 a = some (exo a C none)) (q : Q (.ref C) none (del H2 a)) : L2N.MkP X pins σ Q (.ref a) ⟨h2, g2, d2, t2, os2⟩ := by
  obtain ⟨t0, hoe⟩ := exo_at hok ea
  have hn : H1 a = none := I1.hok.fresh ha
  obtain ⟨G, y1, y2⟩ := restrict h2 fun b => decide (b ≠ a)
  have gk : ∀ b, b ≠ a → G.get? b = h2.get? b := fun b z => y1 b (decide_eq_true z)
  have ge : G.get? a = none := y2 a (by simp)
  have old : ∀ {b : Addr} {o : Obj}, hp.get? b = some o → b ≠ a := fun {b o} z => Nat.ne_of_lt (Nat.lt_of_lt_of_le (Heap.lt_size z) ha)
  have fr : ∀ {b : Addr}, b ≠ a → H1 b = none → upd H1 a (exo a C none) b = none := fun {b} z n => (upd_ne z).trans n
  have U : Un (frs X.stack) [] H1 (del H2 a) hp G := {
    keep := fun b o z n hf hx => (gk b (old z)).trans (un.keep b o (kp b o z) (fr (old z) n) hf hx)
    slot := fun b o z n hf hx => by
      rw [gk b (old z)]
      exact un.slot b o (kp b o z) (fr (old z) n) hf hx
    free := fun b o z n hx => (del_ne (old z)).trans (un.free b o (kp b o z) (fr (old z) n) hx)
    there := fun b o z hx => by
      rw [gk b (old z)]
      exact un.there b o (kp b o z) hx
    tups := fun b xs z => (del_ne (ne_of_none z hn)).trans (un.tups b xs ((upd_ne (ne_of_none z hn)).trans z))
    frzs := fun b o v z => (del_ne (ne_of_none z hn)).trans (un.frzs b o v ((upd_ne (ne_of_none z hn)).trans z))
    tbls := fun b ps z => by
      rw [del_ne (ne_of_none z hn)]
      exact un.tbls b ps ((upd_ne (ne_of_none z hn)).trans z) }
  have hok3 : HOk X.prog X.w (del H2 a) G := fun b o z => by
    have ba : b ≠ a := fun e => by
      rw [e, del_same] at z
      cases z
    rw [del_ne ba] at z
    have noa : ∀ {c : Addr}, H2 c = some (.own b) → c ≠ a := fun {c} hc => at_ne ea hc exo_own
    refine (hok b o z).stay (fun c v hc y => ?_) (fun c hc => (del_ne (noa hc)).trans hc) fun c xs hc => (del_ne (at_ne ea hc exo_tup)).trans hc
    have ca : c ≠ a := by
      rcases hc with hc | hc
      · rw [hc]
        exact ba
      · exact noa hc
    exact (gk c ca).trans y
  have J : Inv X pins σ (del H2 a) ⟨G, g2, d2, t2, os2⟩ := I1.call' (ch := []) ho U hok3 hb (fun b z => absurd z (by simp))
  refine ⟨a, _, _, ⟨G, g2, d2, t2, os2⟩, _, .ref C, none, rfl, J, fun b o z => ?_, ge, hoe, ⟨rfl, rfl, fun vs z => by cases z; rfl⟩, rfl, rfl, del_same, rfl, hb, T, q⟩
  by_cases ba : b = a
  · rw [ba, ge] at z
    cases z
  · exact (gk b ba).symm.trans z
theorem own_thrownN {CX : CXT} {C fI : Addr} {k : Nat} {fd : FuncData} {ps : List Str} {sp : Sp} {ds us : List Value} {dvs vs : List V} {pins : List (Addr × Obj)} {σ : L2.St} {H1 : Hp} {s1 : Shared} {Q : XK} (T : OwC X.K C)
    (iC : PySem.W.findIn X.K (.ref C) "__init__" = some (some (.ref fI))) (tI : PySem.W.typeIn X.K (.ref fI) = some (.type "function")) (F1 : FnOk X.prog X.w X.K X.mg X.base CX k fI fd ps sp) (hr : Room (k + 1) X.A) (hb : Binds X.K fd ps ds) (hd : Vals dvs ds)
    (hx : Passes CX X (fun _ _ _ => False)) (I1 : Inv X pins σ H1 s1) (r1 : Vals vs us) (hz : vs.length ≤ 1000)
    (q1 : ∀ a, H1 a = none → sp (.ref a :: (vs ++ dvs)) (upd H1 a (exo a C none)) (fun v H2 => v = .non ∧
      ((∃ (d : Addr) (fs : List (Str × V)), H2 a = some (exo a C (some d)) ∧ H2 d = some (exd d fs) ∧ H1 d = none ∧ Q (.ref C) (some d) (upd (del H2 a) d (.xd fs))) ∨ (H2 a = some (exo a C none) ∧ Q (.ref C) none (del H2 a)))) (fun _ _ _ => False)) :
    wpAny (model X.prog X.w) X.A (call (.ref C) us) (L2N.MkP X pins σ Q) X.xe s1 := by
  obtain ⟨nm, q, N, bs, bm, sn, sub, ab, col, dd, k0, k1, k2, k3, k5, B, nw, it, tl, lk, pt, TB⟩ := T.cls
  obtain ⟨hp, g, dr, tk, os⟩ := s1
  have up : hp.objs.size ≤ hp.objs.size + 1 := Nat.le_succ _
  have hn : H1 (hp.objs.size + 1) = none := I1.hok.fresh up
  have hq := q1 (hp.objs.size + 1) hn
  have kk : ∀ b o, hp.get? b = some o → ((hp.push (PySem.W.kdv_tup us)).push (PySem.HandSPX.excO C hp.objs.size)).get? b = some o := fun b o z =>
    Heap.get?_push_of_some _ (Heap.get?_push_of_some _ z)
  have got : ((hp.push (PySem.W.kdv_tup us)).push (PySem.HandSPX.excO C hp.objs.size)).get? (hp.objs.size + 1) = some (PySem.HandSPX.excO C hp.objs.size) := by heap_get
  have I2 := I1.laid (t' := tk) (a := hp.objs.size + 1) (o := exo (hp.objs.size + 1) C none) kk up (exo_ok got)
  have r2 : Vals (V.ref (hp.objs.size + 1) :: (vs ++ dvs)) (Value.ref (hp.objs.size + 1) :: (us ++ ds)) := .cons rfl (r1.append hd)
  have hl : (Value.ref (hp.objs.size + 1) :: us ++ ds).length = ps.length := by
    have z := r2.length
    rw [F1.len _ _ _ _ hq] at z
    exact z.symm
  have few : us.length ≤ sizeLine := by
    rw [← Paired.length r1, sizeLine_eq]
    omega
  refine wpAny_call (PySem.HandSPX.call_own TB.ex (fun n => pt.has n) (I1.kIn _ _ lk) (PySem.W.looks_findIn I1.kIn iC) (fun me => PySem.W.bind_fn I1.kIn me tI) few (codeAny_mono
    (F1.run _ X.stack _ _ ⟨Value.ref (hp.objs.size + 1) :: us, []⟩ (Value.ref (hp.objs.size + 1) :: (us ++ ds)) _ _ (fun _ _ _ => False) (hr.make C us []) (I2.env0.make C us []) (hb _ (Value.ref (hp.objs.size + 1) :: us) I2.kIn hl) r2 hq) fun r s' z => ?_))
  cases r with
  | error er => exact hx pins σ _ _ er s' I2 z
  | ok fl =>
    cases fl with
    | ret u =>
      obtain ⟨v, H2, os2, bare2, un2, hok2, rv, ev, z2⟩ := z
      subst ev
      obtain ⟨h2, g2, d2, t2, os'⟩ := s'
      rcases z2 with ⟨dq, fs, ea, ed, hd1, q2⟩ | ⟨ea, q2⟩
      · exact ⟨rv, by
          obtain ⟨t0, G, J, kG, ge, hoe, na⟩ := mk_end0 (d2 := d2) (t2 := t2) I1 up kk un2 hok2 os2 bare2 ea ed hd1
          exact ⟨_, _, _, ⟨G, g2, d2, t2, os'⟩, _, .ref C, some dq, rfl, J, kG, ge, hoe, ⟨rfl, rfl, fun vs z => by cases z; rfl⟩, rfl, rfl, na, rfl, bare2, raises_own T.exC T.tyC, q2⟩⟩
      · exact ⟨rv, bare_goneN (raises_own T.exC T.tyC) I1 up kk un2 hok2 os2 bare2 ea q2⟩
    | next => exact False.elim z
    | brk => exact False.elim z
    | cont => exact False.elim z
/-- raise C(e, ..) -/
theorem pmk_exoN {CX : CXT} {x : Str} {C fI : Addr} {k : Nat} {fd : FuncData} {ps : List Str} {sp : Sp} {ds : List Value} {dvs : List V} (T : OwC X.K C) (iC : PySem.W.findIn X.K (.ref C) "__init__" = some (some (.ref fI)))
    (tI : PySem.W.typeIn X.K (.ref fI) = some (.type "function")) (F1 : FnOk X.prog X.w X.K X.mg X.base CX k fI fd ps sp) (hr : Room (k + 1) X.A) (hb : Binds X.K fd ps ds) (hd : Vals dvs ds) (hx : Passes CX X (fun _ _ _ => False)) (hg : Gl X x)
    (hm : X.mg x = some (.ref C)) (ha : PA X (e :: es) ta) (hdb : (x == ("__debug__" : Str)) = false := by decide) (he : starEach (e :: es) X.env = (false, eval e X.env) :: starEach es X.env := by rfl) (hpl : (backTo pos (starEach es X.env)).any (·.1) = false := by rfl) :
    L2N.PMk X (.Call (.Name x p) (e :: es) [] pos) (tThr C sp dvs ta) := fun pins s σ H Q I h =>
  wpAny_Call_Name_kw (ld_glob I hg hm (PySem.W.callWith_K (h₀ := X.base) I.ok.mod.kin T.kC (thn (ha.run pos pins s σ H _ I h) fun us s1 ⟨vs, H1, I1, r1, hz, q1⟩ => ⟨I1.kIn, own_thrownN T iC tI F1 hr hb hd hx I1 r1 hz q1⟩) he hpl) hdb)
/-- raise C() -/
theorem pmk_exoN0 {CX : CXT} {x : Str} {C fI : Addr} {k : Nat} {fd : FuncData} {ps : List Str} {sp : Sp} {ds : List Value} {dvs : List V} (T : OwC X.K C) (iC : PySem.W.findIn X.K (.ref C) "__init__" = some (some (.ref fI)))
    (tI : PySem.W.typeIn X.K (.ref fI) = some (.type "function")) (F1 : FnOk X.prog X.w X.K X.mg X.base CX k fI fd ps sp) (hr : Room (k + 1) X.A) (hb : Binds X.K fd ps ds) (hd : Vals dvs ds) (hx : Passes CX X (fun _ _ _ => False)) (hg : Gl X x)
    (hm : X.mg x = some (.ref C)) (hdb : (x == ("__debug__" : Str)) = false := by decide) : L2N.PMk X (.Call (.Name x p) [] [] pos) (tThr C sp dvs tNil) := fun pins s σ H Q I h =>
  wpAny_Call_Name_kw (ld_glob I hg hm (PySem.W.callWith_K0 I.kIn T.kC (own_thrownN (us := []) (vs := []) T iC tI F1 hr hb hd hx I .nil h.1 h.2)) hdb)
end
end Gn
namespace L2
open PySem PySem.Spec PyProof.Rows
section
variable {X : Cx} {pins : List (Addr × Obj)} {τ : St} {G : Hp} {t0 t1 : Shared}
/-- the handler's side: x flies, as it was told, and all else stands -/
structure DownN (X : Cx) (pins : List (Addr × Obj)) (τ : St) (G : Hp) (t0 t1 : Shared) (B : Heap) (x : Addr) (C : Value) (d : Option Addr) : Prop where
  was : Inv X pins τ G t0
  nb : ∀ b o, t0.heap.get? b = some o → b ∉ frs X.stack → B.get? b = some o
  up : t0.heap.UpToSlots t1.heap
  fly : HandSPX.FlyingZ B (X.env :: X.outer) x (L2N.Zn C d) t1.heap
  new : G x = none
  os : t1.os = t0.os
  ag : AllBare t1.gens
variable {B : Heap} {x : Addr} {C : Value} {d : Option Addr}
theorem DownN.inv (S : DownN X pins τ G t0 t1 B x C d) : Inv X pins τ G t1 := S.was.landed S.nb S.fly.1 S.up S.os S.ag
theorem DownN.on (S : DownN X pins τ G t0 t1 B x C d) {h : Heap} (f : HandSPX.FlyingZ B (X.env :: X.outer) x (L2N.Zn C d) h) (u : t1.heap.UpToSlots h) : DownN X pins τ G t0 { t1 with heap := h } B x C d :=
  ⟨S.was, S.nb, S.up.trans u, f, S.new, S.os, S.ag⟩
theorem DownN.more (S : DownN X pins τ G t0 t1 B x C d) (o : Obj) : DownN X pins τ G t0 { t1 with heap := t1.heap.push o } B x C d := by
  have k : ∀ b u, t1.heap.get? b = some u → (t1.heap.push o).get? b = some u := fun _ _ z => Heap.get?_push_of_some _ z
  refine S.on ?_ (Heap.UpToSlots.of_keeps k)
  obtain ⟨a1, a2, a3, oe, w, T, oT, r, g1, g2, g3, g4, g5, g6, g7, g8⟩ := S.fly
  exact ⟨fun b u z => k b u (a1 b u z), a2, a3.of_keeps fun b u z _ => ⟨u, k b u z, rfl⟩, oe, w, T, oT, r, k _ _ g1, g2, g3, g4, g5, g6, k _ _ g7, g8⟩
theorem DownN.suite (S : DownN X pins τ G t0 t1 B x C d) (es : X.stack = X.env :: X.outer) (ef : X.env.frame = some X.env.locals) :
    ∃ oe, t1.heap.get? x = some oe ∧ L2N.Zn C d oe ∧ (∃ w, oe.data = .fields w) ∧ Inv (X.suite x ((x, oe) :: (X.pn ++ pins))) [] τ G t1 := by
  obtain ⟨oe, w, g, z, dt⟩ := S.fly.there
  have off : x ∉ frs (X.env :: X.outer) := fun m => by
    obtain ⟨_, o', e, nf⟩ := S.fly.2.2.1.mem m
    cases g.symm.trans e
    exact nf _ dt
  refine ⟨oe, g, z, ⟨w, dt⟩, S.inv.suite g dt S.new (fun e => off ?_) fun m => off ?_⟩
  · exact List.mem_filterMap.mpr ⟨X.env, by simp, by rw [ef, e]⟩
  · obtain ⟨v, m1, m2⟩ := List.mem_filterMap.mp m
    exact List.mem_filterMap.mpr ⟨v, List.mem_cons.mpr (.inr m1), m2⟩
end
section
variable {X : Cx} {y1 y2 y3 n : Str} {u1 u2 u3 : Value} {j : Nat} {bd su : List Stmt} {s₀ : Stmt} {q1 q2 q3 qt qh qq : Pos} {kk : Nat} {tb : WX → TS} {ts : Addr → Value → Option Addr → TS} {Wo : WX}
theorem ps_try_triN (es : X.stack = X.env :: X.outer) (ef : X.env.frame = some X.env.locals) (nd : X.N.Nodup) (at_ : X.N[j]? = some n) (lo : X.env.kindOf n = some .local) (m1 : Names X y1 u1) (m2 : Names X y2 u2) (m3 : Names X y3 u3) (tk : L2N.Takes X Wo)
    (B : ∀ (W : WX) (pn : List (Addr × Obj)) (xe : Value → Shared → Prop), L2N.Takes (X.tr pn xe) W → PassesOwn (model X.prog X.w) X.A X.env xe → PSs (X.tr pn xe) bd (tb W))
    (S : ∀ (x : Addr) (oe : Obj) (C : Value) (d : Option Addr) (pn : List (Addr × Obj)), L2N.Zn C d oe → (∃ w, oe.data = .fields w) → PSs (X.suite x ((x, oe) :: pn)) (s₀ :: su) (ts x C d)) :
    PS X (.Try bd [.ExceptHandler (some (.Tuple [.Name y1 q1, .Name y2 q2, .Name y3 q3] kk qt)) (some n) (s₀ :: su) qh] [] [] qq) (fun D τ G => tb (wTri X.K [u1, u2, u3] j ts Wo D) D τ G) := by
  constructor
  intro pins t τ G D J want
  have ok := J.ok
  have frames : X.A.frames = some (X.env :: X.outer) := ok.frames.trans (by rw [es])
  let hs := [ExceptHandler.ExceptHandler (some (.Tuple [.Name y1 q1, .Name y2 q2, .Name y3 q3] kk qt)) (some n) (s₀ :: su) qh]
  let after : Value → Shared → Prop := fun e t1 => wpAny (model X.prog X.w) X.A (noteFrame e X.env) (fun _ t2 => wpAny (model X.prog X.w) X.A (setFlight e none) (fun _ t3 => wpAny (model X.prog X.w) X.A (handleBy e X.env hs) (SP X pins D) X.xe t3) X.xe t2) X.xe t1
  have look : L2N.Takes (X.tr (X.pn ++ pins) after) (wTri X.K [u1, u2, u3] j ts Wo D) := by
    rintro e t1 ⟨x, H0, sI, pi, τ1, G1, C, d, rfl, J1, nb, up, sky, new, os, ag, hit, hm, yes, no⟩
    show wpAny (model X.prog X.w) X.A (noteFrame (.ref x) X.env) _ _ _
    rw [show X.stack = X.env :: X.outer from es] at sky
    refine L2N.Sky.land L2N.Zn.steady frames ef sky fun h fl u => ?_
    have D1 : DownN X pins τ1 G1 sI { t1 with heap := h } H0 x C d := ⟨J1.ofTry ok, nb, up.trans u, fl, new, os, ag⟩
    obtain ⟨oe, ge, gz, gd, I1⟩ := D1.suite es ef
    refine wpAny_handleBy_cons (codeAny_handlers_test (ev_tri I1 m1 m2 m3 ?_)) (by intro z; cases z)
    have D2 := D1.more (triO u1 u2 u3)
    have there : (h.push (triO u1 u2 u3)).get? x = some oe := Heap.get?_push_of_some _ ge
    have LT : PySem.W.Looks (model X.prog X.w) (h.push (triO u1 u2 u3)) (typeOf (.ref x)) C := fun A Q E s k z => wpAny_typeOf_ref (k _ _ there) (by rw [gz.1]; exact z)
    refine (PySem.W.exm_tup3 D2.inv.kIn LT (Heap.get?_push_size h rfl) hm).here ?_
    cases hit
    · show wpAny _ X.A (handleBy (.ref x) X.env []) _ _ _
      refine wpAny_handleBy_nil ?_
      obtain ⟨_, _, _, o2, w, T, _, _, g1, _, g3, g4, _⟩ := id D2.fly
      have away : wpAny (model X.prog X.w) X.A (setFlight (.ref x) X.env.frame) (fun _ t5 => wpAny (model X.prog X.w) X.A (throw (.ref x) : Sem Flow) (SP X pins D) X.xe t5) X.xe { t1 with heap := h.push (triO u1 u2 u3) } := by
        rw [ef]
        exact HandSPX.setFlight_upZ D2.fly fun h' held u' => wpAny_throw (tk _ _ ⟨x, H0, sI, pins, τ1, G1, C, d, rfl, D2.was, nb, D2.up.trans u', .inr (.inr (by rw [es]; exact held)), new, os, ag, no rfl⟩)
      unfold PySem.passOn
      refine wpAny_bind (wpAny_field g1 g3 g4 ?_)
      rw [if_neg (by simp : ¬ ((Value.ref T == Value.none) = true))]
      first
        | exact wpAny_bind (wpAny_pure (wpAny_bind away))
        | exact wpAny_bind away
    · refine codeAny_handlers_suite_as (HandSPX.lands_againZ D2.fly fun h' fl' u' => ?_)
      obtain ⟨o3, _, z3, d3, I3⟩ := (D2.on fl' u').suite es ef
      refine store_ok (X := X.suite x ((x, o3) :: (X.pn ++ pins))) (v := .ref x) I3 nd at_ (.inl lo) rfl (fun t5 I5 => ?_) (.inr lo)
      have off : ∀ {τ6 : St} {G6 : Hp} {t6 : Shared} {Q : Shared → Prop}, Inv (X.suite x ((x, o3) :: (X.pn ++ pins))) [] τ6 G6 t6 → (∀ t7, Inv X pins (τ6.set j none) G6 t7 → Q t7) →
          wpAny (model X.prog X.w) X.A (do bindName X.env n .none; unbindBehindTheSuite X.env n qh) (fun _ t7 => Q t7) X.xe t6 := fun I6 go => gone_ok (I6.unsuite ok) nd at_ lo go
      refine wpAny_mono ((S x o3 C d (X.pn ++ pins) z3 d3).run [] t5 _ G1 _ I5 (yes rfl x new)) (fun fl t6 out => ?_) fun _ _ z => z.elim
      cases fl <;> first
        | (obtain ⟨τ6, G6, I6, w6⟩ := out; exact off I6 fun t7 I7 => ⟨_, _, I7, w6⟩)
        | (obtain ⟨v6, τ6, G6, I6, e6, w6⟩ := out; exact off I6 fun t7 I7 => ⟨_, _, _, I7, e6, w6⟩)
  refine wpAny_Try_except (wpAny_mono ((B _ _ after look PassesOwn.looking).run [] t τ G D (J.toTry _) want) (fun fl t1 out => ?_) fun _ _ z => z)
  cases fl <;> first
    | (obtain ⟨τ1, G1, I1, w1⟩ := out; exact wpAny_execs_nil ⟨τ1, G1, I1.ofTry ok, w1⟩)
    | (obtain ⟨τ1, G1, I1, w1⟩ := out; exact ⟨τ1, G1, I1.ofTry ok, w1⟩)
    | (obtain ⟨v1, τ1, G1, I1, e1, w1⟩ := out; exact ⟨v1, τ1, G1, I1.ofTry ok, e1, w1⟩)
end
/-- such a handler is hot -/
theorem hot_suite {X : Cx} {x : Addr} {oe : Obj} {C : Value} {d : Option Addr} {pn : List (Addr × Obj)} (z : L2N.Zn C d oe) (h : ∃ w, oe.data = .fields w) : L2H.HotC (X.suite x ((x, oe) :: pn)) := by
  obtain ⟨w, hw⟩ := h
  exact ⟨(x, oe), ⟨rfl, w, hw, z.2.2 w hw⟩, by simp⟩
end L2
set_option Elab.async false
set_option linter.all false
set_option maxRecDepth 100000
set_option maxHeartbeats 4000000
/-! what a handler asks of the exception that it holds, by itself or in a def that it calls -/
namespace Gn
open PySem PySem.Spec PyProof.Rows L2 L2H
/-! ### a list of truths: how often one stands in it -/
def isB (b : Bool) : Value → Bool
  | .bool c => c == b
  | _ => false
theorem isB_at {b : Bool} {A : Around} {s : Shared} : ∀ {us : List Value} {bs : List Bool}, Vals (bs.map V.bl) us → ∀ y ∈ us, SeqAt.EqAt A s y (.bool b) (isB b y)
  | [], _, _, y, m => nomatch m
  | u :: us, [], r, y, m => nomatch r
  | u :: us, c :: bs, .cons r1 r2, y, m => by
    obtain rfl : u = Value.bool c := r1
    rcases List.mem_cons.mp m with e | m
    · rw [e]; exact SeqAt.EqAt.bool_bool c b
    · exact isB_at r2 y m
theorem isB_count {b : Bool} : ∀ {us : List Value} {bs : List Bool}, Vals (bs.map V.bl) us → us.countP (isB b) = bs.count b
  | [], [], _ => rfl
  | [], _ :: _, r => nomatch r
  | u :: us, [], r => nomatch r
  | u :: us, c :: bs, .cons r1 r2 => by
    obtain rfl : u = Value.bool c := r1
    rw [List.countP_cons, List.count_cons, isB_count r2]; rfl
def rCntB (K : PySem.W.Frag) : V → List V → Hp → VK → Prop := fun x xs H Q => ∃ (p : Addr) (bs : List Bool) (b : Bool), x = .ref p ∧ xs = [.bl b] ∧ SqL K H p (bs.map V.bl) ∧ Q (.int (bs.count b : Nat)) H
theorem mt_countB {X : Cx} : MtR X "list.count" (rCntB X.K) := by
  intro pins s σ H x xs v us Q I rx rxs h
  obtain ⟨p, bs, b, rfl, rfl, hs, q⟩ := h
  cases rx
  obtain ⟨u, rfl, ru⟩ := rxs.one
  obtain rfl : u = Value.bool b := ru
  obtain ⟨its, rv, ⟨⟨cls, dd, data, sl⟩, n, ho, hc, hdn, hd⟩, _⟩ := I.list hs
  dsimp only at hc hd
  subst hc hd
  refine call_meets PySem.F.slot_list_count ⟨_, ho, rfl⟩ PySem.F.entry_list_count (PySem.F.args_list_count_2 _ _) (SeqAt.list_countAt p its.toArray n dd sl (.bool b) (isB b)) ⟨ho, fun y hy => isB_at rv y (by simpa using hy), ⟨.int (bs.count b : Nat), H, I.tok _, ⟨s.toks, ?_⟩, q⟩⟩
  rw [show its.toArray.toList = its from rfl, isB_count rv]
/-! ### the exception that is held: of which classes it is, what it has -/
section
variable {X : Cx} {a : Addr} {cls : Value} {d : Option Addr} {oe : Obj}
theorem held_inst {pins : List (Addr × Obj)} {σ : L2.St} {H : Hp} {s : Shared} {D : Addr} (m : (a, oe) ∈ X.pn) (hz : Zc (.ref D) d oe) (hf : ∃ vs, oe.data = .fields vs) (I : Inv X pins σ H s) (hd : ∀ y, d = some y → ∃ fs, H y = some (.xd fs)) : ∃ ox od, PySem.W.InstAt s.heap a ox D od := by
  obtain ⟨at0, _⟩ := I.pin (a, oe) (List.mem_append.mpr (.inl m))
  obtain ⟨vs, hv⟩ := hf
  obtain ⟨oc, dd, oda, osl⟩ := oe
  obtain ⟨h1, h2⟩ := hz
  dsimp only at h1 h2 hv
  subst h1 h2 hv
  cases dd with
  | none => exact ⟨_, none, at0, rfl, rfl, trivial⟩
  | some y =>
    obtain ⟨fs, ed⟩ := hd y rfl
    obtain ⟨mA, hns, _⟩ := (show ObjOk X.prog X.w H s.heap y (.xd fs) from I.hok y _ ed)
    obtain ⟨od, ho, _⟩ := lookIn_ns hns
    exact ⟨_, some od, at0, rfl, rfl, ho⟩
/-- isinstance(e, c) -/
def rIsP (K : PySem.W.Frag) (cls : Value) (a : Addr) (d : Option Addr) : List V → Hp → VK → Prop := fun xs H Q => ∃ (D : Addr) (c : V) (cv : Value) (b : Bool), cls = .ref D ∧ ExcC K D ∧ xs = [.ref a, c] ∧ (∀ y, d = some y → ∃ fs, H y = some (.xd fs)) ∧ (∀ u, RelV c u → u = cv) ∧ PySem.W.kitOne K (.ref D) cv = some b ∧ Q (.bl b) H
theorem cr_isP (m : (a, oe) ∈ X.pn) (hz : Zc cls d oe) (hf : ∃ vs, oe.data = .fields vs) : CallR X (.builtin "isinstance") (rIsP X.K cls a d) := by
  intro pins s σ H xs us Q I r h
  obtain ⟨D, c, cv, b, rfl, C, rfl, hd, hcv, e, q⟩ := h
  obtain ⟨u1, u2, rfl, r1, r2⟩ := vals2 r
  obtain rfl := hcv _ r2
  cases r1
  exact PySem.W.kia_one (PySem.W.gn_kit C) I.kIn (held_inst m hz hf I hd) e (fun z => nomatch z) fun tk => ⟨.bl b, H, I.tok tk, rfl, q⟩
/-- isinstance(e, (A, B, ..)) -/
def rIsPT (K : PySem.W.Frag) (cls : Value) (a : Addr) (d : Option Addr) : List V → Hp → VK → Prop := fun xs H Q => ∃ (D tp : Addr) (cs : List V) (us : List Value) (b : Bool), cls = .ref D ∧ ExcC K D ∧ xs = [.ref a, .ref tp] ∧ H tp = some (.tup cs) ∧ Paired ClsV cs us ∧ (∀ y, d = some y → ∃ fs, H y = some (.xd fs)) ∧ PySem.W.kitAny K (.ref D) us = some b ∧ Q (.bl b) H
theorem cr_isPT (m : (a, oe) ∈ X.pn) (hz : Zc cls d oe) (hf : ∃ vs, oe.data = .fields vs) : CallR X (.builtin "isinstance") (rIsPT X.K cls a d) := by
  intro pins s σ H xs us Q I r h
  obtain ⟨D, tp, cs, ws, b, rfl, C, rfl, hT, k, hd, e, q⟩ := h
  obtain ⟨u1, u2, rfl, r1, r2⟩ := vals2 r
  cases r1
  cases r2
  obtain ⟨oc, its, rv, o, h1, h2, n, h3⟩ := (show ObjOk X.prog X.w H s.heap tp (.tup cs) from I.hok tp _ hT)
  obtain rfl := ClsV.all k rv
  obtain ⟨ocl, od, dt, sl⟩ := o
  dsimp only at h2 h3
  subst h2 h3
  exact PySem.W.kia_tup (PySem.W.gn_kit C) I.kIn (held_inst m hz hf I hd) h1 e (fun z => nomatch z) fun tk => ⟨.bl b, H, I.tok tk, rfl, q⟩
/-- e.f -/
def tXfP (K : PySem.W.Frag) (a : Addr) (cls : Value) (d : Option Addr) (f : Str) (te : TE) : TE := fun σ H Q => te σ H fun x H1 => ∃ (D dd : Addr) (fs : List (Str × V)) (v : V), x = .ref a ∧ cls = .ref D ∧ XfC K D ∧ PySem.W.findIn K (.ref D) f = some none ∧ d = some dd ∧ H1 dd = some (.xd fs) ∧ fs.lookup f = some v ∧ Q v H1
theorem pe_xfP {e : Expr} {te : TE} {pos : Pos} {f : Str} (m : (a, oe) ∈ X.pn) (hz : Zc cls d oe) (hf : ∃ vs, oe.data = .fields vs) (he : PE X e te) (hb : attributeBase e f X.env (eval e X.env) = eval e X.env := by rfl) : PE X (.Attribute e f pos) (tXfP X.K a cls d f te) := by
  constructor
  intro pins s σ H Q I h
  refine attr_of hb (thn (he.run pins s σ H _ I h) fun u s1 ⟨x, H1, I1, rx, D, dd, fs, v, ex, ec, T, no, ed, ea, l, q⟩ => ?_)
  subst ex ec ed
  obtain rfl : u = Value.ref a := rx
  obtain ⟨at0, _⟩ := I1.pin (a, oe) (List.mem_append.mpr (.inl m))
  obtain ⟨vs, hv⟩ := hf
  obtain ⟨mA, hns, rel⟩ := (show ObjOk X.prog X.w H1 s1.heap dd (.xd fs) from I1.hok dd _ ea)
  obtain ⟨od, ho, hl⟩ := lookIn_ns hns
  obtain ⟨y, hy, ry⟩ := RelO.some_of (v := v) (o := mA f) (by rw [← l]; exact rel f)
  have J : PySem.W.InstAt s1.heap a oe D (some od) := ⟨at0, hz.1, by unfold PySem.W.notCls; rw [hv] <;> rfl, by rw [hz.2]; exact ho⟩
  exact HandSPX.exc_get I1.kIn J T.ga T.gg T.exC (PySem.W.findObj_own T.hdC no rfl (by rw [hl, hy])) (handed_of ry) ⟨v, H1, I1.tok _, ry, q⟩
end
/-! ### a def that is called with the exception that is held: its promise knows it -/
structure FnP (P : Program) (w : World) (K : PySem.W.Frag) (mg : Str → Option Value) (base : Heap) (CX : CXT) (k : Nat) (f : Addr) (fd : FuncData) (ps : List Str) (sp : Addr × Obj → Sp) : Prop where
  len : ∀ p vs H Q E, sp p vs H Q E → vs.length = ps.length
  run : ∀ (A : Around) (outer : List Env) (s : Shared) (H : Hp) (args : Args) (us : List Value) (vs : List V) (Q : VK) (E : XK) (p : Addr × Obj), RoomH k A → Hot1 A p → PinOk outer H s p → Env0 P w K mg base A outer s H → BindsTo s fd args (ps.zip us) → Vals vs us → sp p vs H Q E →
    codeAny (model P w) A (.call (.ref f) args) (CR CX outer P w H s Q E) s
section
variable {P : Program} {w : World} {K : PySem.W.Frag} {mg : Str → Option Value} {base : Heap}
theorem funP {CX : CXT} {x qual : Str} {st : Stmt} {f : Addr} {fd : FuncData} {N ps : List Str} {k : Nat} {sp : Addr × Obj → Sp} (F : Fun K x qual st f fd) (S : FnScope N ps (defScope st)) (len : ∀ p vs H Q E, sp p vs H Q E → vs.length = ps.length)
    (hbody : ∀ (cdv : Value) (A : Around) (outer : List Env) (s : Shared) (H : Hp) (vs : List V) (Q : VK) (E : XK) (p : Addr × Obj), Hot1 A p → RoomH k (A.deeper (envOfC qual (defScope st) s.heap.objs.size f cdv)) → sp p vs H Q E →
      ∃ t, PSs (cxH CX P w K mg base N qual (defScope st) f cdv A outer s H E p) (defBody st) t ∧ t { nx := fun _ H' => Q .non H', rt := Q } (start N vs) H) : FnP P w K mg base CX (k + 1) f fd ps sp := by
  obtain ⟨oc, od, kV, doc, pm, an, cdv, ct, osl, rfl, lk, hcd⟩ := F.ex
  refine ⟨len, fun A outer s H args us vs Q E p hr hot pin e0 hb r hsp => ?_⟩
  have KX : K.In s.heap := e0.mod.kin.keeps fun b o e => (e0.bs b o e).1
  have hkind : ∀ y ∈ ps.zip us, (defScope st).names.lookup y.1 = some .local ∨ ((defScope st).names.lookup y.1 = some .cell ∧ ((cellsFrom (s.heap.objs.size + 1) (defScope st).names []).lookup y.1).isSome = true) := fun y hy =>
    (S.par y.1 (List.of_mem_zip hy).1).elim .inl fun q => .inr ⟨q, PySem.W.cellsFrom_some _ _ _ (.inl q)⟩
  refine codeAny_call_function hr.depth (KX _ _ lk) rfl S.co S.gen rfl (PySem.W.codeRec_of KX hcd) (hb _ _ _ _ (wpAny_newFunctionEnv_cells S.kind hkind fun env he s1 x => ?_))
  subst he
  refine ⟨(e0.mod.nolimit.keeps fun b o e => (e0.bs b o e).1).keeps x.toInCall.keep, codeAny_func ?_⟩
  obtain ⟨t, ht, hq⟩ := hbody cdv A outer s H vs Q E p hot (hr.deeper _) hsp
  have I : Inv (cxH CX P w K mg base N qual (defScope st) f cdv A outer s H E p) [] (start N vs) H s1 := inv_startH S pin e0 (len _ _ _ _ _ hsp) r x
  refine wpAny_mono (ht.run [] s1 (start N vs) H _ I hq) (fun fl s' hs => ?_) fun _ _ hs => hs
  cases fl with
  | ret u => obtain ⟨v, σ', H', J, rv, q⟩ := hs; exact ⟨v, H', J.os, J.bare, J.base, J.hok, rv, q⟩
  | next => obtain ⟨σ', H', J, q⟩ := hs; exact ⟨V.non, H', J.os, J.bare, J.base, J.hok, rfl, q⟩
  | brk => obtain ⟨_, _, _, q⟩ := hs; exact False.elim q
  | cont => obtain ⟨_, _, _, q⟩ := hs; exact False.elim q
end
section
variable {X : Cx} {CX : CXT} {k : Nat} {f : Addr} {fd : FuncData} {ps : List Str} {sp : Addr × Obj → Sp} {E : XK} {x : Str} {p pos : Pos} {e : Expr} {es : List Expr} {t : TA} {q : Addr × Obj}
theorem pe_callP (F : FnP X.prog X.w X.K X.mg X.base CX k f fd ps sp) (hr : RoomH k X.A) (m : q ∈ X.pn) (hot : Hot1 X.A q) (hg : Gl X x) (hm : X.mg x = some (.ref f)) (hk : PySem.W.keepIn X.K (.ref f) = true) (hb : Binds X.K fd ps []) (hx : Passes CX X E)
    (ha : PA X (e :: es) t) (hdb : (x == ("__debug__" : Str)) = false := by decide) (he : starEach (e :: es) X.env = (false, eval e X.env) :: starEach es X.env := by rfl) (hpl : (backTo pos (starEach es X.env)).any (·.1) = false := by rfl) :
    PE X (.Call (.Name x p) (e :: es) [] pos) (tCall (sp q) [] E t) := by
  constructor
  intro pins s σ H Q I h
  refine wpAny_Call_Name_kw (ld_glob I hg hm (PySem.W.callWith_K (h₀ := X.base) I.ok.mod.kin hk (thn (ha.run pos pins s σ H _ I h) fun us s1 ⟨vs, H1, I1, r, z⟩ => ⟨I1.kIn, ?_⟩) he hpl) hdb)
  have z : sp q (vs ++ []) H1 Q E := z
  rw [List.append_nil] at z
  have b := hb s1 us I1.kIn (by rw [List.append_nil, ← r.length]; exact F.len _ _ _ _ _ z)
  rw [List.append_nil] at b
  obtain ⟨p1, p2, p3, p4, p5⟩ := I1.pin q (List.mem_append.mpr (.inl m))
  refine wpAny_call (codeAny_mono (F.run X.A X.stack s1 H1 ⟨us, []⟩ us vs Q E q hr hot ⟨p1, p2, fun hm => (List.mem_cons.mp (I1.stkSub q.1 hm)).elim p3 p4, p5⟩ I1.env0 b r z) fun r s' hq => ?_)
  have y := back_of hx I1 hq
  cases r with
  | error e => exact y
  | ok fl => cases fl with
    | ret u => exact y
    | next => exact y.elim
    | brk => exact y.elim
    | cont => exact y.elim
end
end Gn
set_option Elab.async false
set_option linter.all false
set_option maxRecDepth 100000
set_option maxHeartbeats 4000000
/-! y = [..] within a handler -/
namespace L2
open PySem PySem.Spec PyProof.Rows HotX L2H
section
variable {X : Cx} {i : Nat} {y : Str} {elt tg src : Expr} {ifs : List Expr} {sc : Scope} {own : List (Str × Nat)} {py pa ps : Pos} {ti te : TE} {g : TG} {tt : TT}
theorem ps_setLcH {p : Addr × Obj} (hot : Hot1 X.A p) (pm : p ∈ X.pn) (nd : X.N.Nodup) (hy : X.N[i]? = some y) (lo : X.env.scope.names.lookup y = some .local) (sw : swapsWith (.ListComp elt [⟨tg, src, ifs, 0⟩] sc pa) (some (.Name y py)) ps.line X.env = pure true) (hi : PE X src ti) (ok : BlkOk X.N X.env.scope sc own)
    (hg : ∀ (s : Shared) (H : Hp) (C : Addr) (cl : List (Str × Addr)) (fp : List Addr), Seen (X.blk s H sc (compEnvC sc cl C X.env) fp) p → PG (X.blk s H sc (compEnvC sc cl C X.env) fp) tg g)
    (ht : ∀ (s : Shared) (H : Hp) (C : Addr) (cl : List (Str × Addr)) (fp : List Addr), Seen (X.blk s H sc (compEnvC sc cl C X.env) fp) p → PTs (X.blk s H sc (compEnvC sc cl C X.env) fp) ifs tt)
    (he : ∀ (s : Shared) (H : Hp) (C : Addr) (cl : List (Str × Addr)) (fp : List Addr), Seen (X.blk s H sc (compEnvC sc cl C X.env) fp) p → PE (X.blk s H sc (compEnvC sc cl C X.env) fp) elt te)
    (fo : ∀ x, foldedSetIterable src X.env x = pure x := by intro _; rfl) : PS X (.Assign [.Name y py] (.ListComp elt [⟨tg, src, ifs, 0⟩] sc pa) ps) (tAsg (tLc (iList X.K ti) g tt te (own.map (·.2))) (gName i)) := by
  constructor
  intro pins t τ G D J want
  have want : tLc (iList X.K ti) g tt te (own.map (·.2)) τ G (fun x G1 => gName i x τ G1 D.nx) := want
  rw [exec_Assign_Name_used _ _ _ _ sw]
  refine wpAny_bind (wpAny_standAt (wpAny_bind ?_))
  change wpAny _ X.A (comprehension (.ListComp elt [⟨tg, src, ifs, 0⟩] sc pa) sc X.env (firstIterPos [⟨tg, src, ifs, 0⟩] pa) (newList []) false (eval src X.env) (some (assign (.Name y py) X.env)) >>= _) _ _ t
  refine wpAny_bind (thn (lc_hot (Qf := fun _ u => SP X pins D .next u) hot pm nd J hi ok hg ht he fo want fun L C u m G' J' q hn fr => ?_) fun _ u z => wpAny_pure (wpAny_pure z))
  change wpAny _ _ (assign (.Name y py) X.env (.ref L)) _ _ _
  refine wpAny_assign_Name (store_ok2 (v := V.ref L) J' nd hy (.inl lo) rfl (fun u2 J2 ⟨b, sb, hb⟩ => ?_) (.inr lo))
  have off : C ≠ b := hb.elim (fun z => z ▸ fr.2.1) fun z e => fr.2.2.2.2.1 y b z e.symm
  exact ⟨m, hn.sameBut sb off, fun h3 sb3 => ⟨_, G', J2.turned (t' := u2.toks) (fun c o n e => (sb3.2 c n).trans e) fr.1 fr.2.1 fr.2.2.2.1 fr.2.2.2.2.1 fr.2.2.2.2.2, q⟩⟩
end
end L2
set_option Elab.async false
set_option linter.all false
set_option maxRecDepth 100000
set_option maxHeartbeats 4000000
/-! a lambda handed to a def that tries it: what it raises has a known context -/
namespace Gn
open PySem PySem.Spec PyProof.Rows L2
section
variable {P : Program} {w : World} {K : PySem.W.Frag} {mg : Str → Option Value} {base : Heap}
/-- a def that may raise -/
theorem okN {x qual : Str} {st : Stmt} {f : Addr} {fd : FuncData} {N ps : List Str} {k : Nat} {sp : Sp} (F : Fun K x qual st f fd) (S : FnScope N ps (defScope st)) (len : ∀ vs H Q E, sp vs H Q E → vs.length = ps.length)
    (body : ∀ (cdv : Value) (A : Around) (outer : List Env) (s : Shared) (H : Hp) (vs : List V) (Q : VK) (E : XK), Room k (A.deeper (envOfC qual (defScope st) s.heap.objs.size f cdv)) → sp vs H Q E →
      ∃ t, PSs (cxOf (L2N.CX P w) P w K mg base N qual (defScope st) f cdv A outer s H E) (defBody st) t ∧ t { nx := fun _ G => Q .non G, rt := Q } (start N vs) H) : FnOk P w K mg base (L2N.CX P w) (k + 1) f fd ps sp := by
  obtain ⟨_, _, _, _, _, _, cdv, _, _, rfl, lk, hcd⟩ := F.ex
  exact fn_of lk hcd S len fun A o s H vs Q E => body cdv A o s H vs Q E
end
/-- the lambda's body, entered at s -/
abbrev lamN (X : Cx) (A : Around) (outer : List Env) (s : Shared) (H : Hp) (E : XK) (sc : Scope) (f c : Addr) : Cx :=
  (LamX.lamCx X A outer s H E sc f c).wish fun e t => wpAny (model X.prog X.w) (A.deeper (LamX.lamEnv X sc s.heap.objs.size f c)) (leaving (LamX.lamEnv X sc s.heap.objs.size f c) e) (fun _ t' => L2N.CX X.prog X.w outer H s E e t') (fun e' t' => L2N.CX X.prog X.w outer H s E e' t') t
section
variable {X : Cx} {pins : List (Addr × Obj)} {σ : L2.St} {H : Hp} {s : Shared}
/-- what leaves the body -/
theorem lamN_takes {A : Around} {outer : List Env} {E : XK} {sc : Scope} {f c : Addr} : L2N.Takes (lamN X A outer s H E sc f c) fun C d _ G => E C d G :=
  L2N.takes_of (E₁ := fun e' t' => L2N.CX X.prog X.w outer H s E e' t') rfl rfl rfl rfl
/-- a(), in the def that got the lambda -/
theorem pe_actN {CXg : CXT} {Eg : XK} {Ng : List Str} {qg : Str} {sg sc : Scope} {g f c : Addr} {cdg pm ctv : Value} {pr : Arguments} {bo : Expr} {k i : Nat} {a : Str} {pn : List (Addr × Obj)} {xe : Value → Shared → Prop} {W : WX} {tb : XK → TE} {p1 p2 : Pos}
    (I : Inv X pins σ H s) (L : LamX.LamS X.env.scope sc) (gf : s.heap.get? f = some (PySem.W.kla_obj "<lambda>" (X.env.qual ++ "<lambda>") pr bo sc (cloFrom X.env.cells sc.names []) pm c ctv)) (nf : H f = none) (off : f ∉ frs X.stack)
    (bi : bindArgs (PySem.W.kla_fn "<lambda>" (X.env.qual ++ "<lambda>") pr bo sc (cloFrom X.env.cells sc.names []) pm (.ref c) ctv) ⟨[], []⟩ = pure [])
    (tk : L2N.Takes ((cxOf CXg X.prog X.w X.K X.mg X.base Ng qg sg g cdg X.A X.stack s H Eg).tr pn xe) W) (hr : Room (k + 1) (X.A.deeper (envOfC qg sg s.heap.objs.size g cdg)))
    (body : ∀ (A : Around) (outer : List Env) (s : Shared) (H : Hp) (E : XK), Room k (A.deeper (LamX.lamEnv X sc s.heap.objs.size f c)) → PE (lamN X A outer s H E sc f c) bo (tb E))
    (at_ : Ng[i]? = some a) (vi : Vis sg a) (nd : (a == ("__debug__" : Str)) = false := by decide) (nc : (a == ("__classdict__" : Str)) = false := by decide) :
    PE ((cxOf CXg X.prog X.w X.K X.mg X.base Ng qg sg g cdg X.A X.stack s H Eg).tr pn xe) (.Call (.Name a p1) [] [] p2)
      (fun τ G Q => τ[i]? = some (some (.ref f)) ∧ G c = some (LamX.CodeO c (X.env.qual ++ "<lambda>")) ∧ tb (fun C d G' => W C d τ G') σ G Q) := by
  constructor
  rintro pi t τ G Q J ⟨slot, co, want⟩
  refine wpAny_Call_Name_kw (thn ((pe_var (pos := p1) (i := i) at_ vi nd nc).run pi t τ G (fun v G1 => v = .ref f ∧ G1 = G) J ⟨.ref f, slot, rfl, rfl⟩) fun u t1 ⟨v, G1, J1, rv, ev, eG⟩ => ?_)
  subst ev eG
  obtain rfl : u = Value.ref f := rv
  have g1 := J1.base.keep f _ gf nf off (fun z => nomatch (show f ∈ ([] : List Addr) from z))
  have un : Un (frs X.stack) [] H G1 s.heap t1.heap := J1.base
  obtain ⟨⟨oc, vs, tn, goc, gd, gv⟩, _, _⟩ := J1.hok c _ co
  have run : codeAny (model X.prog X.w) (X.A.deeper (envOfC qg sg s.heap.objs.size g cdg)) (.call (.ref f) ⟨[], []⟩) (CR (L2N.CX X.prog X.w) (envOfC qg sg s.heap.objs.size g cdg :: X.stack) X.prog X.w G1 t1 Q fun C d G' => W C d τ G') t1 := by
    refine PySem.W.kla_callFunE hr.depth g1 rfl L.co L.gen rfl ⟨c, oc, vs, tn, rfl, goc, gd, gv⟩ ?_
    rw [bi]
    refine wpAny_pure (wpAny_newFunctionEnv (fun y m => (L.own y m).2) (fun y m => absurd m (by simp)) (fun h ns sb => ⟨J1.nolimit.fresh _ sb, ?_⟩) L.kind)
    change codeAny _ _ (.expr bo (LamX.lamEnv X sc t1.heap.objs.size f c)) _ _
    have start := LamX.lam_start2 (A := X.A.deeper (envOfC qg sg s.heap.objs.size g cdg)) (outer := envOfC qg sg s.heap.objs.size g cdg :: X.stack) (E := fun C d G' => W C d τ G') (c' := c) (f := f) (tk := t1.toks + ([] : List (Str × Value)).length) I L J1.env0 hr.hd un ns fun b o e => sb.extBut b o (Nat.ne_of_lt (Heap.lt_size e)) (Heap.get?_push_of_some _ e)
    refine PySem.W.kla_codeExpr (wpAny_mono ((body _ _ t1 G1 _ (hr.deeper _)).run [] _ σ G1 Q (start.wish _) want) (fun v t2 ⟨y, G2, J2, ry, q⟩ => ?_) fun _ _ z => z)
    exact ⟨y, G2, J2.os, J2.bare, J2.base, J2.hok, ry, q⟩
  refine PySem.W.callWith_F0 ⟨_, _, _, _, g1⟩ (wpAny_call (codeAny_mono run fun r t2 z => ?_))
  cases r with
  | error e => exact tk e t2 (L2N.XE.of_call J1 (fun C d G' h => h) z)
  | ok fl => cases fl with
    | ret u => exact J1.after z
    | next => exact z.elim
    | brk => exact z.elim
    | cont => exact z.elim
/-- the def that tries what it got: TT, what it makes of the lambda's reading -/
def GivesN (X : Cx) (Ng : List Str) (x : Str) (sg : Scope) (g : Addr) (cdg : Value) (bg : List Stmt) (a : Str) (q : Str) (k : Nat) (TT : (XK → Hp → VK → Prop) → Hp → VK → Prop) : Prop :=
  ∀ (f c : Addr) (s : Shared) (H : Hp) (Q : VK) (tl : XK → Hp → VK → Prop),
    (∀ (W : WX) (pn : List (Addr × Obj)) (xe : Value → Shared → Prop) (p1 p2 : Pos), L2N.Takes ((cxOf CX0 X.prog X.w X.K X.mg X.base Ng x sg g cdg X.A X.stack s H E0).tr pn xe) W →
      PE ((cxOf CX0 X.prog X.w X.K X.mg X.base Ng x sg g cdg X.A X.stack s H E0).tr pn xe) (.Call (.Name a p1) [] [] p2) (fun τ G Q => τ[0]? = some (some (.ref f)) ∧ G c = some (LamX.CodeO c q) ∧ tl (fun C d G' => W C d τ G') G Q)) →
    H c = some (LamX.CodeO c q) → Room (k + 1) (X.A.deeper (envOfC x sg s.heap.objs.size g cdg)) → TT tl H Q →
    ∃ t, PSs (cxOf CX0 X.prog X.w X.K X.mg X.base Ng x sg g cdg X.A X.stack s H E0).nox bg t ∧ t { nx := fun _ G => Q .non G, rt := Q } (L2.start Ng [.ref f]) H
/-- x(lambda: bo) -/
theorem pe_lamN {T : List (Addr × Str)} {TT : (XK → Hp → VK → Prop) → Hp → VK → Prop} {x a : Str} {g c P : Addr} {k : Nat} {st : Stmt} {fd : FuncData} {Ng : List Str} {pr : Arguments} {bo : Expr} {sc : Scope} {t : XK → TE} {p lp pos : Pos}
    (hg : Gl X x) (hm : X.mg x = some (.ref g)) (F : Fun X.K x x st g fd) (kp : PySem.W.keepIn X.K (.ref g) = true) (hb : Binds X.K fd [a] []) (Sg : FnScope Ng [a] (defScope st)) (at_ : Ng[0]? = some a) (vi : Vis (defScope st) a)
    (hG : ∀ cdv, GivesN X Ng x (defScope st) g cdv (defBody st) a (X.env.qual ++ "<lambda>") k TT)
    (TB : LamX.TabB X.base X.mg c P) (ec : X.env.code = .ref c) (mT : (P, X.env.qual ++ "<lambda>") ∈ T) (one : ∀ q ∈ T, q.1 = P → q.2 = X.env.qual ++ "<lambda>") (hr : Room (k + 2) X.A) (L : LamX.LamS X.env.scope sc) (df : defaultsOf pr X.env = ([], []))
    (bi : ∀ (q : Str) (cl : List (Str × Addr)) (pm cv ctv : Value), bindArgs (PySem.W.kla_fn "<lambda>" q pr bo sc cl pm cv ctv) ⟨[], []⟩ = pure [])
    (body : ∀ (A : Around) (outer : List Env) (s : Shared) (H : Hp) (E : XK) (f c' : Addr), Room k (A.deeper (LamX.lamEnv X sc s.heap.objs.size f c')) → PE (lamN X A outer s H E sc f c') bo (t E))
    (nx : (x == ("__debug__" : Str)) = false := by decide) (nd : (a == ("__debug__" : Str)) = false := by decide) (nc : (a == ("__classdict__" : Str)) = false := by decide) :
    PE X (.Call (.Name x p) [.Lambda pr bo sc lp] [] pos) (LamX.tLam T TT t) := by
  obtain ⟨_, _, _, _, _, _, cdv, _, _, rfl, lk, hcd⟩ := F.ex
  constructor
  rintro pins s σ H Q I ⟨tabs, want⟩
  refine wpAny_Call_Name_kw (ld_glob I hg hm (PySem.W.callWith_K (h₀ := X.base) I.ok.mod.kin kp ?_ (by rfl) (by rfl)) nx)
  change wpAny _ _ (spliced ((false, eval (.Lambda pr bo sc lp) X.env) :: backTo pos (starEach [] X.env))) _ _ s
  refine Calls.spliced_cons (LamX.lam_make2 I TB ec mT one tabs df (L.has I.ok) fun f c' pm ctv H1 s1 I1 eN T1 gf nf off co => Calls.spliced_nil ⟨I1.kIn, ?_⟩)
  have run : codeAny (model X.prog X.w) X.A (.call (.ref g) ⟨[.ref f], []⟩) (CR CX0 X.stack X.prog X.w H1 s1 Q E0) s1 := by
    refine LamX.run_ofS (N := Ng) (ps := [a]) (us := [.ref f]) (vs := [.ref f]) lk hcd Sg hr I1.env0 (hb s1 [.ref f] I1.kIn rfl) (.cons rfl .nil) rfl fun hr' => ?_
    obtain ⟨u, hu, q⟩ := hG cdv f c' s1 H1 Q (fun E G Q' => t E σ G Q') (fun W pn xe p1 p2 tk => pe_actN (i := 0) I1 L gf nf off (bi _ _ _ _ _) tk hr' (fun A o s2 H2 E hr2 => body A o s2 H2 E f c' hr2) at_ vi nd nc) co hr' (want H1 eN T1)
    exact ⟨u, hu.nox, q⟩
  refine wpAny_call (codeAny_mono run fun r s2 z => ?_)
  cases r with
  | error e => exact (show False from z).elim
  | ok fl => cases fl with
    | ret u => exact I1.after z
    | next => exact z.elim
    | brk => exact z.elim
    | cont => exact z.elim
end
end Gn
set_option Elab.async false
set_option linter.all false
set_option maxRecDepth 100000
set_option maxHeartbeats 4000000
/-! the end of a law whose defs make lambdas, no guards known ahead -/
namespace Gn
open PySem PySem.Spec PyProof.Rows L2
section
variable {P : Program} {w : World} {K : PySem.W.Frag} {mg mb : Str → Option Value}
/-- a table of code objects that is empty yet -/
def tabO : Obj := { cls := .none, data := .fields #[] }
theorem lawGT {CX : CXT} {k : Nat} {fa a : Addr} {cs : List (Addr × Addr)} {fd : FuncData} {x : Str} {sp : Sp} {s₁ : Shared} {vs : List Value} {ns : List Int}
    (KX : K.In s₁.heap) (hns : s₁.heap.Ns mainGlobals mg) (hb : s₁.heap.Ns builtinsNs mb) (hbb : ∀ x : Str, x ≠ "__name__" → mb x = bootBuiltins x) (hlim : s₁.heap.NoLimit) (hg : s₁.gens = #[])
    (T0 : ∀ p ∈ cs, s₁.heap.get? p.2 = some tabO) (T1 : ∀ p ∈ cs, K.lookup p.2 = none) (T2 : ∀ p ∈ cs, PySem.W.CodeHd s₁.heap p.1 p.2)
    (bm : ∃ (m : Addr) (o : Obj), mg "__builtins__" = some (.ref m) ∧ m ≠ builtinsNs ∧ s₁.heap.get? m = some o ∧ o.cls = .type "module" ∧ o.dict = some builtinsNs ∧ o.data = .plain)
    (ha : s₁.heap.get? a = some { cls := .type "list", data := .seq vs.toArray }) (hi : IntsAre vs ns) (hl : ns.length ≤ sizeLine) (hr : Room k callerA)
    (F : ∀ base : Heap, K.In base → base.Ns mainGlobals mg → (∀ p ∈ cs, LamX.TabB base mg p.1 p.2) → FnG P w K mg base CX k fa fd [x] sp) (hbind : ∀ (s : Shared) (u : Value), BindsTo s fd ⟨[u], []⟩ [(x, u)])
    (hsp : ∀ H : Hp, (∀ p ∈ cs, H p.2 = some (.tbl #[])) → SqL K H a (ns.map V.int) → sp [.ref a] H (fun v _ => v = .bl true) fun _ _ _ => False) (hCX : ∀ H e s', CX [] H s₁ (fun _ _ _ => False) e s' → False) :
    codeAny (model P w) callerA (.call (.ref fa) ⟨[.ref a], []⟩) (fun r s' => r = .ok (.ret (.bool true)) ∧ OldK s₁.heap s'.heap ∧ s'.os = s₁.os ∧ AllBare s'.gens) s₁ := by
  have rv := vals_ints hi
  have isT : ∀ b, b ∈ cs.map (·.2) → s₁.heap.get? b = some tabO := fun b m => by
    obtain ⟨p, pm, rfl⟩ := List.mem_map.mp m
    exact T0 p pm
  have nA : a ∉ cs.map (·.2) := fun m => by
    have z := (isT a m).symm.trans ha
    have z' := congrArg Obj.data (Option.some.inj z)
    cases z'
  have mT : ∀ p ∈ cs, p.2 ∈ cs.map (·.2) := fun p m => List.mem_map.mpr ⟨p, m, rfl⟩
  -- what is tracked at first: the tables, and the script where the kit's frame doesn't hold it
  let H0 : Hp := fun b => if b ∈ cs.map (·.2) then some (.tbl #[]) else if b = a ∧ K.lookup a = none then some (.frz { cls := .type "list", data := .seq vs.toArray } (.lst (ns.map V.int))) else none
  have HT : ∀ p ∈ cs, H0 p.2 = some (.tbl #[]) := fun p m => if_pos (mT p m)
  have HN : ∀ b, b ∉ cs.map (·.2) → ¬ (b = a ∧ K.lookup a = none) → H0 b = none := fun b m n => by
    show (if b ∈ cs.map (·.2) then _ else _) = _
    rw [if_neg m, if_neg n]
  have HA : K.lookup a = none → H0 a = some (.frz { cls := .type "list", data := .seq vs.toArray } (.lst (ns.map V.int))) := fun n => by
    show (if a ∈ cs.map (·.2) then _ else _) = _
    rw [if_neg nA, if_pos ⟨rfl, n⟩]
  have hS : SqL K H0 a (ns.map V.int) := by
    cases q : K.lookup a with
    | none => exact .inl (.inr ⟨_, HA q⟩)
    | some o =>
      have e := KX a o q
      rw [ha] at e
      cases e
      exact .inr ⟨_, vs.toArray, _, q, rfl, rfl, rfl, by rw [List.size_toArray, hi.length]; exact hl, by simpa using rv⟩
  have hok : HOk P w H0 s₁.heap := fun b u e => by
    by_cases m : b ∈ cs.map (·.2)
    · have e' : (some (HO.tbl #[]) : Option HO) = some u := (if_pos m).symm.trans e
      cases e'
      exact isT b m
    · by_cases n : b = a ∧ K.lookup a = none
      · obtain ⟨rfl, n⟩ := n
        cases (HA n).symm.trans e
        exact ⟨ha, by rw [List.length_map]; exact hl, vs, _, rv, ha⟩
      · cases (HN b m n).symm.trans e
  -- what is not tracked lies in the base
  have low : ∀ {b : Addr} {o : Obj}, s₁.heap.get? b = some o → (∀ vs n, o.data ≠ .seq vs n) → o.data ≠ .fields #[] → (hidT s₁.heap H0).get? b = some o := fun {b o} e h1 h2 => hidT_get e (HN b (fun m => by
      rw [isT b m] at e
      cases e
      exact h2 rfl) fun n => by
      rw [n.1, ha] at e
      cases e
      exact h1 _ _ rfl)
  have lowN : ∀ {b : Addr} {m : Str → Option Value}, s₁.heap.Ns b m → (hidT s₁.heap H0).Ns b m := fun {b m} ⟨o, es, ep, e, d, r⟩ => ⟨o, es, ep, low e (fun vs n z => by rw [d] at z; cases z) (fun z => by rw [d] at z; cases z), d, r⟩
  have kb : K.In (hidT s₁.heap H0) := fun b o e => hidT_get (KX b o e) (HN b (fun m => by
      obtain ⟨p, pm, rfl⟩ := List.mem_map.mp m
      rw [T1 p pm] at e
      cases e) fun n => by
      rw [n.1, n.2] at e
      cases e)
  have md : Mod K mg (hidT s₁.heap H0) := ⟨kb, lowN hns, ⟨mb, lowN hb, hbb⟩, let ⟨mc, h1, h2⟩ := hlim; ⟨mc, lowN h1, h2⟩⟩
  have TB : ∀ p ∈ cs, LamX.TabB (hidT s₁.heap H0) mg p.1 p.2 := fun p m => by
    have tp := T0 p m
    refine ⟨?_, ?_, fun z => ?_⟩
    · obtain ⟨o, us, c1, c2, c3, c4, c5, c6, c7, e, r1, r2, r3, r⟩ := T2 p m
      refine ⟨o, us, c1, c2, c3, c4, c5, c6, c7, low e (fun vs n z => ?_) (fun z => ?_), r1, r2, r3, r⟩
      · rw [r2] at z
        cases z
      · rw [r2] at z
        cases z
        simp at r3
    · obtain ⟨m0, o, b1, b2, b3, b4, b5, b6⟩ := bm
      refine ⟨m0, o, b1, b2, fun q => ?_, fun q => ?_, low b3 (fun vs n z => by rw [b6] at z; cases z) (fun z => by rw [b6] at z; cases z), b4, b5, b6⟩
      · obtain ⟨_, _, _, e, d, _⟩ := hns
        rw [q, e] at b3
        cases b3
        rw [d] at b6
        cases b6
      · rw [q, tp] at b3
        cases b3
        cases b6
    · obtain ⟨_, _, _, e, d, _⟩ := hns
      rw [z, tp] at e
      cases e
      cases d
  have e0 : Env0 P w K mg (hidT s₁.heap H0) callerA [] s₁ H0 := ⟨rfl, md, fun b o e => of_hidT e, Nat.le_of_eq (hidT_size _ _), trivial, fun b m => absurd (show b ∈ ([] : List Addr) from m) (by simp), hok, .of_eq hg⟩
  refine codeAny_mono ((F _ kb (lowN hns) TB).run callerA [] s₁ H0 ⟨[.ref a], []⟩ [.ref a] [.ref a] _ _ rfl hr e0 (hbind s₁ (.ref a)) (.cons rfl .nil) (hsp H0 HT hS)) fun r s' h => ?_
  cases r with
  | error e => exact (hCX H0 e s' h).elim
  | ok fl => cases fl with
    | next => exact False.elim h
    | brk => exact False.elim h
    | cont => exact False.elim h
    | ret u =>
      obtain ⟨v, H', os, bare, un, hok', r', q⟩ := h
      obtain rfl : v = .bl true := q
      obtain rfl : u = Value.bool true := r'
      have same : ∀ b o, b ∉ cs.map (·.2) → s₁.heap.get? b = some o → s'.heap.get? b = some o := fun b o m e => by
        by_cases n : b = a ∧ K.lookup a = none
        · obtain ⟨rfl, n⟩ := n
          obtain ⟨e1, _⟩ := hok b _ (HA n)
          obtain ⟨e2, _⟩ := hok' b _ (un.frzs b _ _ (HA n))
          exact e2.trans (e1.symm.trans e)
        · exact un.keep b o e (HN b m n) (fun z => nomatch z) (fun z => nomatch z)
      have more : ∀ p ∈ cs, ∃ ps : Array Value, s'.heap.get? p.2 = some { cls := .none, data := .fields ps } := fun p m => by
        obtain ⟨ps, z⟩ := un.tbls p.2 #[] (HT p m)
        exact ⟨_, hok' p.2 _ z⟩
      refine ⟨rfl, ⟨fun b o e => ?_, fun b o e => ?_⟩, os, bare⟩
      · by_cases m : b ∈ cs.map (·.2)
        · obtain ⟨p, pm, rfl⟩ := List.mem_map.mp m
          obtain ⟨ps, z⟩ := more p pm
          cases (T0 p pm).symm.trans e
          exact .inr (.inl ⟨((T2 p pm).tab (T0 p pm)).isCodeTable, rfl, #[], ps, rfl, by rw [Array.empty_append]; exact z⟩)
        · exact .inl (same b o m e)
      · by_cases m : b ∈ cs.map (·.2)
        · obtain ⟨p, pm, rfl⟩ := List.mem_map.mp m
          obtain ⟨ps, z⟩ := more p pm
          exact ⟨_, z⟩
        · exact ⟨o, same b o m e⟩
/-- what the head gives of the law -/
def LawAtG (l : PySem.W.OpenLaw) (w : World) (K : PySem.W.Frag) (CX : CXT) (k n : Nat) (x : Str) (mg : Str → Option Value) (fa : Addr) (h : Heap) : Prop :=
  ∃ (fd : FuncData) (cs : List (Addr × Addr)) (sp : Sp), (∀ p ∈ cs, h.get? p.2 = some tabO ∧ K.lookup p.2 = none ∧ PySem.W.CodeHd h p.1 p.2) ∧ (∀ (s : Shared) (u : Value), BindsTo s fd ⟨[u], []⟩ [(x, u)]) ∧
    (∀ (H : Hp) (a : Addr) (ns : List Int), ns.length ≤ n → (∀ p ∈ cs, H p.2 = some (.tbl #[])) → SqL K H a (ns.map V.int) → sp [.ref a] H (fun v _ => v = .bl true) fun _ _ _ => False) ∧
    ∀ base : Heap, K.In base → base.Ns mainGlobals mg → (∀ p ∈ cs, LamX.TabB base mg p.1 p.2) → FnG l.prog w K mg base CX k fa fd [x] sp
theorem walkGT {l : PySem.W.OpenLaw} {n k : Nat} {q : Program} {loose : List Str} {XP : (Str → Option Value) → Heap → Prop} {YP : World → Heap → Prop} {d : DefRec} {K : Params → PySem.W.Frag} {CX : World → CXT} {x : Str}
    (hn : l.most = some n) (hn2 : n ≤ sizeLine) (hdf : d.params.defaults = []) (hr : Room k callerA) (hY : ∀ (w : World) (h : Heap), YP w h → (K w.params).In h)
    (F : ∀ (w : World) (mg : Str → Option Value) (fa : Addr) (h : Heap), (∀ (y : Str) (e : DefRec) (c P : Addr), (recsOf q).find? (fun r => r.name == y) = some e → PySem.W.tabIn (K w.params) y = some (c, P) → PySem.W.CodeHd h c P ∧ h.get? P = some tabO) → (K w.params).In h → h.Ns mainGlobals mg → mg d.name = some (.ref fa) → LawAtG l w (K w.params) (CX w) k n x mg fa h)
    (hCX : ∀ (w : World) (H : Hp) (s : Shared) (e : Value) (s' : Shared), CX w [] H s (fun _ _ _ => False) e s' → False) : PySem.W.WalkO q loose XP YP l.row.toRowW d [] (fun f vs => PySem.call f vs) :=
  Att.attach_call hn hdf fun w s₀ s₁ mg mb fa o pm cd doc a vs ns G Y ho hd hcd hmg hobj hints hlen hg => by
    obtain ⟨fd, cs, sp, T, hb, hsp, hF⟩ := F w mg fa _ (fun y e c P h1 h2 => PySem.W.tab_of G.T (hY w _ Y) h1 h2) (hY w _ Y) G.T.g hmg
    exact lawGT (hY w _ Y) G.T.g G.T.b G.T.builtins G.T.nolimit hg (fun p m => (T p m).1) (fun p m => (T p m).2.1) (fun p m => (T p m).2.2) G.T.bmain hobj hints (Nat.le_trans hlen hn2) hr hF hb (fun H h1 h2 => hsp H a ns hlen h1 h2) fun H e s' => hCX w H s₁ e s'
end
end Gn
namespace Gn
open PySem PySem.Spec PyProof.Rows L2
/-- as funG0, the code object told -/
theorem funGC {P : Program} {w : World} {K : PySem.W.Frag} {mg : Str → Option Value} {base : Heap} {x qual : Str} {st : Stmt} {f : Addr} {fd : FuncData} {N ps : List Str} {k : Nat} {sp : Sp} (F : Fun K x qual st f fd) (S : FnScope N ps (defScope st)) (len : ∀ vs H Q E, sp vs H Q E → vs.length = ps.length)
    (hbody : ∀ (A : Around) (outer : List Env) (s : Shared) (H : Hp) (vs : List V) (Q : VK) (E : XK), (A.deeper (envOfC qual (defScope st) s.heap.objs.size f fd.code)).guards = some [] → Room k (A.deeper (envOfC qual (defScope st) s.heap.objs.size f fd.code)) → sp vs H Q E →
      ∃ t, PSs (cxOf CX0 P w K mg base N qual (defScope st) f fd.code A outer s H E).nox (defBody st) t ∧ t { nx := fun _ H' => Q .non H', rt := Q } (start N vs) H) : FnG P w K mg base CX0 (k + 1) f fd ps sp := by
  obtain ⟨oc, od, kV, doc, pm, an, cdv, ct, osl, rfl, lk, hcd⟩ := F.ex
  refine ⟨len, fun A outer s H args us vs Q E hg hr e0 hb r hsp => ?_⟩
  have KX : K.In s.heap := e0.mod.kin.keeps fun b o e => (e0.bs b o e).1
  have hkind : ∀ y ∈ ps.zip us, (defScope st).names.lookup y.1 = some .local ∨ ((defScope st).names.lookup y.1 = some .cell ∧ ((cellsFrom (s.heap.objs.size + 1) (defScope st).names []).lookup y.1).isSome = true) := fun y hy =>
    (S.par y.1 (List.of_mem_zip hy).1).elim .inl fun q => .inr ⟨q, PySem.W.cellsFrom_some _ _ _ (.inl q)⟩
  refine codeAny_call_function hr.depth (KX _ _ lk) rfl S.co S.gen rfl (PySem.W.codeRec_of KX hcd) (hb _ _ _ _ (wpAny_newFunctionEnv_cells S.kind hkind fun env he s1 x => ?_))
  subst he
  refine ⟨(e0.mod.nolimit.keeps fun b o e => (e0.bs b o e).1).keeps x.toInCall.keep, codeAny_func ?_⟩
  obtain ⟨t, ht, hq⟩ := hbody A outer s H vs Q E hg (hr.deeper _) hsp
  have I : Inv (cxOf CX0 P w K mg base N qual (defScope st) f cdv A outer s H E) [] (start N vs) H s1 := inv_start S hr.hd e0 (len _ _ _ _ hsp) r x
  refine wpAny_mono (ht.nox.run [] s1 (start N vs) H _ I hq) (fun fl s' hs => ?_) fun _ _ hs => hs
  cases fl with
  | ret u => obtain ⟨v, σ', H', J, rv, q⟩ := hs; exact ⟨v, H', J.os, J.bare, J.base, J.hok, rv, q⟩
  | next => obtain ⟨σ', H', J, q⟩ := hs; exact ⟨V.non, H', J.os, J.bare, J.base, J.hok, rfl, q⟩
  | brk => obtain ⟨_, _, _, q⟩ := hs; exact False.elim q
  | cont => obtain ⟨_, _, _, q⟩ := hs; exact False.elim q
end Gn
set_option Elab.async false
set_option linter.all false
set_option maxRecDepth 100000
set_option maxHeartbeats 8000000
/-! the head by facts, widened: own exceptions, a class's property, what lies deeper in a class -/
namespace Gn
open PySem PySem.Spec PyProof.Rows L2
/-- some steps further from these -/
def deep (g : Addr → Option Obj) : Nat → List Addr → List Addr
  | 0, l => l
  | n + 1, l => deep g n (He.growD g l)
/-- n steps from the module's names, and m more from what some of the names stand for -/
def asY (g : Addr → Option Obj) (n m : Nat) (xs : List Str) : List Addr := (fun l => l ++ deep g m (xs.map (He.ga (He.frG g l)))) (He.asD g n)
/-- a property's function -/
def prF (K : PySem.W.Frag) (C : Addr) (f : Str) : Addr := match K.lookup (He.ma K C f) with
  | some ⟨_, _, .fields vs, _⟩ => (match vs.toList with
    | .ref a :: _ => a
    | _ => 0)
  | _ => 0
structure PrD where
  cls : Str
  name : Str
  qual : Str
  params : Arguments
  body : List Stmt
  scope : Scope
def PrD.at_ (K : PySem.W.Frag) (d : PrD) : Addr := prF K (He.ga K d.cls) d.name
def PrD.val (d : PrD) : He.FnW := some (d.name, d.qual, d.params, .stmts d.body, d.scope, mainGlobals, [], builtinsNs)
def PrD.obs (K : PySem.W.Frag) (d : PrD) : He.FnW := match K.lookup (d.at_ K) with
  | some ⟨_, _, .func fd, _⟩ => some (fd.name, fd.qualname, fd.params, fd.body, fd.scope, fd.globals, fd.closure, fd.builtins)
  | _ => none
def PrD.fnB (K : PySem.W.Frag) (d : PrD) : Bool := PySem.W.keepIn K (.ref (d.at_ K)) && (match K.lookup (d.at_ K) with
  | some ⟨_, _, .func fd, _⟩ => PySem.W.codeIn K fd.code d.qual && (match fd.defaults, fd.kwdefaults with
    | .none, _ => true
    | _, _ => false)
  | _ => false)
/-- the property itself -/
def PrD.prB (K : PySem.W.Frag) (d : PrD) : Bool := He.eqO (PySem.W.findIn K (.ref (He.ga K d.cls)) d.name) (some (some (.ref (He.ma K (He.ga K d.cls) d.name)))) &&
  (He.eqO (PySem.W.specialIn K (.ref (He.ma K (He.ga K d.cls) d.name)) "__get__") (some (some (.builtin "property.__get__"))) && (decide (PySem.W.takesIn K (.ref (He.ma K (He.ga K d.cls) d.name)) = some true) &&
  (match K.lookup (He.ma K (He.ga K d.cls) d.name) with
    | some ⟨.type t, _, .fields vs, _⟩ => decide (t = "property") && (match vs.toList with
      | .ref _ :: _ => true
      | _ => false)
    | _ => false)))
theorem PrD.fn {K : PySem.W.Frag} {d : PrD} (e : d.obs K = d.val) (c : d.fnB K = true) : ∃ (oc : Value) (od : Option Addr) (kV doc pm : Value) (an : Option Addr) (cdv ct : Value) (osl : Array (Option Value)),
    K.lookup (d.at_ K) = some ⟨oc, od, .func (PySem.W.fnOf d.name d.qual d.params d.body d.scope .none kV doc pm an cdv ct), osl⟩ ∧ PySem.W.codeIn K cdv d.qual = true ∧ PySem.W.keepIn K (.ref (d.at_ K)) = true := by
  obtain ⟨kp, c2⟩ := He.ba c
  unfold PrD.obs at e
  split at e
  · rename_i oc od fd osl q
    rw [q] at c2
    obtain ⟨c3, c4⟩ := He.ba (show (PySem.W.codeIn K fd.code d.qual && (match fd.defaults, fd.kwdefaults with
      | .none, _ => true
      | _, _ => false)) = true from c2)
    obtain ⟨n1, n2, n3, n4, n5, n6, n7, n8, n9, n10, n11, n12, n13, n14, n15⟩ := fd
    have e2 : (some (n1, n2, n3, n4, n5, n6, n7, n15) : He.FnW) = some (d.name, d.qual, d.params, .stmts d.body, d.scope, mainGlobals, [], builtinsNs) := e
    simp only [Option.some.injEq, Prod.mk.injEq] at e2
    obtain ⟨h1, h2, h3, h4, h5, h6, h7, h8⟩ := e2
    subst h1 h2 h3 h4 h5 h6 h7 h8
    dsimp only at c4
    cases n8 with
    | none => exact ⟨oc, od, n9, n10, n11, n12, n13, n14, osl, q, c3, kp⟩
    | _ => cases c4
  · cases e
theorem PrD.pr {K : PySem.W.Frag} {d : PrD} (c : d.prB K = true) : ∃ (p : Addr) (od : Option Addr) (vs : Array Value) (sl : Array (Option Value)) (rest : List Value), PySem.W.findIn K (.ref (He.ga K d.cls)) d.name = some (some (.ref p)) ∧
    PySem.W.specialIn K (.ref p) "__get__" = some (some (.builtin "property.__get__")) ∧ PySem.W.takesIn K (.ref p) = some true ∧ K.lookup p = some ⟨.type "property", od, .fields vs, sl⟩ ∧ vs.toList = .ref (d.at_ K) :: rest := by
  obtain ⟨c1, c⟩ := He.ba c
  obtain ⟨c2, c⟩ := He.ba c
  obtain ⟨c3, c⟩ := He.ba c
  split at c
  · rename_i t od vs sl q
    obtain ⟨c4, c5⟩ := He.ba c
    cases of_decide_eq_true c4
    split at c5
    · rename_i a rest ev
      have ea : d.at_ K = a := by
        unfold PrD.at_ prF
        rw [q]
        dsimp only
        rw [ev]
      exact ⟨_, od, vs, sl, rest, He.eqO_ok c1, He.eqO_ok c2, of_decide_eq_true c3, q, by rw [ea]; exact ev⟩
    · cases c5
  · cases c
/-! ### further facts -/
inductive Fb where
  | bi (x : Str) (id : String)
  | own (x R : Str)
  | kit (x y : Str) (b : Bool)
  | kitT (x : Str) (t : String) (b : Bool)
  | glob
  | cut (x : Str)
  | ne (p q : He.Defn)
  | eqc (x : Str)
def cutB (K : PySem.W.Frag) (a : Addr) : Bool := match K.lookup a with
  | some ⟨.type c, _, .seq ia _, _⟩ => decide (c = "tuple") && (match ia.toList with
    | [.ref b, .int i _] => decide (i = 0) && (match K.lookup b with
      | some ⟨.type c2, _, .seq ib _, _⟩ => decide (c2 = "tuple") && (match ib.toList with
        | [.int p _, .int q _] => decide (p = 1) && decide (q = 1)
        | _ => false)
      | _ => false)
    | _ => false)
  | _ => false
theorem cutB_ok {K : PySem.W.Frag} {a : Addr} (h : cutB K a = true) : ∃ (b : Addr) (oa ob : Option Addr) (sa sb : Array (Option Value)) (ia ib : Array Value) (na nb : Nat) (t0 t1 t2 : Tok),
    K.lookup a = some ⟨.type "tuple", oa, .seq ia na, sa⟩ ∧ ia.toList = [.ref b, .int 0 t0] ∧ K.lookup b = some ⟨.type "tuple", ob, .seq ib nb, sb⟩ ∧ ib.toList = [.int 1 t1, .int 1 t2] := by
  unfold cutB at h
  split at h
  · rename_i c oa ia na sa la
    obtain ⟨h1, ha⟩ := He.ba h
    cases of_decide_eq_true h1
    clear h h1
    split at ha
    · rename_i b i t0 ea
      obtain ⟨h2, hb⟩ := He.ba ha
      cases of_decide_eq_true h2
      clear ha h2
      split at hb
      · rename_i c2 ob ib nb sb lb
        obtain ⟨h3, hc⟩ := He.ba hb
        cases of_decide_eq_true h3
        clear hb h3
        split at hc
        · rename_i p t1 q t2 eb
          obtain ⟨h4, h5⟩ := He.ba hc
          cases of_decide_eq_true h4
          cases of_decide_eq_true h5
          exact ⟨b, oa, ob, sa, sb, ia, ib, na, nb, t0, t1, t2, la, ea, lb, eb⟩
        · cases hc
      · cases hb
    · cases ha
  · cases h
/-- an own class over ValueError by a class of ours -/
def ownB (K : PySem.W.Frag) (C R : Addr) : Bool := match K.lookup C with
  | some ⟨.type m, _, .cls cd, sl⟩ => decide (m = "type") && (match cd.mro, sl.toList with
    | .ref C' :: .ref R' :: tl, [_, _, _, _, some (.builtin n), _] => decide (C' = C) && (decide (R' = R) && (decide (n = "ValueError.__new__") && (!cd.hasDel && (cd.hasDict && decide (tl = He.veBase)))))
    | _, _ => false)
  | _ => false
theorem ownB_ok {K : PySem.W.Frag} {C R : Addr} (h : ownB K C R = true) : ∃ (nm q : Str) (N : Addr) (bs : List Value) (sn : List Str) (sub : List Value) (ab : Bool) (col : Option Bool) (dd : Option Addr) (k0 k1 k2 k3 k5 : Option Value),
    K.lookup C = some (excClassObj nm q C N bs (.ref R :: He.veBase) true sn sub ab col dd k0 k1 k2 k3 k5 "ValueError.__new__") := by
  unfold ownB at h
  split at h
  · rename_i m dd cd sl lk
    obtain ⟨h1, ha⟩ := He.ba h
    cases of_decide_eq_true h1
    clear h h1
    split at ha
    · rename_i C' R' tl k0 k1 k2 k3 n k5 em es
      obtain ⟨h2, hb⟩ := He.ba ha
      obtain ⟨h3, hc⟩ := He.ba hb
      obtain ⟨h4, hd⟩ := He.ba hc
      obtain ⟨h5, he⟩ := He.ba hd
      obtain ⟨h6, h7⟩ := He.ba he
      cases of_decide_eq_true h2
      cases of_decide_eq_true h3
      cases of_decide_eq_true h4
      cases of_decide_eq_true h7
      clear ha hb hc hd he h2 h3 h4 h7
      obtain ⟨nm, bs, mro, ns, qn, hd, sn, sub, ab, col, del⟩ := cd
      dsimp only at em h5 h6
      have h5 : del = false := by cases del; rfl; cases h5
      subst em h5 h6
      have esl : sl = #[k0, k1, k2, k3, some (.builtin "ValueError.__new__"), k5] := by
        obtain ⟨l⟩ := sl
        dsimp only at es
        rw [es]
      subst esl
      exact ⟨nm, qn, ns, bs, sn, sub, ab, col, dd, k0, k1, k2, k3, k5, lk⟩
    · cases ha
  · cases h
def ownC (K : PySem.W.Frag) (C R : Addr) : Bool := ownB K C R && (He.eqO (PySem.W.findIn K (.ref C) "__setattr__") (some (some (.builtin "object.__setattr__"))) && (decide (PySem.W.typeIn K (.ref C) = some (.type "type")) && (PySem.W.keepIn K (.ref C) && (xfB K C &&
  (He.eqO (PySem.W.findIn K (.ref C) "__class__") (some (some (.builtin "object.__class__"))) && (decide (PySem.W.mroIn K C (.type "object") = some true) && (He.eqO (PySem.W.findIn K (.ref C) "__init__") (some (some (.ref (He.ma K C "__init__")))) &&
  decide (PySem.W.typeIn K (.ref (He.ma K C "__init__")) = some (.type "function")))))))))
def globB (K : PySem.W.Frag) : Bool := He.eqO (PySem.W.specialIn K (.builtin "object.__class__") "__get__") (some (some (.builtin "getset_descriptor.__get__"))) && decide (PySem.W.takesIn K (.builtin "object.__class__") = some true)
/-- a class over object with an own __eq__, at f, and no __ne__ -/
def neB (K : PySem.W.Frag) (C f : Addr) : Bool := match K.lookup C with
  | some ⟨.type m, _, .cls cd, sl⟩ => decide (m = "type") && (match cd.mro, sl.toList with
    | [.ref C', .type o], [_, _, _, _, some (.builtin n), _] => decide (C' = C) && (decide (o = "object") && (!cd.hasDel && (PySem.W.nsOkIn K cd.ns && (He.eqO (PySem.W.nsIn K cd.ns "__eq__") (some (some (.ref f))) && He.eqO (PySem.W.nsIn K cd.ns "__ne__") (some none)))))
    | _, _ => false)
  | _ => false
/-- what a class with an own __eq__ and __repr__ has, and has not -/
def eqcB (K : PySem.W.Frag) (C : Addr) : Bool := He.eqO (PySem.W.findIn K (.ref C) "__class__") (some (some (.builtin "object.__class__"))) && (decide (PySem.W.mroIn K C (.type "object") = some true) && (decide (PySem.W.kitOne K (.ref C) (.ref C) = some true) && (decide (PySem.W.kitOne K (.type "tuple") (.ref C) = some false) &&
  (He.eqO (PySem.W.findIn K (.ref C) "__eq__") (some (some (.ref (He.ma K C "__eq__")))) && (PySem.W.isFn K (.ref (He.ma K C "__eq__")) && (PySem.W.notFirst K C (.type "tuple") && (neB K C (He.ma K C "__eq__") &&
  (He.eqO (PySem.W.findIn K (.ref C) "__repr__") (some (some (.ref (He.ma K C "__repr__")))) && (PySem.W.isFn K (.ref (He.ma K C "__repr__")) && (He.eqO (PySem.W.findIn K (.ref C) "__bool__") (some none) && He.eqO (PySem.W.findIn K (.ref C) "__len__") (some none)))))))))))
def Fb.ok (K : PySem.W.Frag) : Fb → Bool
  | .bi x id => He.eqO (PySem.W.nsIn K mainGlobals x) (some (some (.builtin id)))
  | .own x R => ownC K (He.ga K x) (He.ga K R)
  | .kit x y b => decide (PySem.W.kitOne K (.ref (He.ga K x)) (.ref (He.ga K y)) = some b)
  | .kitT x t b => decide (PySem.W.kitOne K (.ref (He.ga K x)) (.type t) = some b)
  | .glob => globB K
  | .cut x => cutB K (He.ga K x)
  | .ne p q => decide ((He.cT K p).2 ≠ (He.cT K q).2)
  | .eqc x => eqcB K (He.ga K x)
theorem glob_ok {K : PySem.W.Frag} (h : Fb.glob.ok K = true) : PySem.W.specialIn K (.builtin "object.__class__") "__get__" = some (some (.builtin "getset_descriptor.__get__")) ∧ PySem.W.takesIn K (.builtin "object.__class__") = some true := by
  obtain ⟨h1, h2⟩ := He.ba (show globB K = true from h)
  exact ⟨He.eqO_ok h1, of_decide_eq_true h2⟩
theorem kit_ok {K : PySem.W.Frag} {x y : Str} {b : Bool} (h : (Fb.kit x y b).ok K = true) : PySem.W.kitOne K (.ref (He.ga K x)) (.ref (He.ga K y)) = some b := of_decide_eq_true h
theorem kitT_ok {K : PySem.W.Frag} {x : Str} {t : String} {b : Bool} (h : (Fb.kitT x t b).ok K = true) : PySem.W.kitOne K (.ref (He.ga K x)) (.type t) = some b := of_decide_eq_true h
theorem ne_ok {K : PySem.W.Frag} {p q : He.Defn} (h : (Fb.ne p q).ok K = true) : (He.cT K p).2 ≠ (He.cT K q).2 := of_decide_eq_true h
theorem bi_ok {K : PySem.W.Frag} {h : Heap} {mg : Str → Option Value} (X : K.In h) (G : h.Ns mainGlobals mg) {x : Str} {id : String} (c : (Fb.bi x id).ok K = true) : mg x = some (.builtin id) := PySem.W.mg_of X G (He.eqO_ok c)
/-- what stands of an own exception class -/
theorem own_ok {K : PySem.W.Frag} {C R : Addr} (g : globB K = true) (h : ownC K C R = true) : OwC K C ∧ XfC K C ∧ ExcC K C ∧ PySem.W.findIn K (.ref C) "__init__" = some (some (.ref (He.ma K C "__init__"))) ∧ PySem.W.typeIn K (.ref (He.ma K C "__init__")) = some (.type "function") := by
  obtain ⟨h1, h⟩ := He.ba h
  obtain ⟨h2, h⟩ := He.ba h
  obtain ⟨h3, h⟩ := He.ba h
  obtain ⟨h4, h⟩ := He.ba h
  obtain ⟨h5, h⟩ := He.ba h
  obtain ⟨h6, h⟩ := He.ba h
  obtain ⟨h7, h⟩ := He.ba h
  obtain ⟨h8, h9⟩ := He.ba h
  obtain ⟨g1, g2⟩ := He.ba g
  have xf := xfB_ok h5
  obtain ⟨nm, q, N, bs, sn, sub, ab, col, dd, k0, k1, k2, k3, k5, lk⟩ := ownB_ok h1
  exact ⟨⟨⟨nm, q, N, bs, .ref R :: He.veBase, sn, sub, ab, col, dd, k0, k1, k2, k3, k5, _, _, _, He.veBase, lk, .own .base, basV⟩, He.eqO_ok h2, xf.exC, of_decide_eq_true h3, h4⟩, xf, ⟨xf.ga, xf.gg, xf.exC, xf.hdC, He.eqO_ok h6, He.eqO_ok g1, of_decide_eq_true g2, of_decide_eq_true h7⟩, He.eqO_ok h8, of_decide_eq_true h9⟩
/-! ### the Hook -/
structure SaysZ (fa : List He.Fa) (fn : List He.DefD) (tf : List He.Defn) (fb : List Fb) (ps : List PrD) (w : World) (h : Heap) (K : PySem.W.Frag) : Prop where
  d : He.SaysD fa fn K
  more : ∀ f ∈ fb, f.ok K = true
  prb : ∀ p ∈ ps, p.fnB K = true ∧ p.prB K = true
  pro : ps.map (PrD.obs K) = ps.map PrD.val
  hd : ∀ p ∈ tf, PySem.W.codeHdIn K (He.cT K p).1 (He.cT K p).2 = true
  out : ∀ p ∈ tf, K.lookup (He.cT K p).2 = none
  empty : ∀ p ∈ tf, h.get? (He.cT K p).2 = some tabO
abbrev AlZ : Type := (He.AlD × List He.FnW) × Bool
def exZ (fb : List Fb) (ps : List PrD) (tf : List He.Defn) (g : Addr → Option Obj) (K : PySem.W.Frag) : Bool := (fb.all fun f => f.ok K) && ((ps.all fun p => p.fnB K && p.prB K) && He.tabsB g tf K)
def obsK (fa : List He.Fa) (fn : List He.DefD) (tf : List He.Defn) (fb : List Fb) (ps : List PrD) (g : Addr → Option Obj) (K : PySem.W.Frag) : AlZ := ((He.obsD fa fn K, ps.map (PrD.obs K)), exZ fb ps tf g K)
def obsZ (n m : Nat) (xs : List Str) (fa : List He.Fa) (fn : List He.DefD) (tf : List He.Defn) (fb : List Fb) (ps : List PrD) (g : Addr → Option Obj) : AlZ := obsK fa fn tf fb ps g (He.frT g (asY g n m xs))
def valZ (fn : List He.DefD) (ps : List PrD) : AlZ := ((He.valD fn, ps.map PrD.val), true)
theorem saysZ_of {as : List Addr} {fa : List He.Fa} {fn : List He.DefD} {tf : List He.Defn} {fb : List Fb} {ps : List PrD} {w : World} {h : Heap} (e : obsK fa fn tf fb ps h.get? (He.frT h.get? as) = valZ fn ps) : SaysZ fa fn tf fb ps w h (He.frT h.get? as) := by
  have e0 : (He.obsD fa fn (He.frT h.get? as), ps.map (PrD.obs (He.frT h.get? as))) = (He.valD fn, ps.map PrD.val) := congrArg (fun z : AlZ => z.1) e
  have e3 : exZ fb ps tf h.get? (He.frT h.get? as) = true := congrArg (fun z : AlZ => z.2) e
  obtain ⟨e1, e2⟩ := Prod.mk.inj e0
  obtain ⟨a1, a2⟩ := He.ba e3
  obtain ⟨a3, a4⟩ := He.ba a2
  have T : ∀ p ∈ tf, PySem.W.codeHdIn (He.frT h.get? as) (He.cT (He.frT h.get? as) p).1 (He.cT (He.frT h.get? as) p).2 = true ∧ (match h.get? (He.cT (He.frT h.get? as) p).2 with
      | some o => He.emptyTab o
      | none => false) = true := fun p hp => He.ba (List.all_eq_true.mp a4 p hp)
  have T2 : ∀ p ∈ tf, ∃ o, h.get? (He.cT (He.frT h.get? as) p).2 = some o ∧ He.emptyTab o = true := fun p hp => by
    have z := (T p hp).2
    split at z
    · rename_i o q
      exact ⟨o, q, z⟩
    · cases z
  refine ⟨e1, fun f hf => List.all_eq_true.mp a1 f hf, fun p hp => He.ba (List.all_eq_true.mp a3 p hp), e2, fun p hp => (T p hp).1, fun p hp => ?_, fun p hp => ?_⟩
  · obtain ⟨o, q, z⟩ := T2 p hp
    exact He.frT_none q z
  · obtain ⟨o, q, z⟩ := T2 p hp
    rw [q, He.emptyTab_eq z]
    rfl
def hookZ (n m : Nat) (xs : List Str) (fa : List He.Fa) (fn : List He.DefD) (tf : List He.Defn) (fb : List Fb) (ps : List PrD) : PySem.W.Hook where
  α := AlZ
  obs := fun s => obsZ n m xs fa fn tf fb ps s.heap.get?
  val := fun _ => valZ fn ps
  says := fun w h => ∃ K : PySem.W.Frag, K.In h ∧ SaysZ fa fn tf fb ps w h K
  of := fun _ _ e => ⟨_, He.frT_in, saysZ_of e⟩
  keeps := fun _ _ _ z k => z.elim fun K y => ⟨K, PySem.W.Frag.In.keeps y.1 k, ⟨y.2.d, y.2.more, y.2.prb, y.2.pro, y.2.hd, y.2.out, fun p hp => k _ _ (y.2.empty p hp)⟩⟩
theorem obsZ_eq {n m : Nat} {xs : List Str} {fa : List He.Fa} {fn : List He.DefD} {tf : List He.Defn} {fb : List Fb} {ps : List PrD} {g : Addr → Option Obj} {s : Shared} (h : ∀ a, g a = s.heap.get? a) : obsZ n m xs fa fn tf fb ps g = (hookZ n m xs fa fn tf fb ps).obs s := by
  have e : g = s.heap.get? := funext h
  subst e
  rfl
section
variable {fa : List He.Fa} {fn : List He.DefD} {tf : List He.Defn} {fb : List Fb} {ps : List PrD} {w : World} {h : Heap} {K : PySem.W.Frag}
theorem SaysZ.fx (c : SaysZ fa fn tf fb ps w h K) (i : Nat) {f : Fb} (e : fb[i]? = some f := by rfl) : f.ok K = true := c.more f (List.mem_of_getElem? e)
theorem SaysZ.prop (c : SaysZ fa fn tf fb ps w h K) (i : Nat) {p : PrD} (e : ps[i]? = some p := by rfl) : p.obs K = p.val ∧ p.fnB K = true ∧ p.prB K = true := by
  have m := List.mem_of_getElem? e
  refine ⟨?_, c.prb p m⟩
  have e2 : (ps.map (PrD.obs K))[i]? = (ps.map PrD.val)[i]? := by rw [c.pro]
  rw [List.getElem?_map, List.getElem?_map, e] at e2
  exact Option.some.inj e2
theorem SaysZ.tab (c : SaysZ fa fn tf fb ps w h K) (X : K.In h) {p : He.Defn} (m : p ∈ tf) : h.get? (He.cT K p).2 = some tabO ∧ K.lookup (He.cT K p).2 = none ∧ PySem.W.CodeHd h (He.cT K p).1 (He.cT K p).2 := ⟨c.empty p m, c.out p m, PySem.W.codeHd_of_K X (c.hd p m)⟩
end
/-- a def without defaults, its code object told -/
theorem funZ {K : PySem.W.Frag} {x qual : Str} {st : Stmt} {p : He.Defn} {fd : FuncData} (F : FunD K x qual (defArgs st) (defBody st) (defScope st) [] [] (He.fAd K p) fd) : Fun K x qual st (He.fAd K p) fd ∧ fd.code = .ref (He.cT K p).1 := by
  obtain ⟨oc, od, dV, kV, doc, pm, an, cdv, ct, osl, e, lk, hcd, hD, _⟩ := F.ex
  obtain ⟨c, hc⟩ := He.codeIn_ref hcd
  rcases hD with ⟨_, rfl⟩ | ⟨e', _⟩
  · refine ⟨⟨⟨oc, od, kV, doc, pm, an, cdv, ct, osl, e, lk, hcd⟩, F.kp⟩, ?_⟩
    have z : fd.code = .ref c := by rw [e]; exact hc
    rw [z]
    exact congrArg Value.ref (He.codeOf_eq lk z).symm
  · exact absurd rfl e'
end Gn
set_option Elab.async false
set_option linter.all false
set_option maxRecDepth 100000
set_option maxHeartbeats 8000000
namespace My
open PySem PySem.Spec PyProof.Rows L2 Gn
def topX (i : Nat) : Stmt := PySem.Challenge.pw_rimorders_k09_lots_made_and_refused.main.body.getD i (.Pass ⟨0, 0, 0, 0⟩)
/-- the first statement of a class -/
def innX : Stmt → Stmt
  | .ClassDef _ _ _ (s :: _) _ _ _ _ _ _ _ => s
  | s => s
def nmX0 : List PySem.Str := ("gcd" : PySem.Str) :: ("NotRight" : PySem.Str) :: ("InvalidText" : PySem.Str) :: ("InvalidNumber" : PySem.Str) :: ("InvalidIndex" : PySem.Str) :: ("InvalidStep" : PySem.Str) :: ("InvalidArc" : PySem.Str) :: ("InvalidSighting" : PySem.Str) :: ("NotALot" : PySem.Str) :: ("InvalidPieces" : PySem.Str) :: ("InvalidOrder" : PySem.Str) :: ("InvalidSightings" : PySem.Str) :: ("NotKnown" : PySem.Str) :: ("NotPossible" : PySem.Str) :: ("NoStep" : PySem.Str) :: ("TooMany" : PySem.Str) :: ("Broken" : PySem.Str) :: ("is_integer" : PySem.Str) :: ("is_fraction" : PySem.Str) :: ("is_part" : PySem.Str) :: ("is_less" : PySem.Str) :: ("lowest" : PySem.Str) :: ("_LAST_CUT" : PySem.Str) :: ("_DIGITS" : PySem.Str) :: ("_GROUP" : PySem.Str) :: ("Lot" : PySem.Str) :: ("fraction_text" : PySem.Str) :: ("_first_wrong" : PySem.Str) :: ("_is_piece" : PySem.Str) :: ("_cuts_at" : PySem.Str) :: ("_is_ahead" : PySem.Str) :: ("_text_of" : PySem.Str) :: ("_word_of" : PySem.Str) :: ("_digits_of" : PySem.Str) :: ("_read_pieces" : PySem.Str) :: []
def nmX1 : List PySem.Str := ("_read_fraction" : PySem.Str) :: ("_are_digits" : PySem.Str) :: ("_read_digits" : PySem.Str) :: ("_law_tin" : PySem.Str) :: ("_law_sip" : PySem.Str) :: ("_law_pick" : PySem.Str) :: ("_law_gcd" : PySem.Str) :: ("_law_low" : PySem.Str) :: ("_law_under" : PySem.Str) :: ("_law_pieces" : PySem.Str) :: ("_law_is_number" : PySem.Str) :: ("_law_is_part" : PySem.Str) :: ("_law_error" : PySem.Str) :: ("_law_class" : PySem.Str) :: ("_law_field" : PySem.Str) :: ("_law_ends_right" : PySem.Str) :: ("_law_is_piece" : PySem.Str) :: ("_law_wrong" : PySem.Str) :: ("_law_bent" : PySem.Str) :: ("_law_width" : PySem.Str) :: ("_law_right" : PySem.Str) :: []
def namesX : List PySem.Str := nmX0 ++ nmX1
def ddX0 : He.DefD := ⟨("is_integer", none), "is_integer", "is_integer", defArgs (topX 19), defBody (topX 19), defScope (topX 19), [], []⟩
def ddX1 : He.DefD := ⟨("is_fraction", none), "is_fraction", "is_fraction", defArgs (topX 20), defBody (topX 20), defScope (topX 20), [], []⟩
def ddX2 : He.DefD := ⟨("is_part", none), "is_part", "is_part", defArgs (topX 21), defBody (topX 21), defScope (topX 21), [], []⟩
def ddX3 : He.DefD := ⟨("is_less", none), "is_less", "is_less", defArgs (topX 22), defBody (topX 22), defScope (topX 22), [], []⟩
def ddX4 : He.DefD := ⟨("lowest", none), "lowest", "lowest", defArgs (topX 24), defBody (topX 24), defScope (topX 24), [], []⟩
def ddX5 : He.DefD := ⟨("_first_wrong", none), "_first_wrong", "_first_wrong", defArgs (topX 31), defBody (topX 31), defScope (topX 31), [], []⟩
def ddX6 : He.DefD := ⟨("_is_piece", none), "_is_piece", "_is_piece", defArgs (topX 32), defBody (topX 32), defScope (topX 32), [], []⟩
def ddX7 : He.DefD := ⟨("_cuts_at", none), "_cuts_at", "_cuts_at", defArgs (topX 33), defBody (topX 33), defScope (topX 33), [], []⟩
def ddX8 : He.DefD := ⟨("_is_ahead", none), "_is_ahead", "_is_ahead", defArgs (topX 34), defBody (topX 34), defScope (topX 34), [], []⟩
def ddX9 : He.DefD := ⟨("_law_tin", none), "_law_tin", "_law_tin", defArgs (topX 43), defBody (topX 43), defScope (topX 43), [], []⟩
def ddX10 : He.DefD := ⟨("_law_sip", none), "_law_sip", "_law_sip", defArgs (topX 44), defBody (topX 44), defScope (topX 44), [], []⟩
def ddX11 : He.DefD := ⟨("_law_pick", none), "_law_pick", "_law_pick", defArgs (topX 45), defBody (topX 45), defScope (topX 45), [], []⟩
def ddX12 : He.DefD := ⟨("_law_gcd", none), "_law_gcd", "_law_gcd", defArgs (topX 46), defBody (topX 46), defScope (topX 46), [], []⟩
def ddX13 : He.DefD := ⟨("_law_low", none), "_law_low", "_law_low", defArgs (topX 47), defBody (topX 47), defScope (topX 47), [], []⟩
def ddX14 : He.DefD := ⟨("_law_under", none), "_law_under", "_law_under", defArgs (topX 48), defBody (topX 48), defScope (topX 48), [], []⟩
def ddX15 : He.DefD := ⟨("_law_pieces", none), "_law_pieces", "_law_pieces", defArgs (topX 49), defBody (topX 49), defScope (topX 49), [], []⟩
def ddX16 : He.DefD := ⟨("_law_is_number", none), "_law_is_number", "_law_is_number", defArgs (topX 50), defBody (topX 50), defScope (topX 50), [], []⟩
def ddX17 : He.DefD := ⟨("_law_is_part", none), "_law_is_part", "_law_is_part", defArgs (topX 51), defBody (topX 51), defScope (topX 51), [], []⟩
def ddX18 : He.DefD := ⟨("_law_error", none), "_law_error", "_law_error", defArgs (topX 52), defBody (topX 52), defScope (topX 52), [], []⟩
def ddX19 : He.DefD := ⟨("_law_class", none), "_law_class", "_law_class", defArgs (topX 53), defBody (topX 53), defScope (topX 53), [], []⟩
def ddX20 : He.DefD := ⟨("_law_field", none), "_law_field", "_law_field", defArgs (topX 54), defBody (topX 54), defScope (topX 54), [], []⟩
def ddX21 : He.DefD := ⟨("_law_ends_right", none), "_law_ends_right", "_law_ends_right", defArgs (topX 55), defBody (topX 55), defScope (topX 55), [], []⟩
def ddX22 : He.DefD := ⟨("_law_is_piece", none), "_law_is_piece", "_law_is_piece", defArgs (topX 56), defBody (topX 56), defScope (topX 56), [], []⟩
def ddX23 : He.DefD := ⟨("_law_wrong", none), "_law_wrong", "_law_wrong", defArgs (topX 57), defBody (topX 57), defScope (topX 57), [], []⟩
def ddX24 : He.DefD := ⟨("_law_bent", none), "_law_bent", "_law_bent", defArgs (topX 58), defBody (topX 58), defScope (topX 58), [], []⟩
def ddX25 : He.DefD := ⟨("_law_width", none), "_law_width", "_law_width", defArgs (topX 59), defBody (topX 59), defScope (topX 59), [], []⟩
def ddX26 : He.DefD := ⟨("_law_right", none), "_law_right", "_law_right", defArgs (topX 60), defBody (topX 60), defScope (topX 60), [], []⟩
def ddX27 : He.DefD := ⟨("law", none), "law", "law", defArgs (topX 61), defBody (topX 61), defScope (topX 61), [], []⟩
def ddX28 : He.DefD := ⟨("Lot", some "__init__"), "__init__", "Lot.__init__", defArgs (inClass (topX 29) 0), defBody (inClass (topX 29) 0), defScope (inClass (topX 29) 0), [], []⟩
def ddX29 : He.DefD := ⟨("InvalidPieces", some "__init__"), "__init__", "InvalidPieces.__init__", defArgs (innX (topX 10)), defBody (innX (topX 10)), defScope (innX (topX 10)), [], []⟩
def ddX30 : He.DefD := ⟨("Lot", some "__eq__"), "__eq__", "Lot.__eq__", defArgs (inClass (topX 29) 5), defBody (inClass (topX 29) 5), defScope (inClass (topX 29) 5), [], []⟩
def ddX31 : He.DefD := ⟨("Lot", some "__repr__"), "__repr__", "Lot.__repr__", defArgs (inClass (topX 29) 7), defBody (inClass (topX 29) 7), defScope (inClass (topX 29) 7), [], []⟩
def fnsX : List He.DefD := ddX0 :: ddX1 :: ddX2 :: ddX3 :: ddX4 :: ddX5 :: ddX6 :: ddX7 :: ddX8 :: ddX9 :: ddX10 :: ddX11 :: ddX12 :: ddX13 :: ddX14 :: ddX15 :: ddX16 :: ddX17 :: ddX18 :: ddX19 :: ddX20 :: ddX21 :: ddX22 :: ddX23 :: ddX24 :: ddX25 :: ddX26 :: ddX27 :: ddX28 :: ddX29 :: ddX30 :: ddX31 :: []
def prX0 : PrD := ⟨"Lot", "pieces", "Lot.pieces", defArgs (inClass (topX 29) 2), defBody (inClass (topX 29) 2), defScope (inClass (topX 29) 2)⟩
def prX1 : PrD := ⟨"Lot", "width", "Lot.width", defArgs (inClass (topX 29) 4), defBody (inClass (topX 29) 4), defScope (inClass (topX 29) 4)⟩
def prsX : List PrD := prX0 :: prX1 :: []
def faX0 : List He.Fa := (He.Fa.glo "is_integer") :: (He.Fa.glo "is_fraction") :: (He.Fa.glo "is_part") :: (He.Fa.glo "is_less") :: (He.Fa.glo "lowest") :: (He.Fa.glo "_first_wrong") :: (He.Fa.glo "_is_piece") :: (He.Fa.glo "_cuts_at") :: (He.Fa.glo "_is_ahead") :: (He.Fa.glo "_law_tin") :: (He.Fa.glo "_law_sip") :: (He.Fa.glo "_law_pick") :: (He.Fa.glo "_law_gcd") :: (He.Fa.glo "_law_low") :: (He.Fa.glo "_law_under") :: (He.Fa.glo "_law_pieces") :: (He.Fa.glo "_law_is_number") :: (He.Fa.glo "_law_is_part") :: (He.Fa.glo "_law_error") :: (He.Fa.glo "_law_class") :: (He.Fa.glo "_law_field") :: (He.Fa.glo "_law_ends_right") :: (He.Fa.glo "_law_is_piece") :: (He.Fa.glo "_law_wrong") :: (He.Fa.glo "_law_bent") :: (He.Fa.glo "_law_width") :: (He.Fa.glo "_law_right") :: (He.Fa.glo "law") :: (He.Fa.glo "NotRight") :: (He.Fa.glo "NotKnown") :: (He.Fa.glo "NotPossible") :: (He.Fa.glo "InvalidText") :: (He.Fa.glo "InvalidNumber") :: (He.Fa.glo "InvalidStep") :: (He.Fa.glo "InvalidArc") :: []
def faX1 : List He.Fa := (He.Fa.glo "InvalidSighting") :: (He.Fa.glo "InvalidSightings") :: (He.Fa.glo "NotALot") :: (He.Fa.glo "InvalidPieces") :: (He.Fa.glo "InvalidOrder") :: (He.Fa.glo "InvalidIndex") :: (He.Fa.glo "NoStep") :: (He.Fa.glo "TooMany") :: (He.Fa.glo "Broken") :: (He.Fa.free "len") :: (He.Fa.free "int") :: (He.Fa.free "abs") :: (He.Fa.free "isinstance") :: (He.Fa.free "bool") :: (He.Fa.free "tuple") :: (He.Fa.free "range") :: (He.Fa.free "min") :: (He.Fa.free "max") :: (He.Fa.free "all") :: (He.Fa.free "sorted") :: (He.Fa.free "set") :: (He.Fa.free "repr") :: (He.Fa.free "list") :: (He.Fa.free "str") :: (He.Fa.free "enumerate") :: (He.Fa.free "zip") :: (He.Fa.free "ValueError") :: (He.Fa.free "LookupError") :: (He.Fa.free "ArithmeticError") :: (He.Fa.exm "InvalidPieces" "NotRight" true) :: (He.Fa.exm "InvalidPieces" "NotKnown" false) :: (He.Fa.exm "InvalidPieces" "NotPossible" false) :: (He.Fa.glo "Lot") :: (He.Fa.cls "Lot") :: (He.Fa.mkr "Lot") :: []
def faX2 : List He.Fa := (He.Fa.noat "Lot" "_pieces") :: (He.Fa.noat "InvalidPieces" "index") :: (He.Fa.glo "_LAST_CUT") :: []
def fasX : List He.Fa := faX0 ++ faX1 ++ faX2
def fbX0 : List Fb := (.glob) :: (.bi "gcd" "math.gcd") :: (.own "InvalidPieces" "NotRight") :: (.kit "InvalidPieces" "InvalidText" false) :: (.kit "InvalidPieces" "InvalidNumber" false) :: (.kit "InvalidPieces" "InvalidStep" false) :: (.kit "InvalidPieces" "InvalidArc" false) :: (.kit "InvalidPieces" "InvalidSighting" false) :: (.kit "InvalidPieces" "InvalidSightings" false) :: (.kit "InvalidPieces" "NotALot" false) :: (.kit "InvalidPieces" "InvalidPieces" true) :: (.kit "InvalidPieces" "InvalidOrder" false) :: (.kit "InvalidPieces" "InvalidIndex" false) :: (.kit "InvalidPieces" "NoStep" false) :: (.kit "InvalidPieces" "TooMany" false) :: (.kit "InvalidPieces" "Broken" false) :: (.kit "InvalidPieces" "NotRight" true) :: (.kit "InvalidPieces" "NotKnown" false) :: (.kit "InvalidPieces" "NotPossible" false) :: (.kitT "InvalidPieces" "ValueError" true) :: (.kitT "InvalidPieces" "LookupError" false) :: (.kitT "InvalidPieces" "ArithmeticError" false) :: (.cut "_LAST_CUT") :: (.eqc "Lot") :: (.ne ("_law_right", none) ("law", none)) :: []
def fbsX : List Fb := fbX0
def tfX : List He.Defn := ("_law_right", none) :: ("law", none) :: []
def dnX : List PySem.Str := ("Lot" : PySem.Str) :: ("InvalidPieces" : PySem.Str) :: ("_LAST_CUT" : PySem.Str) :: []
abbrev RRX : PySem.W.OpenRow := PySem.W.OpenLaw.row PySem.Challenge.rw_rimorders_k09_lots_made_and_refused
abbrev hkX : PySem.W.Hook := hookZ 2 5 dnX fasX fnsX tfX fbsX prsX
def obX (s : PySem.W.SharedT) : hkX.α := obsZ 2 5 dnX fasX fnsX tfX fbsX prsX (HandSHeadRun.getT s)
theorem obX_eq (s : PySem.W.SharedT) : obX s = hkX.obs s.abs := obsZ_eq (HandSHeadRun.getT_eq s)
abbrev qvX : Program := PySem.W.view RRX.prog [0, 61]
theorem runX_false (w : World) : HandSHeadRun.RunEqI RRX qvX hkX obX 9000 namesX (w.withFollow "special-get-raises" false) := by
  delta HandSHeadRun.RunEqI
  kernel_rfl
theorem runX_true (w : World) : HandSHeadRun.RunEqI RRX qvX hkX obX 9000 namesX (w.withFollow "special-get-raises" true) := by
  delta HandSHeadRun.RunEqI
  kernel_rfl
theorem runX (w : World) : HandSHeadRun.RunEqI RRX qvX hkX obX 9000 namesX w := PySem.W.byRow2 "special-get-raises" runX_false runX_true w
end My
set_option Elab.async false
set_option linter.all false
set_option maxRecDepth 100000
set_option maxHeartbeats 4000000
/-! what a term makes, told by what holds of its value whatever is made behind it -/
namespace Gn
open PySem PySem.Spec PyProof.Rows L2
abbrev Fact := Hp → V → Prop
def Lasts (R : Fact) : Prop := ∀ H H' v, Same H H' → R H v → R H' v
def Fm (te : TE) (σ : L2.St) (H : Hp) (R : Fact) : Prop := ∀ H1, Same H H1 → ∀ Q : VK, (∀ v H2, Same H1 H2 → R H2 v → Q v H2) → te σ H1 Q
/-- facts of a row of values -/
def AllF : List Fact → Hp → List V → Prop
  | [], _, vs => vs = []
  | R :: Rs, H, v :: vs => R H v ∧ AllF Rs H vs
  | _ :: _, _, [] => False
def LastsAll (Rs : List Fact) : Prop := ∀ R ∈ Rs, Lasts R
def FmA (ta : TA) (σ : L2.St) (H : Hp) (Rs : List Fact) : Prop := ∀ H1, Same H H1 → ∀ Q : List V → Hp → Prop, (∀ vs H2, Same H1 H2 → AllF Rs H2 vs → Q vs H2) → ta σ H1 Q
theorem AllF.lasts : ∀ {Rs : List Fact} {H H' : Hp} {vs : List V}, LastsAll Rs → Same H H' → AllF Rs H vs → AllF Rs H' vs
  | [], _, _, _, _, _, h => h
  | R :: Rs, H, H', v :: vs, m, e, ⟨h, hs⟩ => ⟨m R (List.mem_cons_self ..) H H' v e h, AllF.lasts (fun q z => m q (List.mem_cons_of_mem _ z)) e hs⟩
  | _ :: _, _, _, [], _, _, h => h
theorem AllF.len : ∀ {Rs : List Fact} {H : Hp} {vs : List V}, AllF Rs H vs → vs.length = Rs.length
  | [], _, vs, h => by
    rw [show vs = [] from h]
    rfl
  | R :: Rs, H, v :: vs, ⟨_, hs⟩ => by rw [List.length_cons, hs.len, List.length_cons]
  | _ :: _, _, [], h => h.elim
theorem AllF.app : ∀ {Rs Ss : List Fact} {H : Hp} {vs us : List V}, AllF Rs H vs → AllF Ss H us → AllF (Rs ++ Ss) H (vs ++ us)
  | [], _, _, vs, us, h, g => by
    rw [show vs = [] from h]
    exact g
  | R :: Rs, _, _, v :: vs, us, ⟨h, hs⟩, g => ⟨h, hs.app g⟩
  | _ :: _, _, _, [], _, h, _ => h.elim
theorem AllF.at : ∀ {Rs : List Fact} {H : Hp} {vs : List V} {i : Nat}, AllF Rs H vs → ∀ R, Rs[i]? = some R → ∃ v, vs[i]? = some v ∧ R H v
  | [], _, _, i, _, R, e => by cases e
  | R :: Rs, _, v :: vs, 0, ⟨h, _⟩, R', e => by
    cases e
    exact ⟨v, rfl, h⟩
  | R :: Rs, _, v :: vs, i + 1, ⟨_, hs⟩, R', e => hs.at (i := i) R' e
  | _ :: _, _, [], _, h, _, _ => h.elim
theorem lastsAll_nil : LastsAll [] := fun _ z => nomatch z
theorem lastsAll_cons {R : Fact} {Rs : List Fact} (h : Lasts R) (hs : LastsAll Rs) : LastsAll (R :: Rs) := fun q z => by
  rcases List.mem_cons.mp z with z | z
  · rw [z]
    exact h
  · exact hs q z
theorem lastsAll_app {Rs Ss : List Fact} (h : LastsAll Rs) (g : LastsAll Ss) : LastsAll (Rs ++ Ss) := fun q z => (List.mem_append.mp z).elim (h q) (g q)
section
variable {K : PySem.W.Frag} {σ : L2.St} {H : Hp} {te tb : TE} {ta : TA} {R S : Fact} {Rs Ss : List Fact}
/-- it is this value -/
def isV (v : V) : Fact := fun _ u => u = v
theorem lasts_is {v : V} : Lasts (isV v) := fun _ _ _ _ h => h
theorem fm_c {v : V} : Fm (tC v) σ H (isV v) := fun H1 _ Q q => q v H1 (Same.refl _) rfl
theorem fm_var {i : Nat} {v : V} (h : σ[i]? = some (some v)) : Fm (tVar i) σ H (isV v) := fun H1 _ Q q => ⟨v, h, q v H1 (Same.refl _) rfl⟩
theorem fmA_nil : FmA tNil σ H [] := fun H1 _ Q q => q [] H1 (Same.refl _) rfl
theorem fmA_cons (m : Lasts R) (h : Fm te σ H R) (hs : FmA ta σ H Rs) : FmA (tCons te ta) σ H (R :: Rs) := fun H1 e Q q =>
  h H1 e _ fun v H2 e2 r => hs H2 (e.trans e2) _ fun vs H3 e3 rs => q (v :: vs) H3 (e2.trans e3) ⟨m _ _ _ e3 r, rs⟩
/-- a list of these -/
def isL (Rs : List Fact) : Fact := fun H u => ∃ p vs, u = .ref p ∧ H p = some (.lst vs) ∧ AllF Rs H vs
theorem lasts_L (m : LastsAll Rs) : Lasts (isL Rs) := fun H H' v e ⟨p, vs, q, h, hs⟩ => ⟨p, vs, q, e _ _ h, hs.lasts m e⟩
theorem fm_lst (m : LastsAll Rs) (hl : Rs.length ≤ 1000) (hs : FmA ta σ H Rs) : Fm (tLst ta) σ H (isL Rs) := fun H1 e Q q => hs H1 e _ fun vs H2 e2 rs =>
  ⟨by rw [rs.len, sizeLine_eq]; omega, fun p hp => q _ _ (e2.trans (same_put hp)) ⟨p, vs, rfl, upd_same, rs.lasts m (same_put hp)⟩⟩
theorem fm_cat (m : LastsAll Rs) (n : LastsAll Ss) (hl : Rs.length + Ss.length ≤ 1000) (h : Fm te σ H (isL Rs)) (g : Fm tb σ H (isL Ss)) : Fm (tOp rCat te tb) σ H (isL (Rs ++ Ss)) := fun H1 e Q q =>
  h H1 e _ fun u H2 e2 ⟨p, vs, eu, hp, rs⟩ => g H2 (e.trans e2) _ fun y H3 e3 ⟨p', us, ey, hp', ss⟩ => by
    subst eu ey
    have l1 := rs.len
    have l2 := ss.len
    refine ⟨p, p', vs, us, rfl, rfl, e3 _ _ hp, hp', by rw [l1, l2, sizeLine_eq]; omega, fun r hr => ?_⟩
    exact q _ _ ((e2.trans e3).trans (same_put hr)) ⟨r, vs ++ us, rfl, upd_same, ((rs.lasts m e3).app ss).lasts (lastsAll_app m n) (same_put hr)⟩
/-- an exception of the class at C -/
def isE (C : Addr) (fs : List (Str × V)) : Fact := fun H u => ∃ a, u = .ref a ∧ Kept H a C fs
theorem lasts_E {C : Addr} {fs : List (Str × V)} : Lasts (isE C fs) := fun H H' v e ⟨a, q, h⟩ => ⟨a, q, h.same e⟩
theorem same_all {v : List V} {H : Hp} : AllF (v.map isV) H v := by
  induction v with
  | nil => rfl
  | cons x r ih => exact ⟨rfl, ih⟩
theorem allF_is : ∀ {xs vs : List V} {H : Hp}, AllF (xs.map isV) H vs → vs = xs
  | [], _, _, h => h
  | x :: xs, v :: vs, H, ⟨h, hs⟩ => by rw [show v = x from h, allF_is hs]
  | _ :: _, [], _, h => h.elim
theorem fm_mk {C : Addr} {fl : List Str} {xs : List V} (h : FmA ta σ H (xs.map isV)) (hl : xs.length = fl.length) : Fm (tMk C fl ta) σ H (isE C (fl.zip xs).reverse) := fun H1 e Q q =>
  h H1 e _ fun vs H2 e2 rs => by
    have z := allF_is rs
    subst z
    exact ⟨hl, fun a H3 e3 k => q _ _ (e2.trans e3) ⟨a, rfl, k⟩⟩
theorem fm_mkK {C : Addr} {fl : List Str} {xs : List V} {gV : List V → List V} {n : Nat} (h : FmA ta σ H (xs.map isV)) (hl : xs.length = n) : Fm (tMkK C fl gV n ta) σ H (isE C (fl.zip (gV xs)).reverse) := fun H1 e Q q =>
  h H1 e _ fun vs H2 e2 rs => by
    have z := allF_is rs
    subst z
    exact ⟨hl, fun a H3 e3 k => q _ _ (e2.trans e3) ⟨a, rfl, k⟩⟩
end
end Gn
set_option Elab.async false
set_option linter.all false
set_option maxRecDepth 100000
set_option maxHeartbeats 4000000
/-! arguments of any kind: what isinstance, the checks' questions, tell of them -/
namespace Gn
open PySem PySem.Spec PyProof.Rows L2
mutual
/-- a value that holds d, its lists, tuples and empty dicts being made by the law itself -/
inductive An (K : PySem.W.Frag) (H : Hp) : V → PyData → Prop
  | non : An K H .non .none
  | bl (b : Bool) : An K H (.bl b) (.bool b)
  | int (i : Int) : An K H (.int i) (.int i)
  | str (x : Str) : An K H (.str x) (.str x)
  | lst {a : Addr} {xs : List V} {ds : List PyData} (h : H a = some (.lst xs)) (ne : a ≠ sysModules) (t : AnAll K H xs ds) : An K H (.ref a) (.list ds)
  | tup {a : Addr} {xs : List V} {ds : List PyData} (h : H a = some (.tup xs)) (t : AnAll K H xs ds) : An K H (.ref a) (.tuple ds)
  | dct {a : Addr} (h : H a = some (.dK [])) : An K H (.ref a) (.dict [])
inductive AnAll (K : PySem.W.Frag) (H : Hp) : List V → List PyData → Prop
  | nil : AnAll K H [] []
  | cons {v : V} {vs : List V} {d : PyData} {ds : List PyData} (h : An K H v d) (t : AnAll K H vs ds) : AnAll K H (v :: vs) (d :: ds)
end
theorem tyx_sqt {K : PySem.W.Frag} {H : Hp} {a : Addr} {xs : List V} (h : SqT K H a xs) : TyX K H (.ref a) (.type "tuple") := by
  rcases h with (h | ⟨o, h⟩) | ⟨o, its, n, h, hc, _⟩
  · exact .base (.tup h)
  · exact .fTuple h
  · exact .kTuple h hc
theorem tyx_sql {K : PySem.W.Frag} {H : Hp} {a : Addr} {xs : List V} (h : SqL K H a xs) : TyX K H (.ref a) (.type "list") := by
  rcases h with (h | ⟨o, h⟩) | ⟨o, its, n, h, hc, _⟩
  · exact .base (.lst h)
  · exact .base (.frz h)
  · exact .kList h hc
/-- the name of its type -/
def tyn : PyData → String
  | .none => "NoneType"
  | .bool _ => "bool"
  | .int _ => "int"
  | .str _ => "str"
  | .list _ => "list"
  | .tuple _ => "tuple"
  | .dict _ => "dict"
theorem An.ty {K : PySem.W.Frag} {H : Hp} {v : V} {d : PyData} (h : An K H v d) : TyX K H v (.type (tyn d)) := by
  cases h with
  | dct h => exact .base (.dK h)
  | non => exact .base .non
  | bl b => exact .base (.bl b)
  | int i => exact .base (.int i)
  | str x => exact .base (.str x)
  | lst a _ _ => exact .base (.lst a)
  | tup a _ => exact .base (.tup a)
def isIntB (d : PyData) : Bool := match d with | .int _ => true | .bool _ => true | _ => false
def isBoolB (d : PyData) : Bool := match d with | .bool _ => true | _ => false
def isTupB (d : PyData) : Bool := match d with | .tuple _ => true | _ => false
theorem kit_int {d : PyData} : kitB (tyn d) "int" = some (isIntB d) := by cases d <;> (simp only [tyn, isIntB]; decide +kernel)
theorem kit_bool {d : PyData} : kitB (tyn d) "bool" = some (isBoolB d) := by cases d <;> (simp only [tyn, isBoolB]; decide +kernel)
theorem kit_tup {d : PyData} : kitB (tyn d) "tuple" = some (isTupB d) := by cases d <;> (simp only [tyn, isTupB]; decide +kernel)
/-- an integer, as the program asks it -/
def isInt (d : PyData) : Bool := match d with | .int _ => true | _ => false
def isFr (d : PyData) : Bool := match d with | .tuple [.int t, .int b] => decide (1 ≤ b) && decide (Int.gcd t b = 1) | _ => false
def isSt (d : PyData) : Bool := match d with | .tuple [.int t, .int b] => isFr d && (decide (0 ≤ t) && decide (t < b)) | _ => false
def isPt (d : PyData) : Bool := match d with | .tuple [.int t, .int b] => isFr d && (decide (0 ≤ t) && decide (t ≤ b)) | _ => false
def isNum (d : PyData) (a b : Int) : Bool := match d with | .int i => decide (a ≤ i ∧ i ≤ b) | _ => false
theorem An.isI {K : PySem.W.Frag} {H : Hp} {v : V} {d : PyData} (h : An K H v d) (e : isInt d = true) : ∃ i, v = .int i ∧ d = .int i := by
  cases h with
  | int i => exact ⟨i, rfl, rfl⟩
  | _ => cases e
theorem An.isT {K : PySem.W.Frag} {H : Hp} {v : V} {d : PyData} (h : An K H v d) (e : isTupB d = true) : ∃ a xs ds, v = .ref a ∧ d = .tuple ds ∧ H a = some (.tup xs) ∧ AnAll K H xs ds := by
  cases h with
  | tup a b => exact ⟨_, _, _, rfl, rfl, a, b⟩
  | _ => cases e
theorem dpAll_len {K : PySem.W.Frag} {H : Hp} : ∀ {xs : List V} {ds : List PyData}, AnAll K H xs ds → xs.length = ds.length
  | _, _, .nil => rfl
  | _, _, .cons _ t => congrArg (· + 1) (dpAll_len t)
theorem dpAll_two {K : PySem.W.Frag} {H : Hp} {xs : List V} {ds : List PyData} (h : AnAll K H xs ds) (e : xs.length = 2) : ∃ x y p q, xs = [x, y] ∧ ds = [p, q] ∧ An K H x p ∧ An K H y q := by
  match xs, ds, h, e with
  | [x, y], [p, q], .cons a (.cons b .nil), _ => exact ⟨x, y, p, q, rfl, rfl, a, b⟩
theorem isFr_no {p q : PyData} (h : isInt p = false ∨ isInt q = false) : isFr (.tuple [p, q]) = false := by
  rcases h with h | h
  · cases p with
    | int i => cases h
    | _ => rfl
  · cases q with
    | int i => cases h
    | _ => cases p <;> rfl
theorem isFr_len {ds : List PyData} (h : ds.length ≠ 2) : isFr (.tuple ds) = false := by
  unfold isFr
  split
  · rename_i e
    cases e
    exact absurd rfl h
  · rfl
theorem isFr_ty {d : PyData} (h : isTupB d = false) : isFr d = false := by cases d <;> first | rfl | cases h
theorem isSt_fr {d : PyData} (h : isFr d = false) : isSt d = false := by
  unfold isSt
  split
  · rw [h]; rfl
  · rfl
theorem isPt_fr {d : PyData} (h : isFr d = false) : isPt d = false := by
  unfold isPt
  split
  · rw [h]; rfl
  · rfl
theorem isFr_of {d : PyData} (h : isFr d = true) : ∃ t b, d = .tuple [.int t, .int b] ∧ 1 ≤ b ∧ Int.gcd t b = 1 := by
  unfold isFr at h
  split at h
  · rename_i t b
    simp only [Bool.and_eq_true, decide_eq_true_eq] at h
    exact ⟨t, b, rfl, h.1, h.2⟩
  · cases h
mutual
theorem An.same {K : PySem.W.Frag} {H H' : Hp} (e : Same H H') : ∀ {v : V} {d : PyData}, An K H v d → An K H' v d
  | _, _, .non => .non
  | _, _, .bl b => .bl b
  | _, _, .int i => .int i
  | _, _, .str x => .str x
  | _, _, .lst h n t => .lst (e _ _ h) n (AnAll.same e t)
  | _, _, .tup h t => .tup (e _ _ h) (AnAll.same e t)
  | _, _, .dct h => .dct (e _ _ h)
theorem AnAll.same {K : PySem.W.Frag} {H H' : Hp} (e : Same H H') : ∀ {vs : List V} {ds : List PyData}, AnAll K H vs ds → AnAll K H' vs ds
  | _, _, .nil => .nil
  | _, _, .cons h t => .cons (An.same e h) (AnAll.same e t)
end
/-- no dict in it -/
def flat : PyData → Bool
  | .dict _ => false
  | .list ds => flats ds
  | .tuple ds => flats ds
  | _ => true
where flats : List PyData → Bool
  | [] => true
  | d :: ds => flat d && flats ds
mutual
theorem An.dp {K : PySem.W.Frag} {H : Hp} : ∀ {v : V} {d : PyData}, An K H v d → flat d = true → Dp K H v d
  | _, _, .non, _ => .non
  | _, _, .bl b, _ => .bl b
  | _, _, .int i, _ => .int i
  | _, _, .str x, _ => .str x
  | _, _, .lst h _ t, f => .lst (.inl (.inl h)) (AnAll.dp t (by simpa only [flat] using f))
  | _, _, .tup h t, f => .tup (.inl (.inl h)) (AnAll.dp t (by simpa only [flat] using f))
  | _, _, .dct h, f => by simp only [flat] at f; cases f
theorem AnAll.dp {K : PySem.W.Frag} {H : Hp} : ∀ {vs : List V} {ds : List PyData}, AnAll K H vs ds → flat.flats ds = true → DpAll K H vs ds
  | _, _, .nil, _ => .nil
  | _, _, .cons h t, f => by
    simp only [flat.flats, Bool.and_eq_true] at f
    exact .cons (An.dp h f.1) (AnAll.dp t f.2)
end
end Gn
set_option Elab.async false
set_option linter.all false
set_option maxRecDepth 100000
set_option maxHeartbeats 4000000
/-! repr of such values, empty dicts too -/
namespace Gn
open PySem PySem.Spec PyProof.Rows L2
section
variable {X : Cx} {pins : List (Addr × Obj)} {σ : L2.St} {H : Hp} {s : Shared}
mutual
theorem An.reads (I : Inv X pins σ H s) : ∀ {v : V} {d : PyData} (u : Value), An X.K H v d → RelV v u → ∃ as, Reads s.heap u d as ∧ ∀ b ∈ as, b ≠ sysModules
  | _, _, _, .non, r => by
    cases r
    exact ⟨_, Reads.none, fun _ h => nomatch h⟩
  | _, _, _, .bl b, r => by
    cases r
    exact ⟨_, Reads.bool b, fun _ h => nomatch h⟩
  | _, _, _, .int i, r => by
    obtain ⟨t, rfl⟩ := r
    exact ⟨_, Reads.int i t, fun _ h => nomatch h⟩
  | _, _, _, .str x, r => by
    obtain ⟨t, rfl⟩ := r
    exact ⟨_, Reads.str x t, fun _ h => nomatch h⟩
  | _, _, _, .lst (a := a) h ne ha, r => by
    cases r
    obtain ⟨_, its, n, rv, ho⟩ := (show ObjOk X.prog X.w H s.heap a (.lst _) from I.hok a _ h)
    obtain ⟨as, hr, hn⟩ := AnAll.reads I its ha rv
    refine ⟨_, Reads.list ho rfl rfl hr, fun b hb => ?_⟩
    rcases List.mem_cons.mp hb with rfl | hb
    · exact ne
    · exact hn b hb
  | _, _, _, .tup (a := a) h ha, r => by
    cases r
    obtain ⟨_, its, rv, o, ho, hc, n, hd⟩ := (show ObjOk X.prog X.w H s.heap a (.tup _) from I.hok a _ h)
    obtain ⟨as, hr, hn⟩ := AnAll.reads I its ha rv
    exact ⟨_, Reads.tuple ho hc hd hr, hn⟩
  | _, _, _, .dct (a := a) h, r => by
    cases r
    obtain ⟨_, nm, vs, kv, o, es, ep, ho, ex, hd, _, pr, _⟩ := (show ObjOk X.prog X.w H s.heap a (.dK []) from I.hok a _ h)
    cases kv
    have e0 : es.toList = [] := by cases hq : es.toList with
      | nil => rfl
      | cons z zs => rw [hq] at pr; cases pr
    refine ⟨_, Reads.dict (as := []) (bs := []) (kvs := []) ho ex.1 hd (by rw [e0]; exact .nil) (by rw [e0]; exact .nil), fun b hb => ?_⟩
    rcases List.mem_cons.mp hb with rfl | hb
    · exact fun z => by rw [z] at nm; cases nm
    · cases hb
theorem AnAll.reads (I : Inv X pins σ H s) : ∀ {vs : List V} {ds : List PyData} (us : List Value), AnAll X.K H vs ds → Vals vs us → ∃ as, ReadsAll s.heap us ds as ∧ ∀ b ∈ as, b ≠ sysModules
  | _, _, _, .nil, r => by
    cases r
    exact ⟨_, ReadsAll.nil, fun _ h => nomatch h⟩
  | _, _, _, .cons h1 h2, r => by
    cases r with
    | cons r1 r2 =>
      obtain ⟨as, q1, n1⟩ := An.reads I _ h1 r1
      obtain ⟨bs, q2, n2⟩ := AnAll.reads I _ h2 r2
      exact ⟨_, ReadsAll.cons q1 q2, fun b hb => (List.mem_append.mp hb).elim (n1 b) (n2 b)⟩
end
end
section
variable {X : Cx}
/-- repr(x), x a list or a tuple of such data -/
def rReprA (K : PySem.W.Frag) : List V → Hp → VK → Prop := fun xs H Q => ∃ a d, xs = [V.ref a] ∧ An K H (.ref a) d ∧ d.showable = true ∧ d.depth < 60 ∧ d.shown.length ≤ sizeLine ∧ Q (.str d.shown) H
theorem cr_reprA (hg : X.A.guards = some []) (hu : X.A.units + 64 < cLine) : CallR X (.builtin "repr") (rReprA X.K) := by
  intro pins s σ H xs us Q I r h
  obtain ⟨a, d, rfl, hd, hs, hdp, hz, q⟩ := h
  rw [Vals.ref1 r]
  obtain ⟨as, rd, hn⟩ := An.reads I _ hd rfl
  exact repr_of_reads' rd hs (fun _ hm => hn _ hm rfl) hg (by omega) (fun _ _ e => e) (fun h' u tk k => ⟨.str d.shown, H, I.kept (t' := tk) k, ⟨u, rfl⟩, q⟩) hz
/-- a list display, its place told not to be that of the modules' dict -/
def tLstZ (t : TA) : TE := fun σ H Q => t σ H fun xs H1 => xs.length ≤ sizeLine ∧ ∀ p, H1 p = none → p ≠ sysModules → Q (.ref p) (upd H1 p (.lst xs))
theorem pe_lstZ {es : List Expr} {pos : Pos} {t : TA} (h : PA X es t) : PE X (.List es pos) (tLstZ t) := by
  refine ⟨fun pins s σ H Q I hq => ?_⟩
  refine wpAny_List_spliced (thn (h.run pos pins s σ H _ I hq) fun us s1 ⟨xs, H1, I1, r, z, q⟩ => ⟨by rw [← r.length]; exact z, ?_⟩)
  have hf : H1 s1.heap.objs.size = none := I1.hok.fresh (Nat.le_refl _)
  refine ⟨.ref s1.heap.objs.size, upd H1 s1.heap.objs.size (.lst xs), I1.laid (t' := s1.toks) (fun b u e => Heap.get?_push_of_some _ e) (Nat.le_refl _) ?_, rfl, q _ hf (Nat.ne_of_gt I1.big)⟩
  exact ⟨z, us, 0, r, Heap.get?_push_size _ rfl⟩
/-- x != y, two lists, y empty: whatever x has -/
def rNeNil (K : PySem.W.Frag) : R2 := fun x y H Q => ∃ a b xs, x = .ref a ∧ y = .ref b ∧ SqL K H a xs ∧ SqL K H b [] ∧ Q (.bl (!xs.isEmpty)) H
theorem op_neNil (hu : X.A.units < cLine) : OpR X (compareOp .NotEq) (rNeNil X.K) := by
  intro pins s σ H x y v u Q I rx ry h
  obtain ⟨a, b, xs, rfl, rfl, ha, hb, q⟩ := h
  cases (show v = Value.ref a from rx)
  cases (show u = Value.ref b from ry)
  obtain ⟨us, r1, p1, _⟩ := I.list ha
  obtain ⟨ws, r2, p2, _⟩ := I.list hb
  cases r2
  cases r1 with
  | nil => exact SeqAt.RcNeAt.lists (e := fun _ => true) p1.isList p2.isList rfl hu (fun j h1 h2 => absurd h2 (Nat.not_lt_zero j)) _ _ _ _ ⟨.bl _, H, I, rfl, q⟩
  | cons r1 r2 => exact SeqAt.RcNeAt.lists_lengths p1.isList p2.isList (by simp) hu _ _ _ _ ⟨.bl _, H, I, rfl, q⟩
end
end Gn
set_option Elab.async false
set_option linter.all false
set_option maxRecDepth 100000
set_option maxHeartbeats 4000000
namespace My
open PySem PySem.Spec PyProof.Rows L2 Gn
def top (i : Nat) : Stmt := PySem.Challenge.pw_rimorders_k09_lots_made_and_refused.main.body.getD i (.Pass ⟨0, 0, 0, 0⟩)
abbrev sTin : Stmt := top 43
abbrev sSip : Stmt := top 44
abbrev sPick : Stmt := top 45
abbrev sGcd : Stmt := top 46
abbrev sLow : Stmt := top 47
theorem scTin : FnScope ["_law_script", "_law_turn", "_law_entry", "_law_stirred", "_law_each"] ["_law_script", "_law_turn"] (defScope sTin) := ⟨rfl, rfl, rfl, by decide +kernel, rfl, by decide +kernel, by decide +kernel⟩
theorem scSip : FnScope ["_law_tin_here", "_law_top", "_law_digit"] ["_law_tin_here", "_law_top"] (defScope sSip) := ⟨rfl, rfl, rfl, by decide +kernel, rfl, by decide +kernel, by decide +kernel⟩
theorem scPick : FnScope ["_law_tin_here", "_law_menu"] ["_law_tin_here", "_law_menu"] (defScope sPick) := ⟨rfl, rfl, rfl, by decide +kernel, rfl, by decide +kernel, by decide +kernel⟩
theorem scGcd : FnScope ["_law_one", "_law_two"] ["_law_one", "_law_two"] (defScope sGcd) := ⟨rfl, rfl, rfl, by decide +kernel, rfl, by decide +kernel, by decide +kernel⟩
theorem scLow : FnScope ["_law_top", "_law_bottom", "_law_same"] ["_law_top", "_law_bottom"] (defScope sLow) := ⟨rfl, rfl, rfl, by decide +kernel, rfl, by decide +kernel, by decide +kernel⟩
/-- the built-ins that the text calls are still the built-ins -/
structure Bl (mg : Str → Option Value) : Prop where
  len : mg "len" = none
  int : mg "int" = none
  abs : mg "abs" = none
/-- a tin at t: what is left of the number, the stirred one, how often it was sipped from -/
def Tin (H : Hp) (t : Addr) : Prop := ∃ a b c : Int, H t = some (.lst [.int a, .int b, .int c]) ∧ 0 ≤ a ∧ 0 ≤ b ∧ b < 2147483647
/-- all but t is as it was, t is a tin -/
def Sipped (H H' : Hp) (t : Addr) : Prop := Tin H' t ∧ ∀ b o, H b = some o → b ≠ t → H' b = some o
def spTin (K : PySem.W.Frag) : Sp := fun vs H Q _ => ∃ (a : Addr) (ns : List Int) (t : Int), vs = [.ref a, .int t] ∧ SqL K H a (ns.map V.int) ∧ 0 ≤ t ∧ t ≤ 100 ∧
  ∀ p H', Same H H' → H p = none → Tin H' p → Q (.ref p) H'
def spSip : Sp := fun vs H Q _ => ∃ (t : Addr) (n : Int), vs = [.ref t, .int n] ∧ Tin H t ∧ 0 < n ∧ n.natAbs < 2 ^ 100 ∧ ∀ d H', 0 ≤ d → d < n → Sipped H H' t → Q (.int d) H'
theorem nz1 : (999931 : Int) ≠ 0 := by decide
theorem nz2 : (2147483647 : Int) ≠ 0 := by decide
section
variable {P : Program} {w : World} {K : PySem.W.Frag} {mg : Str → Option Value} {base : Heap}
theorem ok_tin {f : Addr} {fd : FuncData} (F : Fun K "_law_tin" "_law_tin" sTin f fd) (B : Bl mg) : FnOk P w K mg base CX0 1 f fd ["_law_script", "_law_turn"] (spTin K) := by
  refine F.ok scTin (fun vs H Q E h => ?_) (fun cdv A outer s H vs Q E hr h => ?_)
  · obtain ⟨a, ns, t, rfl, _⟩ := h
    rfl
  · obtain ⟨a, ns, t, rfl, hS, t0, t1, q⟩ := h
    refine ⟨_, pss_cons (ps_set (i := 2) scTin.nd rfl (.inl rfl) (pe_ifExp (pt_cmpR op_lt (pv 1) (pe_callB call_len_seq (by rfl) B.len PySem.boot_len (pa_cons (pv 0) pa_nil)) (nomark _))
        (pe_callTy call_int1 (by rfl) B.int (by decide +kernel) (pa_cons (pe_ix ix_list (pv 0) (pv 1) (fun _ _ => rfl)) pa_nil)) (pe_op op_add (pe_op op_mul pe_int (pv 1)) pe_int)))
      (pss_cons (ps_set (i := 3) scTin.nd rfl (.inl rfl) (pe_op op_add pe_int (pe_op op_mul pe_int (pv 1))))
      (pss_cons (ps_for PassesOwn.never rfl (pi_list (pe_slice sl_list (pv 0) po_none (po_some pe_int))) (pg_name (i := 4) scTin.nd rfl (.inl rfl))
        (pss_one (ps_set (i := 3) scTin.nd rfl (.inl rfl) (pe_op op_modN (pe_callTy call_int1 (by rfl) B.int (by decide +kernel) (pa_cons
          (pe_op op_add (pe_op op_add (pe_op op_mul (pv 3) pe_int) (pe_op op_modN (pe_callTy call_int1 (by rfl) B.int (by decide +kernel) (pa_cons (pv 4) pa_nil)) pe_int)) (pv 1)) pa_nil)) pe_int))))
      (pss_cons (ps_set (i := 3) scTin.nd rfl (.inl rfl) (pe_op op_modN (pe_callTy call_int1 (by rfl) B.int (by decide +kernel) (pa_cons
          (pe_op op_add (pe_op op_mul (pv 3) pe_int) (pe_op op_modN (pe_callTy call_int1 (by rfl) B.int (by decide +kernel) (pa_cons (pv 2) pa_nil)) pe_int)) pa_nil)) pe_int))
      (pss_one (ps_ret (pe_lst (pa_cons (pe_ifExp (pt_cmpR op_ge (pe_callB call_abs (by rfl) B.abs (by decide +kernel) (pa_cons (pv 2) pa_nil)) (pe_op op_pow pe_int pe_int) (nomark _)) (pe_callB call_abs (by rfl) B.abs (by decide +kernel) (pa_cons (pv 2) pa_nil)) pe_int)
          (pa_cons (pv 3) (pa_cons pe_int pa_nil))))))))), ?_⟩
    refine ⟨_, rfl, _, rfl, a, _, rfl, .inl hS, _, _, rfl, rfl, _, rfl, ?_⟩
    refine tif (.int (ns.getD t.toNat 0)) (.int (73 * t + 23)) (fun hc R z => ?_) (fun _ R z => ?_) (fun v e1 e2 => ?_)
    · have hl : t.toNat < ns.length := by have := of_decide_eq_true hc; rw [List.length_map] at this; omega
      refine ⟨_, rfl, _, rfl, a, _, t, .int (ns.getD t.toNat 0), rfl, rfl, hS, ?_, .inl ⟨_, rfl, z⟩⟩
      exact at_of (j := t.toNat) (by omega) (by rw [List.getElem?_map, List.getElem?_eq_getElem hl, List.getD_eq_getElem?_getD, List.getElem?_eq_getElem hl]; rfl)
    · exact ⟨_, rfl, _, _, rfl, rfl, .inl ⟨by decide, by decide⟩, _, _, rfl, rfl, z⟩
    obtain ⟨e, rfl⟩ : ∃ e, v = V.int e := by
      rcases Bool.eq_false_or_eq_true (decide (t < ↑(List.map V.int ns).length)) with z | z
      · exact ⟨_, e1 z⟩
      · exact ⟨_, e2 z⟩
    refine ⟨_, rfl, _, _, rfl, rfl, .inl ⟨by decide, by decide⟩, _, _, rfl, rfl, ?_⟩
    refine ⟨_, rfl, 8, rfl, a, _, rfl, hS, fun p hp => ⟨p, rfl, ⟨_, .inl (.inl upd_same)⟩, ?_⟩⟩
    have sm := same_put (o := .lst (cutV (ns.map V.int) none (some 8))) hp
    refine for_list (K := K) (a := p) (xs := cutV (ns.map V.int) none (some 8)) (fun i σ H' => ∃ (st : Int) (y : Option V), σ = [some (.ref a), some (.int t), some (.int e), some (.int st), y] ∧ 0 ≤ st ∧ st ≤ 2147483647 ∧ H' = upd H p (.lst (cutV (ns.map V.int) none (some 8))))
      ⟨50021 + 1009 * t, none, rfl, by omega, by omega, rfl⟩ (fun i σ H' _ ⟨_, _, _, _, _, e⟩ => by rw [e]; exact .inl (.inl upd_same)) ?_ ?_
    · rintro i x σ H' hi ⟨st, y, rfl, s0, s1, rfl⟩
      obtain ⟨z, rfl⟩ := int_at (cut_mem (List.mem_of_getElem? hi))
      refine ⟨_, rfl, _, _, rfl, rfl, .inl ⟨by omega, by omega⟩, _, rfl, .inl ⟨_, rfl, _, _, rfl, rfl, nz1, _, _, rfl, rfl, _, rfl, _, _, rfl, rfl, .inl ⟨_, rfl, _, _, rfl, rfl, nz2, ?_⟩⟩⟩
      exact ⟨_, _, rfl, fmod_ge (by decide), Int.le_of_lt (fmod_lt (by decide)), rfl⟩
    · rintro σ H' ⟨st, y, rfl, s0, s1, rfl⟩
      refine ⟨_, rfl, _, _, rfl, rfl, .inl ⟨by omega, by omega⟩, _, rfl, .inl ⟨_, rfl, _, _, rfl, rfl, nz1, _, _, rfl, rfl, .inl ⟨_, rfl, _, _, rfl, rfl, nz2, ?_⟩⟩⟩
      refine ⟨_, rfl, _, rfl, _, _, rfl, rfl, ⟨by decide, by decide, by decide⟩, _, _, rfl, rfl, _, rfl, ?_⟩
      refine tif (.int (if e < 0 then -e else e)) (.int 0) (fun _ R z => ⟨_, rfl, _, rfl, z⟩) (fun _ R z => z) (fun v e1 e2 => ?_)
      obtain ⟨b, rfl, hb⟩ : ∃ b, v = V.int b ∧ 0 ≤ b := by
        rcases Bool.eq_false_or_eq_true (decide ((10 : Int) ^ (18 : Int).toNat ≤ if e < 0 then -e else e)) with z | z
        · exact ⟨_, e1 z, by split <;> omega⟩
        · exact ⟨_, e2 z, by decide⟩
      refine ⟨_, rfl, (by show 3 ≤ sizeLine; decide), fun r hr' => ?_⟩
      exact q r _ (sm.trans (same_put hr')) (sm.free hr') ⟨_, _, _, upd_same, hb, fmod_ge (by decide), fmod_lt (by decide)⟩
end
end My
set_option Elab.async false
set_option linter.all false
set_option maxRecDepth 100000
set_option maxHeartbeats 4000000
namespace My
open PySem PySem.Spec PyProof.Rows L2 Gn
theorem Tin.not {H : Hp} {t b : Addr} (T : Tin H t) (h : H b = none) : b ≠ t := by
  obtain ⟨_, _, _, h1, _⟩ := T
  exact (ne_of_none h1 h).symm
theorem Sipped.trans {H H1 H2 : Hp} {t : Addr} (a : Sipped H H1 t) (b : Sipped H1 H2 t) : Sipped H H2 t := ⟨b.1, fun c o e n => b.2 c o (a.2 c o e n) n⟩
theorem Sipped.ofSame {H H1 : Hp} {t : Addr} (T : Tin H t) (s : Same H H1) : Sipped H H1 t := by
  obtain ⟨a, b, c, h, r⟩ := T
  exact ⟨⟨a, b, c, s _ _ h, r⟩, fun c o e _ => s c o e⟩
theorem Sipped.free {H H1 : Hp} {t p : Addr} (T : Tin H t) (s : Sipped H H1 t) (h : H1 p = none) : H p = none := by
  cases q : H p with
  | none => rfl
  | some o =>
    have n : p ≠ t := by
      rintro rfl
      obtain ⟨_, _, _, e, _⟩ := s.1
      rw [h] at e; cases e
    rw [s.2 p o q n] at h
    cases h
section
variable {P : Program} {w : World} {K : PySem.W.Frag} {mg : Str → Option Value} {base : Heap}
theorem ok_sip {f : Addr} {fd : FuncData} (F : Fun K "_law_sip" "_law_sip" sSip f fd) (B : Bl mg) : FnOk P w K mg base CX0 1 f fd ["_law_tin_here", "_law_top"] spSip := by
  refine F.ok scSip (fun vs H Q E h => ?_) (fun cdv A outer s H vs Q E hr h => ?_)
  · obtain ⟨t, n, rfl, _⟩ := h
    rfl
  · obtain ⟨t, n, rfl, ⟨a, b, c, hT, a0, b0, b1⟩, n0, n1, q⟩ := h
    refine ⟨_, pss_cons (ps_asg (pe_op op_add (pe_ix ix_list (pv 0) pe_int (fun _ _ => rfl)) pe_int) (pg_sub (pv 0) pe_int set_list))
      (pss_cons (ps_if (pt_cmpR op_gt (pe_ix ix_list (pv 0) pe_int (fun _ _ => rfl)) pe_int (nomark _))
        (pss_cons (ps_set (i := 2) scSip.nd rfl (.inl rfl) (pe_op op_modN (pe_callTy call_int1 (by rfl) B.int (by decide +kernel) (pa_cons (pe_ix ix_list (pv 0) pe_int (fun _ _ => rfl)) pa_nil)) (pv 1)))
        (pss_cons (ps_asg (pe_op op_fdivW (pe_callTy call_int1 (by rfl) B.int (by decide +kernel) (pa_cons (pe_ix ix_list (pv 0) pe_int (fun _ _ => rfl)) pa_nil)) (pv 1)) (pg_sub (pv 0) pe_int set_list))
        (pss_one (ps_ret (pv 2))))) pss_nil)
      (pss_cons (ps_asg (pe_op op_modN (pe_callTy call_int1 (by rfl) B.int (by decide +kernel) (pa_cons (pe_op op_add (pe_op op_add (pe_op op_mul (pe_ix ix_list (pv 0) pe_int (fun _ _ => rfl)) pe_int) (pe_op op_mul pe_int (pe_ix ix_list (pv 0) pe_int (fun _ _ => rfl)))) pe_int) pa_nil)) pe_int) (pg_sub (pv 0) pe_int set_list))
      (pss_one (ps_ret (pe_op op_modN (pe_callTy call_int1 (by rfl) B.int (by decide +kernel) (pa_cons (pe_op op_fdivW (pe_ix ix_list (pv 0) pe_int (fun _ _ => rfl)) pe_int) pa_nil)) (pv 1)))))), ?_⟩
    -- tin[2] = tin[2] + 1
    refine ⟨_, rfl, t, _, 2, .int c, rfl, rfl, SqL.of hT, at_of (j := 2) rfl rfl, _, _, rfl, rfl, _, rfl, t, _, _, 2, rfl, rfl, hT, rfl, ?_⟩
    have h1 : upd H t (.lst ([V.int a, V.int b, V.int c].set 2 (V.int (c + 1)))) t = some (.lst [.int a, .int b, .int (c + 1)]) := upd_same
    -- if tin[0] > 0
    refine ⟨_, rfl, t, _, 0, .int a, rfl, rfl, SqL.of h1, at_of (j := 0) rfl rfl, _, _, rfl, rfl, _, rfl, ?_⟩
    refine ite2 (fun hc => ?_) (fun hc => ?_)
    · have ha : 0 < a := of_decide_eq_true hc
      refine ⟨_, rfl, t, _, 0, .int a, rfl, rfl, SqL.of h1, at_of (j := 0) rfl rfl, .inl ⟨_, rfl, _, rfl, _, _, rfl, rfl, (show n ≠ 0 by omega), ?_⟩⟩
      refine ⟨_, rfl, t, _, 0, .int a, rfl, rfl, SqL.of h1, at_of (j := 0) rfl rfl, .inl ⟨_, rfl, _, rfl, _, _, rfl, rfl, wide_div n0 n1 (by decide) (by decide), _, rfl, t, _, _, 0, rfl, rfl, h1, rfl, ?_⟩⟩
      refine ⟨_, rfl, q _ _ (fmod_ge n0) (fmod_lt n0) ⟨⟨_, _, _, upd_same, Int.ediv_nonneg (by omega) (by omega), b0, b1⟩, fun z o e hz => ?_⟩⟩
      rw [upd_ne hz, upd_ne hz]; exact e
    · refine ⟨_, rfl, t, _, 1, .int b, rfl, rfl, SqL.of h1, at_of (j := 1) rfl rfl, _, _, rfl, rfl, .inl ⟨by omega, by omega⟩, _, rfl, t, _, 2, .int (c + 1), rfl, rfl, SqL.of h1, at_of (j := 2) rfl rfl, _, _, rfl, rfl, .inl ⟨by decide, by decide⟩, _, _, rfl, rfl, _, _, rfl, rfl, .inl ⟨_, rfl, _, _, rfl, rfl, nz2, _, rfl, t, _, _, 1, rfl, rfl, h1, rfl, ?_⟩⟩
      have h2 : ∀ z : Int, upd (upd H t (.lst ([V.int a, V.int b, V.int c].set 2 (V.int (c + 1))))) t (.lst ([V.int a, V.int b, V.int (c + 1)].set 1 (V.int z))) t = some (.lst [.int a, .int z, .int (c + 1)]) := fun z => upd_same
      refine ⟨_, rfl, t, _, 1, _, rfl, rfl, SqL.of (h2 _), at_of (j := 1) rfl rfl, _, _, rfl, rfl, wide_div (b := 6) (by decide) (by decide) (by decide) (by decide), .inl ⟨_, rfl, _, rfl, _, _, rfl, rfl, (show n ≠ 0 by omega), ?_⟩⟩
      refine q _ _ (fmod_ge n0) (fmod_lt n0) ⟨⟨_, _, _, h2 _, a0, fmod_ge (by decide), fmod_lt (by decide)⟩, fun z o e hz => ?_⟩
      rw [upd_ne hz, upd_ne hz]; exact e
end
end My
set_option Elab.async false
set_option linter.all false
set_option maxRecDepth 100000
set_option maxHeartbeats 4000000
namespace My
open PySem PySem.Spec PyProof.Rows L2 Gn
def spPick : Sp := fun vs H Q _ => ∃ (t m : Addr) (xs : List V), vs = [.ref t, .ref m] ∧ Tin H t ∧ H m = some (.lst xs) ∧ m ≠ t ∧ 0 < xs.length ∧ xs.length ≤ 1000 ∧ ∀ x H', x ∈ xs → Sipped H H' t → Q x H'
def spGcd : Sp := fun vs H Q _ => ∃ (a b : Int), vs = [.int a, .int b] ∧ 0 ≤ a ∧ 0 ≤ b ∧ Q (.int ((Nat.gcd a.natAbs b.natAbs : Nat) : Int)) H
def spLow : Sp := fun vs H Q _ => ∃ (a b : Int), vs = [.int a, .int b] ∧ 0 ≤ a ∧ 0 < b ∧ b.natAbs < 2 ^ 100 ∧
  ∀ p, H p = none → Q (.ref p) (upd H p (.tup [.int (a / ((Nat.gcd a.natAbs b.natAbs : Nat) : Int)), .int (b / ((Nat.gcd a.natAbs b.natAbs : Nat) : Int))]))
/-- x / y is a step: lowest terms, from 0 on, below 1 -/
structure IsStep (x y : Int) : Prop where
  x0 : 0 ≤ x
  xy : x < y
  co : Nat.gcd x.natAbs y.natAbs = 1
theorem low_step {a b : Int} (h0 : 0 ≤ a) (h : a < b) : IsStep (a / ((Nat.gcd a.natAbs b.natAbs : Nat) : Int)) (b / ((Nat.gcd a.natAbs b.natAbs : Nat) : Int)) ∧ b / ((Nat.gcd a.natAbs b.natAbs : Nat) : Int) ≤ b := by
  obtain ⟨x, rfl⟩ := Int.eq_ofNat_of_zero_le h0
  obtain ⟨y, rfl⟩ := Int.eq_ofNat_of_zero_le (show 0 ≤ b by omega)
  simp only [Int.natAbs_natCast]
  have hy : 0 < y := by omega
  have g0 : 0 < Nat.gcd x y := Nat.gcd_pos_of_pos_right _ hy
  have e1 : ((x : Int) / ((Nat.gcd x y : Nat) : Int)) = ((x / Nat.gcd x y : Nat) : Int) := by simp
  have e2 : ((y : Int) / ((Nat.gcd x y : Nat) : Int)) = ((y / Nat.gcd x y : Nat) : Int) := by simp
  rw [e1, e2]
  obtain ⟨u, hu⟩ := Nat.gcd_dvd_left x y
  obtain ⟨v, hv⟩ := Nat.gcd_dvd_right x y
  have du : x / Nat.gcd x y = u := Nat.div_eq_of_eq_mul_right g0 hu
  have dv : y / Nat.gcd x y = v := Nat.div_eq_of_eq_mul_right g0 hv
  refine ⟨⟨by omega, ?_, ?_⟩, ?_⟩
  · rw [du, dv]
    have : Nat.gcd x y * u < Nat.gcd x y * v := by rw [← hu, ← hv]; omega
    have := Nat.lt_of_mul_lt_mul_left this
    omega
  · simp only [Int.natAbs_natCast]
    exact Nat.coprime_div_gcd_div_gcd g0
  · have := Nat.div_le_self y (Nat.gcd x y)
    omega
section
variable {P : Program} {w : World} {K : PySem.W.Frag} {mg : Str → Option Value} {base : Heap}
/-- a def that the module holds under its own name, and how it binds -/
structure Df (K : PySem.W.Frag) (mg : Str → Option Value) (x : Str) (st : Stmt) (ps : List Str) (f : Addr) (fd : FuncData) : Prop where
  F : Fun K x x st f fd
  g : mg x = some (.ref f)
  b : Binds K fd ps []
theorem ok_pick {f fS : Addr} {fd fdS : FuncData} (F : Fun K "_law_pick" "_law_pick" sPick f fd) (B : Bl mg) (S : Df K mg "_law_sip" sSip ["_law_tin_here", "_law_top"] fS fdS) : FnOk P w K mg base CX0 2 f fd ["_law_tin_here", "_law_menu"] spPick := by
  have GS : FnOk P w K mg base CX0 1 fS fdS ["_law_tin_here", "_law_top"] spSip := ok_sip S.F B
  refine F.ok scPick (fun vs H Q E h => ?_) (fun cdv A outer s H vs Q E hr h => ?_)
  · obtain ⟨t, m, xs, rfl, _⟩ := h
    rfl
  · obtain ⟨t, m, xs, rfl, T, hm, ne, x0, x1, q⟩ := h
    refine ⟨_, pss_one (ps_ret (pe_ix ix_list (pv 1) (pe_call GS hr (by rfl) S.g S.F.kp S.b .nil pass0 (pa_cons (pv 0) (pa_cons (pe_callB call_len_seq (by rfl) B.len PySem.boot_len (pa_cons (pv 1) pa_nil)) pa_nil))) (fun _ _ => rfl))), ?_⟩
    refine ⟨_, rfl, _, rfl, _, rfl, m, xs, rfl, .inl (SqL.of hm), t, _, rfl, T, by omega, ?_, fun d H' d0 d1 sp => ?_⟩
    · rw [Int.natAbs_natCast]; exact Nat.lt_of_le_of_lt x1 (by decide)
    have hd : d.toNat < xs.length := by omega
    refine ⟨m, xs, d, xs[d.toNat], rfl, rfl, SqL.of (sp.2 m _ hm ne), at_of (j := d.toNat) (by omega) (List.getElem?_eq_getElem hd), q _ _ (List.getElem_mem hd) sp⟩
theorem ok_gcd {f : Addr} {fd : FuncData} (F : Fun K "_law_gcd" "_law_gcd" sGcd f fd) (B : Bl mg) : FnOk P w K mg base CX0 1 f fd ["_law_one", "_law_two"] spGcd := by
  refine F.ok scGcd (fun vs H Q E h => ?_) (fun cdv A outer s H vs Q E hr h => ?_)
  · obtain ⟨a, b, rfl, _⟩ := h
    rfl
  · obtain ⟨a, b, rfl, a0, b0, q⟩ := h
    refine ⟨_, pss_cons (ps_while PassesOwn.never (pt_cmpR op_gt (pv 1) pe_int (nomark _)) (pss_one (ps_par (i := 0) (j := 1) (by rfl) scGcd.nd rfl rfl (by decide) rfl rfl
        (pa_cons (pv 1) (pa_cons (pe_op op_modN (pe_callTy call_int1 (by rfl) B.int (by decide +kernel) (pa_cons (pv 0) pa_nil)) (pv 1)) pa_nil)) (by rfl))))
      (pss_one (ps_ret (pv 0))), ?_⟩
    refine while_by (fun σ H' => ∃ x y : Int, σ = [some (.int x), some (.int y)] ∧ 0 ≤ x ∧ 0 ≤ y ∧ Nat.gcd x.natAbs y.natAbs = Nat.gcd a.natAbs b.natAbs ∧ H' = H)
      (fun σ _ => match σ with | [_, some (.int y)] => y.natAbs | _ => 0) ⟨a, b, rfl, a0, b0, rfl, rfl⟩ ?_ ?_
    · rintro σ H' ⟨x, y, rfl, x0, y0, hg, rfl⟩
      refine ⟨_, rfl, _, _, rfl, rfl, _, rfl, ?_⟩
      refine ite2 (fun hc => ?_) (fun hc => ?_)
      · have hy : 0 < y := of_decide_eq_true hc
        refine ⟨_, rfl, _, rfl, .inl ⟨_, rfl, _, rfl, _, _, rfl, rfl, (show y ≠ 0 by omega), _, _, rfl, ⟨y, x.fmod y, rfl, y0, fmod_ge hy, ?_, rfl⟩, ?_⟩⟩
        · rw [← hg, Int.fmod_eq_emod_of_nonneg _ y0]
          obtain ⟨m, rfl⟩ := Int.eq_ofNat_of_zero_le x0
          obtain ⟨n, rfl⟩ := Int.eq_ofNat_of_zero_le y0
          rw [← Int.natCast_emod, Int.natAbs_natCast, Int.natAbs_natCast, Int.natAbs_natCast]
          rw [Nat.gcd_comm n, ← Nat.gcd_rec, Nat.gcd_comm]
        · show (x.fmod y).natAbs < y.natAbs
          have h1 := fmod_ge (a := x) hy
          have h2 := fmod_lt (a := x) hy
          omega
      · have hy : y = 0 := by have : ¬ (0 : Int) < y := fun z => hc (decide_eq_true z); omega
        subst hy
        refine ⟨_, rfl, ?_⟩
        rw [← hg] at q
        simpa [Int.natAbs_of_nonneg x0] using q
    · rintro σ H' Q1 Q2 mo ⟨v, e1, i, j, e2, e3, k, e4, h⟩
      exact ⟨v, e1, i, j, e2, e3, k, e4, mo _ _ h⟩
theorem ok_low {f fG : Addr} {fd fdG : FuncData} (F : Fun K "_law_low" "_law_low" sLow f fd) (B : Bl mg) (G : Df K mg "_law_gcd" sGcd ["_law_one", "_law_two"] fG fdG) : FnOk P w K mg base CX0 2 f fd ["_law_top", "_law_bottom"] spLow := by
  have GG : FnOk P w K mg base CX0 1 fG fdG ["_law_one", "_law_two"] spGcd := ok_gcd G.F B
  refine F.ok scLow (fun vs H Q E h => ?_) (fun cdv A outer s H vs Q E hr h => ?_)
  · obtain ⟨a, b, rfl, _⟩ := h
    rfl
  · obtain ⟨a, b, rfl, a0, b0, b1, q⟩ := h
    refine ⟨_, pss_cons (ps_set (i := 2) scLow.nd rfl (.inl rfl) (pe_call GG hr (by rfl) G.g G.F.kp G.b .nil pass0 (pa_cons (pv 0) (pa_cons (pv 1) pa_nil))))
      (pss_one (ps_ret (pe_tup (pa_cons (pe_op op_fdivW (pv 0) (pv 2)) (pa_cons (pe_op op_fdivW (pv 1) (pv 2)) pa_nil))))), ?_⟩
    have g0 : (0 : Int) < ((Nat.gcd a.natAbs b.natAbs : Nat) : Int) := by
      have := Nat.gcd_pos_of_pos_right a.natAbs (show 0 < b.natAbs by omega); omega
    have g1 : (((Nat.gcd a.natAbs b.natAbs : Nat) : Int)).natAbs < 2 ^ 100 := by
      rw [Int.natAbs_natCast]
      exact Nat.lt_of_le_of_lt (Nat.le_of_dvd (by omega) (Nat.gcd_dvd_right _ _)) b1
    refine ⟨_, rfl, _, rfl, a, b, rfl, a0, by omega, _, rfl, _, rfl, _, _, rfl, rfl, wide_div g0 g1 (by decide) (by decide), _, rfl, _, rfl, _, _, rfl, rfl, wide_div g0 g1 (by decide) (by decide), (by show 2 ≤ sizeLine; decide), fun p hp => q p hp⟩
end
end My
set_option Elab.async false
set_option linter.all false
set_option maxRecDepth 100000
set_option maxHeartbeats 4000000
namespace My
open PySem PySem.Spec PyProof.Rows L2 Gn
abbrev sIsInt : Stmt := top 19
abbrev sIsFr : Stmt := top 20
theorem scIsInt : FnScope ["given"] ["given"] (defScope sIsInt) := ⟨rfl, rfl, rfl, by decide +kernel, rfl, by decide +kernel, by decide +kernel⟩
theorem scIsFr : FnScope ["given", "top", "bottom"] ["given"] (defScope sIsFr) := ⟨rfl, rfl, rfl, by decide +kernel, rfl, by decide +kernel, by decide +kernel⟩
/-- the step x / y stands at t -/
def StepAt (H : Hp) (t : Addr) (x y : Int) : Prop := H t = some (.tup [.int x, .int y]) ∧ IsStep x y
def spIsInt : Sp := fun vs H Q _ => ∃ i : Int, vs = [.int i] ∧ Q (.bl true) H
structure Bc (mg : Str → Option Value) : Prop where
  isi : mg "isinstance" = none
  int : mg "int" = none
  bool : mg "bool" = none
  tuple : mg "tuple" = none
  len : mg "len" = none
  gcd : mg "gcd" = some (.builtin "math.gcd")
section
variable {P : Program} {w : World} {K : PySem.W.Frag} {mg : Str → Option Value} {base : Heap}
theorem ok_isInt {f : Addr} {fd : FuncData} (F : Fun K "is_integer" "is_integer" sIsInt f fd) (B : Bc mg) : FnOk P w K mg base CX0 1 f fd ["given"] spIsInt := by
  refine F.ok scIsInt (fun vs H Q E h => ?_) (fun cdv A outer s H vs Q E hr h => ?_)
  · obtain ⟨i, rfl, _⟩ := h
    rfl
  · obtain ⟨i, rfl, q⟩ := h
    refine ⟨_, pss_one (ps_ret (pe_and (pe_callB call_isi (by rfl) B.isi (by decide +kernel) (pa_cons (pv 0) (pa_cons (pe_bltn (v := .ty "int") (by rfl) B.int (by decide +kernel) rfl) pa_nil)))
      (pe_one (pe_not (pe_callB call_isi (by rfl) B.isi (by decide +kernel) (pa_cons (pv 0) (pa_cons (pe_bltn (v := .ty "bool") (by rfl) B.bool (by decide +kernel) rfl) pa_nil))))))), ?_⟩
    refine ⟨_, rfl, .int i, .ty "int", _, _, true, rfl, .ty "int", .base (.int i), kit_ty (by decide +kernel), true, rfl, iteT ?_⟩
    exact ⟨_, rfl, .int i, .ty "bool", _, _, false, rfl, .ty "bool", .base (.int i), kit_ty (by decide +kernel), false, rfl, q⟩
end
end My
set_option Elab.async false
set_option maxRecDepth 100000
/-! orders as lists: places sorted, marks at one place together. Plain lists of ints -/
namespace Mt
def insU (v : Int) : List Int → List Int
  | [] => [v]
  | a :: l => if v < a then v :: a :: l else if v = a then a :: l else a :: insU v l
/-- sorted, each once -/
def sortU (l : List Int) : List Int := l.foldr insU []
theorem insU_mem {v u : Int} : ∀ {l : List Int}, u ∈ insU v l ↔ u = v ∨ u ∈ l
  | [] => by simp [insU]
  | a :: l => by
    unfold insU
    split
    · simp
    · split
      · rename_i h1 h2
        subst h2
        simp
      · simp only [List.mem_cons, insU_mem (l := l)]
        constructor
        · rintro (h | h | h)
          · exact .inr (.inl h)
          · exact .inl h
          · exact .inr (.inr h)
        · rintro (h | h | h)
          · exact .inr (.inl h)
          · exact .inl h
          · exact .inr (.inr h)
theorem insU_pw {v : Int} : ∀ {l : List Int}, l.Pairwise (· < ·) → (insU v l).Pairwise (· < ·)
  | [], _ => by simp [insU]
  | a :: l, h => by
    obtain ⟨h1, h2⟩ := List.pairwise_cons.mp h
    unfold insU
    split
    · rename_i c
      refine List.pairwise_cons.mpr ⟨fun b hb => ?_, h⟩
      rcases List.mem_cons.mp hb with rfl | hb
      · exact c
      · exact Int.lt_trans c (h1 b hb)
    · split
      · exact h
      · rename_i c d
        refine List.pairwise_cons.mpr ⟨fun b hb => ?_, insU_pw h2⟩
        rcases insU_mem.mp hb with rfl | hb
        · omega
        · exact h1 b hb
theorem sortU_mem {v : Int} : ∀ {l : List Int}, v ∈ sortU l ↔ v ∈ l
  | [] => by simp [sortU]
  | a :: l => by
    show v ∈ insU a (sortU l) ↔ _
    rw [insU_mem, sortU_mem, List.mem_cons]
theorem sortU_pw : ∀ l : List Int, (sortU l).Pairwise (· < ·)
  | [] => List.Pairwise.nil
  | a :: l => insU_pw (sortU_pw l)
/-- a strictly rising list is told by its members -/
theorem strict_one : ∀ {l m : List Int}, l.Pairwise (· < ·) → m.Pairwise (· < ·) → (∀ v, v ∈ l ↔ v ∈ m) → l = m
  | [], [], _, _, _ => rfl
  | [], b :: m, _, _, h => by have := (h b).mpr List.mem_cons_self; simp at this
  | a :: l, [], _, _, h => by have := (h a).mp List.mem_cons_self; simp at this
  | a :: l, b :: m, h1, h2, h => by
    obtain ⟨p1, q1⟩ := List.pairwise_cons.mp h1
    obtain ⟨p2, q2⟩ := List.pairwise_cons.mp h2
    have e : a = b := by
      rcases List.mem_cons.mp ((h a).mp List.mem_cons_self) with x | x
      · exact x
      · rcases List.mem_cons.mp ((h b).mpr List.mem_cons_self) with y | y
        · exact y.symm
        · have := p2 a x; have := p1 b y; omega
    subst e
    have : l = m := strict_one q1 q2 fun v => by
      constructor
      · intro hv
        rcases List.mem_cons.mp ((h v).mp (List.mem_cons_of_mem _ hv)) with x | x
        · subst x; have := p1 v hv; omega
        · exact x
      · intro hv
        rcases List.mem_cons.mp ((h v).mpr (List.mem_cons_of_mem _ hv)) with x | x
        · subst x; have := p2 v hv; omega
        · exact x
    rw [this]
theorem le_nodup_lt {l : List Int} (h : l.Pairwise (· ≤ ·)) (n : l.Nodup) : l.Pairwise (· < ·) := by
  induction l with
  | nil => exact .nil
  | cons a l ih =>
    obtain ⟨p, q⟩ := List.pairwise_cons.mp h
    obtain ⟨r, s⟩ := List.nodup_cons.mp n
    refine List.pairwise_cons.mpr ⟨fun b hb => ?_, ih q s⟩
    have h1 := p b hb
    have h2 : a ≠ b := fun e => r (by rw [e]; exact hb)
    omega
/-- a rising list is told by what it is a permutation of -/
theorem le_one : ∀ {l m : List Int}, l.Pairwise (· ≤ ·) → m.Pairwise (· ≤ ·) → l.Perm m → l = m
  | [], m, _, _, h => by rw [List.nil_perm] at h; exact h.symm
  | a :: l, [], _, _, h => by have := h.length_eq; simp at this
  | a :: l, b :: m, h1, h2, h => by
    obtain ⟨p1, q1⟩ := List.pairwise_cons.mp h1
    obtain ⟨p2, q2⟩ := List.pairwise_cons.mp h2
    have e : a = b := by
      rcases List.mem_cons.mp (h.mem_iff.mp (List.mem_cons_self (a := a) (l := l))) with x | x
      · exact x
      · rcases List.mem_cons.mp (h.mem_iff.mpr (List.mem_cons_self (a := b) (l := m))) with y | y
        · exact y.symm
        · have := p2 a x; have := p1 b y; omega
    subst e
    rw [le_one q1 q2 ((List.perm_cons a).mp h)]
def iota (n : Nat) : List Int := (List.range n).map Int.ofNat
theorem iota_len (n : Nat) : (iota n).length = n := by simp [iota]
theorem iota_succ (n : Nat) : iota (n + 1) = iota n ++ [(n : Int)] := by simp [iota, List.range_succ]
theorem iota_mem {n : Nat} {k : Int} : k ∈ iota n ↔ 0 ≤ k ∧ k < n := by
  unfold iota
  rw [List.mem_map]
  constructor
  · rintro ⟨m, hm, rfl⟩
    have := List.mem_range.mp hm
    exact ⟨Int.natCast_nonneg _, by show (m : Int) < n; omega⟩
  · rintro ⟨h1, h2⟩
    exact ⟨k.toNat, List.mem_range.mpr (by omega), by show ((k.toNat : Nat) : Int) = k; omega⟩
theorem iota_pw (n : Nat) : (iota n).Pairwise (· < ·) := by
  unfold iota
  rw [List.pairwise_map]
  exact List.pairwise_lt_range.imp fun h => by show ((_ : Nat) : Int) < ((_ : Nat) : Int); omega
/-- the marks at the place v -/
def grp (f : Int → Int) (ms : List Int) (v : Int) : List Int := ms.filter fun k => f k == v
/-- the order: places rising, the marks at each -/
def ord (f : Int → Int) (ms : List Int) : List (List Int) := (sortU (ms.map f)).map (grp f ms)
theorem grp_snoc {f : Int → Int} {ms : List Int} {k v : Int} : grp f (ms ++ [k]) v = if f k = v then grp f ms v ++ [k] else grp f ms v := by
  unfold grp
  rw [List.filter_append]
  by_cases h : f k = v
  · rw [if_pos h]; simp [h]
  · rw [if_neg h]; simp [h]
theorem grp_none {f : Int → Int} {ms : List Int} {v : Int} (h : v ∉ ms.map f) : grp f ms v = [] := by
  unfold grp
  rw [List.filter_eq_nil_iff]
  intro k hk e
  exact h (List.mem_map.mpr ⟨k, hk, by simpa using e⟩)
theorem ord_congr {f g : Int → Int} {ms : List Int} (h : ∀ k ∈ ms, f k = g k) : ord f ms = ord g ms := by
  unfold ord
  have e : ms.map f = ms.map g := List.map_congr_left h
  rw [e]
  refine List.map_congr_left fun v _ => ?_
  unfold grp
  exact List.filter_congr fun k hk => by rw [h k hk]
theorem pw_rev_map {y : Int} {W : List Int} (h : W.Pairwise (· < ·)) : ((W.map (y - ·)).reverse).Pairwise (· < ·) := by
  rw [List.pairwise_reverse, List.pairwise_map]
  exact h.imp fun h => by omega
/-- the other way round -/
theorem ord_mirror {f g : Int → Int} {ms : List Int} {y : Int} (hf : ∀ k ∈ ms, 0 ≤ f k ∧ f k < y) (hg : ∀ k ∈ ms, g k = if f k = 0 then 0 else y - f k) {k0 : Int} (h0 : k0 ∈ ms) (z0 : f k0 = 0) :
    ord g ms = (ord f ms).take 1 ++ ((ord f ms).drop 1).reverse := by
  have hm : ∀ v, v ∈ sortU (ms.map f) → 0 ≤ v ∧ v < y := fun v hv => by
    obtain ⟨k, hk, rfl⟩ := List.mem_map.mp (sortU_mem.mp hv)
    exact hf k hk
  have m0 : (0 : Int) ∈ sortU (ms.map f) := sortU_mem.mpr (List.mem_map.mpr ⟨k0, h0, z0⟩)
  obtain ⟨W, hW⟩ : ∃ W, sortU (ms.map f) = 0 :: W := by
    cases e : sortU (ms.map f) with
    | nil => rw [e] at m0; simp at m0
    | cons a W =>
      have p := sortU_pw (ms.map f)
      rw [e] at p m0 hm
      obtain ⟨p1, _⟩ := List.pairwise_cons.mp p
      rcases List.mem_cons.mp m0 with q | q
      · exact ⟨W, by rw [← q]⟩
      · have := p1 0 q
        have := (hm a List.mem_cons_self).1
        omega
  have pw : (0 :: W).Pairwise (· < ·) := by rw [← hW]; exact sortU_pw _
  obtain ⟨pW, qW⟩ := List.pairwise_cons.mp pw
  have mW : ∀ v ∈ W, 0 < v ∧ v < y := fun v hv => ⟨pW v hv, (hm v (by rw [hW]; exact List.mem_cons_of_mem _ hv)).2⟩
  have eV : sortU (ms.map g) = 0 :: (W.map (y - ·)).reverse := by
    refine strict_one (sortU_pw _) (List.pairwise_cons.mpr ⟨fun b hb => ?_, pw_rev_map qW⟩) fun v => ?_
    · obtain ⟨u, hu, rfl⟩ := List.mem_map.mp (List.mem_reverse.mp hb)
      have := (mW u hu).2
      show 0 < y - u
      omega
    · rw [sortU_mem, List.mem_map, List.mem_cons, List.mem_reverse, List.mem_map]
      constructor
      · rintro ⟨k, hk, rfl⟩
        rw [hg k hk]
        by_cases e : f k = 0
        · rw [if_pos e]; exact .inl rfl
        · rw [if_neg e]
          refine .inr ⟨f k, ?_, rfl⟩
          have : f k ∈ sortU (ms.map f) := sortU_mem.mpr (List.mem_map.mpr ⟨k, hk, rfl⟩)
          rw [hW] at this
          exact (List.mem_cons.mp this).resolve_left e
      · rintro (rfl | ⟨u, hu, rfl⟩)
        · exact ⟨k0, h0, by rw [hg k0 h0, if_pos z0]⟩
        · have : u ∈ sortU (ms.map f) := by rw [hW]; exact List.mem_cons_of_mem _ hu
          obtain ⟨k, hk, e⟩ := List.mem_map.mp (sortU_mem.mp this)
          refine ⟨k, hk, ?_⟩
          have := (mW u hu).1
          rw [hg k hk, e, if_neg (by omega)]
  have g0 : grp g ms 0 = grp f ms 0 := List.filter_congr fun k hk => by
    rw [hg k hk]
    have := hf k hk
    by_cases e : f k = 0
    · rw [if_pos e, e]
    · rw [if_neg e]
      rw [beq_eq_false_iff_ne.mpr e, beq_eq_false_iff_ne.mpr (by omega)]
  have gW : ∀ u ∈ W, grp g ms (y - u) = grp f ms u := fun u hu => List.filter_congr fun k hk => by
    rw [hg k hk]
    have h1 := hf k hk
    have h2 := mW u hu
    by_cases e : f k = 0
    · rw [if_pos e, beq_eq_false_iff_ne.mpr (by omega), beq_eq_false_iff_ne.mpr (by omega)]
    · rw [if_neg e]
      by_cases e2 : f k = u
      · rw [e2]; simp
      · rw [beq_eq_false_iff_ne.mpr e2, beq_eq_false_iff_ne.mpr (by omega)]
  unfold ord
  rw [eV, hW, List.map_cons, List.map_cons, g0, List.map_reverse, List.map_map]
  show _ = [grp f ms 0] ++ (List.map (grp f ms) W).reverse
  rw [List.singleton_append]
  congr 2
  exact List.map_congr_left fun u hu => gW u hu
end Mt
namespace Mt
theorem map_inj {α β : Type} {g : α → β} : ∀ {l : List α}, (l.map g).Nodup → ∀ {a b : α}, a ∈ l → b ∈ l → g a = g b → a = b
  | [], _, _, _, h, _, _ => by simp at h
  | c :: l, n, a, b, ha, hb, e => by
    obtain ⟨n1, n2⟩ := List.nodup_cons.mp (show (g c :: l.map g).Nodup from n)
    rcases List.mem_cons.mp ha with x | x
    · rcases List.mem_cons.mp hb with y | y
      · rw [x, y]
      · subst x
        exact absurd (List.mem_map.mpr ⟨b, y, e.symm⟩) n1
    · rcases List.mem_cons.mp hb with y | y
      · subst y
        exact absurd (List.mem_map.mpr ⟨a, x, e⟩) n1
      · exact map_inj n2 x y e
end Mt
namespace Mt
theorem insU_len (v : Int) : ∀ m : List Int, (insU v m).length ≤ m.length + 1
  | [] => Nat.le_refl 1
  | b :: m => by
    unfold insU
    split
    · exact Nat.le_refl _
    · split
      · exact Nat.le_succ _
      · exact Nat.succ_le_succ (insU_len v m)
theorem sortU_len : ∀ l : List Int, (sortU l).length ≤ l.length
  | [] => Nat.le_refl 0
  | a :: l => Nat.le_trans (insU_len a (sortU l)) (Nat.succ_le_succ (sortU_len l))
end Mt
set_option Elab.async false
set_option linter.all false
set_option maxRecDepth 100000
set_option maxHeartbeats 4000000
namespace My
open PySem PySem.Spec PyProof.Rows L2 Gn Mt
/-- data lasts while nothing tracked changes -/
theorem sqT_same {H H' : Hp} {a : Addr} {xs : List V} {K : PySem.W.Frag} (e : Same H H') (h : SqT K H a xs) : SqT K H' a xs := by
  rcases h with (h | ⟨o, h⟩) | h
  · exact .inl (.inl (e _ _ h))
  · exact .inl (.inr ⟨o, e _ _ h⟩)
  · exact .inr h
mutual
theorem dp_same {K : PySem.W.Frag} {H H' : Hp} (e : Same H H') : ∀ (d : PyData) (v : V), Dp K H v d → Dp K H' v d
  | .none, _, h => by cases h; exact .non
  | .bool b, _, h => by cases h; exact .bl b
  | .int i, _, h => by cases h; exact .int i
  | .str x, _, h => by cases h; exact .str x
  | .list ds, _, h => by cases h with | lst a b => exact .lst (e.seq a) (dps_same e ds _ b)
  | .tuple ds, _, h => by cases h with | tup a b => exact .tup (sqT_same e a) (dps_same e ds _ b)
  | .dict _, _, h => by cases h
theorem dps_same {K : PySem.W.Frag} {H H' : Hp} (e : Same H H') : ∀ (ds : List PyData) (vs : List V), DpAll K H vs ds → DpAll K H' vs ds
  | [], _, h => by cases h; exact .nil
  | d :: ds, _, h => by cases h with | cons a b => exact .cons (dp_same e d _ a) (dps_same e ds _ b)
end
theorem dp_ints {K : PySem.W.Frag} {H : Hp} : ∀ ns : List Int, DpAll K H (ns.map V.int) (ns.map PyData.int)
  | [] => .nil
  | n :: ns => .cons (.int n) (dp_ints ns)
/-- tuples of ints stand at these addresses, as these lists tell -/
def Tups (H : Hp) : List Addr → List (List Int) → Prop
  | [], [] => True
  | r :: rs, g :: gs => H r = some (.tup (g.map V.int)) ∧ Tups H rs gs
  | _, _ => False
theorem Tups.mono {H H' : Hp} : ∀ {rs : List Addr} {gs : List (List Int)}, Tups H rs gs → (∀ r g, H r = some (.tup g) → H' r = some (.tup g)) → Tups H' rs gs
  | [], [], _, _ => trivial
  | _ :: _, _ :: _, h, k => ⟨k _ _ h.1, h.2.mono k⟩
  | [], _ :: _, h, _ => h.elim
  | _ :: _, [], h, _ => h.elim
theorem Tups.snoc {H : Hp} {r : Addr} {g : List Int} (hr : H r = some (.tup (g.map V.int))) : ∀ {rs : List Addr} {gs : List (List Int)}, Tups H rs gs → Tups H (rs ++ [r]) (gs ++ [g])
  | [], [], _ => ⟨hr, trivial⟩
  | _ :: _, _ :: _, h => ⟨h.1, Tups.snoc hr h.2⟩
  | [], _ :: _, h => h.elim
  | _ :: _, [], h => h.elim
theorem Tups.len {H : Hp} : ∀ {rs : List Addr} {gs : List (List Int)}, Tups H rs gs → rs.length = gs.length
  | [], [], _ => rfl
  | _ :: _, _ :: _, h => congrArg Nat.succ h.2.len
  | [], _ :: _, h => h.elim
  | _ :: _, [], h => h.elim
theorem Tups.dps {K : PySem.W.Frag} {H : Hp} : ∀ {rs : List Addr} {gs : List (List Int)}, Tups H rs gs → DpAll K H (rs.map V.ref) (gs.map fun g => PyData.tuple (g.map PyData.int))
  | [], [], _ => .nil
  | _ :: _, _ :: _, h => .cons (.tup (SqT.of h.1) (dp_ints _)) h.2.dps
  | [], _ :: _, h => h.elim
  | _ :: _, [], h => h.elim
/-- an order as data -/
def ordD (gs : List (List Int)) : PyData := .tuple (gs.map fun g => PyData.tuple (g.map PyData.int))
/-- an order stands at r: a tuple of tuples of ints -/
def OrdAt (H : Hp) (r : Addr) (gs : List (List Int)) : Prop := ∃ rs : List Addr, H r = some (.tup (rs.map V.ref)) ∧ Tups H rs gs
theorem OrdAt.dp {K : PySem.W.Frag} {H : Hp} {r : Addr} {gs : List (List Int)} (h : OrdAt H r gs) : Dp K H (.ref r) (ordD gs) := by
  obtain ⟨rs, h1, h2⟩ := h
  exact .tup (SqT.of h1) h2.dps
theorem OrdAt.same {H H' : Hp} {r : Addr} {gs : List (List Int)} (h : OrdAt H r gs) (e : Same H H') : OrdAt H' r gs := by
  obtain ⟨rs, h1, h2⟩ := h
  exact ⟨rs, e _ _ h1, h2.mono fun r g z => e _ _ z⟩
end My
set_option Elab.async false
set_option linter.all false
set_option maxRecDepth 100000
set_option maxHeartbeats 8000000
namespace My
open PySem PySem.Spec PyProof.Rows L2 Gn
/-! the program's questions, of arguments of any kind -/
abbrev sIsPart : Stmt := top 21
theorem scIsPart : FnScope ["given"] ["given"] (defScope sIsPart) := ⟨rfl, rfl, rfl, by decide +kernel, rfl, by decide +kernel, by decide +kernel⟩
def spAsk (K : PySem.W.Frag) (r : PyData → Bool) : Sp := fun vs H Q _ => ∃ v d, vs = [v] ∧ An K H v d ∧ Q (.bl (r d)) H
def spNumA (K : PySem.W.Frag) : Sp := fun vs H Q _ => ∃ (v : V) (d : PyData) (a b : Int), vs = [v, .int a, .int b] ∧ An K H v d ∧ Q (.bl (isNum d a b)) H
section
variable {P : Program} {w : World} {K : PySem.W.Frag} {mg : Str → Option Value} {base : Heap}
theorem ok_isIntA {f : Addr} {fd : FuncData} (F : Fun K "is_integer" "is_integer" sIsInt f fd) (B : Bc mg) : FnOk P w K mg base CX0 1 f fd ["given"] (spAsk K isInt) := by
  refine F.ok scIsInt (fun vs H Q E h => ?_) (fun cdv A outer s H vs Q E hr h => ?_)
  · obtain ⟨v, d, rfl, _⟩ := h
    rfl
  · obtain ⟨v, d, rfl, an, q⟩ := h
    refine ⟨_, pss_one (ps_ret (pe_and (pe_callB call_isi (by rfl) B.isi (by decide +kernel) (pa_cons (pv 0) (pa_cons (pe_bltn (v := .ty "int") (by rfl) B.int (by decide +kernel) rfl) pa_nil)))
      (pe_one (pe_not (pe_callB call_isi (by rfl) B.isi (by decide +kernel) (pa_cons (pv 0) (pa_cons (pe_bltn (v := .ty "bool") (by rfl) B.bool (by decide +kernel) rfl) pa_nil))))))), ?_⟩
    refine ⟨_, rfl, v, .ty "int", _, _, _, rfl, .ty "int", an.ty, kit_ty kit_int, _, rfl, ?_⟩
    cases ei : isIntB d with
    | false =>
      refine iteF ?_
      have e : isInt d = false := by cases d <;> first | rfl | cases ei
      rw [e] at q
      exact q
    | true =>
      refine iteT ⟨_, rfl, v, .ty "bool", _, _, _, rfl, .ty "bool", an.ty, kit_ty kit_bool, _, rfl, ?_⟩
      have e : isInt d = !(isBoolB d) := by cases d <;> first | rfl | cases ei
      rw [e] at q
      exact q
theorem ok_isFrA {f fI : Addr} {fd fdI : FuncData} (F : Fun K "is_fraction" "is_fraction" sIsFr f fd) (B : Bc mg) (D : Df K mg "is_integer" sIsInt ["given"] fI fdI) : FnOk P w K mg base CX0 2 f fd ["given"] (spAsk K isFr) := by
  have GI : FnOk P w K mg base CX0 1 fI fdI ["given"] (spAsk K isInt) := ok_isIntA D.F B
  refine F.ok scIsFr (fun vs H Q E h => ?_) (fun cdv A outer s H vs Q E hr h => ?_)
  · obtain ⟨v, d, rfl, _⟩ := h
    rfl
  · obtain ⟨v, d, rfl, an, q⟩ := h
    refine ⟨_, pss_cons (ps_if (PW.pt (pw_or (pt_not (pt_val (pe_callB call_isi (by rfl) B.isi (by decide +kernel) (pa_cons (pv 0) (pa_cons (pe_bltn (v := .ty "tuple") (by rfl) B.tuple (by decide +kernel) rfl) pa_nil)))))
        (pw_or1 (pt_cmpR op_ne (pe_callB call_len_seq (by rfl) B.len PySem.boot_len (pa_cons (pv 0) pa_nil)) pe_int (nomark _))))) (pss_one (ps_ret pe_bl)) pss_nil)
      (pss_cons (ps_asg (pv 0) (pg_tup (by rfl) (pgs_cons (pg_name (i := 1) scIsFr.nd rfl (.inl rfl)) (pgs_cons (pg_name (i := 2) scIsFr.nd rfl (.inl rfl)) pgs_nil))))
      (pss_cons (ps_if (PW.pt (pw_or (pt_not (pt_val (pe_call GI hr (by rfl) D.g D.F.kp D.b .nil pass0 (pa_cons (pv 1) pa_nil)))) (pw_or1 (pt_not (pt_val (pe_call GI hr (by rfl) D.g D.F.kp D.b .nil pass0 (pa_cons (pv 2) pa_nil))))))) (pss_one (ps_ret pe_bl)) pss_nil)
      (pss_one (ps_ret (pe_and (pe_cmpR op_ge (pv 2) pe_int (nomark _)) (pe_one (pe_cmpR op_eq (pe_callBfun cr_gcd (by rfl) B.gcd (pa_cons (pv 1) (pa_cons (pv 2) pa_nil))) pe_int (nomark _)))))))), ?_⟩
    refine ⟨_, rfl, v, .ty "tuple", _, _, _, rfl, .ty "tuple", an.ty, kit_ty kit_tup, _, rfl, ?_⟩
    cases et : isTupB d with
    | false =>
      rw [isFr_ty et] at q
      exact iteT q
    | true =>
      refine iteF ?_
      obtain ⟨a, xs, ds, rfl, rfl, hT, all⟩ := an.isT et
      have sq : SqT K H a xs := SqT.of hT
      refine ⟨_, rfl, a, xs, rfl, .inr sq, rfl, _, rfl, ?_⟩
      by_cases hl : xs.length = 2
      · obtain ⟨x, y, p, p', rfl, rfl, dx, dy⟩ := dpAll_two all hl
        refine iteF ⟨_, rfl, a, _, rfl, sq, rfl, _, _, rfl, _, _, rfl, rfl, ?_⟩
        refine ⟨_, rfl, x, p, rfl, dx, _, rfl, ?_⟩
        cases e1 : isInt p with
        | false =>
          rw [isFr_no (.inl e1)] at q
          exact iteT q
        | true =>
          refine iteF ⟨_, rfl, y, p', rfl, dy, _, rfl, ?_⟩
          cases e2 : isInt p' with
          | false =>
            rw [isFr_no (.inr e2)] at q
            exact iteT q
          | true =>
            refine iteF ?_
            obtain ⟨i, rfl, rfl⟩ := dx.isI e1
            obtain ⟨j, rfl, rfl⟩ := dy.isI e2
            refine ⟨_, rfl, _, _, rfl, rfl, _, rfl, ?_⟩
            by_cases c : (1 : Int) ≤ j
            · rw [decide_eq_true c]
              refine iteT ⟨_, rfl, _, rfl, i, j, rfl, ?_⟩
              simp only [isFr, decide_eq_true c, Bool.true_and] at q
              have e : decide (V.int ((Nat.gcd i.natAbs j.natAbs : Nat) : Int) = V.int 1) = decide (Int.gcd i j = 1) := by
                rw [decide_eq_decide, V.int.injEq]
                show ((Int.gcd i j : Nat) : Int) = 1 ↔ _
                omega
              rw [← e] at q
              exact ⟨rfl, q⟩
            · rw [decide_eq_false c]
              refine iteF ?_
              simp only [isFr, decide_eq_false c, Bool.false_and] at q
              exact q
      · rw [isFr_len (fun z => hl ((dpAll_len all).trans z))] at q
        have e : (!(decide (V.int (xs.length : Int) = V.int 2))) = true := by
          rw [decide_eq_false, Bool.not_false]
          intro z
          rw [V.int.injEq] at z
          exact hl (by omega)
        show if (!(decide (V.int (xs.length : Int) = V.int 2))) = true then _ else _
        rw [e]
        exact iteT q
theorem ok_isPartA {f fI fR : Addr} {fd fdI fdR : FuncData} (F : Fun K "is_part" "is_part" sIsPart f fd) (B : Bc mg) (D : Df K mg "is_integer" sIsInt ["given"] fI fdI) (R : Df K mg "is_fraction" sIsFr ["given"] fR fdR) : FnOk P w K mg base CX0 3 f fd ["given"] (spAsk K isPt) := by
  have GR : FnOk P w K mg base CX0 2 fR fdR ["given"] (spAsk K isFr) := ok_isFrA R.F B D
  refine F.ok scIsPart (fun vs H Q E h => ?_) (fun cdv A outer s H vs Q E hr h => ?_)
  · obtain ⟨v, d, rfl, _⟩ := h
    rfl
  · obtain ⟨v, d, rfl, an, q⟩ := h
    refine ⟨_, pss_one (ps_ret (pe_and (pe_call GR hr (by rfl) R.g R.F.kp R.b .nil pass0 (pa_cons (pv 0) pa_nil)) (pe_one (pe_chain op_le op_le pe_int (pe_ix ix_tup (pv 0) pe_int (fun _ _ => rfl)) (pe_ix ix_tup (pv 0) pe_int (fun _ _ => rfl)))))), ?_⟩
    refine ⟨_, rfl, v, d, rfl, an, _, rfl, ?_⟩
    cases ef : isFr d with
    | false =>
      rw [isPt_fr ef] at q
      exact iteF q
    | true =>
      obtain ⟨t, b, rfl, b1, co⟩ := isFr_of ef
      obtain ⟨a, xs, ds, rfl, z, hT, all⟩ := an.isT rfl
      cases z
      obtain ⟨x, y, p, p', rfl, z, dx, dy⟩ := dpAll_two all ((dpAll_len all).trans rfl)
      cases z
      cases dx
      cases dy
      have sq : SqT K H a [.int t, .int b] := SqT.of hT
      simp only [isPt, ef, Bool.true_and] at q
      refine iteT ⟨_, rfl, a, _, 0, .int t, rfl, rfl, sq, at_of (j := 0) rfl rfl, _, _, rfl, rfl, _, rfl, ?_⟩
      refine ite2 (fun hc => ?_) (fun hc => ?_)
      · refine ⟨_, rfl, a, _, 1, .int b, rfl, rfl, sq, at_of (j := 1) rfl rfl, _, _, rfl, rfl, ?_⟩
        rw [hc, Bool.true_and] at q
        exact q
      · rw [Bool.eq_false_iff.mpr hc, Bool.false_and] at q
        exact q
end
end My
set_option Elab.async false
set_option maxRecDepth 100000
set_option maxHeartbeats 1000000
set_option linter.all false
/-! lots of steps as ascending cuts: just ahead of a fraction, or just behind it -/
namespace Mt
structure Cut where
  n : Int
  d : Int
  b : Bool
deriving DecidableEq
namespace Cut
def lt (c e : Cut) : Bool := if c.n = e.n ∧ c.d = e.d then !c.b && e.b else decide (c.n * e.d < e.n * c.d)
structure V (c : Cut) : Prop where
  d : 0 < c.d
  co : Int.gcd c.n c.d = 1
theorem dvd_co {a b c : Int} (h : Int.gcd a b = 1) (h2 : a ∣ b * c) : a ∣ c := by
  have d1 : a.natAbs ∣ b.natAbs * c.natAbs := by
    have := Int.natAbs_dvd_natAbs.mpr h2
    rwa [Int.natAbs_mul] at this
  exact Int.natAbs_dvd_natAbs.mp ((show Nat.Coprime a.natAbs b.natAbs from h).dvd_of_dvd_mul_left d1)
theorem cross {a b c d : Int} (b0 : 0 < b) (d0 : 0 < d) (h1 : Int.gcd a b = 1) (h2 : Int.gcd c d = 1) (e : a * d = c * b) : a = c ∧ b = d := by
  have k1 : b ∣ d := dvd_co (by rw [Int.gcd_comm]; exact h1) ⟨c, by rw [e, Int.mul_comm]⟩
  have k2 : d ∣ b := dvd_co (by rw [Int.gcd_comm]; exact h2) ⟨a, by rw [← e, Int.mul_comm]⟩
  have l1 := Int.le_of_dvd d0 k1
  have l2 := Int.le_of_dvd b0 k2
  have bd : b = d := by omega
  subst bd
  exact ⟨Int.eq_of_mul_eq_mul_right (by omega) e, rfl⟩
theorem irr (c : Cut) : c.lt c = false := by unfold lt; rw [if_pos ⟨rfl, rfl⟩]; cases c.b <;> rfl
theorem mul_lt3 {a b c d e f : Int} (b0 : 0 < b) (d0 : 0 < d) (f0 : 0 < f) (h1 : a * d < c * b) (h2 : c * f < e * d) : a * f < e * b := by
  have e1 : a * d * f < c * b * f := Int.mul_lt_mul_of_pos_right h1 f0
  have e2 : c * f * b < e * d * b := Int.mul_lt_mul_of_pos_right h2 b0
  have : a * f * d < e * b * d := by
    have x1 : a * f * d = a * d * f := Int.mul_right_comm ..
    have x2 : e * b * d = e * d * b := Int.mul_right_comm ..
    have x3 : c * b * f = c * f * b := Int.mul_right_comm ..
    omega
  exact Int.lt_of_mul_lt_mul_right this (by omega)
theorem trans {c e f : Cut} (vc : c.V) (ve : e.V) (vf : f.V) (h1 : c.lt e = true) (h2 : e.lt f = true) : c.lt f = true := by
  obtain ⟨cn, cd, cb⟩ := c
  obtain ⟨en, ed, eb⟩ := e
  obtain ⟨fn, fd, fb⟩ := f
  have c0 := vc.d; have e0 := ve.d; have f0 := vf.d
  have cc := vc.co; have fc := vf.co
  simp only [lt] at *
  by_cases a1 : cn = en ∧ cd = ed
  · rw [if_pos a1] at h1
    by_cases a2 : en = fn ∧ ed = fd
    · rw [if_pos a2] at h2
      rw [if_pos ⟨a1.1.trans a2.1, a1.2.trans a2.2⟩]
      cases cb <;> cases eb <;> cases fb <;> simp_all
    · rw [if_neg a2] at h2
      rw [a1.1, a1.2, if_neg a2]
      exact h2
  · rw [if_neg a1] at h1
    by_cases a2 : en = fn ∧ ed = fd
    · rw [← a2.1, ← a2.2, if_neg a1]
      exact h1
    · rw [if_neg a2] at h2
      have z := mul_lt3 c0 e0 f0 (of_decide_eq_true h1) (of_decide_eq_true h2)
      rw [if_neg (fun q => by rw [q.1, q.2] at z; omega)]
      exact decide_eq_true z
theorem tot {c e : Cut} (vc : c.V) (ve : e.V) (h1 : c.lt e = false) (h2 : e.lt c = false) : c = e := by
  obtain ⟨cn, cd, cb⟩ := c
  obtain ⟨en, ed, eb⟩ := e
  have c0 := vc.d; have e0 := ve.d
  have cc := vc.co; have ec := ve.co
  simp only [lt] at *
  by_cases a1 : cn = en ∧ cd = ed
  · rw [if_pos a1] at h1
    rw [if_pos ⟨a1.1.symm, a1.2.symm⟩] at h2
    obtain ⟨rfl, rfl⟩ := a1
    cases cb <;> cases eb <;> simp_all
  · rw [if_neg a1] at h1
    rw [if_neg fun z => a1 ⟨z.1.symm, z.2.symm⟩] at h2
    have l1 := of_decide_eq_false h1
    have l2 := of_decide_eq_false h2
    exact absurd (cross c0 e0 cc ec (by omega)) a1
theorem asym {c e : Cut} (vc : c.V) (ve : e.V) (h : c.lt e = true) : e.lt c = false := by
  cases z : e.lt c with
  | false => rfl
  | true => have := trans vc ve vc h z; rw [irr] at this; cases this
/-- not ahead, ahead -/
theorem le_lt {c e f : Cut} (vc : c.V) (ve : e.V) (vf : f.V) (h1 : e.lt c = false) (h2 : e.lt f = true) : c.lt f = true := by
  cases z : c.lt e with
  | true => exact trans vc ve vf z h2
  | false => rw [tot vc ve z h1]; exact h2
theorem lt_le {c e f : Cut} (vc : c.V) (ve : e.V) (vf : f.V) (h1 : c.lt e = true) (h2 : f.lt e = false) : c.lt f = true := by
  cases z : e.lt f with
  | true => exact trans vc ve vf h1 z
  | false => rw [← tot ve vf z h2]; exact h1
end Cut
/-- ascending -/
def Asc (cs : List Cut) : Prop := cs.Pairwise fun c e => c.lt e = true
def AllV (cs : List Cut) : Prop := ∀ c ∈ cs, c.V
/-- behind an odd number of its cuts one is within -/
def mem : List Cut → Cut → Bool
  | [], _ => false
  | c :: cs, x => xor (!x.lt c) (mem cs x)
theorem mem_out {cs : List Cut} {x : Cut} (h : ∀ c ∈ cs, x.lt c = true) : mem cs x = false := by
  induction cs with
  | nil => rfl
  | cons c cs ih =>
    show xor (!x.lt c) (mem cs x) = false
    rw [h c List.mem_cons_self, ih fun e m => h e (List.mem_cons_of_mem _ m)]
    rfl
/-- the cuts of two lots together, each told which of them it is of -/
structure Ev where
  c : Cut
  i : Bool
  j : Bool
def mg : List Cut → List Cut → List Ev
  | [], bs => bs.map fun b => ⟨b, false, true⟩
  | a :: as, [] => (a :: as).map fun a => ⟨a, true, false⟩
  | a :: as, b :: bs => if b.lt a then ⟨b, false, true⟩ :: mg (a :: as) bs else if a = b then ⟨a, true, true⟩ :: mg as bs else ⟨a, true, false⟩ :: mg as (b :: bs)
termination_by as bs => as.length + bs.length
/-- the cuts where f of being within the ones and within the others changes -/
def run (f : Bool → Bool → Bool) : Bool → Bool → List Ev → List Cut
  | _, _, [] => []
  | p, q, ⟨c, i, j⟩ :: es => if f (xor p i) (xor q j) != f p q then c :: run f (xor p i) (xor q j) es else run f (xor p i) (xor q j) es
def memI : List Ev → Cut → Bool
  | [], _ => false
  | e :: es, x => xor (e.i && !x.lt e.c) (memI es x)
def memJ : List Ev → Cut → Bool
  | [], _ => false
  | e :: es, x => xor (e.j && !x.lt e.c) (memJ es x)
theorem mg_I : ∀ (as bs : List Cut) (x : Cut), memI (mg as bs) x = mem as x := by
  intro as bs x
  fun_induction mg as bs with
  | case1 bs => induction bs with
    | nil => rfl
    | cons b bs ih => show xor (false && _) _ = _; rw [Bool.false_and, Bool.false_xor]; exact ih
  | case2 a as => 
    have : ∀ as : List Cut, memI (as.map fun a => (⟨a, true, false⟩ : Ev)) x = mem as x := by
      intro as
      induction as with
      | nil => rfl
      | cons b bs ih => show xor (true && _) _ = xor _ _; rw [Bool.true_and, ih]
    exact this _
  | case3 a as b bs h ih => show xor (false && _) _ = _; rw [Bool.false_and, Bool.false_xor]; exact ih
  | case4 as b bs h ih => show xor (true && _) _ = xor _ _; rw [Bool.true_and, ih]
  | case5 a as b bs h h2 ih => show xor (true && _) _ = xor _ _; rw [Bool.true_and, ih]
theorem mg_J : ∀ (as bs : List Cut) (x : Cut), memJ (mg as bs) x = mem bs x := by
  intro as bs x
  fun_induction mg as bs with
  | case1 bs => induction bs with
    | nil => rfl
    | cons b bs ih => show xor (true && _) _ = xor _ _; rw [Bool.true_and, ih]
  | case2 a as => 
    have : ∀ as : List Cut, memJ (as.map fun a => (⟨a, true, false⟩ : Ev)) x = false := by
      intro as
      induction as with
      | nil => rfl
      | cons b bs ih => show xor (false && _) _ = _; rw [Bool.false_and, ih]; rfl
    exact this _
  | case3 a as b bs h ih => show xor (true && _) _ = xor _ _; rw [Bool.true_and, ih]
  | case4 as b bs h ih => show xor (true && _) _ = xor _ _; rw [Bool.true_and, ih]
  | case5 a as b bs h h2 ih => show xor (false && _) _ = _; rw [Bool.false_and, ih]; simp
theorem mg_mem : ∀ (as bs : List Cut) {e : Ev}, e ∈ mg as bs → e.c ∈ as ∨ e.c ∈ bs := by
  intro as bs
  fun_induction mg as bs <;> intro e h <;> simp at * <;> grind
def AscE (es : List Ev) : Prop := es.Pairwise fun a b => a.c.lt b.c = true
theorem mg_asc : ∀ (as bs : List Cut), AllV as → AllV bs → Asc as → Asc bs → AscE (mg as bs) := by
  intro as bs
  fun_induction mg as bs with
  | case1 bs => intro _ _ _ hb; exact List.pairwise_map.mpr hb
  | case2 a as => intro _ _ ha _; exact List.pairwise_map.mpr ha
  | case3 a as b bs h ih =>
    intro va vb ha hb
    refine List.pairwise_cons.mpr ⟨fun e he => ?_, ih va (fun c m => vb c (List.mem_cons_of_mem _ m)) ha (List.pairwise_cons.mp hb).2⟩
    rcases mg_mem _ _ he with m | m
    · rcases List.mem_cons.mp m with z | m
      · rw [z]; exact h
      · exact Cut.trans (vb _ List.mem_cons_self) (va _ List.mem_cons_self) (va _ (List.mem_cons_of_mem _ m)) h ((List.pairwise_cons.mp ha).1 _ m)
    · exact (List.pairwise_cons.mp hb).1 _ m
  | case4 as b bs h ih =>
    intro va vb ha hb
    refine List.pairwise_cons.mpr ⟨fun e he => ?_, ih (fun c m => va c (List.mem_cons_of_mem _ m)) (fun c m => vb c (List.mem_cons_of_mem _ m)) (List.pairwise_cons.mp ha).2 (List.pairwise_cons.mp hb).2⟩
    rcases mg_mem _ _ he with m | m
    · exact (List.pairwise_cons.mp ha).1 _ m
    · exact (List.pairwise_cons.mp hb).1 _ m
  | case5 a as b bs h h2 ih =>
    intro va vb ha hb
    have z : a.lt b = true := by
      cases q : a.lt b with
      | true => rfl
      | false => exact absurd (Cut.tot (va _ List.mem_cons_self) (vb _ List.mem_cons_self) q (by simpa using h)) h2
    refine List.pairwise_cons.mpr ⟨fun e he => ?_, ih (fun c m => va c (List.mem_cons_of_mem _ m)) vb (List.pairwise_cons.mp ha).2 hb⟩
    rcases mg_mem _ _ he with m | m
    · exact (List.pairwise_cons.mp ha).1 _ m
    · rcases List.mem_cons.mp m with y | m
      · rw [y]; exact z
      · exact Cut.trans (va _ List.mem_cons_self) (vb _ List.mem_cons_self) (vb _ (List.mem_cons_of_mem _ m)) z ((List.pairwise_cons.mp hb).1 _ m)
section
variable {f : Bool → Bool → Bool}
theorem run_sub : ∀ (es : List Ev) (p q : Bool) {x : Cut}, x ∈ run f p q es → ∃ e ∈ es, e.c = x
  | [], _, _, x, h => nomatch h
  | ⟨c, i, j⟩ :: es, p, q, x, h => by
    unfold run at h
    split at h
    · rcases List.mem_cons.mp h with rfl | h
      · exact ⟨_, List.mem_cons_self, rfl⟩
      · obtain ⟨e, m, z⟩ := run_sub es _ _ h
        exact ⟨e, List.mem_cons_of_mem _ m, z⟩
    · obtain ⟨e, m, z⟩ := run_sub es _ _ h
      exact ⟨e, List.mem_cons_of_mem _ m, z⟩
theorem run_asc : ∀ (es : List Ev) (p q : Bool), AscE es → Asc (run f p q es)
  | [], _, _, _ => List.Pairwise.nil
  | ⟨c, i, j⟩ :: es, p, q, h => by
    have h2 := List.pairwise_cons.mp h
    unfold run
    split
    · refine List.pairwise_cons.mpr ⟨fun x m => ?_, run_asc es _ _ h2.2⟩
      obtain ⟨e, me, rfl⟩ := run_sub es _ _ m
      exact h2.1 e me
    · exact run_asc es _ _ h2.2
def VE (es : List Ev) : Prop := ∀ e ∈ es, e.c.V
theorem memI_out {es : List Ev} {x : Cut} (h : ∀ e ∈ es, x.lt e.c = true) : memI es x = false := by
  induction es with
  | nil => rfl
  | cons c cs ih =>
    show xor (c.i && !x.lt c.c) (memI cs x) = false
    rw [h c List.mem_cons_self, ih fun e m => h e (List.mem_cons_of_mem _ m)]
    simp
theorem memJ_out {es : List Ev} {x : Cut} (h : ∀ e ∈ es, x.lt e.c = true) : memJ es x = false := by
  induction es with
  | nil => rfl
  | cons c cs ih =>
    show xor (c.j && !x.lt c.c) (memJ cs x) = false
    rw [h c List.mem_cons_self, ih fun e m => h e (List.mem_cons_of_mem _ m)]
    simp
theorem run_mem {x : Cut} (vx : x.V) : ∀ (es : List Ev) (p q : Bool), VE es → AscE es → mem (run f p q es) x = xor (f p q) (f (xor p (memI es x)) (xor q (memJ es x)))
  | [], p, q, _, _ => by simp [run, memI, memJ, mem]
  | ⟨c, i, j⟩ :: es, p, q, v, h => by
    have h2 := List.pairwise_cons.mp h
    have vc : c.V := v ⟨c, i, j⟩ List.mem_cons_self
    have ve : VE es := fun e m => v e (List.mem_cons_of_mem _ m)
    have ih := run_mem vx es (xor p i) (xor q j) ve h2.2
    unfold run memI memJ
    cases z : x.lt c with
    | true =>
      have out : ∀ e ∈ es, x.lt e.c = true := fun e m => Cut.trans vx vc (ve e m) z (h2.1 e m)
      have o1 : mem (run f (xor p i) (xor q j) es) x = false := mem_out fun y m => by
        obtain ⟨e, me, rfl⟩ := run_sub es _ _ m
        exact out e me
      rw [memI_out out, memJ_out out]
      split
      · show xor (!x.lt c) _ = _
        rw [z, o1]; simp [z]
      · rw [o1]; simp [z]
    | false =>
      split
      · rename_i hd
        show xor (!x.lt c) _ = _
        rw [z, ih]
        simp only [z, Bool.not_false, Bool.and_true]
        have e1 : xor (xor p i) (memI es x) = xor p (xor i (memI es x)) := Bool.xor_assoc ..
        have e2 : xor (xor q j) (memJ es x) = xor q (xor j (memJ es x)) := Bool.xor_assoc ..
        rw [e1, e2]
        revert hd
        cases f p q <;> cases f (xor p i) (xor q j) <;> cases f (xor p (xor i (memI es x))) (xor q (xor j (memJ es x))) <;> decide
      · rename_i hd
        rw [ih]
        simp only [z, Bool.not_false, Bool.and_true]
        have e1 : xor (xor p i) (memI es x) = xor p (xor i (memI es x)) := Bool.xor_assoc ..
        have e2 : xor (xor q j) (memJ es x) = xor q (xor j (memJ es x)) := Bool.xor_assoc ..
        rw [e1, e2]
        revert hd
        cases f p q <;> cases f (xor p i) (xor q j) <;> cases f (xor p (xor i (memI es x))) (xor q (xor j (memJ es x))) <;> decide
/-- an odd number of them -/
def odd : Nat → Bool
  | 0 => false
  | n + 1 => !odd n
def oddI (es : List Ev) : Bool := es.foldr (fun e b => xor e.i b) false
def oddJ (es : List Ev) : Bool := es.foldr (fun e b => xor e.j b) false
theorem run_odd : ∀ (es : List Ev) (p q : Bool), odd (run f p q es).length = xor (f p q) (f (xor p (oddI es)) (xor q (oddJ es)))
  | [], p, q => by simp [run, oddI, oddJ, odd]
  | ⟨c, i, j⟩ :: es, p, q => by
    have ih := run_odd es (xor p i) (xor q j)
    have e1 : oddI (⟨c, i, j⟩ :: es) = xor i (oddI es) := rfl
    have e2 : oddJ (⟨c, i, j⟩ :: es) = xor j (oddJ es) := rfl
    rw [e1, e2]
    unfold run
    rw [Bool.xor_assoc, Bool.xor_assoc] at ih
    split
    · rename_i hd
      rw [List.length_cons, odd, ih]
      revert hd
      cases f p q <;> cases f (xor p i) (xor q j) <;> cases f (xor p (xor i (oddI es))) (xor q (xor j (oddJ es))) <;> decide
    · rename_i hd
      rw [ih]
      revert hd
      cases f p q <;> cases f (xor p i) (xor q j) <;> cases f (xor p (xor i (oddI es))) (xor q (xor j (oddJ es))) <;> decide
end
theorem mg_oddI : ∀ (as bs : List Cut), oddI (mg as bs) = odd as.length := by
  intro as bs
  fun_induction mg as bs with
  | case1 bs => induction bs with
    | nil => rfl
    | cons b bs ih => show xor false _ = _; rw [Bool.false_xor]; exact ih
  | case2 a as =>
    have : ∀ as : List Cut, oddI (as.map fun a => (⟨a, true, false⟩ : Ev)) = odd as.length := by
      intro as
      induction as with
      | nil => rfl
      | cons b bs ih => show xor true (oddI _) = !_; rw [ih]; simp
    exact this _
  | case3 a as b bs h ih => show xor false (oddI _) = _; rw [Bool.false_xor]; exact ih
  | case4 as b bs h ih => show xor true (oddI _) = !_; rw [ih]; simp
  | case5 a as b bs h h2 ih => show xor true (oddI _) = !_; rw [ih]; simp
theorem mg_oddJ : ∀ (as bs : List Cut), oddJ (mg as bs) = odd bs.length := by
  intro as bs
  fun_induction mg as bs with
  | case1 bs => induction bs with
    | nil => rfl
    | cons b bs ih => show xor true (oddJ _) = !_; rw [ih]; simp
  | case2 a as =>
    have : ∀ as : List Cut, oddJ (as.map fun a => (⟨a, true, false⟩ : Ev)) = false := by
      intro as
      induction as with
      | nil => rfl
      | cons b bs ih => show xor false (oddJ _) = _; rw [ih]; rfl
    exact this _
  | case3 a as b bs h ih => show xor true (oddJ _) = !_; rw [ih]; simp
  | case4 as b bs h ih => show xor true (oddJ _) = !_; rw [ih]; simp
  | case5 a as b bs h h2 ih => show xor false (oddJ _) = _; rw [Bool.false_xor]; exact ih
/-- from 0 to just ahead of 1 -/
def first : Cut := ⟨0, 1, false⟩
def last : Cut := ⟨1, 1, false⟩
structure Cut.In (c : Cut) : Prop extends c.V where
  n0 : 0 ≤ c.n
  le : last.lt c = false
theorem Cut.In.nd {c : Cut} (h : c.In) : c.n ≤ c.d := by
  have le := h.le
  unfold Cut.lt last at le
  simp only at le
  split at le
  · omega
  · have := of_decide_eq_false le
    omega
/-- a lot's cuts -/
structure Lt (cs : List Cut) : Prop where
  v : ∀ c ∈ cs, c.In
  a : Asc cs
  e : odd cs.length = false
theorem first_inC : first.In := ⟨⟨by decide, by decide⟩, by decide, by decide⟩
theorem last_in : last.In := ⟨⟨by decide, by decide⟩, by decide, by decide⟩
theorem Lt.av {cs : List Cut} (h : Lt cs) : AllV cs := fun c m => (h.v c m).toV
def both (as bs : List Cut) : List Cut := run (fun p q => p && q) false false (mg as bs)
def either (as bs : List Cut) : List Cut := run (fun p q => p || q) false false (mg as bs)
theorem ve_mg {as bs : List Cut} (ha : AllV as) (hb : AllV bs) : VE (mg as bs) := fun e m => (mg_mem as bs m).elim (ha _) (hb _)
theorem lt_run {f : Bool → Bool → Bool} (h0 : f false false = false) {as bs : List Cut} (ha : Lt as) (hb : Lt bs) : Lt (run f false false (mg as bs)) where
  v := fun c m => by
    obtain ⟨e, me, rfl⟩ := run_sub _ _ _ m
    exact (mg_mem as bs me).elim (ha.v _) (hb.v _)
  a := run_asc _ _ _ (mg_asc as bs ha.av hb.av ha.a hb.a)
  e := by rw [run_odd, mg_oddI, mg_oddJ, ha.e, hb.e, h0]; simp [h0]
theorem Lt.both {as bs : List Cut} (ha : Lt as) (hb : Lt bs) : Lt (both as bs) := lt_run rfl ha hb
theorem Lt.either {as bs : List Cut} (ha : Lt as) (hb : Lt bs) : Lt (either as bs) := lt_run rfl ha hb
theorem mem_both {as bs : List Cut} (ha : Lt as) (hb : Lt bs) {x : Cut} (vx : x.V) : mem (both as bs) x = (mem as x && mem bs x) := by
  unfold Mt.both
  rw [run_mem vx _ _ _ (ve_mg ha.av hb.av) (mg_asc as bs ha.av hb.av ha.a hb.a), mg_I, mg_J]
  simp
theorem mem_either {as bs : List Cut} (ha : Lt as) (hb : Lt bs) {x : Cut} (vx : x.V) : mem (either as bs) x = (mem as x || mem bs x) := by
  unfold Mt.either
  rw [run_mem vx _ _ _ (ve_mg ha.av hb.av) (mg_asc as bs ha.av hb.av ha.a hb.a), mg_I, mg_J]
  simp
/-- what does not belong -/
def noFirst (cs : List Cut) : List Cut := match cs with | c :: r => if c = first then r else first :: cs | [] => [first]
def noLast (cs : List Cut) : List Cut := if cs.getLast? = some last then cs.dropLast else cs ++ [last]
def others (cs : List Cut) : List Cut := noLast (noFirst cs)
theorem mem_app : ∀ (as bs : List Cut) (x : Cut), mem (as ++ bs) x = xor (mem as x) (mem bs x)
  | [], bs, x => by simp [mem]
  | a :: as, bs, x => by show xor _ (mem (as ++ bs) x) = xor (xor _ _) _; rw [mem_app as bs x, Bool.xor_assoc]
theorem noFirst_mem {cs : List Cut} {x : Cut} (h : x.lt first = false) : mem (noFirst cs) x = !mem cs x := by
  unfold noFirst
  split
  · rename_i c r
    split
    · rename_i e
      show mem r x = !(xor (!x.lt c) (mem r x))
      rw [e, h]; simp
    · show xor (!x.lt first) _ = _
      rw [h]; simp
  · show xor (!x.lt first) _ = _
    rw [h]; simp
theorem noLast_mem {cs : List Cut} {x : Cut} (h : x.lt last = true) : mem (noLast cs) x = mem cs x := by
  unfold noLast
  split
  · rename_i e
    have : cs = cs.dropLast ++ [last] := by
      have ne : cs ≠ [] := by intro z; rw [z] at e; cases e
      rw [List.getLast?_eq_some_getLast ne] at e
      have := List.dropLast_concat_getLast ne
      rw [Option.some.inj e] at this
      exact this.symm
    rw [this, mem_app]
    have : mem [last] x = false := by show xor (!x.lt last) false = false; rw [h]; rfl
    rw [this]
    simp
  · rw [mem_app]
    have : mem [last] x = false := by show xor (!x.lt last) false = false; rw [h]; rfl
    rw [this]
    simp
theorem mem_others {cs : List Cut} {x : Cut} (h : x.lt first = false) (h2 : x.lt last = true) : mem (others cs) x = !mem cs x := by
  unfold others
  rw [noLast_mem h2, noFirst_mem h]
theorem in_ge {c : Cut} (h : c.In) : c.lt first = false := by
  unfold Cut.lt first
  have := h.n0
  have := h.d
  simp only
  split
  · simp
  · rw [decide_eq_false]; omega
theorem in_gt {c : Cut} (h : c.In) (ne : c ≠ first) : first.lt c = true := by
  cases z : first.lt c with
  | true => rfl
  | false => exact absurd (Cut.tot h.toV first_inC.toV (in_ge h) z) ne
theorem in_lt {c : Cut} (h : c.In) (ne : c ≠ last) : c.lt last = true := by
  cases z : c.lt last with
  | true => rfl
  | false => exact absurd (Cut.tot h.toV last_in.toV z h.le) ne
structure Pre (cs : List Cut) : Prop where
  v : ∀ c ∈ cs, c.In
  a : Asc cs
theorem Pre.noFirst {cs : List Cut} (h : Pre cs) : Pre (noFirst cs) := by
  unfold Mt.noFirst
  split
  · rename_i c r
    have h2 := List.pairwise_cons.mp h.a
    split
    · exact ⟨fun e m => h.v e (List.mem_cons_of_mem _ m), h2.2⟩
    · rename_i ne
      refine ⟨fun e m => ?_, List.pairwise_cons.mpr ⟨fun e m => ?_, h.a⟩⟩
      · rcases List.mem_cons.mp m with rfl | m
        · exact first_inC
        · exact h.v e m
      · have f1 := in_gt (h.v c List.mem_cons_self) ne
        rcases List.mem_cons.mp m with rfl | m2
        · exact f1
        · exact Cut.trans first_inC.toV (h.v c List.mem_cons_self).toV (h.v e m).toV f1 (h2.1 e m2)
  · exact ⟨fun e m => by rw [List.mem_singleton.mp m]; exact first_inC, List.pairwise_singleton ..⟩
theorem getLast_last {cs : List Cut} (e : cs.getLast? = some last) : cs = cs.dropLast ++ [last] := by
  have ne : cs ≠ [] := by intro z; rw [z] at e; cases e
  rw [List.getLast?_eq_some_getLast ne] at e
  have := List.dropLast_concat_getLast ne
  rw [Option.some.inj e] at this
  exact this.symm
theorem Pre.noLast {cs : List Cut} (h : Pre cs) : Pre (noLast cs) := by
  unfold Mt.noLast
  split
  · exact ⟨fun e m => h.v e ((List.dropLast_sublist cs).subset m), List.Pairwise.sublist (List.dropLast_sublist cs) h.a⟩
  · rename_i ne
    refine ⟨fun e m => ?_, List.pairwise_append.mpr ⟨h.a, List.pairwise_singleton .., fun a ma b mb => ?_⟩⟩
    · rcases List.mem_append.mp m with m | m
      · exact h.v e m
      · rw [List.mem_singleton.mp m]; exact last_in
    · rw [List.mem_singleton.mp mb]
      refine in_lt (h.v a ma) fun z => ?_
      subst z
      -- the last one is the greatest
      have ne2 : cs ≠ [] := by intro z; rw [z] at ma; cases ma
      have l := List.dropLast_concat_getLast ne2
      rw [List.getLast?_eq_some_getLast ne2] at ne
      have asc := h.a
      rw [← l] at asc ma
      rcases List.mem_append.mp ma with m | m
      · have := (List.pairwise_append.mp asc).2.2 last m _ (List.mem_singleton.mpr rfl)
        rw [(h.v _ (List.getLast_mem ne2)).le] at this
        cases this
      · exact ne (by rw [← List.mem_singleton.mp m])
theorem odd_noFirst {cs : List Cut} : odd (noFirst cs).length = !odd cs.length := by
  unfold noFirst
  split
  · split <;> simp [odd]
  · simp [odd]
theorem odd_noLast {cs : List Cut} : odd (noLast cs).length = !odd cs.length := by
  unfold noLast
  split
  · rename_i e
    have l := getLast_last e
    have : cs.length = cs.dropLast.length + 1 := by
      have := congrArg List.length l
      rwa [List.length_append] at this
    rw [this]; simp [odd]
  · simp [odd]
theorem Lt.others {cs : List Cut} (h : Lt cs) : Lt (others cs) := by
  have p : Pre (Mt.others cs) := (Pre.noFirst ⟨h.v, h.a⟩).noLast
  exact ⟨p.v, p.a, by unfold Mt.others; rw [odd_noLast, odd_noFirst, h.e]; rfl⟩
/-- of a step whether it belongs: one is just ahead of it -/
def at' (p q : Int) : Cut := ⟨p, q, false⟩
structure Stp (p q : Int) : Prop where
  p0 : 0 ≤ p
  pq : p < q
  co : Int.gcd p q = 1
theorem Stp.In {p q : Int} (h : Stp p q) : (at' p q).In := ⟨⟨by have := h.p0; have := h.pq; show 0 < q; omega, h.co⟩, h.p0, by
  show Cut.lt last (at' p q) = false
  unfold Cut.lt last at'
  have := h.pq
  simp only
  split
  · rfl
  · rw [decide_eq_false]; omega⟩
theorem Stp.lt {p q : Int} (h : Stp p q) : (at' p q).lt last = true := by
  unfold Cut.lt last at'
  have := h.pq
  have := h.p0
  simp only
  rw [if_neg (by omega), decide_eq_true]; omega
theorem Stp.ge {p q : Int} (h : Stp p q) : (at' p q).lt first = false := in_ge h.In
end Mt
set_option Elab.async false
set_option maxRecDepth 100000
set_option maxHeartbeats 2000000
set_option linter.all false
/-! the lot of the steps that fit, where this changes at some fractions only -/
namespace Mt
/-- the next cut, if what fits changes there -/
def cstep (acc : List Cut) (e : Cut × Bool) : List Cut := if e.2 != odd acc.length then acc ++ [e.1] else acc
def ends (acc : List Cut) : List Cut := if odd acc.length = true then acc ++ [last] else acc
def lw (es : List (Cut × Bool)) : List Cut := ends (es.foldl cstep [])
theorem odd_snoc {α : Type} (l : List α) (x : α) : odd (l ++ [x]).length = !odd l.length := by rw [List.length_append]; rfl
theorem cstep_sub : ∀ (es : List (Cut × Bool)) (acc pre : List Cut), acc.Sublist pre → (es.foldl cstep acc).Sublist (pre ++ es.map (·.1))
  | [], acc, pre, h => by simpa using h
  | e :: es, acc, pre, h => by
    have k : (cstep acc e).Sublist (pre ++ [e.1]) := by
      unfold cstep
      split
      · exact h.append (List.Sublist.refl _)
      · exact h.trans (List.sublist_append_left ..)
    have ih := cstep_sub es (cstep acc e) (pre ++ [e.1]) k
    rw [List.append_assoc] at ih
    exact ih
theorem lw_lt {es : List (Cut × Bool)} (hv : ∀ e ∈ es, e.1.In) (ha : Asc (es.map (·.1) ++ [last])) : Lt (lw es) := by
  have sub := cstep_sub es [] [] (List.Sublist.refl _)
  rw [List.nil_append] at sub
  have v1 : ∀ c ∈ es.foldl cstep [], c.In := fun c m => by
    obtain ⟨e, me, rfl⟩ := List.mem_map.mp (sub.subset m)
    exact hv e me
  unfold lw ends
  split
  · rename_i ho
    refine ⟨fun c m => ?_, List.Pairwise.sublist (sub.append (List.Sublist.refl _)) ha, by rw [odd_snoc, ho]; rfl⟩
    rcases List.mem_append.mp m with m | m
    · exact v1 c m
    · rw [List.mem_singleton.mp m]; exact last_in
  · rename_i ho
    exact ⟨v1, List.Pairwise.sublist (sub.trans (List.sublist_append_left ..)) ha, by simpa using ho⟩
theorem lw_none {es : List (Cut × Bool)} (h : ∀ e ∈ es, e.2 = false) : lw es = [] := by
  have : ∀ es : List (Cut × Bool), (∀ e ∈ es, e.2 = false) → es.foldl cstep [] = [] := by
    intro es
    induction es with
    | nil => intro _; rfl
    | cons e es ih =>
      intro h
      have z : cstep [] e = [] := by unfold cstep; rw [h e List.mem_cons_self]; rfl
      show es.foldl cstep (cstep [] e) = []
      rw [z]
      exact ih fun x m => h x (List.mem_cons_of_mem _ m)
  unfold lw
  rw [this es h]; rfl
/-- lowest terms -/
def lowQ (a b : Int) : Int × Int := (a / ((Nat.gcd a.natAbs b.natAbs : Nat) : Int), b / ((Nat.gcd a.natAbs b.natAbs : Nat) : Int))
def med (p q : Int × Int) : Int × Int := lowQ (p.1 + q.1) (p.2 + q.2)
theorem lowQ_ex {a b : Int} (h : 0 < b) : ∃ g : Int, 0 < g ∧ a = (lowQ a b).1 * g ∧ b = (lowQ a b).2 * g ∧ 0 < (lowQ a b).2 ∧ Int.gcd (lowQ a b).1 (lowQ a b).2 = 1 := by
  have g0 : 0 < Nat.gcd a.natAbs b.natAbs := Nat.gcd_pos_of_pos_right _ (by omega)
  have d1 : ((Nat.gcd a.natAbs b.natAbs : Nat) : Int) ∣ a := Int.ofNat_dvd_left.mpr (Nat.gcd_dvd_left _ _)
  have d2 : ((Nat.gcd a.natAbs b.natAbs : Nat) : Int) ∣ b := Int.ofNat_dvd_left.mpr (Nat.gcd_dvd_right _ _)
  refine ⟨((Nat.gcd a.natAbs b.natAbs : Nat) : Int), by omega, (Int.ediv_mul_cancel d1).symm, (Int.ediv_mul_cancel d2).symm, Int.ediv_pos_of_pos_of_dvd h (by omega) d2, ?_⟩
  exact Int.gcd_ediv_gcd_ediv_gcd (show 0 < Int.gcd a b from g0)
/-- less -/
def Lss (p q : Int × Int) : Prop := p.1 * q.2 < q.1 * p.2
/-- a fraction from 0 to 1 -/
structure Frc (p : Int × Int) : Prop where
  n0 : 0 ≤ p.1
  le : p.1 ≤ p.2
  d0 : 0 < p.2
  co : Int.gcd p.1 p.2 = 1
/-- fractions ascending from 0 to 1 -/
structure Pts (ps : List (Int × Int)) : Prop where
  hd : ps.head? = some (0, 1)
  ls : ps.getLast? = some (1, 1)
  v : ∀ p ∈ ps, Frc p
  asc : ps.Pairwise Lss
theorem Frc.In {p : Int × Int} (h : Frc p) (hl : p.1 < p.2) (b : Bool) : (⟨p.1, p.2, b⟩ : Cut).In := by
  refine ⟨⟨h.d0, h.co⟩, h.n0, ?_⟩
  unfold Cut.lt last
  simp only
  split
  · rename_i e; omega
  · exact decide_eq_false (by omega)
theorem med_stp {p q : Int × Int} (hp : Frc p) (hq : Frc q) (l : Lss p q) : Stp (med p q).1 (med p q).2 ∧ (med p q).1.natAbs ≤ p.1.natAbs + q.1.natAbs ∧ (med p q).2.natAbs ≤ p.2.natAbs + q.2.natAbs := by
  have d0 := hp.d0; have e0 := hq.d0; have n0 := hp.n0; have m0 := hq.n0; have le := hp.le; have me := hq.le
  obtain ⟨g, g0, e1, e2, b0, co⟩ := lowQ_ex (a := p.1 + q.1) (b := p.2 + q.2) (by omega)
  have l1 : p.1 < p.2 := by
    have l' : p.1 * q.2 < q.1 * p.2 := l
    rcases Int.lt_or_eq_of_le le with h | h
    · exact h
    · rw [h] at l'
      have : q.1 * p.2 ≤ q.2 * p.2 := Int.mul_le_mul_of_nonneg_right me (by omega)
      have c : p.2 * q.2 = q.2 * p.2 := Int.mul_comm ..
      omega
  have x : (lowQ (p.1 + q.1) (p.2 + q.2)).1 = (med p q).1 := rfl
  have y : (lowQ (p.1 + q.1) (p.2 + q.2)).2 = (med p q).2 := rfl
  rw [x] at e1 co; rw [y] at e2 b0 co
  have a0 : 0 ≤ (med p q).1 := by
    rcases Int.lt_or_le (med p q).1 0 with h | h
    · have : (med p q).1 * g < 0 := Int.mul_neg_of_neg_of_pos h g0
      omega
    · exact h
  refine ⟨⟨a0, ?_, co⟩, ?_, ?_⟩
  · have : (med p q).1 * g < (med p q).2 * g := by omega
    exact Int.lt_of_mul_lt_mul_right this (by omega)
  · have : (med p q).1 * 1 ≤ (med p q).1 * g := Int.mul_le_mul_of_nonneg_left (by omega) a0
    omega
  · have : (med p q).2 * 1 ≤ (med p q).2 * g := Int.mul_le_mul_of_nonneg_left (by omega) (by omega)
    omega
/-- at each point and between it and the next one: whether steps fit there -/
def evs (f : Int → Int → Bool) : List (Int × Int) → List (Cut × Bool)
  | p :: q :: r => (⟨p.1, p.2, false⟩, f p.1 p.2) :: (⟨p.1, p.2, true⟩, f (med p q).1 (med p q).2) :: evs f (q :: r)
  | _ => []
theorem lss_lt {p q : Int × Int} (l : Lss p q) (b c : Bool) : (⟨p.1, p.2, b⟩ : Cut).lt ⟨q.1, q.2, c⟩ = true := by
  have l' : p.1 * q.2 < q.1 * p.2 := l
  unfold Cut.lt
  simp only
  rw [if_neg (fun z => by rw [z.1, z.2] at l'; omega)]
  exact decide_eq_true l'
theorem evs_all {f : Int → Int → Bool} : ∀ {ps : List (Int × Int)}, (∀ p ∈ ps, Frc p) → ps.Pairwise Lss → ps.getLast? = some (1, 1) →
    (∀ e ∈ evs f ps, e.1.In) ∧ (∀ e ∈ evs f ps, ∃ x y, Stp x y ∧ e.2 = f x y) ∧ Asc ((evs f ps).map (·.1) ++ [last]) ∧ ∀ c ∈ (evs f ps).map (·.1) ++ [last], ∃ p ∈ ps, c.n = p.1 ∧ c.d = p.2
  | [], _, _, h => nomatch h
  | [p], _, _, h => by
    have e : p = (1, 1) := Option.some.inj h
    subst e
    refine ⟨(fun e m => nomatch m), (fun e m => nomatch m), List.pairwise_singleton .., fun c m => ⟨_, List.mem_cons_self, ?_, ?_⟩⟩ <;> rw [List.mem_singleton.mp m] <;> rfl
  | p :: q :: r, hv, ha, hl => by
    have ha2 := List.pairwise_cons.mp ha
    obtain ⟨i1, i2, i3, i4⟩ := evs_all (f := f) (ps := q :: r) (fun x m => hv x (List.mem_cons_of_mem _ m)) ha2.2 (by rw [← hl]; rfl)
    have fp := hv p List.mem_cons_self
    have fq := hv q (List.mem_cons_of_mem _ List.mem_cons_self)
    have l := ha2.1 q List.mem_cons_self
    have m := (med_stp fp fq l).1
    have lt : p.1 < p.2 := by
      have l' : p.1 * q.2 < q.1 * p.2 := l
      have le := fp.le; have me := fq.le; have d0 := fp.d0
      rcases Int.lt_or_eq_of_le le with h | h
      · exact h
      · rw [h] at l'
        have : q.1 * p.2 ≤ q.2 * p.2 := Int.mul_le_mul_of_nonneg_right me (by omega)
        have c : p.2 * q.2 = q.2 * p.2 := Int.mul_comm ..
        omega
    have ahead : ∀ c ∈ (evs f (q :: r)).map (·.1) ++ [last], ∀ b, (⟨p.1, p.2, b⟩ : Cut).lt c = true := fun c mc b => by
      obtain ⟨x, mx, e1, e2⟩ := i4 c mc
      have := lss_lt (ha2.1 x mx) b c.b
      have ec : c = ⟨x.1, x.2, c.b⟩ := by cases c; simp only at e1 e2; rw [e1, e2]
      rw [ec]; exact this
    refine ⟨fun e me => ?_, fun e me => ?_, ?_, fun c mc => ?_⟩
    · rcases List.mem_cons.mp me with rfl | me
      · exact fp.In lt false
      · rcases List.mem_cons.mp me with rfl | me
        · exact fp.In lt true
        · exact i1 e me
    · rcases List.mem_cons.mp me with rfl | me
      · exact ⟨p.1, p.2, ⟨fp.n0, lt, fp.co⟩, rfl⟩
      · rcases List.mem_cons.mp me with rfl | me
        · exact ⟨_, _, m, rfl⟩
        · exact i2 e me
    · refine List.pairwise_cons.mpr ⟨fun c mc => ?_, List.pairwise_cons.mpr ⟨fun c mc => ahead c mc true, i3⟩⟩
      rcases List.mem_cons.mp mc with rfl | mc
      · unfold Cut.lt; simp
      · exact ahead c mc false
    · rcases List.mem_cons.mp mc with rfl | mc
      · exact ⟨p, List.mem_cons_self, rfl, rfl⟩
      · rcases List.mem_cons.mp mc with rfl | mc
        · exact ⟨p, List.mem_cons_self, rfl, rfl⟩
        · obtain ⟨x, mx, z⟩ := i4 c mc
          exact ⟨x, List.mem_cons_of_mem _ mx, z⟩
theorem lot_lt {f : Int → Int → Bool} {ps : List (Int × Int)} (h : Pts ps) : Lt (lw (evs f ps)) := by
  obtain ⟨a, _, b, _⟩ := evs_all (f := f) h.v h.asc h.ls
  exact lw_lt a b
theorem lot_some {f : Int → Int → Bool} {ps : List (Int × Int)} (h : Pts ps) (ne : lw (evs f ps) ≠ []) : ∃ x y, Stp x y ∧ f x y = true := by
  obtain ⟨_, a, _, _⟩ := evs_all (f := f) h.v h.asc h.ls
  by_cases z : ∀ e ∈ evs f ps, e.2 = false
  · exact absurd (lw_none z) ne
  · have ⟨e, me⟩ := Classical.not_forall.mp z
    have ⟨m, ne⟩ := Classical.not_imp.mp me
    obtain ⟨x, y, s, eq⟩ := a e m
    exact ⟨x, y, s, by rw [← eq]; simpa using ne⟩
/-- the fractions of which one of these multiples is an integer -/
def lcmA (ns : List Nat) : Nat := ns.foldl Nat.lcm 1
def tops (c : Nat) (ns : List Nat) : List Int := ns.flatMap fun k => (List.range k).map fun (j : Nat) => ((c / k : Nat) : Int) * (j : Int)
def wpts (c : Nat) (ns : List Nat) : List (Int × Int) := (sortU (0 :: (c : Int) :: tops c ns)).map fun t => lowQ t c
theorem lcm_fold : ∀ (ns : List Nat) (c : Nat), c ∣ ns.foldl Nat.lcm c ∧ (∀ k ∈ ns, k ∣ ns.foldl Nat.lcm c) ∧ ∀ m, c ∣ m → (∀ k ∈ ns, k ∣ m) → ns.foldl Nat.lcm c ∣ m
  | [], c => ⟨Nat.dvd_refl _, (fun k m => nomatch m), fun m h _ => h⟩
  | n :: ns, c => by
    obtain ⟨a, b, d⟩ := lcm_fold ns (Nat.lcm c n)
    refine ⟨Nat.dvd_trans (Nat.dvd_lcm_left _ _) a, fun k m => ?_, fun m h k => d m (Nat.lcm_dvd h (k n List.mem_cons_self)) fun q mq => k q (List.mem_cons_of_mem _ mq)⟩
    rcases List.mem_cons.mp m with rfl | m
    · exact Nat.dvd_trans (Nat.dvd_lcm_right _ _) a
    · exact b k m
theorem tops_mem {c : Nat} {ns : List Nat} (c0 : 0 < c) (hd : ∀ k ∈ ns, k ∣ c) {t : Int} (h : t ∈ tops c ns) : 0 ≤ t ∧ t < c := by
  obtain ⟨k, mk, h⟩ := List.mem_flatMap.mp h
  obtain ⟨j, mj, rfl⟩ := List.mem_map.mp h
  have lj := List.mem_range.mp mj
  have e : c / k * k = c := Nat.div_mul_cancel (hd k mk)
  refine ⟨Int.mul_nonneg (Int.natCast_nonneg _) (Int.natCast_nonneg _), ?_⟩
  have ck : 0 < c / k ∨ c / k = 0 := (Nat.eq_zero_or_pos _).symm
  rcases ck with ck | ck
  · have : c / k * j < c / k * k := Nat.mul_lt_mul_of_pos_left lj ck
    rw [e] at this
    exact_mod_cast this
  · rw [ck, Nat.zero_mul] at e
    omega
theorem lowQ_lss {a b c : Int} (c0 : 0 < c) (h : a < b) : Lss (lowQ a c) (lowQ b c) := by
  obtain ⟨g, g0, e1, e2, b0, _⟩ := lowQ_ex (a := a) c0
  obtain ⟨g', g0', e1', e2', b0', _⟩ := lowQ_ex (a := b) c0
  show (lowQ a c).1 * (lowQ b c).2 < (lowQ b c).1 * (lowQ a c).2
  have k : a * c < b * c := Int.mul_lt_mul_of_pos_right h c0
  generalize (lowQ a c).1 = x at *
  generalize (lowQ a c).2 = y at *
  generalize (lowQ b c).1 = u at *
  generalize (lowQ b c).2 = v at *
  have q1 : x * g * (v * g') < u * g' * (y * g) := by
    have : x * g * (v * g') = a * c := by rw [← e1, ← e2']
    have z : u * g' * (y * g) = b * c := by rw [← e1', ← e2]
    omega
  have q2 : x * v * (g * g') < u * y * (g * g') := by
    have : x * g * (v * g') = x * v * (g * g') := by rw [Int.mul_assoc, Int.mul_assoc, Int.mul_left_comm g]
    have z : u * g' * (y * g) = u * y * (g * g') := by rw [Int.mul_assoc, Int.mul_assoc, Int.mul_left_comm g', Int.mul_comm g' g]
    omega
  exact Int.lt_of_mul_lt_mul_right q2 (Int.le_of_lt (Int.mul_pos g0 g0'))
theorem sorted_ends {l : List Int} {c : Int} (pw : l.Pairwise (· < ·)) (h0 : 0 ∈ l) (hc : c ∈ l) (hb : ∀ t ∈ l, 0 ≤ t ∧ t ≤ c) : l.head? = some 0 ∧ l.getLast? = some c := by
  constructor
  · cases l with
    | nil => nomatch h0
    | cons a l =>
      rcases List.mem_cons.mp h0 with e | m
      · rw [← e]; rfl
      · have := (List.pairwise_cons.mp pw).1 0 m
        have := (hb a List.mem_cons_self).1
        omega
  · have ne : l ≠ [] := by intro z; rw [z] at h0; nomatch h0
    rw [List.getLast?_eq_some_getLast ne]
    congr 1
    have e := List.dropLast_concat_getLast ne
    rw [← e] at hc pw
    rcases List.mem_append.mp hc with m | m
    · have := (List.pairwise_append.mp pw).2.2 c m _ (List.mem_singleton.mpr rfl)
      have := (hb _ (List.getLast_mem ne)).2
      omega
    · exact (List.mem_singleton.mp m).symm
theorem wpts_pts {c : Nat} {ns : List Nat} (c0 : 0 < c) (hd : ∀ k ∈ ns, k ∣ c) : Pts (wpts c ns) := by
  have pw := sortU_pw (0 :: (c : Int) :: tops c ns)
  have mem : ∀ t, t ∈ sortU (0 :: (c : Int) :: tops c ns) ↔ t ∈ (0 :: (c : Int) :: tops c ns) := fun t => sortU_mem
  have hb : ∀ t ∈ sortU (0 :: (c : Int) :: tops c ns), 0 ≤ t ∧ t ≤ (c : Int) := fun t m => by
    rcases List.mem_cons.mp ((mem t).mp m) with rfl | m
    · omega
    · rcases List.mem_cons.mp m with rfl | m
      · omega
      · have := tops_mem c0 hd m; omega
  obtain ⟨h1, h2⟩ := sorted_ends pw ((mem 0).mpr List.mem_cons_self) ((mem c).mpr (List.mem_cons_of_mem _ List.mem_cons_self)) hb
  have ci : 0 < (c : Int) := by omega
  unfold wpts
  refine ⟨?_, ?_, fun p m => ?_, ?_⟩
  · rw [List.head?_map, h1]
    show some (lowQ 0 c) = _
    unfold lowQ
    rw [show Nat.gcd (0 : Int).natAbs (c : Int).natAbs = c by simp]
    rw [Int.zero_ediv, Int.ediv_self (by omega)]
  · rw [List.getLast?_map, h2]
    show some (lowQ c c) = _
    unfold lowQ
    rw [show Nat.gcd (c : Int).natAbs (c : Int).natAbs = c by simp]
    rw [Int.ediv_self (by omega)]
  · obtain ⟨t, mt, rfl⟩ := List.mem_map.mp m
    obtain ⟨t0, t1⟩ := hb t mt
    obtain ⟨g, g0, e1, e2, b0, co⟩ := lowQ_ex (a := t) ci
    refine ⟨?_, ?_, b0, co⟩
    · rcases Int.lt_or_le (lowQ t c).1 0 with h | h
      · have := Int.mul_neg_of_neg_of_pos h g0; omega
      · exact h
    · have : (lowQ t c).1 * g ≤ (lowQ t c).2 * g := by omega
      exact Int.le_of_mul_le_mul_right this g0
  · rw [List.pairwise_map]
    exact pw.imp fun h => lowQ_lss ci h
end Mt
set_option Elab.async false
set_option linter.all false
set_option maxRecDepth 100000
set_option maxHeartbeats 4000000
namespace Gn
open PySem PySem.Spec PyProof.Rows L2
/-! keywords in the contrary order, all of them -/
def kwR {α : Type} : List α → List α → List α
  | [], ws => ws.reverse
  | _, _ => []
theorem kbR {K : PySem.W.Frag} {fd : FuncData} {ps ks : List Str} (hk : ks = ps.reverse) (h0 : 0 < ps.length) (h : ∀ ws : List Value, ws.length = ps.length → bindArgs fd ⟨[], ks.zip ws⟩ = pure (ps.zip ws.reverse)) : KBinds K fd ps ks kwR kwR :=
  ⟨fun s us ws _ hl => match us, hl with
    | [], hl => .of_eq (h ws (by rw [← hl]; show ws.length = ws.reverse.length; rw [List.length_reverse]))
    | _ :: _, hl => absurd hl (by show ¬ 0 = ps.length; omega), fun {vs us zs ws} r rz => by
    cases r with
    | nil => exact Vals.reverse rz
    | cons _ _ => exact .nil⟩
theorem kwOfR {K : PySem.W.Frag} {x qual : Str} {st : Stmt} {f : Addr} {fd : FuncData} {ps ks : List Str} (F : Fun K x qual st f fd) (hk : ks = ps.reverse) (h0 : 0 < ps.length)
    (h : ∀ (kV doc pm : Value) (an : Option Addr) (cdv ct : Value) (ws : List Value), ws.length = ps.length → bindArgs (PySem.W.fnOf x qual (defArgs st) (defBody st) (defScope st) .none kV doc pm an cdv ct) ⟨[], ks.zip ws⟩ = pure (ps.zip ws.reverse)) : KBinds K fd ps ks kwR kwR := by
  obtain ⟨oc, od, kV, doc, pm, an, cdv, ct, osl, rfl, lk, hcd⟩ := F.ex
  exact kbR hk h0 fun ws hl => h kV doc pm an cdv ct ws hl
/-- divmod by a positive divisor of any size -/
theorem call_divmodW {X : Cx} : CallR X (.builtin "divmod") (fun xs H Q => ∃ i j, xs = [.int i, .int j] ∧ CDivW i j ∧ ∀ p, H p = none → Q (.ref p) (upd H p (.tup [.int (i / j), .int (i % j)]))) := by
  intro pins s σ H xs us Q I r h
  obtain ⟨i, j, rfl, ⟨h1, h2⟩, q⟩ := h
  obtain ⟨u, w', rfl, ⟨t, rfl⟩, ⟨t', rfl⟩⟩ := vals2 r
  refine divmod_int (by omega) ?_ (.inl (PyProof.noPylong_of_log2 h2))
  rw [Int.fdiv_eq_ediv_of_nonneg i (by omega), Int.fmod_eq_emod_of_nonneg i (by omega)]
  have hn : H s.heap.objs.size = none := I.hok.fresh (Nat.le_refl _)
  refine ⟨.ref s.heap.objs.size, _, ?_, rfl, q _ hn⟩
  refine I.laid (fun b o e => Heap.get?_push_of_some _ e) (Nat.le_refl _) ⟨by simp only [List.length_cons, List.length_nil]; rw [sizeLine_eq]; decide, [.int (i / j) s.toks, .int (i % j) (s.toks + 1)], .cons ⟨_, rfl⟩ (.cons ⟨_, rfl⟩ .nil), ?_⟩
  exact ⟨_, Heap.get?_push_size s.heap rfl, rfl, 0, rfl⟩
end Gn
namespace Gn
open PySem PySem.Spec PyProof.Rows L2
theorem pair_eqv {a b c d : Int} : PyData.eqv (.tuple [.int a, .int b]) (.tuple [.int c, .int d]) = decide (a = c ∧ b = d) := by
  rw [Bool.eq_iff_iff]
  simp [PyData.eqv, PyData.eqvAll]
/-- either branch, what holds of either -/
theorem tIf_anyG {tt : TT} {ta tb : TE} {σ : L2.St} {H : Hp} {Q : VK} (Φ : V → Hp → Prop) (c : Bool) (ht : ∀ R : Bool → Hp → Prop, R c H → tt σ H R)
    (h1 : c = true → ∀ R : VK, (∀ v H', Φ v H' → R v H') → ta σ H R) (h2 : c = false → ∀ R : VK, (∀ v H', Φ v H' → R v H') → tb σ H R) (k : ∀ v H', Φ v H' → Q v H') : tIf tt ta tb σ H Q := by
  refine ht _ ?_
  cases c with
  | true => exact iteT (h1 rfl Q k)
  | false => exact iteF (h2 rfl Q k)
end Gn
namespace Gn
open PySem PySem.Spec PyProof.Rows L2
/-- either branch, what holds of either; all may make new objects -/
theorem tIf_same {tt : TT} {ta tb : TE} {σ : L2.St} {H : Hp} {Q : VK} (Φ : V → Hp → Prop) (c : Bool) (ht : ∀ R : Bool → Hp → Prop, (∀ H', Same H H' → R c H') → tt σ H R)
    (h1 : c = true → ∀ H', Same H H' → ∀ R : VK, (∀ v H2, Φ v H2 → R v H2) → ta σ H' R) (h2 : c = false → ∀ H', Same H H' → ∀ R : VK, (∀ v H2, Φ v H2 → R v H2) → tb σ H' R) (k : ∀ v H', Φ v H' → Q v H') : tIf tt ta tb σ H Q := by
  refine ht _ fun H' s => ?_
  cases c with
  | true => exact iteT (h1 rfl H' s Q k)
  | false => exact iteF (h2 rfl H' s Q k)
end Gn
set_option Elab.async false
set_option linter.all false
set_option maxRecDepth 100000
set_option maxHeartbeats 4000000
namespace Gn
open PySem PySem.Spec PyProof.Rows L2
/-! set(l) of up to a thousand ints, and how many unlike ones there are -/
def rSetN (K : PySem.W.Frag) (w : World) : List V → Hp → VK → Prop := fun xs H Q => ∃ (l : Addr) (ns : List Int), xs = [.ref l] ∧ SqL K H l (ns.map V.int) ∧ ns.length ≤ 1000 ∧ ∀ p (ks : List Int), H p = none → ks.Nodup → ks.length ≤ ns.length → (∀ k, k ∈ ks ↔ k ∈ ns) → Q (.ref p) (upd H p (SetO w p (fun j => decide (j ∈ ns)) ks.length))
theorem cr_setN {X : Cx} (hc : X.calm = true) : CallR X (.type "set") (rSetN X.K X.w) := by
  intro pins s σ H xs us Q I r h
  obtain ⟨l, ns, rfl, hl, hf, q⟩ := h
  rw [Vals.ref1 r]
  obtain ⟨its, rv, pl, hz⟩ := I.list hl
  refine set_of_ints ns (I.ok.hd hc) pl.isList (by simpa using intsAre_of rv) (by unfold scanBound; omega) fun s2 hs => ?_
  obtain ⟨h', tk, c, rfl, hS, hcn, k⟩ := hs
  obtain ⟨o, es, ep, t, ho, hx, hd, g, nd, hm, hb, hft, hn, hr⟩ := id hS
  have len : (es.toList.map keyOf).length = c := by rw [List.length_map, Array.length_toList]; exact hn
  have z := q s.heap.objs.size (es.toList.map keyOf) (I.hok.fresh (Nat.le_refl _)) nd (by rw [len]; exact hcn) fun j => by rw [← hm j, decide_eq_true_eq]
  rw [len] at z
  exact ⟨.ref s.heap.objs.size, _, I.laid (t' := tk) k (Nat.le_refl _) (setO_new hS), rfl, z⟩
end Gn
set_option Elab.async false
set_option linter.all false
set_option maxRecDepth 100000
set_option maxHeartbeats 4000000
/-! for i, x in enumerate(a tuple); xs.extend(a tuple) -/
namespace Gn
open PySem PySem.Spec PyProof.Rows L2
abbrev enNew (a : Addr) : Obj := { cls := .type "enumerate", data := .fields #[.none, .bool false, .ref a, rawInt 0, .none, .none] }
theorem enum_meets1 {v : Value} {o : Obj} {F : Heap → Prop} (B : Begins v o F) : Meets (Builtin.«enumerate.__new__» ⟨[.type "enumerate", v], []⟩) (fun _ R s => F s.heap ∧
    R (.ok (.ret (.ref (s.heap.push o).objs.size))) { s with heap := (s.heap.push o).push (enNew s.heap.objs.size) }) := by
  refine .of_wp fun P w A R s h => ?_
  obtain ⟨h0, gs, dr, tk, sys⟩ := s
  have isSub := sub_enumerate
  have it : ∀ {A' : Around} {E Q : Value → Shared → Prop}, Q (.ref h0.objs.size) ⟨h0.push o, gs, dr, tk, sys⟩ → wpAny (model P w) A' (pyIter v) Q E ⟨h0, gs, dr, tk, sys⟩ := fun k => B.iter P w _ _ ⟨h0, gs, dr, tk, sys⟩ _ h.1 k
  replace h := h.2
  wp_walk using it
  refine wpAny_stack_any fun frames => wpAny_pure ?_
  split
  · rename_i cl _ _ _ _ _
    cases (cl == Value.type "enumerate") <;> (wp_walk using it; exact ⟨_, rfl, h⟩)
  · wp_walk using it
    exact ⟨_, rfl, h⟩
section
variable {P : Program} {w : World} {A : Around} {E : Value → Shared → Prop} {s : Shared}
theorem enum_made {v : Value} {o : Obj} {Fh : Heap → Prop} {Q : Value → Shared → Prop} (B : Begins v o Fh) (hF : Fh s.heap)
    (k : ∀ h', IsEnum h' (s.heap.objs.size + 1) s.heap.objs.size 0 .none → h'.get? s.heap.objs.size = some o → (∀ b u, s.heap.get? b = some u → h'.get? b = some u) → Q (.ref (s.heap.objs.size + 1)) { s with heap := h' }) :
    wpAny (model P w) A (call (.type "enumerate") [v]) Q E s := by
  refine callType_new PySem.F.called_enumerate (by decide) (PySem.F.typeCall_enumerate_1 _) (PySem.F.newCall_enumerate_1 _) (fun obj => PySem.F.args_object_init_2 obj _) PySem.F.entry_enumerate_new (enum_meets1 B) ⟨hF, ?_⟩
  have sz : (s.heap.push o).objs.size = s.heap.objs.size + 1 := Heap.size_push ..
  have at1 := Heap.get?_push_size (s.heap.push o) (o := enNew s.heap.objs.size) rfl
  rw [sz] at at1
  show _ ∧ _
  rw [sz]
  exact ⟨⟨_, at1, rfl⟩, k _ at1 (Heap.get?_push_of_some _ (Heap.get?_push_size _ B.free)) fun b u e => Heap.get?_push_of_some _ (Heap.get?_push_of_some _ e)⟩
end
/-- the tuple's items in new pairs with their places -/
def ItE (K : PySem.W.Frag) (a : Addr) : It :=
  ⟨fun i H => ∃ xs x, SqT K H a xs ∧ xs[i]? = some x, fun i H v G => ∃ r x, v = .ref r ∧ H r = none ∧ G = upd H r (.tup [.int (i : Nat), x]) ∧ ∀ xs, SqT K H a xs → xs[i]? = some x, fun i H => ∃ xs : List V, SqT K H a xs ∧ xs.length ≤ i⟩
theorem turn_en {P : Program} {w : World} {K : PySem.W.Frag} {es : List Expr} {kk : Nat} {tp : Pos} (a e it : Addr) (hea : e ≠ a) (hai : a ≠ it) :
    Turn P w K (.Tuple es kk tp) (ItE K a) [e, it] e (fun i h => (∃ old, IsEnum h e it ((i : Nat) : Int) old) ∧ h.IsTupleIter it a i ∧ e ≠ it) where
  mem := List.mem_cons_self
  obj := fun i h st b hb => by
    obtain ⟨⟨old, he⟩, ⟨o, ho, _, hd⟩, _⟩ := st
    simp only [List.mem_cons, List.not_mem_nil, or_false] at hb
    rcases hb with rfl | rfl
    · exact ⟨_, he, fun v z => nomatch z⟩
    · exact ⟨o, ho, fun v z => by rw [hd] at z; cases z⟩
  keep := fun i h h' st k => by
    obtain ⟨⟨old, he⟩, hi, ne⟩ := st
    exact ⟨⟨old, k e List.mem_cons_self _ he⟩, hi.at fun o z => k it (List.mem_cons_of_mem _ List.mem_cons_self) o z, ne⟩
  item := by
    intro X eP ew eK hc i pins s σ H E I off st go
    subst eP ew eK
    obtain ⟨⟨old, he⟩, hi, ne⟩ := st
    obtain ⟨xs, x, hs, hx⟩ := go
    obtain ⟨its, rv, tp, hz⟩ := I.tuple hs
    obtain ⟨u, hu, ru⟩ := rv.get hx
    have elt : e < s.heap.objs.size := Heap.lt_size he
    have ilt : it < s.heap.objs.size := by obtain ⟨_, z, _⟩ := hi; exact Heap.lt_size z
    have lt : i < its.toArray.size := by rw [List.size_toArray]; exact (List.getElem?_eq_some_iff.mp hu).1
    have dr : Draws X.prog X.w X.A.in1 it [it, a] its.toArray.size (fun i v => its.toArray[i]? = some v) (fun i h => h.IsTupleIter it a i ∧ h.IsTuple a its.toArray) := Draws.tuple (show X.A.in1.handled = none from I.ok.hd hc) it a hai its.toArray
    refine wpAny_pyNext_enum_itemD dr he ⟨hi, tp⟩ lt ne (by simp only [List.mem_cons, List.not_mem_nil, or_false, not_or]; exact ⟨ne, hea⟩) fun y h1 tk hy out st1 new sz k => ?_
    have ey : y = u := by
      have z : its.toArray[i]? = some u := by simpa using hu
      rw [z] at hy
      exact (Option.some.inj hy).symm
    subst ey
    refine ⟨_, rfl, wpAny_letOwnedTupleGo_enum (s := { s with heap := h1, toks := tk + 1 }) out fun h2 he2 sb => ?_⟩
    have new2 : h2.get? s.heap.objs.size = some { cls := .type "tuple", data := .seq #[.int i tk, y] } := (sb.2 _ (Nat.ne_of_gt elt)).trans new
    have ok : ObjOk X.prog X.w (upd H s.heap.objs.size (.tup [.int (i : Nat), x])) h2 s.heap.objs.size (.tup [.int (i : Nat), x]) :=
      ⟨by show 2 ≤ sizeLine; decide, [.int i tk, y], .cons ⟨_, rfl⟩ (.cons ru .nil), ⟨_, new2, rfl, _, rfl⟩⟩
    have I2 : Inv X pins σ (upd H s.heap.objs.size (.tup [.int (i : Nat), x])) { s with heap := h2, toks := tk + 1 } :=
      I.turnedNew (ch := [e, it]) (fun b ob hb z => (sb.2 b (fun q => hb (by simp [q]))).trans (k b ob (fun q => hb (by simp [q])) (fun q => hb (by simp [q])) z)) off (Nat.le_refl _) ok
    refine ⟨.ref s.heap.objs.size, _, I2, rfl, ⟨_, x, rfl, I.hok.fresh (Nat.le_refl _), rfl, fun ys hy => by rw [I.tuple_inj hy hs]; exact hx⟩, ⟨⟨y, ?_⟩, st1.1.at fun o z => (sb.2 it (Ne.symm ne)).trans z, ne⟩, fun b hb => ?_⟩
    · rw [show ((i + 1 : Nat) : Int) = (i : Int) + 1 by omega]
      exact he2
    · have lt : b < s.heap.objs.size := by
        simp only [List.mem_cons, List.not_mem_nil, or_false] at hb
        rcases hb with rfl | rfl <;> assumption
      rw [upd_ne (Nat.ne_of_lt lt)]
      exact (off b hb).1
  done := by
    intro X eP ew eK hc i pins s σ H E I off st stop
    subst eP ew eK
    obtain ⟨⟨old, he⟩, hi, ne⟩ := st
    obtain ⟨xs, hs, hx⟩ := stop
    obtain ⟨its, rv, tp, hz⟩ := I.tuple hs
    obtain ⟨f0, f1, f2, f3, f4, f5⟩ := off it (List.mem_cons_of_mem _ List.mem_cons_self)
    have ln := rv.length
    have hT : s.TypeIs (.ref e) "enumerate" := ⟨_, he, rfl⟩
    unfold pyNext
    refine wpAny_bind (wpAny_attempt (wpAny_callSpecial?_slot (name := Str.ofString "__next__") hT PySem.F.slot_enumerate_next (wpAny_call_entry PySem.F.slot_enumerate_next hT PySem.F.entry_enumerate_next ?_ (PySem.F.args_enumerate_next_1 _))))
    show wpAny _ _ (field (.ref e) 2 >>= _) _ _ _
    refine wpAny_bind (wpAny_field he rfl (x := .ref it) rfl (wpAny_bind (PySem.wpAny_nextOf_tuple_end (I.ok.hd hc) hi tp (by simp; omega) fun h' x eb hx' => ?_)))
    obtain ⟨o, ho, hcl⟩ := hx'
    exact wpAny_bind (wpAny_isInstance (T := "StopIteration") (b := true) ⟨o, ho, hcl⟩ isSubtype_stop (wpAny_pure ⟨rfl, I.turned (t' := s.toks) (fun b ob hb z => eb b ob hb z) f0 f1 f3 f4 f5⟩))
  self := fun A i s Q E st h => by
    obtain ⟨⟨_, he⟩, _⟩ := st
    exact wpAny_pyIter_enum he h
def iEnumT (K : PySem.W.Frag) (ta : TA) : TI := fun σ H R => ta σ H fun vs G => ∃ a xs, vs = [.ref a] ∧ SqT K G a xs ∧ R (ItE K a) G
theorem pi_enumT {X : Cx} {e : Expr} {ta : TA} {p pos tp : Pos} {es : List Expr} {kk : Nat} (hg : Gl X "enumerate") (hm : X.mg "enumerate" = none) (ha : PA X [e] ta) (hs : starEach [e] X.env = [(false, eval e X.env)] := by rfl) :
    PI X (.Tuple es kk tp) (.Call (.Name "enumerate" p) [e] [] pos) (iEnumT X.K ta) := by
  constructor
  intro pins s σ H R I h
  refine Call_ (ld_blt I hg hm boot_enumerate (PyProof.Rows.callWith_type1 (thn (ha.run pos pins s σ H _ I h) fun us s1 ⟨vs, H1, I1, r1, q1⟩ => ?_) hs rfl))
  obtain ⟨a, xs, rfl, hq, q⟩ := q1
  rw [Vals.ref1 r1]
  obtain ⟨its, rv, tp, hz⟩ := I1.tuple hq
  have alt : a < s1.heap.objs.size := by obtain ⟨o, z, _⟩ := tp; exact Heap.lt_size z
  refine enum_made (begins_tuple a its.toArray) tp fun h' he hit k => wpAny_pyIter_enum he ?_
  have I2 : Inv X pins σ H1 { s1 with heap := h' } := I1.kept (t' := s1.toks) k
  refine ⟨s1.heap.objs.size + 1, [s1.heap.objs.size + 1, s1.heap.objs.size], _, _, H1, rfl, I2, turn_en a (s1.heap.objs.size + 1) s1.heap.objs.size (Nat.ne_of_gt (Nat.lt_succ_of_lt alt)) (Nat.ne_of_lt alt), ⟨⟨.none, he⟩, ⟨_, hit, rfl, rfl⟩, Nat.succ_ne_self _⟩, fun b hb => ?_, q⟩
  have le : s1.heap.objs.size ≤ b := by
    simp only [List.mem_cons, List.not_mem_nil, or_false] at hb
    rcases hb with rfl | rfl
    · exact Nat.le_succ _
    · exact Nat.le_refl _
  exact I1.fpOk le (I1.hok.fresh le)
/-- the loop over it -/
theorem for_en {K : PySem.W.Frag} {a : Addr} {xs : List V} {g : TG} {tb : TS} {D : Ends} {σ : L2.St} {H : Hp} (Pv : Nat → L2.St → Hp → Prop) (h0 : Pv 0 σ H) (hq : ∀ i σ H, Pv i σ H → SqT K H a xs)
    (hs : ∀ (i : Nat) (x : V) (r : Addr) (σ : L2.St) (H : Hp), xs[i]? = some x → Pv i σ H → H r = none → g (.ref r) σ (upd H r (.tup [.int (i : Nat), x])) fun σ2 H2 => tb { D with nx := Pv (i + 1), ct := Pv (i + 1), bk := D.nx } σ2 H2) (hd : ∀ σ H, Pv xs.length σ H → D.nx σ H) :
    ∃ W : Nat → Nat → L2.St → Hp → Prop, (∃ m, W 0 m σ H) ∧ ∀ i m σ H, W i m σ H →
      ((ItE K a).stop i H ∧ D.nx σ H) ∨ ((ItE K a).go i H ∧ ∃ N : L2.St → Hp → Prop, (∀ σ' H', N σ' H' → ∃ m', m' < m ∧ W (i + 1) m' σ' H') ∧ ∀ v H', (ItE K a).yld i H v H' → g v σ H' fun σ2 H2 => tb { D with nx := N, ct := N, bk := D.nx } σ2 H2) := by
  refine ⟨fun i m σ H => m = xs.length - i ∧ i ≤ xs.length ∧ Pv i σ H, ⟨_, rfl, Nat.zero_le _, h0⟩, ?_⟩
  rintro i m σ H ⟨rfl, hi, p⟩
  have qx := hq i σ H p
  by_cases hlt : i < xs.length
  · have hx : xs[i]? = some xs[i] := List.getElem?_eq_getElem hlt
    refine .inr ⟨⟨xs, _, qx, hx⟩, Pv (i + 1), fun σ' H' p' => ⟨xs.length - (i + 1), by omega, rfl, hlt, p'⟩, fun v H' y => ?_⟩
    obtain ⟨r, x, rfl, hr, rfl, f1⟩ := y
    exact hs i x r σ H (f1 xs qx) p hr
  · have e : i = xs.length := by omega
    subst e
    exact .inl ⟨⟨xs, qx, Nat.le_refl _⟩, hd σ H p⟩
/-- xs.extend(t) -/
theorem ext_meets (l : Addr) (items : Array Value) (n : Nat) (b : Addr) (jt : Array Value) (n2 : Nat) (dct : Option Addr) (sl : Array (Option Value)) (hs0 : ¬(!items.isEmpty && Builtin.List.listTooLong (items.size + jt.size)) = true) (hs1 : items.size ≤ sizeLine) (hs2 : items.size + jt.size ≤ sizeLine + 1) :
    Meets (Builtin.«list.extend» ⟨[.ref l, .ref b], []⟩) (fun _ R s => s.heap.get? l = some { cls := .type "list", data := .seq items n } ∧ s.heap.get? b = some { cls := .type "tuple", dict := dct, data := .seq jt n2, slots := sl } ∧
      R (.ok (.ret Value.none)) { s with heap := s.heap.update l (Obj.mapSeq fun x => x ++ jt), toks := s.toks }) := by
  refine .of_wp fun P w A R s h => ?_
  obtain ⟨hp, g, d, tk, os⟩ := s
  obtain ⟨hl, hb, k⟩ := h
  have f1 := AutoSeq1.sub_tuple_tuple
  have f2 := AutoSeq1.sub_list_list
  have f3 := AutoSeq1.sub_tuple_list
  have f4 := AutoSeq1.sub_list_tuple
  have z : (items ++ jt).size ≤ sizeLine + 1 := by rw [Array.size_append]; exact hs2
  wp_walk using (wpAny_updateSeq hl rfl (hz := hs1) (_hz' := z)), AutoSeq1.wpAny_loadPart' hl, AutoSeq1.wpAny_loadPart' hb
  exact ⟨_, rfl, k⟩
def rExtT (K : PySem.W.Frag) : V → List V → Hp → VK → Prop := fun x vs H Q => ∃ l b xs zs, x = .ref l ∧ vs = [.ref b] ∧ H l = some (.lst xs) ∧ SqT K H b zs ∧ xs.length + zs.length ≤ sizeLine ∧ Q .non (upd H l (.lst (xs ++ zs)))
theorem mt_extT {X : Cx} : MtM X "list.extend" (rExtT X.K) := by
  intro pins s σ H x vs v us Q I rx rv h
  obtain ⟨l, b, xs, zs, rfl, rfl, hl, hb, hz, q⟩ := h
  cases rx
  obtain ⟨u, rfl, ru⟩ := rv.one
  cases ru
  obtain ⟨z, its, n, r, len, e⟩ := I.lstM hl
  obtain ⟨jts, rj, tp, _⟩ := I.tuple hb
  obtain ⟨⟨oc, od, odt, osl⟩, e2, ec, n2, ed⟩ := tp
  obtain rfl : oc = .type "tuple" := ec
  obtain rfl : odt = .seq jts.toArray n2 := ed
  have lj := rj.length
  have sz : its.toArray.size + jts.toArray.size ≤ sizeLine := by rw [List.size_toArray, List.size_toArray]; omega
  have long : ¬ (!its.toArray.isEmpty && Builtin.List.listTooLong (its.toArray.size + jts.toArray.size)) = true := by
    rw [notLongL sz, Bool.and_false]
    exact Bool.false_ne_true
  refine call_meets PySem.F.slot_list_extend ⟨_, e, rfl⟩ PySem.F.entry_list_extend (PySem.F.args_list_extend_2 _ _) (ext_meets l its.toArray n b jts.toArray n2 od osl long (by rw [List.size_toArray]; omega) (by omega)) ⟨e, e2, ?_⟩
  refine ⟨.non, _, I.lset (its' := its ++ jts) hl e (by simp) (r.append rj) ?_, rfl, q⟩
  rw [List.length_append]
  omega
end Gn
set_option Elab.async false
set_option linter.all false
set_option maxRecDepth 100000
set_option maxHeartbeats 4000000
/-! xs[::2], xs[1::2] of a list; math.lcm -/
namespace Gn
open PySem PySem.Spec PyProof.Rows L2
/-- each second one -/
def evens {α : Type} : List α → List α
  | [] => []
  | [a] => [a]
  | a :: _ :: r => a :: evens r
theorem evens_map {α β : Type} (f : α → β) : ∀ l : List α, evens (l.map f) = (evens l).map f
  | [] => rfl
  | [_] => rfl
  | a :: b :: r => congrArg (f a :: ·) (evens_map f r)
theorem evens_pick {α : Type} : ∀ l : List α, ((List.range ((l.length + 1) / 2)).map fun (k : Nat) => (0 + 2 * (k : Int)).toNat).filterMap (fun i => l[i]?) = evens l
  | [] => by simp [evens]
  | [a] => by simp [evens]
  | a :: b :: r => by
    have ih := evens_pick r
    have e : (r.length + 1 + 1 + 1) / 2 = (r.length + 1) / 2 + 1 := by omega
    show ((List.range ((r.length + 1 + 1 + 1) / 2)).map _).filterMap _ = a :: evens r
    rw [e, List.range_succ_eq_map, List.map_cons, List.map_map]
    show a :: List.filterMap _ (List.map _ _) = _
    congr 1
    rw [← ih, List.filterMap_map, List.filterMap_map]
    refine congrArg (fun f => List.filterMap f _) (funext fun k => ?_)
    show (a :: b :: r)[(0 + 2 * ((k + 1 : Nat) : Int)).toNat]? = r[(0 + 2 * (k : Int)).toNat]?
    rw [show (0 + 2 * ((k + 1 : Nat) : Int)).toNat = (0 + 2 * (k : Int)).toNat + 1 + 1 by omega]
    rfl
theorem evens_len {α : Type} : ∀ l : List α, (evens l).length ≤ l.length
  | [] => Nat.le_refl _
  | [_] => Nat.le_refl _
  | a :: b :: r => by have := evens_len r; show (evens r).length + 1 ≤ r.length + 1 + 1; omega
theorem pick_0 (xs : Array Value) : slicePick xs none none (some 2) = (evens xs.toList).toArray := by
  unfold slicePick
  have e : sliceBounds none none (some 2) xs.size = (0, (xs.size : Int), 2) := rfl
  rw [e]
  congr 1
  rw [← evens_pick]
  show List.filterMap _ (List.map _ (List.range (if (0 : Int) < (xs.size : Int) then ((xs.size : Int) - 0 + 2 - 1) / 2 else 0).toNat)) = _
  have c : (if (0 : Int) < (xs.size : Int) then ((xs.size : Int) - 0 + 2 - 1) / 2 else 0).toNat = (xs.toList.length + 1) / 2 := by
    rw [Array.length_toList]; split <;> omega
  rw [c]
  refine congrArg (fun f => List.filterMap f _) (funext fun i => ?_)
  exact (Array.getElem?_toList).symm
theorem pick_1 (xs : Array Value) (hx : 1 ≤ xs.size) : slicePick xs (some 1) none (some 2) = (evens (xs.toList.drop 1)).toArray := by
  unfold slicePick
  have e : sliceBounds (some 1) none (some 2) xs.size = (1, (xs.size : Int), 2) := by
    show ((if (2 : Int) > 0 then max 0 (min (if (1 : Int) < 0 then 1 + (xs.size : Int) else 1) (xs.size : Int)) else _), _, _) = _
    rw [if_pos (by decide), if_neg (by decide)]
    have : max 0 (min 1 (xs.size : Int)) = 1 := by omega
    rw [this]; rfl
  rw [e]
  congr 1
  rw [← evens_pick]
  show List.filterMap _ (List.map _ (List.range (if (1 : Int) < (xs.size : Int) then ((xs.size : Int) - 1 + 2 - 1) / 2 else 0).toNat)) = _
  have c : (if (1 : Int) < (xs.size : Int) then ((xs.size : Int) - 1 + 2 - 1) / 2 else 0).toNat = ((xs.toList.drop 1).length + 1) / 2 := by
    rw [List.length_drop, Array.length_toList]; split <;> omega
  rw [c, List.filterMap_map, List.filterMap_map]
  refine congrArg (fun f => List.filterMap f _) (funext fun k => ?_)
  show xs[(1 + 2 * (k : Int)).toNat]? = (xs.toList.drop 1)[(0 + 2 * (k : Int)).toNat]?
  rw [List.getElem?_drop, Array.getElem?_toList]
  congr 1
  omega
theorem pick_1e (xs : Array Value) (hx : xs.size = 0) : slicePick xs (some 1) none (some 2) = (evens (xs.toList.drop 1)).toArray := by
  have e : xs = #[] := Array.eq_empty_of_size_eq_zero hx
  subst e; rfl
section
variable {X : Cx}
theorem vals_evens : ∀ {xs : List V} {us : List Value}, Vals xs us → Vals (evens xs) (evens us)
  | [], [], _ => .nil
  | [_], [_], h => h
  | _ :: _ :: _, _ :: _ :: _, .cons a (.cons _ c) => .cons a (vals_evens c)
  | [], _ :: _, h => nomatch h
  | _ :: _, [], h => nomatch h
  | [_], _ :: _ :: _, .cons _ h => nomatch h
  | _ :: _ :: _, [_], .cons _ h => nomatch h
def tEv (K : PySem.W.Frag) (off : Nat) (te : TE) : TE := fun σ H Q => te σ H fun x H1 => ∃ a xs, x = .ref a ∧ SqL K H1 a xs ∧ ∀ p, H1 p = none → Q (.ref p) (upd H1 p (.lst (evens (xs.drop off))))
theorem ev_core {lo : Option Expr} {tl : TO} {l : Option Int} (hl : PO X lo tl) {e : Expr} {te : TE} {k1 : Nat} {p1 p3 pos : Pos} (he : PE X e te) (hw : ∀ σ H (R : Option Int → Hp → Prop), R l H → tl σ H R) (off : Nat) (pk : ∀ xs : Array Value, slicePick xs l none (some 2) = (evens (xs.toList.drop off)).toArray) :
    PE X (.Subscript e (.Slice lo none (some (.Constant (.int 2) k1 p1)) p3) pos) (tEv X.K off te) := by
  refine ⟨fun pins s σ H Q I h => ?_⟩
  refine Subscript_ (thn (he.run pins s σ H _ I h) fun v s1 ⟨x, H1, I1, r1, q1⟩ => ?_)
  obtain ⟨a, xs, ex, hx, q⟩ := q1
  subst ex
  cases r1
  have hst : PO X (some (.Constant (.int 2) k1 p1)) (tPart (tC (.int 2))) := po_some pe_int
  refine wpAny_Slice (thn (hl.run pins s1 σ H1 (fun o H2 => o = l ∧ H2 = H1) I1 (hw _ _ _ ⟨rfl, rfl⟩)) fun vl s2 ⟨l', H2, I2, pl, el, e2⟩ => ?_)
  subst el e2
  refine thn (po_none.run pins s2 σ H2 (fun o H3 => o = none ∧ H3 = H2) I2 ⟨rfl, rfl⟩) fun vu s3 ⟨u, H3, I3, pu, eu, e3⟩ => ?_
  subst eu e3
  refine thn (hst.run pins s3 σ H3 (fun o H4 => o = some 2 ∧ H4 = H3) I3 ⟨2, rfl, rfl, rfl⟩) fun vs s4 ⟨o, H4, I4, ps, eo, e4⟩ => ?_
  subst eo e4
  have I5 : Inv X pins σ H4 { s4 with heap := s4.heap.push { cls := .type "slice", data := .fields #[vl, vu, vs] } } := I4.kept (t' := s4.toks) fun b ob q => Heap.get?_push_of_some _ q
  obtain ⟨its, r, ht, hz⟩ := I5.list hx
  have hlen := r.length
  show wpAny (model X.prog X.w) X.A (subscriptTail e (.Slice lo none (some (.Constant (.int 2) k1 p1)) p3) (.ref a) (.ref s4.heap.objs.size)) (EP X pins σ Q) X.xe { s4 with heap := s4.heap.push { cls := .type "slice", data := .fields #[vl, vu, vs] } }
  refine tail_any (ops := [.ref a, .ref s4.heap.objs.size]) ht.isList.typeIs (slot_list_getitem.lookup) ?_ (by with_unfolding_all rfl)
  refine wpAny_getItem_list_slice ht.isList (Heap.IsSliceOf.new _ vl vu vs) pl pu ps (by simp) ?_ (by rw [List.size_toArray]; omega)
  rw [pk]
  refine ⟨.ref _, _, I5.laid (t' := s4.toks) (o := .lst (evens (xs.drop off))) (fun b ob q => Heap.get?_push_of_some _ q) (Nat.le_refl _) ?_, rfl, q _ (I5.hok.fresh (Nat.le_refl _))⟩
  exact ⟨Nat.le_trans (evens_len _) (Nat.le_trans (by rw [List.length_drop]; omega) hz), _, 0, vals_evens (Vals.drop off r), Heap.get?_push_size _ rfl⟩
/-- xs[::2] -/
theorem pe_ev0 {e : Expr} {te : TE} {k1 : Nat} {p1 p3 pos : Pos} (he : PE X e te) : PE X (.Subscript e (.Slice none none (some (.Constant (.int 2) k1 p1)) p3) pos) (tEv X.K 0 te) :=
  ev_core (tl := tNoPart) (l := none) po_none he (fun _ _ _ h => h) 0 fun xs => pick_0 xs
/-- xs[1::2] -/
theorem pe_ev1 {e : Expr} {te : TE} {k0 k1 : Nat} {p0 p1 p3 pos : Pos} (he : PE X e te) : PE X (.Subscript e (.Slice (some (.Constant (.int 1) k0 p0)) none (some (.Constant (.int 2) k1 p1)) p3) pos) (tEv X.K 1 te) :=
  ev_core (tl := tPart (tC (.int 1))) (l := some 1) (po_some pe_int) he (fun _ _ _ h => ⟨1, rfl, h⟩) 1 fun xs => by
    by_cases z : xs.size = 0
    · exact pick_1e xs z
    · exact pick_1 xs (by omega)
/-- math.lcm of two -/
def rLcm : List V → Hp → VK → Prop := fun vs H Q => ∃ a b : Nat, vs = [.int a, .int b] ∧ a < 2 ^ 64 ∧ b < 2 ^ 64 ∧ Q (.int ((Nat.lcm a b : Nat) : Int)) H
theorem cr_lcm : CallR X (.builtin "math.lcm") rLcm := by
  intro pins s σ H vs us Q I r h
  obtain ⟨a, b, rfl, la, lb, q⟩ := h
  obtain ⟨t, u, rfl⟩ := Vals.int2 r
  have e : ((((Nat.lcm 1 (a : Int).natAbs).lcm (b : Int).natAbs : Nat) : Int)) = ((Nat.lcm a b : Nat) : Int) := by
    rw [PySem.W.mc_lcm_one, Int.natAbs_natCast, Int.natAbs_natCast]
  refine PySem.W.mg_lcm_v (by rw [Int.natAbs_natCast]; exact la) (by rw [Int.natAbs_natCast]; exact lb) e ?_ ⟨.int _, H, I.tok _, ⟨_, rfl⟩, q⟩
  rw [Int.natAbs_natCast]
  have l1 := PySem.W.mc_lcm_le a b
  have l2 : a * b < 2 ^ 64 * 2 ^ 64 := Nat.mul_lt_mul'' la lb
  have l3 : a.lcm b < 2 ^ 128 := Nat.lt_of_le_of_lt l1 (Nat.lt_of_lt_of_le l2 (by decide))
  have : (a.lcm b).log2 < 128 := by
    by_cases z : a.lcm b = 0
    · rw [z]; decide
    · exact (Nat.log2_lt z).mpr l3
  exact Nat.lt_of_lt_of_le this (by decide)
end
end Gn
set_option Elab.async false
set_option linter.all false
set_option maxRecDepth 100000
set_option maxHeartbeats 8000000
/-! {e for a in xs for b in ys if t}: a set of ints -/
namespace Gn
open PySem PySem.Spec PyProof.Rows L2
abbrev SC (el t0 i0 t1 i1 c1 : Expr) (sc : Scope) (pos : Pos) : Expr := .SetComp el [⟨t0, i0, [], 0⟩, ⟨t1, i1, [c1], 0⟩] sc pos
section
variable {P : Program} {w : World} {A : Around} {R : Result → Shared → Prop} {s : Shared} {el t0 i0 t1 i1 c1 : Expr} {sc : Scope} {pos : Pos} {it acc : Value} {env : Env}
/-- what is raised is noted first -/
abbrev Nb (P : Program) (w : World) (A : Around) (env : Env) (R : Result → Shared → Prop) : Value → Shared → Prop := notedBy (model P w) A env fun x t => R (.error x) t
theorem sc_turn0 : compTurn (SC el t0 i0 t1 i1 c1 sc pos) 0 it acc env = (do
      standAt i0.pos
      match ← pyNext it with
      | none => pure (.done .next)
      | some x =>
        letOwnedTupleGo t0 it x
        assign t0 env x
        let y ← eval i1 env
        standAt i1.pos
        let y ← foldedSetIterable i1 env y
        let _ ← runOwn (.compStart (SC el t0 i0 t1 i1 c1 sc pos) 1 (← holding [y] (pyIter y)) acc env) env
        again (.compLoop (SC el t0 i0 t1 i1 c1 sc pos) 0 it acc env)) := by rfl
theorem sc_turn1 : compTurn (SC el t0 i0 t1 i1 c1 sc pos) 1 it acc env = (do
      standAt i1.pos
      match ← pyNext it with
      | none => pure (.done .next)
      | some x =>
        letOwnedTupleGo t1 it x
        assign t1 env x
        let mut go := true
        for c in [c1] do
          if go then go ← isTrue c env (eval c env)
        if go then
          (do let y ← eval el env; standAt el.pos; let _ ← call (.builtin "set.add") [acc, y])
        again (.compLoop (SC el t0 i0 t1 i1 c1 sc pos) 1 it acc env)) := by rfl
theorem sc_loop0 (fs : ∀ x, foldedSetIterable i1 env x = pure x) (J : Nat → Shared → Prop)
    (step : ∀ n t, J n t → wpAny (model P w) A (pyNext it) (fun r t1' => match r with
      | none => R (.ok .next) t1'
      | some x => wpAny (model P w) A (letOwnedTupleGo t0 it x) (fun _ t2 => wpAny (model P w) A (assign t0 env x) (fun _ t3 =>
          wpAny (model P w) A (eval i1 env) (fun y t4 => wpAny (model P w) A (pyIter y) (fun jt t5 =>
            codeAny (model P w) A (.compStart (SC el t0 i0 t1 i1 c1 sc pos) 1 jt acc env) (fun r t6 => (∃ f, r = .ok f) ∧ ∃ m, m < n ∧ J m t6) t5) (Nb P w A env R) t4) (Nb P w A env R) t3) (Nb P w A env R) t2) (Nb P w A env R) t1') (Nb P w A env R) t)
    (n : Nat) (h : J n s) : codeAny (model P w) A (.compLoop (SC el t0 i0 t1 i1 c1 sc pos) 0 it acc env) R s := by
  refine codeAny_loop rfl J (fun n t hJ => ?_) n h
  show wpAny _ A ((compTurn (SC el t0 i0 t1 i1 c1 sc pos) 0 it acc env).onRaise (fun x => do noteFrame x env; theTreesLotGoes x)) _ _ t
  refine wpAny_noted ?_
  rw [sc_turn0]
  refine wpAny_bind (wpAny_standAt (wpAny_bind (wpAny_mono (step n t hJ) (fun r t1' k1 => ?_) fun _ _ z => z)))
  cases r with
  | none => exact wpAny_pure k1
  | some x =>
    refine wpAny_bind (wpAny_mono k1 (fun _ t2 k2 => wpAny_bind (wpAny_mono k2 (fun _ t3 k3 => wpAny_bind (wpAny_mono k3 (fun y t4 k4 => ?_) fun _ _ z => z)) fun _ _ z => z)) fun _ _ z => z)
    refine wpAny_bind (wpAny_standAt (wpAny_bind (wpAny_of_eq (fs y) (wpAny_bind (wpAny_holding (wpAny_mono k4 (fun jt t5 k5 => ?_) fun _ _ z => z))))))
    refine wpAny_bind (wpAny_runOwn ?_)
    rw [Around.mark_none]
    refine codeAny_mono k5 fun r t6 hr => ?_
    obtain ⟨⟨f, rfl⟩, hr⟩ := hr
    exact wpAny_pure ⟨rfl, hr⟩
theorem sc_loop1 (J : Nat → Shared → Prop)
    (step : ∀ n t, J n t → wpAny (model P w) A (pyNext it) (fun r t1' => match r with
      | none => R (.ok .next) t1'
      | some x => wpAny (model P w) A (letOwnedTupleGo t1 it x) (fun _ t2 => wpAny (model P w) A (assign t1 env x) (fun _ t3 =>
          wpAny (model P w) A (forIn [c1] true fun c r => if r = true then do let go ← isTrue c env (eval c env); pure (ForInStep.yield go) else pure (ForInStep.yield r)) (fun go t4 =>
            if go = true then wpAny (model P w) A (eval el env) (fun y t5 => wpAny (model P w) A (call (.builtin "set.add") [acc, y]) (fun _ t6 => ∃ m, m < n ∧ J m t6) (Nb P w A env R) t5) (Nb P w A env R) t4
            else ∃ m, m < n ∧ J m t4) (Nb P w A env R) t3) (Nb P w A env R) t2) (Nb P w A env R) t1') (Nb P w A env R) t)
    (n : Nat) (h : J n s) : codeAny (model P w) A (.compLoop (SC el t0 i0 t1 i1 c1 sc pos) 1 it acc env) R s := by
  refine codeAny_loop rfl J (fun n t hJ => ?_) n h
  show wpAny _ A ((compTurn (SC el t0 i0 t1 i1 c1 sc pos) 1 it acc env).onRaise (fun x => do noteFrame x env; theTreesLotGoes x)) _ _ t
  refine wpAny_noted ?_
  rw [sc_turn1]
  refine wpAny_bind (wpAny_standAt (wpAny_bind (wpAny_mono (step n t hJ) (fun r t1' k1 => ?_) fun _ _ z => z)))
  cases r with
  | none => exact wpAny_pure k1
  | some x =>
    refine wpAny_bind (wpAny_mono k1 (fun _ t2 k2 => wpAny_bind (wpAny_mono k2 (fun _ t3 k3 => wpAny_bind (wpAny_mono k3 (fun go t4 k4 => ?_) fun _ _ z => z)) fun _ _ z => z)) fun _ _ z => z)
    cases go with
    | false => exact wpAny_pure ⟨rfl, k4⟩
    | true =>
      exact wpAny_bind (wpAny_bind (wpAny_mono k4 (fun y t5 k5 => wpAny_bind (wpAny_standAt (wpAny_bind (wpAny_mono k5 (fun _ t6 k6 => wpAny_pure (wpAny_pure ⟨rfl, k6⟩)) fun _ _ z => z)))) fun _ _ z => z))
/-- the second source's walk begins -/
theorem sc_start1 (h0 : codeAny (model P w) A (.compLoop (SC el t0 i0 t1 i1 c1 sc pos) 1 it acc env) R s)
    (h : wpAny (model P w) A (pyIter it) (fun jt t => codeAny (model P w) A (.compLoop (SC el t0 i0 t1 i1 c1 sc pos) 1 jt acc env) R t) (Nb P w A env R) s) :
    codeAny (model P w) A (.compStart (SC el t0 i0 t1 i1 c1 sc pos) 1 it acc env) R s := by
  refine codeAny_of_tree ?_
  show wpAny _ _ ((compStart (SC el t0 i0 t1 i1 c1 sc pos) 1 it acc env).onRaise (fun x => do noteFrame x env; standAt theWindowsPlace)) _ _ s
  refine wpAny_notedAt ?_
  unfold compStart
  show wpAny _ _ (ask >>= _) _ _ s
  refine wpAny_bind (wpAny_askSetting (wpAny_ite ?_))
  split
  · exact wpAny_pure (And.intro rfl h0)
  · refine wpAny_bind (wpAny_rule ?_)
    show wpAny _ _ (standAt i1.pos >>= _) _ _ s
    exact wpAny_bind (wpAny_standAt (wpAny_bind (wpAny_mono h (fun jt t k => wpAny_pure (And.intro rfl k)) fun _ _ z => z)))
end
/-- what stands in the block -/
structure Blk (Y : Cx) (t0 t1 i1 c1 el : Expr) (g : TG) (wi : TI) (g1 : TG) (tc : TT) (te : TE) : Prop where
  g : PG Y t0 g
  i : PI Y t1 i1 wi
  g1 : PG Y t1 g1
  c : PTs Y [c1] tc
  e : PE Y el te
/-- k goes down -/
abbrev Dn (k : Nat) (F : Nat → Prop) : Prop := ∃ k', k' < k ∧ F k'
/-- one int more in the set at D -/
def More (w : World) (D : Addr) (y : V) (G : Hp) (F : Hp → Prop) : Prop := ∃ (z : Int) (S : Int → Bool) (n : Nat), y = .int z ∧ G D = some (SetO w D S n) ∧ n + 1 < scanBound ∧ F (upd G D (SetO w D (fun j => S j || decide (j = z)) (if S z = true then n else n + 1)))
def tSc2 (w : World) (wi : TI) (g : TG) (wi1 : TI) (g1 : TG) (tc : TT) (te : TE) (vs vs1 : List Nat) : TE := fun σ H Q => wi σ H fun J G => ∀ D, G D = none → ∃ W : Nat → Nat → Hp → Prop, (∃ m, W 0 m (upd G D (SetO w D (fun _ => false) 0))) ∧ ∀ i m H1, W i m H1 →
  (J.stop i H1 ∧ Q (.ref D) H1) ∨ (J.go i H1 ∧ ∀ x H2, J.yld i H1 x H2 → g x (wipe σ vs) H2 fun τ H3 => wipe τ vs = wipe σ vs ∧ wi1 τ H3 fun J1 H4 => ∃ W1 : Nat → Nat → Hp → Prop, (∃ k, W1 0 k H4) ∧ ∀ j k H5, W1 j k H5 →
    (J1.stop j H5 ∧ Dn m fun m' => W (i + 1) m' H5) ∨ (J1.go j H5 ∧ ∀ x1 H6, J1.yld j H5 x1 H6 → g1 x1 (wipe τ vs1) H6 fun υ H7 => wipe υ vs1 = wipe τ vs1 ∧ tc υ H7 fun b H8 =>
      if b = true then te υ H8 fun y H9 => More w D y H9 fun G' => Dn k fun k' => W1 (j + 1) k' G' else Dn k fun k' => W1 (j + 1) k' H8))
/-- the walk's own objects, no slot knows them -/
theorem fp_back {X Y : Cx} {pins : List (Addr × Obj)} {fp : List Addr} {h h' : Heap} {τ : L2.St} {G : Hp} {t : Shared} (I : Inv Y (pins ++ pinsAt fp h) τ G t) (b : Addr) (hb : b ∈ fp) {o : Obj} (e : h.get? b = some o) : t.heap.get? b = some o ∧ G b = none := by
  have z := I.pin (b, o) (List.mem_append_right _ (List.mem_append_right _ (mem_pinsAt hb e)))
  exact ⟨z.1, z.2.1⟩
section
variable {X : Cx}
/-- set.add of an int -/
theorem add_int {pins : List (Addr × Obj)} {σ : L2.St} {H : Hp} {s : Shared} {E : Value → Shared → Prop} {D : Addr} {y : V} {u : Value} {F : Hp → Prop} {Q : Value → Shared → Prop} (I : Inv X pins σ H s) (r : RelV y u) (M : More X.w D y H F)
    (k : ∀ t G, Inv X pins σ G t → F G → Q .none t) : wpAny (model X.prog X.w) X.A (call (.builtin "set.add") [.ref D, u]) Q E s := by
  obtain ⟨z, S, n, rfl, hD, room, f⟩ := M
  obtain ⟨tk, rfl⟩ := r
  refine setR_add (setO_get I hD) room fun h' sb new => ?_
  have live : ∃ u, h'.get? D = some u := by
    obtain ⟨o, _, _, _, ho, _⟩ := id new
    exact ⟨o, ho⟩
  exact k _ _ (I.write (e := D) (t' := s.toks + 1) (by rw [hD]; trivial) (.inl rfl) (fun b u hb hu => (sb.2 b hb).trans hu) live (setO_new new)) f
theorem pe_sc2 {el t0 i0 t1 i1 c1 : Expr} {sc : Scope} {own : List (Str × Nat)} {vs1 : List Nat} {pos : Pos} {wi wi1 : TI} {g g1 : TG} {tc : TT} {te : TE} (calm : X.calm = true) (nd : X.N.Nodup) (src : PI X t0 i0 wi) (ok : BlkOk X.N X.env.scope sc own) (sub : ∀ i ∈ vs1, i ∈ own.map (·.2))
    (blk : ∀ (s : Shared) (H : Hp) (C : Addr) (cl : List (Str × Addr)) (fp : List Addr), Blk (X.blk s H sc (compEnvC sc cl C X.env) fp) t0 t1 i1 c1 el g wi1 g1 tc te)
    (f0 : ∀ x, foldedSetIterable i0 X.env x = pure x := by intro _; rfl) (f1 : ∀ env x, foldedSetIterable i1 env x = pure x := by intro _ _; rfl) :
    PE X (SC el t0 i0 t1 i1 c1 sc pos) (tSc2 X.w wi g wi1 g1 tc te (own.map (·.2)) vs1) := by
  constructor
  intro pins s σ H Q I want
  rw [PpSet.eval_SetComp]
  have free : ∀ y ∈ sc.names, y.2 = .free → ∃ c, X.env.cells.lookup y.1 = some c := fun y m e => by
    rcases ok.free y m e with z | z
    · exact I.ok.has _ (.inl z)
    · exact I.ok.has _ (.inr z)
  refine wpAny_comprehension_free (use := none) rfl f0 (closure_ok free) ok.kind (fun y m e => by rw [ok.uniq y m, e]) (thn (src.run pins s σ H _ I want) fun xv s1 hx => thn hx fun jv s2 h2 => ?_)
  obtain ⟨it, fp, tn, J, H2, rfl, I2, T, st2, off2, q⟩ := h2
  refine PpSet.newSet_ok (newEnv_comp ?_)
  obtain ⟨D, eD⟩ : ∃ D, D = s2.heap.objs.size := ⟨_, rfl⟩
  rw [← eD]
  have nD : H2 D = none := I2.hok.fresh (Nat.le_of_eq eD.symm)
  obtain ⟨W, ⟨m0, w0⟩, turn⟩ := q D nD
  obtain ⟨s3, es3⟩ : ∃ t : Shared, t = { s2 with heap := s2.heap.push { cls := .type "set", dict := none, data := .set #[] 0 (.fresh 0 0 (!X.w.params.followText "set-order")) } } := ⟨_, rfl⟩
  obtain ⟨G, eG⟩ : ∃ G : Hp, G = upd H2 D (SetO X.w D (fun _ => false) 0) := ⟨_, rfl⟩
  rw [← eG] at w0
  have hp3 : s3.heap = s2.heap.push { cls := .type "set", dict := none, data := .set #[] 0 (.fresh 0 0 (!X.w.params.followText "set-order")) } := by rw [es3]
  have I3 : Inv X pins σ G s3 := by
    rw [es3, eG]
    refine I2.laid (t' := s2.toks) (fun b o e => Heap.get?_push_of_some _ e) (Nat.le_of_eq eD.symm) ?_
    rw [eD]
    exact setO_new (setR_fresh X.w)
  have low : ∀ b ∈ fp, b < s2.heap.objs.size := fun b m => by
    obtain ⟨o, e, _⟩ := T.obj _ _ st2 b m
    exact Heap.lt_size e
  have off3 : ∀ b ∈ fp, FpOk X pins G b ∧ b < s3.heap.objs.size := fun b m => by
    have l := low b m
    refine ⟨⟨?_, (off2 b m).2⟩, by rw [hp3, Heap.size_push]; exact Nat.lt_succ_of_lt l⟩
    rw [eG, upd_ne (by rw [eD]; exact Nat.ne_of_lt l)]
    exact (off2 b m).1
  have st3 : tn 0 s3.heap := T.keep _ _ _ st2 fun b _ o e => by rw [hp3]; exact Heap.get?_push_of_some _ e
  have I4 := block_start I3 ok nd off3
  have bk := blk s3 G s3.heap.objs.size (cellsFrom (s3.heap.objs.size + 1) sc.names (cloFrom X.env.cells sc.names [])) fp
  obtain ⟨ce, ec⟩ : ∃ e : Env, e = compEnvC sc (cellsFrom (s3.heap.objs.size + 1) sc.names (cloFrom X.env.cells sc.names [])) s3.heap.objs.size X.env := ⟨_, rfl⟩
  have lc : ce.locals = s3.heap.objs.size := by rw [ec]; rfl
  obtain ⟨s4, es4⟩ : ∃ t : Shared, t = { s3 with heap := pushCells (s3.heap.push { cls := .type "dict", data := .dict #[] }) sc.names } := ⟨_, rfl⟩
  rw [← ec] at I4 bk
  rw [← es4] at I4
  have main : codeAny (model X.prog X.w) X.A (.compStart (SC el t0 i0 t1 i1 c1 sc pos) 0 (.ref it) (.ref D) ce) (compPost (model X.prog X.w) X.A X.xe none (EP X pins σ Q) (.ref D) s3.heap.objs.size) s4 := by
    have st4 : tn 0 s4.heap := T.keep _ _ _ st3 fun b _ o e => by rw [es4]; exact pushCells_keeps _ _ _ _ (Heap.get?_push_of_some _ e)
    have no4 : ∀ b ∈ fp, G b = none := fun b m => (off3 b m).1.1
    have fit : ∀ {τ : L2.St} {G' : Hp} {t : Shared}, Inv (X.blk s3 G sc ce fp) [] τ G' t → (∀ b ∈ fp, G' b = none) → ∀ b ∈ fp, FpOk (X.blk s3 G sc ce fp) [] G' b := fun {τ G' t} K no b m =>
      ⟨no b m, (K.ok.exf b m).1, K.ok.exfs b m, .inl m, fun x c e => (K.ok.exf b m).2 x c e, fun p hp => absurd (show p ∈ ([] : List (Addr × Obj)) ++ [] from hp) (by simp)⟩
    have loop : codeAny (model X.prog X.w) X.A (.compLoop (SC el t0 i0 t1 i1 c1 sc pos) 0 (.ref it) (.ref D) ce) (compPost (model X.prog X.w) X.A X.xe none (EP X pins σ Q) (.ref D) s3.heap.objs.size) s4 := by
      refine sc_loop0 (f1 ce) (fun n t => ∃ i G', Inv (X.blk s3 G sc ce fp) [] (wipe σ (own.map (·.2))) G' t ∧ tn i t.heap ∧ (∀ b ∈ fp, G' b = none) ∧ W i n G') ?_ m0 ⟨0, G, I4, st4, no4, w0⟩
      rintro n t5 ⟨i, G5, I5, st5, no5, w5⟩
      rcases turn i n G5 w5 with ⟨stop, fin⟩ | ⟨go, step⟩
      · refine thnF (T.done (X.blk s3 G sc ce fp) rfl rfl rfl calm i [] t5 _ G5 (fun _ _ => False) I5 (fit I5 no5) st5 stop) fun r t6 ⟨hr, I6⟩ => ?_
        subst hr
        have I7 : Inv X pins σ G5 t6 := I3.call' (ch := fp) I6.os I6.base I6.hok I6.bare fun b m => ⟨(off3 b m).1.2.2.2.1, (off3 b m).1.2.1, (off3 b m).1.2.2.2.2.1, (off3 b m).1.2.2.2.2.2⟩
        have nC : G5 s3.heap.objs.size = none := by
          have z : G5 ce.locals = none := I6.free
          rwa [lc] at z
        obtain ⟨mm, hn, _⟩ := I6.loc
        have hn : t6.heap.Ns ce.locals mm := hn
        rw [lc] at hn
        obtain ⟨a0, a1, a2, a3, a4, a5⟩ := I3.fpOk (Nat.le_refl _) nC
        exact ⟨mm, hn, fun h'' sb => ⟨.ref D, G5, I7.turned (t' := t6.toks) (fun b o hb e => (sb.2 b hb).trans e) a0 a1 a3 a4 a5, rfl, fin⟩⟩
      · refine thnF (T.item (X.blk s3 G sc ce fp) rfl rfl rfl calm i [] t5 _ G5 (fun _ _ => False) I5 (fit I5 no5) st5 go) fun r t6 ⟨u, hr, h6⟩ => ?_
        subst hr
        refine thnF h6 fun _ t7 ⟨x, G7, I7, r7, y7, st7, no7⟩ => ?_
        refine thnF (bk.g.run _ t7 _ G7 x u _ (I7.pinned (fit I7 no7) (T.obj _ _ st7)) r7 (step x G7 y7)) fun _ t8 ⟨τ, G8, I8, hw, q8⟩ => ?_
        have len8 : (wipe σ (own.map (·.2))).length = τ.length := by rw [← hw, wipe_length]
        refine thnF (bk.i.run _ t8 τ G8 _ I8 q8) fun xv t9 hx => thnF hx fun jv t10 h10 => ?_
        obtain ⟨jt, fq, tm, J1, G10, rfl, I10, U, su10, off10, W1, ⟨k0, v0⟩, turn1⟩ := h10
        have fit1 : ∀ {G' : Hp}, (∀ b ∈ fq, G' b = none) → ∀ b ∈ fq, FpOk (X.blk s3 G sc ce fp) ([] ++ pinsAt fp t7.heap) G' b := fun no b m => ⟨no b m, (off10 b m).2⟩
        have know : ∀ (j : Nat) v, (wipe σ (own.map (·.2)))[j]? = some (some v) → (wipe τ vs1)[j]? = some (some v) := fun j v e => by
          rw [← hw] at e
          obtain ⟨e1, e2⟩ := wipe_some e
          rw [wipe_out fun z => e2 (sub j z)]
          exact e1
        have inner : codeAny (model X.prog X.w) X.A (.compLoop (SC el t0 i0 t1 i1 c1 sc pos) 1 (.ref jt) (.ref D) ce)
            (fun r t => (∃ f, r = .ok f) ∧ ∃ m, m < n ∧ ∃ i G', Inv (X.blk s3 G sc ce fp) [] (wipe σ (own.map (·.2))) G' t ∧ tn i t.heap ∧ (∀ b ∈ fp, G' b = none) ∧ W i m G') t10 := by
          refine sc_loop1 (fun k t => ∃ j G', Inv (X.blk s3 G sc ce fp) ([] ++ pinsAt fp t7.heap) (wipe τ vs1) G' t ∧ tm j t.heap ∧ (∀ b ∈ fq, G' b = none) ∧ W1 j k G') ?_ k0 ⟨0, G10, I10.weak (wipe_length _ _) (fun j v e => (wipe_some e).1), su10, fun b m => (off10 b m).1, v0⟩
          rintro k t11 ⟨j, G11, I11, su11, no11, v11⟩
          rcases turn1 j k G11 v11 with ⟨stop1, m', lt, w'⟩ | ⟨go1, step1⟩
          · refine thnF (U.done (X.blk s3 G sc ce fp) rfl rfl rfl calm j _ t11 (wipe τ vs1) G11 (fun _ _ => False) I11 (fit1 no11) su11 stop1) fun r t12 ⟨hr, I12⟩ => ?_
            subst hr
            refine ⟨⟨_, rfl⟩, m', lt, i + 1, G11, (I12.unpinned (pins := [])).weak (len8.trans (wipe_length τ vs1).symm) know, T.keep _ _ _ st7 fun b m o e => (fp_back (X := X) (h' := t7.heap) I12 b m e).1, fun b m => ?_, w'⟩
            obtain ⟨o, e, _⟩ := T.obj _ _ st7 b m
            exact (fp_back (X := X) (h' := t7.heap) I12 b m e).2
          · refine thnF (U.item (X.blk s3 G sc ce fp) rfl rfl rfl calm j _ t11 (wipe τ vs1) G11 (fun _ _ => False) I11 (fit1 no11) su11 go1) fun r t12 ⟨u1, hr, h12⟩ => ?_
            subst hr
            refine thnF h12 fun _ t13 ⟨x1, G13, I13, r13, y13, su13, no13⟩ => ?_
            refine thnF (bk.g1.run _ t13 (wipe τ vs1) G13 x1 u1 _ (I13.pinned (fit1 no13) (U.obj _ _ su13)) r13 (step1 x1 G13 y13)) fun _ t14 ⟨υ, G14, I14, hv, q14⟩ => ?_
            refine thnF (bk.c.run _ t14 υ G14 _ I14 q14) fun b t15 ⟨G15, I15, q15⟩ => ?_
            have next : ∀ {t : Shared} {G' : Hp}, Inv (X.blk s3 G sc ce fp) (([] ++ pinsAt fp t7.heap) ++ pinsAt fq t13.heap) υ G' t → (Dn k fun k' => W1 (j + 1) k' G') →
                ∃ m, m < k ∧ ∃ j G', Inv (X.blk s3 G sc ce fp) ([] ++ pinsAt fp t7.heap) (wipe τ vs1) G' t ∧ tm j t.heap ∧ (∀ b ∈ fq, G' b = none) ∧ W1 j m G' := fun {t G'} K ⟨k', lt, w'⟩ => by
              refine ⟨k', lt, j + 1, G', K.unpinned.weak (by rw [← hv, wipe_length]) (fun j v e => by rw [← hv] at e; exact (wipe_some e).1), U.keep _ _ _ su13 fun b m o e => (fp_back (X := X) (h' := t7.heap) K b m e).1, fun b m => ?_, w'⟩
              obtain ⟨o, e, _⟩ := U.obj _ _ su13 b m
              exact (fp_back (X := X) (h' := t7.heap) K b m e).2
            cases b with
            | false =>
              simp only [Bool.false_eq_true, if_false] at q15 ⊢
              exact next I15 q15
            | true =>
              simp only [if_true] at q15 ⊢
              refine thnF (bk.e.run _ t15 υ G15 _ I15 q15) fun z t16 ⟨yv, G16, I16, r16, more⟩ => ?_
              exact add_int (X := X.blk s3 G sc ce fp) I16 r16 more fun t17 G17 I17 dn => next I17 dn
        exact sc_start1 inner (U.self X.A 0 _ _ _ su10 inner)
    exact PpSet.codeAny_compStart_set loop (T.self X.A 0 _ _ _ st4 loop)
  rw [ec, es4, es3] at main
  exact main
end
end Gn
set_option Elab.async false
set_option linter.all false
set_option maxRecDepth 100000
set_option maxHeartbeats 8000000
/-! x(e, lambda p: bo), the def x calling what it got with one argument -/
namespace Gn
open PySem PySem.Spec PyProof.Rows L2
/-- one parameter, no other name of its own -/
structure LamP (sc lam : Scope) (p : Str) : Prop where
  kind : lam.kind = .function
  co : lam.isCoroutine = false
  gen : lam.isGenerator = false
  par : lam.names.lookup p = some .local
  own : ∀ y ∈ lam.names, (y.2 = .local → y.1 = p) ∧ y.2 ≠ .cell
  free : ∀ y ∈ lam.names, y.2 = .free → sc.names.lookup y.1 = some .cell ∨ sc.names.lookup y.1 = some .free
def lamPB (sc lam : Scope) (p : Str) : Bool :=
  decide (lam.kind = .function) && (!lam.isCoroutine && (!lam.isGenerator && (decide (lam.names.lookup p = some .local) &&
    lam.names.all fun y => (!decide (y.2 = .local) || decide (y.1 = p)) && (!decide (y.2 = .cell) && (!decide (y.2 = .free) || (decide (sc.names.lookup y.1 = some .cell) || decide (sc.names.lookup y.1 = some .free)))))))
theorem lamP_by {sc lam : Scope} {p : Str} (h : lamPB sc lam p = true) : LamP sc lam p := by
  unfold lamPB at h
  simp only [Bool.and_eq_true, Bool.or_eq_true, Bool.not_eq_true', decide_eq_true_eq, decide_eq_false_iff_not, List.all_eq_true] at h
  obtain ⟨a, b, c, d, e⟩ := h
  exact ⟨a, b, c, d, fun y m => ⟨fun z => (e y m).1.resolve_left fun k => k z, (e y m).2.1⟩, fun y m z => (e y m).2.2.resolve_left fun k => k z⟩
theorem LamP.has {X : Cx} {lam : Scope} {p : Str} (L : LamP X.env.scope lam p) (ok : X.Ok) : ∀ y ∈ lam.names, y.2 = .free → ∃ c, X.env.cells.lookup y.1 = some c := fun y m e =>
  (L.free y m e).elim (fun z => ok.has _ (.inl z)) fun z => ok.has _ (.inr z)
/-- the lambda's body, entered at s -/
abbrev lamQ (X : Cx) (A : Around) (outer : List Env) (s : Shared) (H : Hp) (lam : Scope) (p : Str) (f c : Addr) : Cx :=
  { LamX.lamCx X A outer s H (fun _ _ _ => False) lam f c with N := X.N ++ [p], xe := fun _ _ => False }
section
variable {X : Cx} {pins : List (Addr × Obj)} {σ : L2.St} {H : Hp} {s : Shared}
theorem lamQ_start {A : Around} {outer : List Env} {lam : Scope} {p : Str} {f c : Addr} {G : Hp} {t : Shared} {h1 : Heap} {tk : Nat} {v : V} {u : Value} (I : Inv X pins σ H s) (L : LamP X.env.scope lam p) (np : p ∉ X.N) (e0 : Env0 X.prog X.w X.K X.mg X.base A outer t G) (cool : A.handled = none)
    (un : Un (frs X.stack) [] H G s.heap t.heap) (ns : h1.Ns t.heap.objs.size fun y => ([(p, u)] : List (Str × Value)).reverse.lookup y) (r : RelV v u) (kp : ∀ b o, t.heap.get? b = some o → h1.get? b = some o) :
    Inv (lamQ X A outer t G lam p f c) [] (σ ++ [some v]) G { t with heap := h1, toks := tk } := by
  have free := L.has I.ok
  have back : ∀ {y d}, (cloFrom X.env.cells lam.names []).lookup y = some d → X.env.cells.lookup y = some d := fun {y d} e => by
    rcases cloFrom_mem (PySem.mem_of_lookup e) with m | ⟨m, ed⟩
    · cases m
    · obtain ⟨d1, h⟩ := free _ m rfl
      have h : X.env.cells.lookup y = some d1 := h
      rw [h] at ed
      have ed : d = d1 := ed
      rw [ed]; exact h
  have there : ∀ {y}, lam.names.lookup y = some .free → ∃ d, (cloFrom X.env.cells lam.names []).lookup y = some d := fun {y} e => mem_lookup (cloFrom_has (cells := X.env.cells) (acc := []) (PySem.mem_of_lookup e))
  have celled : ∀ {d : Addr} {x : Option Value}, H d = none → s.heap.IsCell d x → h1.IsCell d x := fun {d x} n ⟨o, ho, hd⟩ => by
    obtain ⟨sl, z⟩ := un.any ho n (by simp)
    exact ⟨_, kp _ _ z, hd⟩
  have nex : ∀ b : Addr, b ∉ (lamQ X A outer t G lam p f c).ex := fun b z => absurd (show b ∈ ([] : List Addr) from z) (by simp)
  refine ⟨⟨e0.mod, L.kind, rfl, rfl, Nat.le_refl _, fun y z d e1 e2 => I.ok.inj y z d (back e1) (back e2), fun y hy => ?_, fun y d z _ => (by cases (show false = true from z)), fun _ => cool, Around.frames_deeper e0.frames, .inr ⟨rfl, rfl⟩, fun b z => absurd z (nex b), e0.bs, e0.bsz, fun b _ _ => nex b,
      fun b z => absurd z (nex b), e0.funs, e0.frf⟩,
    rfl, e0.bare, Un.kept kp, ⟨_, ns, fun i y x e1 e2 e3 => ?_⟩, fun y d e => ?_, e0.hok.fresh (Nat.le_refl _), fun y d e => ?_, fun q hq => absurd (show q ∈ ([] : List (Addr × Obj)) ++ [] from hq) (by simp), e0.hok.kept kp, ?_⟩
  · rcases (show lam.names.lookup y = some .cell ∨ lam.names.lookup y = some .free from hy) with z | z
    · exact absurd rfl (L.own _ (PySem.mem_of_lookup z)).2
    · exact there z
  · have e1 : (X.N ++ [p])[i]? = some y := e1
    have len := I.len
    rcases Nat.lt_or_ge i X.N.length with lt | ge
    · -- a name of the maker
      rw [List.getElem?_append_left lt] at e1
      rw [List.getElem?_append_left (by omega)] at e2
      rcases (show Vis lam y from e3) with k | k | k
      · have ey : y = p := (L.own _ (PySem.mem_of_lookup k)).1 rfl
        exact absurd (by rw [← ey]; exact List.mem_of_getElem? e1) np
      · exact absurd rfl (L.own _ (PySem.mem_of_lookup k)).2
      · obtain ⟨m, hn, look⟩ := I.loc
        have vis : Vis X.env.scope y := (L.free _ (PySem.mem_of_lookup k) rfl).elim (fun z => .inr (.inl z)) fun z => .inr (.inr z)
        obtain ⟨w', rr, q⟩ := look i y x e1 e2 vis
        obtain ⟨d2, h2⟩ := there k
        have d1 := back h2
        refine ⟨w', rr, .inr ⟨.inr k, d2, h2, ?_⟩⟩
        rcases q with ⟨k', _⟩ | ⟨_, d3, e', z⟩
        · have k' : X.env.scope.names.lookup y = some .local := k'
          rcases L.free _ (PySem.mem_of_lookup k) rfl with k2 | k2 <;> rw [show X.env.scope.names.lookup y = _ from k2] at k' <;> cases k'
        · rw [d1] at e'
          cases e'
          exact celled (I.freeC y _ d1) z
    · -- the parameter
      rw [List.getElem?_append_right ge] at e1
      rw [List.getElem?_append_right (by omega)] at e2
      have i0 : i = X.N.length := by
        obtain ⟨l, _⟩ := List.getElem?_eq_some_iff.mp e1
        simp only [List.length_singleton] at l
        omega
      subst i0
      rw [Nat.sub_self] at e1
      rw [len, Nat.sub_self] at e2
      have ey : y = p := (Option.some.inj (show some p = some y from e1)).symm
      have ex : x = v := (Option.some.inj (Option.some.inj (show some (some v) = some (some x) from e2))).symm
      subst ey ex
      refine ⟨u, r, .inl ⟨L.par, ?_⟩⟩
      show ([(y, u)] : List (Str × Value)).lookup y = some u
      simp [List.lookup]
  · obtain ⟨x, z⟩ := I.cell y d (back e)
    exact ⟨x, celled (I.freeC y d (back e)) z⟩
  · obtain ⟨x, o, ho, hd⟩ := I.cell y d (back e)
    exact un.free d o ho (I.freeC y d (back e)) (by simp)
  · show (σ ++ [some v]).length = (X.N ++ [p]).length
    rw [List.length_append, List.length_append, I.len]
    rfl
/-- the def that gets the lambda, entered at s -/
abbrev getY (X : Cx) (Ng : List Str) (x : Str) (sg : Scope) (g : Addr) (cdg : Value) (s : Shared) (H : Hp) : Cx := (cxOf CX0 X.prog X.w X.K X.mg X.base Ng x sg g cdg X.A X.stack s H E0).nox
/-- a(e), in that def -/
theorem pe_got {Ng : List Str} {x : Str} {sg lam : Scope} {g f c : Addr} {cdg pm ctv : Value} {pr : Arguments} {bo : Expr} {k i : Nat} {a p : Str} {tb : TE} {e : Expr} {te : TE} {p1 p2 : Pos}
    (I : Inv X pins σ H s) (L : LamP X.env.scope lam p) (np : p ∉ X.N) (gf : s.heap.get? f = some (PySem.W.kla_obj "<lambda>" (X.env.qual ++ "<lambda>") pr bo lam (cloFrom X.env.cells lam.names []) pm c ctv)) (nf : H f = none) (off : f ∉ frs X.stack)
    (bi : ∀ u : Value, bindArgs (PySem.W.kla_fn "<lambda>" (X.env.qual ++ "<lambda>") pr bo lam (cloFrom X.env.cells lam.names []) pm (.ref c) ctv) ⟨[u], []⟩ = pure [(p, u)])
    (hr : Room (k + 1) (X.A.deeper (envOfC x sg s.heap.objs.size g cdg))) (body : ∀ (A : Around) (outer : List Env) (t : Shared) (G : Hp), Room k (A.deeper (LamX.lamEnv X lam t.heap.objs.size f c)) → PE (lamQ X A outer t G lam p f c) bo tb)
    (at_ : Ng[i]? = some a) (vi : Vis sg a) (es : starEach [e] (getY X Ng x sg g cdg s H).env = [(false, eval e (getY X Ng x sg g cdg s H).env)]) (he : PE (getY X Ng x sg g cdg s H) e te) (nd : (a == ("__debug__" : Str)) = false := by decide) (nc : (a == ("__classdict__" : Str)) = false := by decide) :
    PE (getY X Ng x sg g cdg s H) (.Call (.Name a p1) [e] [] p2) (fun τ G Q => τ[i]? = some (some (.ref f)) ∧ te τ G fun v G1 => G1 c = some (LamX.CodeO c (X.env.qual ++ "<lambda>")) ∧ tb (σ ++ [some v]) G1 Q) := by
  constructor
  rintro pi t τ G Q J ⟨slot, arg⟩
  refine wpAny_Call_Name_kw (thn ((pe_var (pos := p1) (i := i) at_ vi nd nc).run pi t τ G (fun v G1 => v = .ref f ∧ G1 = G) J ⟨.ref f, slot, rfl, rfl⟩) fun uf t1 ⟨vf, Gf, J1, rf, ev, eG⟩ => ?_)
  subst ev eG
  obtain rfl : uf = Value.ref f := rf
  have stay : ∀ {τ' : L2.St} {G' : Hp} {t' : Shared}, Inv (getY X Ng x sg g cdg s H) pi τ' G' t' → t'.heap.get? f = some (PySem.W.kla_obj "<lambda>" (X.env.qual ++ "<lambda>") pr bo lam (cloFrom X.env.cells lam.names []) pm c ctv) := fun {τ' G' t'} K => by
    have un : Un (frs X.stack) [] H G' s.heap t'.heap := K.base
    exact un.keep f _ gf nf off (fun z => nomatch (show f ∈ ([] : List Addr) from z))
  refine PySem.W.callWith_F ⟨_, _, _, _, stay J1⟩ ?_ (he := es)
  rw [es]
  refine Calls.spliced_cons (thn (he.run pi t1 τ Gf _ J1 arg) fun u t2 ⟨v, G2, J2, r2, co, want⟩ => Calls.spliced_nil ⟨⟨_, _, _, _, stay J2⟩, ?_⟩)
  have g2 := stay J2
  have un : Un (frs X.stack) [] H G2 s.heap t2.heap := J2.base
  obtain ⟨⟨oc, vs, tn, goc, gd, gv⟩, _, _⟩ := J2.hok c _ co
  have run : codeAny (model X.prog X.w) (X.A.deeper (envOfC x sg s.heap.objs.size g cdg)) (.call (.ref f) ⟨[u], []⟩) (CR CX0 (envOfC x sg s.heap.objs.size g cdg :: X.stack) X.prog X.w G2 t2 Q E0) t2 := by
    refine PySem.W.kla_callFunE hr.depth g2 rfl L.co L.gen rfl ⟨c, oc, vs, tn, rfl, goc, gd, gv⟩ ?_
    rw [bi]
    refine wpAny_pure (wpAny_newFunctionEnv (fun y m => (L.own y m).2) (fun y m => ?_) (fun h1 ns sb => ⟨J2.nolimit.fresh _ sb, ?_⟩) L.kind)
    · rw [List.mem_singleton.mp m]; exact L.par
    change codeAny _ _ (.expr bo (LamX.lamEnv X lam t2.heap.objs.size f c)) _ _
    have start := lamQ_start (A := X.A.deeper (envOfC x sg s.heap.objs.size g cdg)) (outer := envOfC x sg s.heap.objs.size g cdg :: X.stack) (c := c) (f := f) (tk := t2.toks + ([(p, u)] : List (Str × Value)).length) I L np J2.env0 hr.hd un ns r2 fun b o e => sb.extBut b o (Nat.ne_of_lt (Heap.lt_size e)) (Heap.get?_push_of_some _ e)
    refine PySem.W.kla_codeExpr (wpAny_mono ((body _ _ t2 G2 (hr.deeper _)).run [] _ _ G2 Q start want) (fun z t3 ⟨y, G3, J3, ry, q⟩ => ?_) fun _ _ z => z.elim)
    exact ⟨y, G3, J3.os, J3.bare, J3.base, J3.hok, ry, q⟩
  refine wpAny_call (codeAny_mono run fun rr t3 z => ?_)
  cases rr with
  | error e => exact z.elim
  | ok fl => cases fl with
    | ret z' => exact J2.after z
    | next => exact z.elim
    | brk => exact z.elim
    | cont => exact z.elim
/-- what the def that gets a lambda does, tl telling what the lambda does -/
def GivesQ (X : Cx) (Ng : List Str) (x : Str) (sg : Scope) (g : Addr) (cdg : Value) (bg : List Stmt) (i : Nat) (a q : Str) (k : Nat) (sp : (V → Hp → VK → Prop) → V → Hp → VK → Prop) : Prop :=
  ∀ (f c : Addr) (s : Shared) (H : Hp) (v0 : V) (Q : VK) (tl : V → Hp → VK → Prop),
    (∀ (e : Expr) (te : TE) (p1 p2 : Pos), (∀ env, starEach [e] env = [(false, eval e env)]) → PE (getY X Ng x sg g cdg s H) e te →
      PE (getY X Ng x sg g cdg s H) (.Call (.Name a p1) [e] [] p2) (fun τ G Q => τ[i]? = some (some (.ref f)) ∧ te τ G fun v G1 => G1 c = some (LamX.CodeO c q) ∧ tl v G1 Q)) →
    H c = some (LamX.CodeO c q) → Room (k + 1) (X.A.deeper (envOfC x sg s.heap.objs.size g cdg)) → sp tl v0 H Q →
    ∃ t, PSs (getY X Ng x sg g cdg s H) bg t ∧ t { nx := fun _ G => Q .non G, rt := Q } (L2.start Ng [v0, .ref f]) H
def tLamQ (T : List (Addr × Str)) (sp : (V → Hp → VK → Prop) → V → Hp → VK → Prop) (ta tb : TE) : TE := fun σ H Q => ta σ H fun v0 G => LamX.Tabs T G ∧ ∀ G1, LamX.ExtN G G1 → LamX.Tabs T G1 → sp (fun v G2 Q' => tb (σ ++ [some v]) G2 Q') v0 G1 Q
/-- x(e, lambda p: bo) -/
theorem pe_lamQ {T : List (Addr × Str)} {sp : (V → Hp → VK → Prop) → V → Hp → VK → Prop} {x a0 a pn : Str} {g c P : Addr} {k : Nat} {st : Stmt} {fd : FuncData} {Ng : List Str} {pr : Arguments} {e bo : Expr} {lam : Scope} {ta tb : TE} {p lp pos : Pos}
    (hg : Gl X x) (hm : X.mg x = some (.ref g)) (F : Fun X.K x x st g fd) (kp : PySem.W.keepIn X.K (.ref g) = true) (hb : Binds X.K fd [a0, a] []) (Sg : FnScope Ng [a0, a] (defScope st)) (at_ : Ng[1]? = some a) (vi : Vis (defScope st) a)
    (hG : ∀ cdv, GivesQ X Ng x (defScope st) g cdv (defBody st) 1 a (X.env.qual ++ "<lambda>") k sp) (np : pn ∉ X.N)
    (TB : LamX.TabB X.base X.mg c P) (ec : X.env.code = .ref c) (mT : (P, X.env.qual ++ "<lambda>") ∈ T) (one : ∀ q ∈ T, q.1 = P → q.2 = X.env.qual ++ "<lambda>") (hr : Room (k + 2) X.A) (L : LamP X.env.scope lam pn) (df : defaultsOf pr X.env = ([], []))
    (bi : ∀ (q : Str) (cl : List (Str × Addr)) (pm cv ctv u : Value), bindArgs (PySem.W.kla_fn "<lambda>" q pr bo lam cl pm cv ctv) ⟨[u], []⟩ = pure [(pn, u)])
    (he : PE X e ta) (es : starEach [e, .Lambda pr bo lam lp] X.env = [(false, eval e X.env), (false, eval (.Lambda pr bo lam lp) X.env)])
    (body : ∀ (A : Around) (outer : List Env) (s : Shared) (H : Hp) (f c' : Addr), Room k (A.deeper (LamX.lamEnv X lam s.heap.objs.size f c')) → PE (lamQ X A outer s H lam pn f c') bo tb)
    (nx : (x == ("__debug__" : Str)) = false := by decide) (nd : (a == ("__debug__" : Str)) = false := by decide) (nc : (a == ("__classdict__" : Str)) = false := by decide) :
    PE X (.Call (.Name x p) [e, .Lambda pr bo lam lp] [] pos) (tLamQ T sp ta tb) := by
  obtain ⟨_, _, _, _, _, _, cdv, _, _, rfl, lk, hcd⟩ := F.ex
  constructor
  rintro pins s σ H Q I want
  refine wpAny_Call_Name_kw (ld_glob I hg hm (PySem.W.callWith_K (h₀ := X.base) I.ok.mod.kin kp ?_ es (by rfl)) nx)
  rw [es]
  refine Calls.spliced_cons (thn (he.run pins s σ H _ I want) fun u0 s0 ⟨v0, G0, I0, r0, tabs, want⟩ => Calls.spliced_cons (LamX.lam_make2 I0 TB ec mT one tabs df (L.has I0.ok) fun f c' pm ctv H1 s1 I1 eN T1 gf nf off co => Calls.spliced_nil ⟨I1.kIn, ?_⟩))
  have run : codeAny (model X.prog X.w) X.A (.call (.ref g) ⟨[u0, .ref f], []⟩) (CR CX0 X.stack X.prog X.w H1 s1 Q E0) s1 := by
    refine LamX.run_ofS (N := Ng) (ps := [a0, a]) (us := [u0, .ref f]) (vs := [v0, .ref f]) lk hcd Sg hr I1.env0 (hb s1 [u0, .ref f] I1.kIn rfl) (.cons r0 (.cons rfl .nil)) rfl fun hr' => ?_
    obtain ⟨t, ht, q⟩ := hG cdv f c' s1 H1 v0 Q (fun v G2 Q' => tb (σ ++ [some v]) G2 Q') (fun e te p1 p2 se pe => pe_got (i := 1) I1 L np gf nf off (bi _ _ _ _ _) hr' (fun A o s2 H2 hr2 => body A o s2 H2 f c' hr2) at_ vi (se _) pe nd nc) co hr' (want H1 eN T1)
    exact ⟨t, ht.nox, q⟩
  refine wpAny_call (codeAny_mono run fun rr s2 z => ?_)
  cases rr with
  | error e => exact (show False from z).elim
  | ok fl => cases fl with
    | ret u => exact I1.after z
    | next => exact z.elim
    | brk => exact z.elim
    | cont => exact z.elim
end
end Gn
set_option Elab.async false
set_option linter.all false
set_option maxRecDepth 100000
set_option maxHeartbeats 4000000
namespace Gn
open PySem PySem.Spec PyProof.Rows L2
/-- a test of two, the second one false where the first one is true -/
theorem andF {t q : TT} {σ : L2.St} {H : Hp} {R : Bool → Hp → Prop} (c : Bool) (h1 : ∀ S : Bool → Hp → Prop, S c H → t σ H S) (h2 : c = true → ∀ S : Bool → Hp → Prop, (∀ H', Same H H' → S false H') → q σ H S) (k : ∀ H', Same H H' → R false H') : tAnd t q σ H R := by
  refine h1 _ ?_
  cases c with
  | true => exact iteT (h2 rfl R k)
  | false => exact iteF (k H (Same.refl _))
/-- a value of two, each a truth -/
theorem andV_val {ta tb : TE} {σ : L2.St} {H : Hp} {Q : VK} (c b : Bool) (h1 : ∀ S : VK, S (.bl c) H → ta σ H S) (h2 : c = true → ∀ S : VK, S (.bl b) H → tb σ H S) (h3 : c = false → b = false) (k : Q (.bl b) H) : tAndV ta tb σ H Q := by
  refine h1 _ ⟨c, rfl, ?_⟩
  cases c with
  | true => exact iteT (h2 rfl Q k)
  | false => exact iteF (by rw [← h3 rfl]; exact k)
/-- a conditional expression whose ways change nothing -/
theorem if_any {tt : TT} {ta tb : TE} {σ : L2.St} {H : Hp} {Q : VK} (Φ : V → Prop) (c : Bool) (h : ∀ S : Bool → Hp → Prop, S c H → tt σ H S) (h1 : c = true → ∀ S : VK, (∀ v, Φ v → S v H) → ta σ H S) (h2 : c = false → ∀ S : VK, (∀ v, Φ v → S v H) → tb σ H S) (k : ∀ v, Φ v → Q v H) : tIf tt ta tb σ H Q := by
  refine h _ ?_
  cases c with
  | true => exact iteT (h1 rfl Q k)
  | false => exact iteF (h2 rfl Q k)
theorem nxI {a bk ct : L2.St → Hp → Prop} {rt : VK} {σ : L2.St} {H : Hp} (h : a σ H) : Ends.nx ⟨a, rt, bk, ct⟩ σ H := h
/-- an if whose test is false, new objects may be made -/
theorem seqIfF {c : TT} {t r : TS} {D : Ends} {σ : L2.St} {H : Hp} (h : ∀ R : Bool → Hp → Prop, (∀ H', Same H H' → R false H') → c σ H R) (k : ∀ H', Same H H' → r D σ H') : tSeq (tIfS c t tNext) r D σ H := h _ fun H' s => iteF (k H' s)
theorem lastIfF {c : TT} {t : TS} {D : Ends} {σ : L2.St} {H : Hp} (h : ∀ R : Bool → Hp → Prop, (∀ H', Same H H' → R false H') → c σ H R) (k : ∀ H', Same H H' → D.nx σ H') : tIfS c t tNext D σ H := h _ fun H' s => iteF (k H' s)
/-- a value given to a name -/
theorem seqSet {te : TE} {i : Nat} {r : TS} {D : Ends} {σ : L2.St} {H : Hp} (h : te σ H fun v H' => r D (σ.set i (some v)) H') : tSeq (tAsg te (gName i)) r D σ H := h
theorem nextI {D : Ends} {σ : L2.St} {H : Hp} (h : D.nx σ H) : tNext D σ H := h
end Gn
set_option Elab.async false
set_option linter.all false
set_option maxRecDepth 100000
set_option maxHeartbeats 8000000
set_option exponentiation.threshold 4000
namespace My
open PySem PySem.Spec PyProof.Rows L2 Gn Mt
abbrev s_is_fraction : Stmt := top 20
theorem sc_is_fraction : FnScope ["given", "top", "bottom"] ["given"] (defScope s_is_fraction) := ⟨rfl, rfl, rfl, by decide +kernel, rfl, by decide +kernel, by decide +kernel⟩
abbrev s_is_part : Stmt := top 21
theorem sc_is_part : FnScope ["given"] ["given"] (defScope s_is_part) := ⟨rfl, rfl, rfl, by decide +kernel, rfl, by decide +kernel, by decide +kernel⟩
abbrev s_is_less : Stmt := top 22
theorem sc_is_less : FnScope ["one", "other"] ["one", "other"] (defScope s_is_less) := ⟨rfl, rfl, rfl, by decide +kernel, rfl, by decide +kernel, by decide +kernel⟩
abbrev s__cuts_at : Stmt := top 33
theorem sc__cuts_at : FnScope ["piece", "low", "high", "first", "last"] ["piece"] (defScope s__cuts_at) := ⟨rfl, rfl, rfl, by decide +kernel, rfl, by decide +kernel, by decide +kernel⟩
abbrev s__is_ahead : Stmt := top 34
theorem sc__is_ahead : FnScope ["cut", "other"] ["cut", "other"] (defScope s__is_ahead) := ⟨rfl, rfl, rfl, by decide +kernel, rfl, by decide +kernel, by decide +kernel⟩
/-! fractions, cuts and pieces as data -/
def frD (p : Int × Int) : PyData := .tuple [.int p.1, .int p.2]
def bI (b : Bool) : Int := if b = true then 1 else 0
def cutD (c : Cut) : PyData := .tuple [frD (c.n, c.d), .int (bI c.b)]
def pcD (c e : Cut) : PyData := .tuple [frD (c.n, c.d), frD (e.n, e.d), .bool (!c.b), .bool e.b]
def pcsD : List Cut → List PyData
  | c :: e :: r => pcD c e :: pcsD r
  | _ => []
/-- not too long -/
def Lit (p : Int × Int) : Prop := p.1.natAbs < 2 ^ 1000 ∧ p.2.natAbs < 2 ^ 1000
section
variable {K : PySem.W.Frag} {H : Hp} {v : V}
theorem fr_inv {p : Int × Int} (h : Dp K H v (frD p)) : ∃ a, v = .ref a ∧ SqT K H a [.int p.1, .int p.2] := by
  cases h with
  | tup a b =>
    cases b with
    | cons x r => cases r with
      | cons y r => cases r; cases x; cases y; exact ⟨_, rfl, a⟩
theorem fr_mk {a : Addr} {x y : Int} (h : SqT K H a [.int x, .int y]) : Dp K H (.ref a) (frD (x, y)) := .tup h (.cons (.int _) (.cons (.int _) .nil))
theorem cut_inv {c : Cut} (h : Dp K H v (cutD c)) : ∃ a l, v = .ref a ∧ SqT K H a [l, .int (bI c.b)] ∧ Dp K H l (frD (c.n, c.d)) := by
  cases h with
  | tup a b =>
    cases b with
    | cons x r => cases r with
      | cons y r => cases r; cases y; exact ⟨_, _, rfl, a, x⟩
theorem cut_mk {a : Addr} {l : V} {c : Cut} (h : SqT K H a [l, .int (bI c.b)]) (d : Dp K H l (frD (c.n, c.d))) : Dp K H (.ref a) (cutD c) := .tup h (.cons d (.cons (.int _) .nil))
theorem pc_inv {c e : Cut} (h : Dp K H v (pcD c e)) : ∃ a l g, v = .ref a ∧ SqT K H a [l, g, .bl (!c.b), .bl e.b] ∧ Dp K H l (frD (c.n, c.d)) ∧ Dp K H g (frD (e.n, e.d)) := by
  cases h with
  | tup a b =>
    cases b with
    | cons x r => cases r with
      | cons y r => cases r with
        | cons z r => cases r with
          | cons u r => cases r; cases z; cases u; exact ⟨_, _, _, rfl, a, x, y⟩
theorem pc_mk {a : Addr} {l g : V} {c e : Cut} (h : SqT K H a [l, g, .bl (!c.b), .bl e.b]) (d : Dp K H l (frD (c.n, c.d))) (d' : Dp K H g (frD (e.n, e.d))) : Dp K H (.ref a) (pcD c e) := .tup h (.cons d (.cons d' (.cons (.bl _) (.cons (.bl _) .nil))))
theorem fr_shaped (p : Int × Int) : SeqAt.shaped (frD p) = true := by rfl
theorem fr_eqv (p q : Int × Int) : PyData.eqv (frD p) (frD q) = decide (p.1 = q.1 ∧ p.2 = q.2) := pair_eqv
end
def spLess (K : PySem.W.Frag) : Sp := fun vs H Q _ => ∃ (u v : V) (p q : Int × Int), vs = [u, v] ∧ Dp K H u (frD p) ∧ Dp K H v (frD q) ∧ Lit p ∧ Lit q ∧ Q (.bl (decide (p.1 * q.2 < q.1 * p.2))) H
def spPart (K : PySem.W.Frag) : Sp := fun vs H Q _ => ∃ (u : V) (p : Int × Int), vs = [u] ∧ Dp K H u (frD p) ∧ Frc p ∧ Q (.bl true) H
def spAhead (K : PySem.W.Frag) : Sp := fun vs H Q _ => ∃ (u v : V) (c e : Cut), vs = [u, v] ∧ Dp K H u (cutD c) ∧ Dp K H v (cutD e) ∧ Lit (c.n, c.d) ∧ Lit (e.n, e.d) ∧ Q (.bl (c.lt e)) H
def spCuts (K : PySem.W.Frag) : Sp := fun vs H Q _ => ∃ (u : V) (c e : Cut), vs = [u] ∧ Dp K H u (pcD c e) ∧
  ∀ r x y H', Same H H' → H r = none → H' r = some (.tup [x, y]) → Dp K H' x (cutD c) → Dp K H' y (cutD e) → Q (.ref r) H'
section
variable {P : Program} {w : World} {K : PySem.W.Frag} {mg : Str → Option Value} {base : Heap}
theorem ok_less {f : Addr} {fd : FuncData} (F : Fun K "is_less" "is_less" s_is_less f fd) : FnOk P w K mg base CX0 1 f fd ["one", "other"] (spLess K) := by
  refine F.ok sc_is_less (fun vs H Q E h => ?_) (fun cdv A outer s H vs Q E hr h => ?_)
  · obtain ⟨u, v, p, q, rfl, _⟩ := h
    rfl
  · obtain ⟨u, v, p, q, rfl, h1, h2, l1, l2, k⟩ := h
    refine ⟨_, pss_one (ps_ret (pe_cmpR op_lt (pe_op op_mulW (pe_ix ix_tup (pv 0) pe_int (fun _ _ => rfl)) (pe_ix ix_tup (pv 1) pe_int (fun _ _ => rfl))) (pe_op op_mulW (pe_ix ix_tup (pv 1) pe_int (fun _ _ => rfl)) (pe_ix ix_tup (pv 0) pe_int (fun _ _ => rfl))) (nomark _))), ?_⟩
    obtain ⟨a, rfl, ha⟩ := fr_inv h1
    obtain ⟨b, rfl, hb⟩ := fr_inv h2
    refine ⟨_, rfl, a, _, 0, .int p.1, rfl, rfl, ha, at_of (j := 0) rfl rfl, _, rfl, b, _, 1, .int q.2, rfl, rfl, hb, at_of (j := 1) rfl rfl, _, _, rfl, rfl, wide_mul l1.1 l2.2 (by decide) (by decide) (by decide), ?_⟩
    exact ⟨_, rfl, b, _, 0, .int q.1, rfl, rfl, hb, at_of (j := 0) rfl rfl, _, rfl, a, _, 1, .int p.2, rfl, rfl, ha, at_of (j := 1) rfl rfl, _, _, rfl, rfl, wide_mul l2.1 l1.2 (by decide) (by decide) (by decide), _, _, rfl, rfl, k⟩
theorem ok_frac {f fI : Addr} {fd fdI : FuncData} (F : Fun K "is_fraction" "is_fraction" s_is_fraction f fd) (B : Bc mg) (D : Df K mg "is_integer" sIsInt ["given"] fI fdI) : FnOk P w K mg base CX0 2 f fd ["given"] (spPart K) := by
  have GI : FnOk P w K mg base CX0 1 fI fdI ["given"] spIsInt := ok_isInt D.F B
  refine F.ok sc_is_fraction (fun vs H Q E h => ?_) (fun cdv A outer s H vs Q E hr h => ?_)
  · obtain ⟨u, p, rfl, _⟩ := h
    rfl
  · obtain ⟨u, p, rfl, hp, fp, k⟩ := h
    obtain ⟨t, rfl, hT⟩ := fr_inv hp
    refine ⟨_, pss_cons (ps_if (PW.pt (pw_or (pt_not (pt_val (pe_callB (call_isi) (by rfl) B.isi (by decide +kernel) (pa_cons (pv 0) (pa_cons (pe_bltn (v := .ty "tuple") (by rfl) B.tuple (by decide +kernel) rfl) pa_nil))))) (pw_or1 (pt_cmpR op_ne (pe_callB (call_len_seq) (by rfl) B.len (by decide +kernel) (pa_cons (pv 0) pa_nil)) pe_int (nomark _))))) (pss_one (ps_ret pe_bl)) pss_nil) (pss_cons (ps_asg (pv 0) (pg_tup (by rfl) (pgs_cons (pg_name (i := 1) sc_is_fraction.nd rfl (.inl rfl)) (pgs_cons (pg_name (i := 2) sc_is_fraction.nd rfl (.inl rfl)) pgs_nil)))) (pss_cons (ps_if (PW.pt (pw_or (pt_not (pt_val (pe_call GI hr (by rfl) D.g D.F.kp D.b .nil pass0 (pa_cons (pv 1) pa_nil)))) (pw_or1 (pt_not (pt_val (pe_call GI hr (by rfl) D.g D.F.kp D.b .nil pass0 (pa_cons (pv 2) pa_nil))))))) (pss_one (ps_ret pe_bl)) pss_nil) (pss_one (ps_ret (pe_and (pe_cmpR op_ge (pv 2) pe_int (nomark _)) (pe_one (pe_cmpR op_eq (pe_callBfun cr_gcd (by rfl) B.gcd (pa_cons (pv 1) (pa_cons (pv 2) pa_nil))) pe_int (nomark _)))))))), ?_⟩
    refine ⟨_, rfl, .ref t, .ty "tuple", _, _, true, rfl, .ty "tuple", tyx_sqt hT, kit_ty (by decide +kernel), true, rfl, iteF ?_⟩
    refine ⟨_, rfl, t, _, rfl, .inr hT, rfl, _, rfl, iteF ?_⟩
    refine ⟨_, rfl, t, _, rfl, hT, rfl, _, _, rfl, _, _, rfl, rfl, ?_⟩
    refine ⟨_, rfl, p.1, rfl, true, rfl, iteF ⟨_, rfl, p.2, rfl, true, rfl, iteF ?_⟩⟩
    have d0 := fp.d0
    refine ⟨_, rfl, _, _, rfl, rfl, _, rfl, ?_⟩
    rw [decide_eq_true (show (1 : Int) ≤ p.2 by omega)]
    refine iteT ⟨_, rfl, _, rfl, p.1, p.2, rfl, ?_⟩
    have co : Nat.gcd p.1.natAbs p.2.natAbs = 1 := fp.co
    rw [co]
    exact ⟨rfl, k⟩
theorem ok_part {f fI fR : Addr} {fd fdI fdR : FuncData} (F : Fun K "is_part" "is_part" s_is_part f fd) (B : Bc mg) (D : Df K mg "is_integer" sIsInt ["given"] fI fdI) (R : Df K mg "is_fraction" s_is_fraction ["given"] fR fdR) : FnOk P w K mg base CX0 3 f fd ["given"] (spPart K) := by
  have GR : FnOk P w K mg base CX0 2 fR fdR ["given"] (spPart K) := ok_frac R.F B D
  refine F.ok sc_is_part (fun vs H Q E h => ?_) (fun cdv A outer s H vs Q E hr h => ?_)
  · obtain ⟨u, p, rfl, _⟩ := h
    rfl
  · obtain ⟨u, p, rfl, hp, fp, k⟩ := h
    have hp0 := hp
    obtain ⟨t, rfl, hT⟩ := fr_inv hp
    refine ⟨_, pss_one (ps_ret (pe_and (pe_call GR hr (by rfl) R.g R.F.kp R.b .nil pass0 (pa_cons (pv 0) pa_nil)) (pe_one (pe_chain op_le op_le pe_int (pe_ix ix_tup (pv 0) pe_int (fun _ _ => rfl)) (pe_ix ix_tup (pv 0) pe_int (fun _ _ => rfl)))))), ?_⟩
    refine ⟨_, rfl, _, p, rfl, hp0, fp, true, rfl, iteT ?_⟩
    refine ⟨_, rfl, t, _, 0, .int p.1, rfl, rfl, hT, at_of (j := 0) rfl rfl, _, _, rfl, rfl, _, rfl, ?_⟩
    rw [decide_eq_true fp.n0]
    refine iteT ⟨_, rfl, t, _, 1, .int p.2, rfl, rfl, hT, at_of (j := 1) rfl rfl, _, _, rfl, rfl, ?_⟩
    show Q (.bl (decide (p.1 ≤ p.2))) H
    rw [decide_eq_true fp.le]
    exact k
theorem ok_ahead {f fL : Addr} {fd fdL : FuncData} (F : Fun K "_is_ahead" "_is_ahead" s__is_ahead f fd) (L : Df K mg "is_less" s_is_less ["one", "other"] fL fdL) : FnOk P w K mg base CX0 2 f fd ["cut", "other"] (spAhead K) := by
  have GL : FnOk P w K mg base CX0 1 fL fdL ["one", "other"] (spLess K) := ok_less L.F
  refine F.ok sc__is_ahead (fun vs H Q E h => ?_) (fun cdv A outer s H vs Q E hr h => ?_)
  · obtain ⟨u, v, p, q, rfl, _⟩ := h
    rfl
  · obtain ⟨u, v, c, e, rfl, h1, h2, l1, l2, k⟩ := h
    have hu := hr.units
    obtain ⟨a, x, rfl, ha, dx⟩ := cut_inv h1
    obtain ⟨b, y, rfl, hb, dy⟩ := cut_inv h2
    refine ⟨_, pss_cons (ps_if (pt_cmpR (op_eqD hu) (pe_ix ix_tup (pv 0) pe_int (fun _ _ => rfl)) (pe_ix ix_tup (pv 1) pe_int (fun _ _ => rfl)) (nomark _)) (pss_one (ps_ret (pe_cmpR op_lt (pe_ix ix_tup (pv 0) pe_int (fun _ _ => rfl)) (pe_ix ix_tup (pv 1) pe_int (fun _ _ => rfl)) (nomark _)))) pss_nil) (pss_one (ps_ret (pe_call GL hr (by rfl) L.g L.F.kp L.b .nil pass0 (pa_cons (pe_ix ix_tup (pv 0) pe_int (fun _ _ => rfl)) (pa_cons (pe_ix ix_tup (pv 1) pe_int (fun _ _ => rfl)) pa_nil))))), ?_⟩
    refine ⟨_, rfl, a, _, 0, x, rfl, rfl, ha, at_of (j := 0) rfl rfl, _, rfl, b, _, 0, y, rfl, rfl, hb, at_of (j := 0) rfl rfl, _, _, dx, dy, fr_shaped _, fr_shaped _, _, rfl, ?_⟩
    rw [fr_eqv]
    unfold Cut.lt at k
    refine ite2 (fun z => ?_) (fun z => ?_)
    · have z := of_decide_eq_true z
      rw [if_pos z] at k
      refine ⟨_, rfl, a, _, 1, .int (bI c.b), rfl, rfl, ha, at_of (j := 1) rfl rfl, _, rfl, b, _, 1, .int (bI e.b), rfl, rfl, hb, at_of (j := 1) rfl rfl, _, _, rfl, rfl, ?_⟩
      have : decide (bI c.b < bI e.b) = (!c.b && e.b) := by cases c.b <;> cases e.b <;> decide
      show Q (.bl (decide (bI c.b < bI e.b))) H
      rw [this]
      exact k
    · have z : ¬ (c.n = e.n ∧ c.d = e.d) := fun q => z (decide_eq_true q)
      rw [if_neg z] at k
      exact ⟨_, rfl, a, _, 0, x, rfl, rfl, ha, at_of (j := 0) rfl rfl, _, rfl, b, _, 0, y, rfl, rfl, hb, at_of (j := 0) rfl rfl, _, _, _, _, rfl, dx, dy, l1, l2, k⟩
theorem ok_cuts {f : Addr} {fd : FuncData} (F : Fun K "_cuts_at" "_cuts_at" s__cuts_at f fd) : FnOk P w K mg base CX0 1 f fd ["piece"] (spCuts K) := by
  refine F.ok sc__cuts_at (fun vs H Q E h => ?_) (fun cdv A outer s H vs Q E hr h => ?_)
  · obtain ⟨u, c, e, rfl, _⟩ := h
    rfl
  · obtain ⟨u, c, e, rfl, h1, k⟩ := h
    obtain ⟨a, x, y, rfl, ha, dx, dy⟩ := pc_inv h1
    refine ⟨_, pss_cons (ps_asg (pv 0) (pg_tup (by rfl) (pgs_cons (pg_name (i := 1) sc__cuts_at.nd rfl (.inl rfl)) (pgs_cons (pg_name (i := 2) sc__cuts_at.nd rfl (.inl rfl)) (pgs_cons (pg_name (i := 3) sc__cuts_at.nd rfl (.inl rfl)) (pgs_cons (pg_name (i := 4) sc__cuts_at.nd rfl (.inl rfl)) pgs_nil)))))) (pss_one (ps_ret (pe_tup (pa_cons (pe_tup (pa_cons (pv 1) (pa_cons (pe_ifExp (pt_val (pv 3)) pe_int pe_int) pa_nil))) (pa_cons (pe_tup (pa_cons (pv 2) (pa_cons (pe_ifExp (pt_val (pv 4)) pe_int pe_int) pa_nil))) pa_nil))))), ?_⟩
    refine ⟨_, rfl, a, _, rfl, ha, rfl, _, _, rfl, _, _, rfl, _, _, rfl, _, _, rfl, rfl, ?_⟩
    refine ⟨_, rfl, ?_⟩
    refine if_any (fun v => v = .int (bI c.b)) (!c.b) (fun S s => ⟨_, rfl, _, rfl, s⟩) (fun z S s => s _ (by cases h : c.b with | true => rw [h] at z; cases z | false => rfl)) (fun z S s => s _ (by cases h : c.b with | false => rw [h] at z; cases z | true => rfl)) (fun v hv => ?_)
    subst hv
    refine ⟨(by show 2 ≤ sizeLine; decide), fun r1 n1 => ⟨_, rfl, ?_⟩⟩
    have s1 := same_put (o := HO.tup [x, .int (bI c.b)]) n1
    have g1 : upd H r1 (HO.tup [x, .int (bI c.b)]) r1 = some (.tup [x, .int (bI c.b)]) := upd_same
    generalize upd H r1 (HO.tup [x, .int (bI c.b)]) = H1 at *
    refine if_any (fun v => v = .int (bI e.b)) e.b (fun S s => ⟨_, rfl, _, rfl, s⟩) (fun z S s => s _ (by rw [z]; rfl)) (fun z S s => s _ (by rw [z]; rfl)) (fun v hv => ?_)
    subst hv
    refine ⟨(by show 2 ≤ sizeLine; decide), fun r2 n2 => ⟨(by show 2 ≤ sizeLine; decide), fun r n => ?_⟩⟩
    have s2 := same_put (o := HO.tup [y, .int (bI e.b)]) n2
    have g2 : upd H1 r2 (HO.tup [y, .int (bI e.b)]) r2 = some (.tup [y, .int (bI e.b)]) := upd_same
    generalize upd H1 r2 (HO.tup [y, .int (bI e.b)]) = H2 at *
    have s3 := same_put (o := HO.tup [.ref r1, .ref r2]) n
    have S := (s1.trans s2).trans s3
    exact k r _ _ _ S ((s1.trans s2).free n) upd_same (cut_mk (SqT.of (s3 _ _ (s2 _ _ g1))) (dp_same S _ _ dx)) (cut_mk (SqT.of (s3 _ _ g2)) (dp_same S _ _ dy))
end
end My
set_option Elab.async false
set_option linter.all false
set_option maxRecDepth 100000
set_option maxHeartbeats 4000000
/-! data that a list's growing leaves as it is -/
namespace Gn
open PySem PySem.Spec PyProof.Rows L2
theorem small1e4 {n : Nat} (h : n ≤ 10000) : n < sizeLine := Nat.lt_of_le_of_lt h (by decide)
mutual
/-- no list in it, no dict -/
def noL : PyData → Bool
  | .list _ => false
  | .dict _ => false
  | .tuple ds => noLs ds
  | _ => true
def noLs : List PyData → Bool
  | [] => true
  | d :: ds => noL d && noLs ds
end
theorem noLs_iff : ∀ {ds : List PyData}, noLs ds = true ↔ ∀ d ∈ ds, noL d = true
  | [] => ⟨(fun _ d m => nomatch m), fun _ => by unfold noLs; rfl⟩
  | d :: ds => by
    unfold noLs
    rw [Bool.and_eq_true, noLs_iff]
    exact ⟨fun h x m => (List.mem_cons.mp m).elim (fun e => e ▸ h.1) (h.2 x), fun h => ⟨h d List.mem_cons_self, fun x m => h x (List.mem_cons_of_mem _ m)⟩⟩
/-- all but lists last -/
def ButL (H H' : Hp) : Prop := ∀ b o, (∀ ys, o ≠ HO.lst ys) → H b = some o → H' b = some o
theorem ButL.sq {K : PySem.W.Frag} {H H' : Hp} {a : Addr} {xs : List V} (k : ButL H H') (h : SqT K H a xs) : SqT K H' a xs := by
  rcases h with (h | ⟨o, h⟩) | h
  · exact .inl (.inl (k _ _ (fun ys z => by cases z) h))
  · exact .inl (.inr ⟨o, k _ _ (fun ys z => by cases z) h⟩)
  · exact .inr h
mutual
theorem dp_butL {K : PySem.W.Frag} {H H' : Hp} (k : ButL H H') : ∀ (d : PyData) (v : V), noL d = true → Dp K H v d → Dp K H' v d
  | .none, _, _, h => by cases h; exact .non
  | .bool b, _, _, h => by cases h; exact .bl b
  | .int i, _, _, h => by cases h; exact .int i
  | .str x, _, _, h => by cases h; exact .str x
  | .list ds, _, n, _ => by unfold noL at n; cases n
  | .tuple ds, _, n, h => by cases h with | tup a b => exact .tup (k.sq a) (dps_butL k ds _ (by unfold noL at n; exact n) b)
  | .dict _, _, n, _ => by unfold noL at n; cases n
theorem dps_butL {K : PySem.W.Frag} {H H' : Hp} (k : ButL H H') : ∀ (ds : List PyData) (vs : List V), noLs ds = true → DpAll K H vs ds → DpAll K H' vs ds
  | [], _, _, h => by cases h; exact .nil
  | d :: ds, _, n, h => by
    unfold noLs at n
    rw [Bool.and_eq_true] at n
    cases h with | cons a b => exact .cons (dp_butL k d _ n.1 a) (dps_butL k ds _ n.2 b)
end
theorem butL_upd {H : Hp} {D : Addr} {ys zs : List V} (h : H D = some (.lst ys)) : ButL H (upd H D (.lst zs)) := fun b o n e => by
  have ne : b ≠ D := fun z => by rw [z, h] at e; exact n ys (Option.some.inj e).symm
  rw [upd_ne ne]; exact e
theorem dp_upd {K : PySem.W.Frag} {H : Hp} {D : Addr} {ys zs : List V} {v : V} {d : PyData} (h : H D = some (.lst ys)) (n : noL d = true) (x : Dp K H v d) : Dp K (upd H D (.lst zs)) v d := dp_butL (butL_upd h) d v n x
theorem dps_upd {K : PySem.W.Frag} {H : Hp} {D : Addr} {ys zs vs : List V} {ds : List PyData} (h : H D = some (.lst ys)) (n : noLs ds = true) (x : DpAll K H vs ds) : DpAll K (upd H D (.lst zs)) vs ds := dps_butL (butL_upd h) ds vs n x
end Gn
set_option Elab.async false
set_option linter.all false
set_option maxRecDepth 100000
set_option maxHeartbeats 4000000
/-! two promises of one def, one that never throws and one that does, put together -/
namespace Gn
open PySem PySem.Spec PyProof.Rows L2
section
variable {P : Program} {w : World} {K : PySem.W.Frag} {mg : Str → Option Value} {base : Heap} {CX : CXT} {k : Nat} {f : Addr} {fd : FuncData} {ps : List Str} {sp sp' : Sp}
theorem cr_up {outer : List Env} {H : Hp} {s s' : Shared} {Q : VK} {E : XK} {r : Result} (h : CR CX0 outer P w H s Q E r s') : CR CX outer P w H s Q E r s' := by
  match r, h with
  | .ok (.ret u), h => exact h
  | .error e, h => exact False.elim h
theorem okUp (F : FnOk P w K mg base CX0 k f fd ps sp) : FnOk P w K mg base CX k f fd ps sp :=
  ⟨F.len, fun A o s H a us vs Q E hr e hb hv h => codeAny_mono (F.run A o s H a us vs Q E hr e hb hv h) fun _ _ z => cr_up z⟩
theorem fgUp (F : FnG P w K mg base CX0 k f fd ps sp) : FnG P w K mg base CX k f fd ps sp :=
  ⟨F.len, fun A o s H a us vs Q E hg hr e hb hv h => codeAny_mono (F.run A o s H a us vs Q E hg hr e hb hv h) fun _ _ z => cr_up z⟩
def spOr (a b : Sp) : Sp := fun vs H Q E => a vs H Q E ∨ b vs H Q E
theorem okOr (F : FnOk P w K mg base CX k f fd ps sp) (G : FnOk P w K mg base CX k f fd ps sp') : FnOk P w K mg base CX k f fd ps (spOr sp sp') :=
  ⟨fun vs H Q E h => h.elim (F.len vs H Q E) (G.len vs H Q E), fun A o s H a us vs Q E hr e hb hv h => h.elim (fun h => F.run A o s H a us vs Q E hr e hb hv h) fun h => G.run A o s H a us vs Q E hr e hb hv h⟩
theorem fgOr (F : FnG P w K mg base CX k f fd ps sp) (G : FnG P w K mg base CX k f fd ps sp') : FnG P w K mg base CX k f fd ps (spOr sp sp') :=
  ⟨fun vs H Q E h => h.elim (F.len vs H Q E) (G.len vs H Q E), fun A o s H a us vs Q E hg hr e hb hv h => h.elim (fun h => F.run A o s H a us vs Q E hg hr e hb hv h) fun h => G.run A o s H a us vs Q E hg hr e hb hv h⟩
/-- what is refused, the rest never gone through -/
theorem okBad {x qual : Str} {st : Stmt} {f : Addr} {fd : FuncData} {N ps : List Str} {k : Nat} {sp : Sp} (F : Fun K x qual st f fd) (S : FnScope N ps (defScope st)) (len : ∀ vs H Q E, sp vs H Q E → vs.length = ps.length)
    (body : ∀ (cdv : Value) (A : Around) (outer : List Env) (s : Shared) (H : Hp) (vs : List V) (Q : VK) (E : XK), Room k (A.deeper (envOfC qual (defScope st) s.heap.objs.size f cdv)) → sp vs H Q E →
      L2N.Takes (cxOf (L2N.CX P w) P w K mg base N qual (defScope st) f cdv A outer s H E) (fun C d _ G => E C d G) →
      ∃ t, PSs (cxOf (L2N.CX P w) P w K mg base N qual (defScope st) f cdv A outer s H E) (defBody st) t ∧ t { nx := fun _ G => Q .non G, rt := Q } (start N vs) H) : FnOk P w K mg base (L2N.CX P w) (k + 1) f fd ps sp :=
  okN F S len fun cdv A outer s H vs Q E hr h => body cdv A outer s H vs Q E hr h (L2N.takes_of rfl rfl rfl rfl)
end
end Gn
set_option Elab.async false
set_option linter.all false
set_option maxRecDepth 100000
set_option maxHeartbeats 8000000
set_option exponentiation.threshold 4000
namespace My
open PySem PySem.Spec PyProof.Rows L2 Gn Mt
abbrev s__first_wrong : Stmt := top 31
theorem sc__first_wrong : FnScope ["pieces", "at", "piece"] ["pieces"] (defScope s__first_wrong) := ⟨rfl, rfl, rfl, by decide +kernel, rfl, by decide +kernel, by decide +kernel⟩
abbrev s__is_piece : Stmt := top 32
theorem sc__is_piece : FnScope ["given", "low", "high", "first", "last", "begin", "end"] ["given"] (defScope s__is_piece) := ⟨rfl, rfl, rfl, by decide +kernel, rfl, by decide +kernel, by decide +kernel⟩
/-! any pieces: which is the first wrong one -/
abbrev s_linit : Stmt := inClass (top 29) 0
abbrev s_lpieces : Stmt := inClass (top 29) 2
theorem sc_linit : FnScope ["self", "pieces", "wrong"] ["self", "pieces"] (defScope s_linit) := ⟨rfl, rfl, rfl, by decide +kernel, rfl, by decide +kernel, by decide +kernel⟩
theorem sc_lpieces : FnScope ["self"] ["self"] (defScope s_lpieces) := ⟨rfl, rfl, rfl, by decide +kernel, rfl, by decide +kernel, by decide +kernel⟩
/-- a cut at what may be a fraction -/
def ctD (d : PyData) (b : Bool) : Cut := match d with | .tuple [.int n, .int m] => ⟨n, m, b⟩ | _ => ⟨0, 1, b⟩
def pcB (l h : PyData) (f t : Bool) : Bool := isPt l && (isPt h && ((ctD l (!f)).lt (ctD h t) && !(last.lt (ctD h t))))
def isPcB : PyData → Bool
  | .tuple [l, h, .bool f, .bool t] => pcB l h f t
  | _ => false
def begD : PyData → Cut
  | .tuple [l, _, .bool f, _] => ctD l (!f)
  | _ => last
def endD : PyData → Cut
  | .tuple [_, h, _, .bool t] => ctD h t
  | _ => last
def sideB : Option PyData → PyData → Bool
  | none, _ => true
  | some q, d => (endD q).lt (begD d)
/-- the index of the first wrong one, p the one ahead -/
def wrongFrom : Option PyData → Nat → List PyData → Option Nat
  | _, _, [] => none
  | p, j, d :: ds => if (isPcB d && sideB p d) = true then wrongFrom (some d) (j + 1) ds else some j
/-- nothing wrong: none; else the index, none for no tuple -/
def pcsW : PyData → Option (Option Nat)
  | .tuple ds => (wrongFrom none 0 ds).map some
  | _ => some none
/-- fractions in it are none too long -/
def Lit4 (d : PyData) : Prop := ∀ ds, d = .tuple ds → ds.length ≤ 60 ∧ ∀ e ∈ ds, ∀ n m, e = .tuple [.int n, .int m] → Lit (n, m)
def LitP (d : PyData) : Prop := ∀ ds, d = .tuple ds → ds.length ≤ 60 ∧ ∀ e ∈ ds, Lit4 e
theorem partD_of {d : PyData} (h : isPt d = true) : ∃ n m : Int, d = .tuple [.int n, .int m] ∧ 0 < m ∧ Int.gcd n m = 1 ∧ 0 ≤ n ∧ n ≤ m := by
  unfold isPt at h
  split at h
  · rename_i n m
    rw [Bool.and_eq_true, Bool.and_eq_true, decide_eq_true_eq, decide_eq_true_eq] at h
    obtain ⟨_, _, e, h1, h2⟩ := isFr_of h.1
    cases e
    exact ⟨n, m, rfl, by omega, h2, h.2.1, h.2.2⟩
  · cases h
theorem pc_of {d : PyData} (h : isPcB d = true) : ∃ c e : Cut, d = pcD c e ∧ c.In ∧ e.In ∧ c.lt e = true ∧ begD d = c ∧ endD d = e := by
  unfold isPcB at h
  split at h
  · rename_i l g f t
    unfold pcB at h
    rw [Bool.and_eq_true, Bool.and_eq_true, Bool.and_eq_true] at h
    obtain ⟨h1, h2, h3, h4⟩ := h
    obtain ⟨n, m, rfl, m0, co, n0, le⟩ := partD_of h1
    obtain ⟨n', m', rfl, m0', co', n0', le'⟩ := partD_of h2
    have v1 : (ctD (.tuple [.int n, .int m]) (!f)).V := ⟨m0, co⟩
    have v2 : (ctD (.tuple [.int n', .int m']) t).V := ⟨m0', co'⟩
    have l2 : last.lt (ctD (.tuple [.int n', .int m']) t) = false := by
      cases z : last.lt (ctD (.tuple [.int n', .int m']) t) with
      | false => rfl
      | true => rw [z] at h4; cases h4
    have l1 : last.lt (ctD (.tuple [.int n, .int m]) (!f)) = false := by
      cases z : last.lt (ctD (.tuple [.int n, .int m]) (!f)) with
      | false => rfl
      | true => rw [Cut.trans last_in.toV v1 v2 z h3] at l2; cases l2
    refine ⟨ctD (.tuple [.int n, .int m]) (!f), ctD (.tuple [.int n', .int m']) t, ?_, ⟨v1, n0, l1⟩, ⟨v2, n0', l2⟩, h3, rfl, rfl⟩
    show PyData.tuple [_, _, .bool f, .bool t] = .tuple [_, _, .bool (!(!f)), .bool t]
    rw [Bool.not_not]
    rfl
  · cases h
theorem wrong_none : ∀ {ds : List PyData} {p : Option PyData} {j : Nat}, wrongFrom p j ds = none → (∀ q, p = some q → isPcB q = true) → ∃ cs : List Cut, ds = pcsD cs ∧ odd cs.length = false ∧ (∀ c ∈ cs, c.In) ∧ Asc ((p.map endD).toList ++ cs)
  | [], p, j, _, _ => ⟨[], rfl, rfl, (fun c m => by cases m), by cases p <;> simp [Asc]⟩
  | d :: ds, p, j, h, hp => by
    rw [wrongFrom] at h
    split at h
    · rename_i z
      rw [Bool.and_eq_true] at z
      obtain ⟨c, e, rfl, ic, ie, lt, eb, ee⟩ := pc_of z.1
      obtain ⟨cs, rfl, od, al, as⟩ := wrong_none h (fun q hq => by cases hq; exact z.1)
      have as : Asc (e :: cs) := by
        have := as
        rw [Option.map_some, ee] at this
        exact this
      have ne : ∀ x ∈ cs, e.lt x = true := (List.pairwise_cons.mp as).1
      have nc : ∀ x ∈ cs, c.lt x = true := fun x m => Cut.trans ic.toV ie.toV (al x m).toV lt (ne x m)
      have a2 : Asc (c :: e :: cs) := List.pairwise_cons.mpr ⟨fun x m => by rcases List.mem_cons.mp m with rfl | m; exact lt; exact nc x m, as⟩
      refine ⟨c :: e :: cs, rfl, by simpa [odd] using od, fun x m => ?_, ?_⟩
      · rcases List.mem_cons.mp m with rfl | m
        · exact ic
        rcases List.mem_cons.mp m with rfl | m
        · exact ie
        exact al x m
      · cases p with
        | none => exact a2
        | some q =>
          obtain ⟨c', e', rfl, ic', ie', _, _, ee'⟩ := pc_of (hp q rfl)
          have zs : (endD (pcD c' e')).lt (begD (pcD c e)) = true := z.2
          rw [ee', eb] at zs
          show Asc (endD (pcD c' e') :: c :: e :: cs)
          rw [ee']
          refine List.pairwise_cons.mpr ⟨fun x m => ?_, a2⟩
          rcases List.mem_cons.mp m with rfl | m
          · exact zs
          rcases List.mem_cons.mp m with rfl | m
          · exact Cut.trans ie'.toV ic.toV ie.toV zs lt
          exact Cut.trans ie'.toV ic.toV (al x m).toV zs (nc x m)
    · cases h
theorem pcs_of {d : PyData} (h : pcsW d = none) : ∃ cs, d = .tuple (pcsD cs) ∧ Lt cs := by
  cases d with
  | tuple ds =>
    have h : (wrongFrom none 0 ds).map some = none := h
    rw [Option.map_eq_none_iff] at h
    obtain ⟨cs, rfl, od, al, as⟩ := wrong_none h (fun q hq => by cases hq)
    exact ⟨cs, rfl, ⟨al, as, od⟩⟩
  | _ => cases h
/-- one of the class C is raised, v as its index -/
def ThrownI (C : Addr) (v : V) (H : Hp) (E : XK) : Prop := ∀ d H', Same H H' → H d = none → H' d = some (.xd [("index", v)]) → E (.ref C) (some d) H'
theorem ThrownI.same {C : Addr} {v : V} {H H1 : Hp} {E : XK} (t : ThrownI C v H E) (s : Same H H1) : ThrownI C v H1 E := fun d H' s2 n h => t d H' (s.trans s2) (s.free n) h
def ixV : Option Nat → V
  | none => .non
  | some j => .int (j : Nat)
def ixD : Option Nat → PyData
  | none => .none
  | some j => .int (j : Nat)
/-- such a one raised, its attribute written as it is -/
theorem thr_c {K : PySem.W.Frag} {C : Addr} {n : Str} {x : V} {σ : L2.St} {H : Hp} {Q : XK} (T : OwC K C) (no : PySem.W.findIn K (.ref C) n = some none)
    (k : ∀ d H', Same H H' → H d = none → H' d = some (.xd [(n, x)]) → Q (.ref C) (some d) H') : tThr C (spIni K [n]) [] (tCons (tC x) tNil) σ H Q := by
  refine ⟨Nat.le_of_ble_eq_true rfl, fun a ha => ⟨a, C, [x], rfl, rfl, T, fun f hf => by rw [List.mem_singleton.mp hf]; exact no, upd_same, fun H2 bt kt => ⟨rfl, .inl ?_⟩⟩⟩
  rcases kt with ⟨z, _⟩ | ⟨d, hd, h1, h2⟩
  · cases z
  · have da : d ≠ a := fun z => by
      rw [z, upd_same] at hd
      cases hd
    have hd1 : H d = none := by
      rw [upd_ne da] at hd
      exact hd
    refine ⟨d, _, h1, h2, hd1, k d _ (fun b o z => ?_) hd1 upd_same⟩
    rw [upd_ne (ne_of_none z hd1), del_ne (ne_of_none z ha)]
    exact bt b o (ne_of_none z ha) (by rw [upd_ne (ne_of_none z ha)]; exact z)
def spIsPcX (K : PySem.W.Frag) : Sp := fun vs H Q _ => ∃ v d, vs = [v] ∧ An K H v d ∧ Lit4 d ∧ ∀ H', Same H H' → Q (.bl (isPcB d)) H'
def spWrongX (K : PySem.W.Frag) : Sp := fun vs H Q _ => ∃ v ds, vs = [v] ∧ An K H v (.tuple ds) ∧ LitP (.tuple ds) ∧ ∀ H', Same H H' → Q (match wrongFrom none 0 ds with | none => .non | some j => .int (j : Nat)) H'
/-- the built-ins and constants that lots want -/
structure Bp (K : PySem.W.Frag) (mg : Str → Option Value) : Prop where
  c : Bc mg
  en : mg "enumerate" = none
  zip : mg "zip" = none
  lc : ∃ a, mg "_LAST_CUT" = some (.ref a) ∧ ∀ H, Dp K H (.ref a) (cutD last)
/-- the defs about pieces -/
structure Pd (K : PySem.W.Frag) (mg : Str → Option Value) where
  f_is_fraction : Addr × FuncData
  d_is_fraction : Df K mg "is_fraction" s_is_fraction ["given"] f_is_fraction.1 f_is_fraction.2
  f_is_part : Addr × FuncData
  d_is_part : Df K mg "is_part" s_is_part ["given"] f_is_part.1 f_is_part.2
  f_is_less : Addr × FuncData
  d_is_less : Df K mg "is_less" s_is_less ["one", "other"] f_is_less.1 f_is_less.2
  f__first_wrong : Addr × FuncData
  d__first_wrong : Df K mg "_first_wrong" s__first_wrong ["pieces"] f__first_wrong.1 f__first_wrong.2
  f__is_piece : Addr × FuncData
  d__is_piece : Df K mg "_is_piece" s__is_piece ["given"] f__is_piece.1 f__is_piece.2
  f__cuts_at : Addr × FuncData
  d__cuts_at : Df K mg "_cuts_at" s__cuts_at ["piece"] f__cuts_at.1 f__cuts_at.2
  f__is_ahead : Addr × FuncData
  d__is_ahead : Df K mg "_is_ahead" s__is_ahead ["cut", "other"] f__is_ahead.1 f__is_ahead.2
  f_int : Addr × FuncData
  d_int : Df K mg "is_integer" sIsInt ["given"] f_int.1 f_int.2
section
variable {P : Program} {w : World} {K : PySem.W.Frag} {mg : Str → Option Value} {base : Heap}
theorem lit_last : Lit (last.n, last.d) := ⟨by decide, by decide⟩
theorem an_fr {H : Hp} {v : V} {n m : Int} (h : An K H v (.tuple [.int n, .int m])) : Dp K H v (frD (n, m)) := h.dp (by simp only [flat, flat.flats, Bool.and_self])
theorem anAll_four {H : Hp} {xs : List V} {ds : List PyData} (h : AnAll K H xs ds) (e : ds.length = 4) : ∃ x y z u p q r t, xs = [x, y, z, u] ∧ ds = [p, q, r, t] ∧ An K H x p ∧ An K H y q ∧ An K H z r ∧ An K H u t := by
  have e2 := (dpAll_len h).trans e
  match xs, ds, h, e2 with
  | [x, y, z, u], [p, q, r, t], .cons a (.cons b (.cons c (.cons d .nil))), _ => exact ⟨x, y, z, u, p, q, r, t, rfl, rfl, a, b, c, d⟩
theorem isPc_len {ds : List PyData} (h : ds.length ≠ 4) : isPcB (.tuple ds) = false := by
  unfold isPcB
  split
  · rename_i e
    cases e
    exact absurd rfl h
  · rfl
theorem ok_isPcX {f : Addr} {fd : FuncData} (F : Fun K "_is_piece" "_is_piece" s__is_piece f fd) (B : Bp K mg) (M : Pd K mg) : FnOk P w K mg base CX0 4 f fd ["given"] (spIsPcX K) := by
  have GP : FnOk P w K mg base CX0 3 M.f_is_part.1 M.f_is_part.2 ["given"] (spAsk K isPt) := ok_isPartA M.d_is_part.F B.c M.d_int M.d_is_fraction
  have GC : FnOk P w K mg base CX0 1 M.f__cuts_at.1 M.f__cuts_at.2 ["piece"] (spCuts K) := ok_cuts M.d__cuts_at.F
  have GA : FnOk P w K mg base CX0 2 M.f__is_ahead.1 M.f__is_ahead.2 ["cut", "other"] (spAhead K) := ok_ahead M.d__is_ahead.F M.d_is_less
  refine F.ok sc__is_piece (fun vs H Q E h => ?_) (fun cdv A outer s H vs Q E hr h => ?_)
  · obtain ⟨v, d, rfl, _⟩ := h
    rfl
  · obtain ⟨v, d, rfl, an, lit, k⟩ := h
    obtain ⟨al, hal, hlast⟩ := B.lc
    have hr1 : Room 1 _ := hr.mono (by decide)
    have hr2 : Room 2 _ := hr.mono (by decide)
    refine ⟨_, pss_cons (ps_if (PW.pt (pw_or (pt_not (pt_val (pe_callB (call_isi) (by rfl) B.c.isi (by decide +kernel) (pa_cons (pv 0) (pa_cons (pe_bltn (v := .ty "tuple") (by rfl) B.c.tuple (by decide +kernel) rfl) pa_nil))))) (pw_or1 (pt_cmpR op_ne (pe_callB (call_len_seq) (by rfl) B.c.len (by decide +kernel) (pa_cons (pv 0) pa_nil)) pe_int (nomark _))))) (pss_one (ps_ret pe_bl)) pss_nil) (pss_cons (ps_asg (pv 0) (pg_tup (by rfl) (pgs_cons (pg_name (i := 1) sc__is_piece.nd rfl (.inl rfl)) (pgs_cons (pg_name (i := 2) sc__is_piece.nd rfl (.inl rfl)) (pgs_cons (pg_name (i := 3) sc__is_piece.nd rfl (.inl rfl)) (pgs_cons (pg_name (i := 4) sc__is_piece.nd rfl (.inl rfl)) pgs_nil)))))) (pss_cons (ps_if (PW.pt (pw_or (pt_not (pt_val (pe_call GP hr (by rfl) M.d_is_part.g M.d_is_part.F.kp M.d_is_part.b .nil pass0 (pa_cons (pv 1) pa_nil)))) (pw_or (pt_not (pt_val (pe_call GP hr (by rfl) M.d_is_part.g M.d_is_part.F.kp M.d_is_part.b .nil pass0 (pa_cons (pv 2) pa_nil)))) (pw_or (pt_not (pt_val (pe_callB (call_isi) (by rfl) B.c.isi (by decide +kernel) (pa_cons (pv 3) (pa_cons (pe_bltn (v := .ty "bool") (by rfl) B.c.bool (by decide +kernel) rfl) pa_nil))))) (pw_or1 (pt_not (pt_val (pe_callB (call_isi) (by rfl) B.c.isi (by decide +kernel) (pa_cons (pv 4) (pa_cons (pe_bltn (v := .ty "bool") (by rfl) B.c.bool (by decide +kernel) rfl) pa_nil)))))))))) (pss_one (ps_ret pe_bl)) pss_nil) (pss_cons (ps_asg (pe_call GC hr1 (by rfl) M.d__cuts_at.g M.d__cuts_at.F.kp M.d__cuts_at.b .nil pass0 (pa_cons (pv 0) pa_nil)) (pg_tup (by rfl) (pgs_cons (pg_name (i := 5) sc__is_piece.nd rfl (.inl rfl)) (pgs_cons (pg_name (i := 6) sc__is_piece.nd rfl (.inl rfl)) pgs_nil)))) (pss_one (ps_ret (pe_and (pe_call GA hr2 (by rfl) M.d__is_ahead.g M.d__is_ahead.F.kp M.d__is_ahead.b .nil pass0 (pa_cons (pv 5) (pa_cons (pv 6) pa_nil))) (pe_one (pe_not (pe_call GA hr2 (by rfl) M.d__is_ahead.g M.d__is_ahead.F.kp M.d__is_ahead.b .nil pass0 (pa_cons (pe_glob (v := .ref al) rfl hal rfl) (pa_cons (pv 6) pa_nil))))))))))), ?_⟩
    refine ⟨_, rfl, v, .ty "tuple", _, _, _, rfl, .ty "tuple", an.ty, kit_ty kit_tup, _, rfl, ?_⟩
    cases et : isTupB d with
    | false =>
      have e : isPcB d = false := by cases d <;> first | rfl | cases et
      rw [e] at k
      exact iteT (k _ (Same.refl _))
    | true =>
      refine iteF ?_
      have an0 := an
      obtain ⟨a, xs, ds, rfl, rfl, hT, all⟩ := an.isT et
      have len := dpAll_len all
      refine ⟨_, rfl, a, xs, rfl, .inr (SqT.of hT), rfl, _, rfl, ?_⟩
      by_cases hl : ds.length = 4
      · obtain ⟨x, y, f1, t1, p, q, fd', td', rfl, rfl, ax, ay, af, at'⟩ := anAll_four all hl
        refine iteF ?_
        refine ⟨_, rfl, a, _, rfl, SqT.of hT, rfl, _, _, rfl, _, _, rfl, _, _, rfl, _, _, rfl, rfl, ?_⟩
        refine ⟨_, rfl, x, p, rfl, ax, _, rfl, ?_⟩
        cases c1 : isPt p with
        | false =>
          have e : isPcB (.tuple [p, q, fd', td']) = false := by
            unfold isPcB
            split
            · rename_i z
              cases z
              rw [pcB, c1, Bool.false_and]
            · rfl
          rw [e] at k
          exact iteT (k _ (Same.refl _))
        | true =>
        refine iteF ⟨_, rfl, y, q, rfl, ay, _, rfl, ?_⟩
        cases c2 : isPt q with
        | false =>
          have e : isPcB (.tuple [p, q, fd', td']) = false := by
            unfold isPcB
            split
            · rename_i z
              cases z
              rw [pcB, c2, Bool.false_and, Bool.and_false]
            · rfl
          rw [e] at k
          exact iteT (k _ (Same.refl _))
        | true =>
        refine iteF ⟨_, rfl, f1, .ty "bool", _, _, _, rfl, .ty "bool", af.ty, kit_ty kit_bool, _, rfl, ?_⟩
        cases c3 : isBoolB fd' with
        | false =>
          have e : isPcB (.tuple [p, q, fd', td']) = false := by cases fd' <;> first | rfl | cases c3
          rw [e] at k
          exact iteT (k _ (Same.refl _))
        | true =>
        refine iteF ⟨_, rfl, t1, .ty "bool", _, _, _, rfl, .ty "bool", at'.ty, kit_ty kit_bool, _, rfl, ?_⟩
        cases c4 : isBoolB td' with
        | false =>
          have e : isPcB (.tuple [p, q, fd', td']) = false := by cases td' <;> first | (cases fd' <;> rfl) | cases c4
          rw [e] at k
          exact iteT (k _ (Same.refl _))
        | true =>
        refine iteF ?_
        cases af with
        | bl f0 =>
          cases at' with
          | bl t0 =>
            obtain ⟨n, m, rfl, m0, co, n0, le⟩ := partD_of c1
            obtain ⟨n', m', rfl, m0', co', n0', le'⟩ := partD_of c2
            have l1 : Lit (n, m) := (lit _ rfl).2 _ (by simp) n m rfl
            have l2 : Lit (n', m') := (lit _ rfl).2 _ (List.mem_cons_of_mem _ List.mem_cons_self) n' m' rfl
            have hp : Dp K H (.ref a) (pcD ⟨n, m, !f0⟩ ⟨n', m', t0⟩) := pc_mk (by show SqT K H a [x, y, .bl (!(!f0)), .bl t0]; rw [Bool.not_not]; exact SqT.of hT) (an_fr ax) (an_fr ay)
            refine ⟨_, rfl, _, _, _, rfl, hp, fun r x' y' H1 s1 nr hr' dx' dy' => ?_⟩
            refine ⟨r, _, rfl, SqT.of hr', rfl, _, _, rfl, _, _, rfl, rfl, ?_⟩
            have k := k H1 s1
            have ek : isPcB (.tuple [.tuple [.int n, .int m], .tuple [.int n', .int m'], .bool f0, .bool t0]) = ((⟨n, m, !f0⟩ : Cut).lt ⟨n', m', t0⟩ && !(last.lt ⟨n', m', t0⟩)) := by
              show pcB _ _ _ _ = _
              rw [pcB, c1, c2]
              rfl
            rw [ek] at k
            refine ⟨_, rfl, _, rfl, x', y', _, _, rfl, dx', dy', l1, l2, _, rfl, ?_⟩
            cases c5 : (⟨n, m, !f0⟩ : Cut).lt ⟨n', m', t0⟩ with
            | false =>
              rw [c5] at k
              exact iteF k
            | true =>
              rw [c5] at k
              exact iteT ⟨_, rfl, .ref al, y', last, _, rfl, hlast _, dy', lit_last, l2, _, rfl, k⟩
          | _ => cases c4
        | _ => cases c3
      · rw [isPc_len hl] at k
        have e : (!(decide (V.int (xs.length : Int) = V.int 4))) = true := by
          rw [decide_eq_false, Bool.not_false]
          intro z
          rw [V.int.injEq] at z
          exact hl (by omega)
        show if (!(decide (V.int (xs.length : Int) = V.int 4))) = true then _ else _
        rw [e]
        exact iteT (k _ (Same.refl _))
end
end My
set_option Elab.async false
set_option linter.all false
set_option maxRecDepth 100000
set_option maxHeartbeats 4000000
/-! C(..) whose __init__ may raise: what comes out by the context's own words at the caller's slots -/
namespace Gn
open PySem PySem.Spec PyProof.Rows L2
/-- the reading of C(e, ..) -/
def tMakeS (C : Addr) (sp : Sp) (G : L2.St → XK) (t : TA) : TE := fun σ H Q => t σ H fun vs H1 => ∀ x dx, H1 x = none → H1 dx = none → dx ≠ x → sp (.ref x :: vs) (upd (upd H1 dx (.own x)) x (.ins C dx [])) (fun v H2 => v = .non ∧ Q (.ref x) H2) (G σ)
section
variable {X : Cx} {CX : CXT} {k n : Nat} {f C : Addr} {fd : FuncData} {ps : List Str} {sp : Sp} {G : L2.St → XK} {nm : Str} {e : Expr} {es : List Expr} {t : TA} {p pos : Pos}
theorem run_makeS {pins : List (Addr × Obj)} {σ : L2.St} {H : Hp} {s : Shared} {Q : VK} {us : List Value} {vs : List V} (M : Mk X.K C f) (F : FnOk X.prog X.w X.K X.mg X.base CX k f fd ps sp) (hr : Room (k + 1) X.A) (hb : Binds X.K fd ps [])
    (hx : PassesAt CX X σ (G σ)) (I : Inv X pins σ H s) (r : Vals vs us) (h : ∀ x dx, H x = none → H dx = none → dx ≠ x → sp (.ref x :: vs) (upd (upd H dx (.own x)) x (.ins C dx [])) (fun v H2 => v = .non ∧ Q (.ref x) H2) (G σ)) :
    wpAny (model X.prog X.w) X.A (call (.ref C) us) (EP X pins σ Q) X.xe s := by
  have q := h (s.heap.objs.size + 1) s.heap.objs.size (I.hok.fresh (Nat.le_succ _)) (I.hok.fresh (Nat.le_refl _)) (Nat.ne_of_lt (Nat.lt_succ_self _))
  have J := Inv.made (C := C) I
  have rv : Vals (V.ref (s.heap.objs.size + 1) :: vs) (Value.ref (s.heap.objs.size + 1) :: us) := .cons rfl r
  have len : (Value.ref (s.heap.objs.size + 1) :: us).length = ps.length := rv.length.symm.trans (F.len _ _ _ _ q)
  have b := hb _ (Value.ref (s.heap.objs.size + 1) :: us) J.kIn (by rw [List.append_nil]; exact len)
  rw [List.append_nil] at b
  refine wpAny_call (make_map (f := f) I.kIn M.makes M.init (beq_iff_eq.mp M.fn) (codeAny_mono (F.run _ X.stack _ _ ⟨Value.ref (s.heap.objs.size + 1) :: us, []⟩ _ _ _ (G σ) (hr.make C us []) (J.env0.make C us []) b rv q) fun rr s2 hq => ?_))
  match rr, hq with
  | .error z, hq => exact hx pins _ _ z s2 J hq
  | .ok (.ret u), hq =>
    obtain ⟨v, H', I3, rv2, ev, q3⟩ := J.after hq
    subst ev
    exact ⟨rv2, V.ref (s.heap.objs.size + 1), H', I3, rfl, q3⟩
  | .ok .next, hq => exact hq.elim
  | .ok .brk, hq => exact hq.elim
  | .ok .cont, hq => exact hq.elim
/-- C(e, ..), C a class of the module -/
theorem pe_makeS (M : Mk X.K C f) (F : FnOk X.prog X.w X.K X.mg X.base CX k f fd ps sp) (hr : Room (k + 1) X.A) (hg : Gl X nm) (hm : X.mg nm = some (.ref C)) (hb : Binds X.K fd ps []) (hx : ∀ σ, PassesAt CX X σ (G σ))
    (ha : PA X (e :: es) t) (hdb : (nm == ("__debug__" : Str)) = false := by decide) (he : starEach (e :: es) X.env = (false, eval e X.env) :: starEach es X.env := by rfl)
    (hpl : (backTo pos (starEach es X.env)).any (·.1) = false := by rfl) : PE X (.Call (.Name nm p) (e :: es) [] pos) (tMakeS C sp G t) := by
  refine ⟨fun pins s σ H Q I h => wpAny_Call_Name_kw (ld_glob I hg hm ?_ hdb)⟩
  exact PySem.W.callWith_K (h₀ := X.base) I.ok.mod.kin M.kp (thn (ha.run pos pins s σ H _ I h) fun us s1 ⟨vs, H1, I1, r, q⟩ => ⟨I1.kIn, run_makeS M F hr hb (hx σ) I1 r q⟩) he hpl
/-- the reading of C(k = v) -/
def tMakeSK (C : Addr) (sp : Sp) (gV : List V → List V → List V) (G : L2.St → XK) (tk : TA) : TE := fun σ H Q => tk σ H fun zs H1 => zs.length = 1 ∧ ∀ x dx, H1 x = none → H1 dx = none → dx ≠ x → sp (gV [.ref x] zs) (upd (upd H1 dx (.own x)) x (.ins C dx [])) (fun v H2 => v = .non ∧ Q (.ref x) H2) (G σ)
variable {ks : Str} {g : List Value → List Value → List Value} {gV : List V → List V → List V} {kws : List Keyword} {tk : TA}
theorem run_makeSK {pins : List (Addr × Obj)} {σ : L2.St} {H : Hp} {s : Shared} {Q : VK} {ws : List Value} {zs : List V} (M : Mk X.K C f) (F : FnOk X.prog X.w X.K X.mg X.base CX k f fd ps sp) (hr : Room (k + 1) X.A) (hb : KBn X.K fd ps 1 [ks] g gV)
    (hx : PassesAt CX X σ (G σ)) (I : Inv X pins σ H s) (rz : Vals zs ws) (l : zs.length = 1) (h : ∀ x dx, H x = none → H dx = none → dx ≠ x → sp (gV [.ref x] zs) (upd (upd H dx (.own x)) x (.ins C dx [])) (fun v H2 => v = .non ∧ Q (.ref x) H2) (G σ)) :
    wpAny (model X.prog X.w) X.A (call (.ref C) [] ([ks].zip ws)) (EP X pins σ Q) X.xe s := by
  have q := h (s.heap.objs.size + 1) s.heap.objs.size (I.hok.fresh (Nat.le_succ _)) (I.hok.fresh (Nat.le_refl _)) (Nat.ne_of_lt (Nat.lt_succ_self _))
  have J := Inv.made (C := C) I
  have rv : Vals [V.ref (s.heap.objs.size + 1)] [Value.ref (s.heap.objs.size + 1)] := .cons rfl .nil
  have rb := hb.rel rv rz
  refine wpAny_call (make_map (f := f) I.kIn M.makes M.init (beq_iff_eq.mp M.fn) (codeAny_mono (F.run _ X.stack _ _ ⟨[Value.ref (s.heap.objs.size + 1)], [ks].zip ws⟩ (g [Value.ref (s.heap.objs.size + 1)] ws) _ _ (G σ) (hr.make C [] ([ks].zip ws))
    (J.env0.make C [] ([ks].zip ws)) (hb.to _ [Value.ref (s.heap.objs.size + 1)] ws J.kIn rfl (rz.length.symm.trans l)) rb q) fun rr s2 hq => ?_))
  match rr, hq with
  | .error z, hq => exact hx pins _ _ z s2 J hq
  | .ok (.ret u), hq =>
    obtain ⟨v, H', I3, rv2, ev, q3⟩ := J.after hq
    subst ev
    exact ⟨rv2, V.ref (s.heap.objs.size + 1), H', I3, rfl, q3⟩
  | .ok .next, hq => exact hq.elim
  | .ok .brk, hq => exact hq.elim
  | .ok .cont, hq => exact hq.elim
/-- C(k = v) -/
theorem pe_makeSK (M : Mk X.K C f) (F : FnOk X.prog X.w X.K X.mg X.base CX k f fd ps sp) (hr : Room (k + 1) X.A) (hg : Gl X nm) (hm : X.mg nm = some (.ref C)) (hb : KBn X.K fd ps 1 [ks] g gV) (hx : ∀ σ, PassesAt CX X σ (G σ)) (hkw : PK X kws tk)
    (hall : (backToKw pos (keywordEach kws X.env)).all (·.1.isSome) = true := by rfl) (hks : (backToKw pos (keywordEach kws X.env)).filterMap (·.1) = [ks] := by rfl) (hdb : (nm == ("__debug__" : Str)) = false := by decide)
    (hpl : ((backTo pos (starEach [] X.env)).any (·.1) || (backToKw pos (keywordEach kws X.env)).any (·.1.isNone)) = false := by rfl) : PE X (.Call (.Name nm p) [] kws pos) (tMakeSK C sp gV G tk) := by
  refine ⟨fun pins s σ H Q I h => wpAny_Call_Name_kw (ld_glob I hg hm (PySem.W.callWith_KW0 (h₀ := X.base) I.ok.mod.kin M.kp hall ?_ hpl) hdb)⟩
  refine thn (hkw.run pos pins s σ H _ I h) fun ws s2 ⟨zs, H2, I2, rz, l, q⟩ => ⟨I2.kIn, ?_⟩
  rw [hks]
  exact run_makeSK M F hr hb (hx σ) I2 rz l q
end
end Gn
set_option Elab.async false
set_option linter.all false
set_option maxRecDepth 100000
set_option maxHeartbeats 8000000
set_option exponentiation.threshold 4000
namespace My
open PySem PySem.Spec PyProof.Rows L2 Gn Mt
theorem anAll_get {K : PySem.W.Frag} {H : Hp} : ∀ {vs : List V} {ds : List PyData} {i : Nat} {x : V}, AnAll K H vs ds → vs[i]? = some x → ∃ d, ds[i]? = some d ∧ An K H x d
  | _, _, 0, x, .cons h _, e => ⟨_, rfl, by cases e; exact h⟩
  | _, _, i + 1, x, .cons _ t, e => by
    obtain ⟨d, e2, h⟩ := anAll_get (i := i) t (by simpa using e)
    exact ⟨d, by simpa using e2, h⟩
/-! the first wrong piece of any tuple; a lot made of anything -/
section
variable {P : Program} {w : World} {K : PySem.W.Frag} {mg : Str → Option Value} {base : Heap}
theorem lastIfB {c : TT} {t : TS} {D : Ends} {σ : L2.St} {H : Hp} (b : Bool) (h : ∀ R : Bool → Hp → Prop, (∀ H', Same H H' → R b H') → c σ H R) (kt : b = true → ∀ H', Same H H' → t D σ H') (kf : b = false → ∀ H', Same H H' → D.nx σ H') : tIfS c t tNext D σ H := h _ fun H' s => by
  cases b with
  | true => exact iteT (kt rfl H' s)
  | false => exact iteF (kf rfl H' s)
theorem andB {t q : TT} {σ : L2.St} {H : Hp} {R : Bool → Hp → Prop} (c b : Bool) (h1 : ∀ S : Bool → Hp → Prop, S c H → t σ H S) (h2 : c = true → ∀ S : Bool → Hp → Prop, (∀ H', Same H H' → S b H') → q σ H S) (h3 : c = false → b = false) (k : ∀ H', Same H H' → R b H') : tAnd t q σ H R := by
  refine h1 _ ?_
  cases c with
  | true => exact iteT (h2 rfl R k)
  | false =>
    refine iteF ?_
    rw [h3 rfl] at k
    exact k H (Same.refl _)
/-- the one ahead of the i-th -/
def prevD (ds : List PyData) (i : Nat) : Option PyData := if i = 0 then none else ds[i - 1]?
theorem pc_dp {H : Hp} {v : V} {c e : Cut} (h : An K H v (pcD c e)) : Dp K H v (pcD c e) := h.dp (by simp only [pcD, frD, flat, flat.flats, Bool.and_self])
theorem pc_lit {ds : List PyData} (h : ∀ d ∈ ds, Lit4 d) {c e : Cut} (m : pcD c e ∈ ds) : Lit (c.n, c.d) ∧ Lit (e.n, e.d) :=
  ⟨(h _ m _ rfl).2 _ List.mem_cons_self _ _ rfl, (h _ m _ rfl).2 _ (List.mem_cons_of_mem _ List.mem_cons_self) _ _ rfl⟩
theorem ok_wrongX {f : Addr} {fd : FuncData} (F : Fun K "_first_wrong" "_first_wrong" s__first_wrong f fd) (B : Bp K mg) (M : Pd K mg) : FnOk P w K mg base CX0 5 f fd ["pieces"] (spWrongX K) := by
  have GP : FnOk P w K mg base CX0 4 M.f__is_piece.1 M.f__is_piece.2 ["given"] (spIsPcX K) := ok_isPcX M.d__is_piece.F B M
  have GC : FnOk P w K mg base CX0 1 M.f__cuts_at.1 M.f__cuts_at.2 ["piece"] (spCuts K) := ok_cuts M.d__cuts_at.F
  have GA : FnOk P w K mg base CX0 2 M.f__is_ahead.1 M.f__is_ahead.2 ["cut", "other"] (spAhead K) := ok_ahead M.d__is_ahead.F M.d_is_less
  refine F.ok sc__first_wrong (fun vs H Q E h => ?_) (fun cdv A outer s H vs Q E hr h => ?_)
  · obtain ⟨u, ds, rfl, _⟩ := h
    rfl
  · obtain ⟨u, ds, rfl, an, lit, k⟩ := h
    obtain ⟨a, xs, ds', rfl, z, hT, all⟩ := an.isT rfl
    cases z
    have ha : SqT K H a xs := SqT.of hT
    have len := dpAll_len all
    have hr1 : Room 1 _ := hr.mono (by decide)
    have hr2 : Room 2 _ := hr.mono (by decide)
    refine ⟨_, pss_cons (ps_for PassesOwn.never rfl (pi_enumT (by rfl) B.en (pa_cons (pv 0) pa_nil)) (pg_tup (by rfl) (pgs_cons (pg_name (i := 1) sc__first_wrong.nd rfl (.inl rfl)) (pgs_cons (pg_name (i := 2) sc__first_wrong.nd rfl (.inl rfl)) pgs_nil))) (pss_cons (ps_if (pt_not (pt_val (pe_call GP hr (by rfl) M.d__is_piece.g M.d__is_piece.F.kp M.d__is_piece.b .nil pass0 (pa_cons (pv 2) pa_nil)))) (pss_one (ps_ret (pv 1))) pss_nil) (pss_one (ps_if (PW.pt (pw_and (pt_cmpR op_gt (pv 1) pe_int (nomark _)) (pw_and1 (pt_not (pt_val (pe_call GA hr2 (by rfl) M.d__is_ahead.g M.d__is_ahead.F.kp M.d__is_ahead.b .nil pass0 (pa_cons (pe_ix ix_tup (pe_call GC hr1 (by rfl) M.d__cuts_at.g M.d__cuts_at.F.kp M.d__cuts_at.b .nil pass0 (pa_cons (pe_ix ix_tup (pv 0) (pe_op op_sub (pv 1) pe_int) (fun _ _ => rfl)) pa_nil)) pe_int (fun _ _ => rfl)) (pa_cons (pe_ix ix_tup (pe_call GC hr1 (by rfl) M.d__cuts_at.g M.d__cuts_at.F.kp M.d__cuts_at.b .nil pass0 (pa_cons (pv 2) pa_nil)) pe_int (fun _ _ => rfl)) pa_nil)))))))) (pss_one (ps_ret (pv 1))) pss_nil)))) (pss_one (ps_ret pe_non)), ?_⟩
    refine ⟨_, rfl, a, xs, rfl, ha, for_en (K := K) (a := a) (xs := xs) (fun i σ H' => (∃ p q, σ = [some (.ref a), p, q] ∧ Same H H') ∧ wrongFrom none 0 ds = wrongFrom (prevD ds i) i (ds.drop i) ∧ ∀ q, prevD ds i = some q → isPcB q = true) ⟨⟨none, none, rfl, Same.refl _⟩, rfl, (fun q z => by cases z)⟩ (fun i σ H' ⟨⟨_, _, _, s⟩, _⟩ => sqT_same s ha) ?_ ?_⟩
    · rintro i x r σ H1 hi ⟨⟨p, q, rfl, s1⟩, sc, pv⟩ nr
      obtain ⟨d, hd, dx⟩ := anAll_get all hi
      have dr : ds.drop i = d :: ds.drop (i + 1) := by
        have l := List.getElem?_eq_some_iff.mp hd
        rw [← l.2, List.getElem_cons_drop]
      rw [dr, wrongFrom] at sc
      have s2 := same_put (o := HO.tup [V.int (i : Nat), x]) nr
      have g2 : upd H1 r (HO.tup [V.int (i : Nat), x]) r = some (.tup [V.int (i : Nat), x]) := upd_same
      generalize upd H1 r (HO.tup [V.int (i : Nat), x]) = H2 at *
      have S2 := s1.trans s2
      have ld := (lit ds rfl).2 d (List.mem_of_getElem? hd)
      refine ⟨r, _, rfl, SqT.of g2, rfl, _, _, rfl, _, _, rfl, rfl, ?_⟩
      refine ⟨_, rfl, x, d, rfl, dx.same S2, ld, fun H3 s3 => ⟨_, rfl, ?_⟩⟩
      have S3 := S2.trans s3
      cases c1 : isPcB d with
      | false =>
        rw [c1, Bool.false_and, if_neg (by decide)] at sc
        rw [sc] at k
        exact iteT ⟨_, rfl, k _ S3⟩
      | true =>
        refine iteF ?_
        rw [c1, Bool.true_and] at sc
        obtain ⟨c, e, rfl, ic, ie, lt, eb, ee⟩ := pc_of c1
        refine nxI (lastIfB (!(sideB (prevD ds i) (pcD c e))) (fun R kR => andB (decide ((i : Int) > 0)) (!(sideB (prevD ds i) (pcD c e))) (fun S s => ⟨_, rfl, _, _, rfl, rfl, _, rfl, s⟩) (fun z S sS => ?_) (fun z => ?_) kR) (fun z H4 s4 => ?_) (fun z H4 s4 => ?_))
        · have i0 : (i : Int) > 0 := of_decide_eq_true z
          have lx : i < xs.length := (List.getElem?_eq_some_iff.mp hi).1
          have hj : xs[i - 1]? = some xs[i - 1] := List.getElem?_eq_getElem (by omega)
          obtain ⟨d', hd', dx'⟩ := anAll_get all hj
          have pe : prevD ds i = some d' := by rw [prevD, if_neg (by omega)]; exact hd'
          obtain ⟨c', e', rfl, ic', ie', lt', eb', ee'⟩ := pc_of (pv d' pe)
          have es : sideB (prevD ds i) (pcD c e) = e'.lt c := by
            rw [pe]
            show (endD (pcD c' e')).lt (begD (pcD c e)) = _
            rw [ee', eb]
          rw [es] at sS
          have L1 := pc_lit (lit ds rfl).2 (List.mem_of_getElem? hd')
          have L2' := pc_lit (lit ds rfl).2 (List.mem_of_getElem? hd)
          have dp' := pc_dp (dx'.same S3)
          have dp2 := pc_dp (dx.same S3)
          refine ⟨_, rfl, _, rfl, _, _, rfl, rfl, a, xs, (i : Int) - 1, xs[i - 1], rfl, rfl, sqT_same S3 ha, at_of (j := i - 1) (by omega) hj, xs[i - 1], c', e', rfl, dp', fun r1 u1 v1 H5 s5 n5 g5 du dv => ?_⟩
          refine ⟨r1, _, 1, v1, rfl, rfl, SqT.of g5, at_of (j := 1) rfl rfl, _, rfl, x, c, e, rfl, dp_same s5 _ _ dp2, fun r2 u2 v2 H6 s6 n6 g6 du2 dv2 => ?_⟩
          refine ⟨r2, _, 0, u2, rfl, rfl, SqT.of g6, at_of (j := 0) rfl rfl, v1, u2, e', c, rfl, dp_same s6 _ _ dv, du2, L1.2, L2'.1, ?_⟩
          exact ⟨_, rfl, sS _ (s5.trans s6)⟩
        · have i0 : i = 0 := by
            have := of_decide_eq_false z
            omega
          subst i0
          rfl
        · have z : sideB (prevD ds i) (pcD c e) = false := by
            cases y : sideB (prevD ds i) (pcD c e) with
            | false => rfl
            | true => rw [y] at z; cases z
          rw [z, if_neg (by decide)] at sc
          rw [sc] at k
          exact ⟨_, rfl, k _ (S3.trans s4)⟩
        · have z : sideB (prevD ds i) (pcD c e) = true := by
            cases y : sideB (prevD ds i) (pcD c e) with
            | true => rfl
            | false => rw [y] at z; cases z
          rw [if_pos z] at sc
          have pn : prevD ds (i + 1) = some (pcD c e) := by rw [prevD, if_neg (by omega), Nat.add_sub_cancel]; exact hd
          refine ⟨⟨_, _, rfl, S3.trans s4⟩, ?_, fun q hq => ?_⟩
          · rw [pn]; exact sc
          · rw [pn] at hq
            cases hq
            exact c1
    · rintro σ H1 ⟨⟨p, q, rfl, s1⟩, sc, _⟩
      have tk : ds.drop xs.length = [] := List.drop_eq_nil_of_le (by omega)
      rw [tk] at sc
      rw [sc] at k
      exact k H1 s1
end
end My
set_option Elab.async false
set_option linter.all false
set_option maxRecDepth 100000
set_option maxHeartbeats 8000000
set_option exponentiation.threshold 4000
namespace My
open PySem PySem.Spec PyProof.Rows L2 Gn Mt
/-- a lot's cuts, none too long -/
structure LtL (cs : List Cut) : Prop extends Lt cs where
  lit : ∀ c ∈ cs, Lit (c.n, c.d)
/-- a lot stands at v -/
def LotAt (K : PySem.W.Frag) (C : Addr) (H : Hp) (v : V) (cs : List Cut) : Prop := ∃ x dx a, v = .ref x ∧ H x = some (.ins C dx [("_pieces", .ref a)]) ∧ Dp K H (.ref a) (.tuple (pcsD cs))
theorem LotAt.same {K : PySem.W.Frag} {C : Addr} {H H' : Hp} {v : V} {cs : List Cut} (h : LotAt K C H v cs) (s : Same H H') : LotAt K C H' v cs := by
  obtain ⟨x, dx, a, e, h1, h2⟩ := h
  exact ⟨x, dx, a, e, s _ _ h1, dp_same s _ _ h2⟩
/-- the class Lot of the text -/
structure LotC (P : Program) (w : World) (K : PySem.W.Frag) (mg : Str → Option Value) (C fI fP : Addr) (fdI fdP : FuncData) : Prop where
  cl : Cls K C
  nP : NoAttr K C "_pieces"
  mgC : mg "Lot" = some (.ref C)
  mkL : Mk K C fI
  FI : Fun K "__init__" "Lot.__init__" s_linit fI fdI
  bI : Binds K fdI ["self", "pieces"] []
  pp : ∃ p, PropOf K C "pieces" p fP
  FP : Fun K "pieces" "Lot.pieces" s_lpieces fP fdP
  bP : Binds K fdP ["self"] []
def spPieces (K : PySem.W.Frag) (C : Addr) : Sp := fun vs H Q _ => ∃ (v : V) (cs : List Cut), vs = [v] ∧ LotAt K C H v cs ∧ ∀ a, Dp K H (.ref a) (.tuple (pcsD cs)) → Q (.ref a) H
theorem num_of {n a b : Int} (h1 : a ≤ n) (h2 : n ≤ b) : isNum (.int n) a b = true := decide_eq_true ⟨h1, h2⟩
/-- the class of the error for pieces -/
def spInitX (K : PySem.W.Frag) (C CP : Addr) : Sp := fun vs H Q E => ∃ (x dx : Addr) (v : V) (d : PyData), vs = [.ref x, v] ∧ H x = some (.ins C dx []) ∧ An K H v d ∧ LitP d ∧
  (pcsW d = none → ∀ H', (∀ b o, b ≠ x → H b = some o → H' b = some o) → H' x = some (.ins C dx [("_pieces", v)]) → Q .non H') ∧ (∀ wv, pcsW d = some wv → ThrownI CP (ixV wv) H E)
section
variable {P : Program} {w : World} {K : PySem.W.Frag} {mg : Str → Option Value} {base : Heap} {C fI fP CP fE : Addr} {fdI fdP fdE : FuncData}
theorem ok_linitX (T : LotC P w K mg C fI fP fdI fdP) (B : Bp K mg) (M : Pd K mg) (TP : OwE P w K mg base "InvalidPieces" ["index"] CP fE fdE) : FnOk P w K mg base (L2N.CX P w) 6 fI fdI ["self", "pieces"] (spInitX K C CP) := by
  have GW : FnOk P w K mg base CX0 5 M.f__first_wrong.1 M.f__first_wrong.2 ["pieces"] (spWrongX K) := ok_wrongX M.d__first_wrong.F B M
  refine okN T.FI sc_linit (fun vs H Q E h => ?_) (fun cdv A outer s H vs Q E hr h => ?_)
  · obtain ⟨x, dx, v, d, rfl, _⟩ := h
    rfl
  · obtain ⟨x, dx, v, d, rfl, hx, an, lit, k, e⟩ := h
    have hr2 : Room 2 _ := hr.mono (by decide)
    have tk : L2N.Takes (cxOf (L2N.CX P w) P w K mg base ["self", "pieces", "wrong"] "Lot.__init__" (defScope s_linit) fI cdv A outer s H E) (fun C d _ G => E C d G) := L2N.takes_of rfl rfl rfl rfl
    refine ⟨_, pss_cons (ps_if (pt_not (pt_val (pe_callB (call_isi) (by rfl) B.c.isi (by decide +kernel) (pa_cons (pv 1) (pa_cons (pe_bltn (v := .ty "tuple") (by rfl) B.c.tuple (by decide +kernel) rfl) pa_nil))))) (pss_one (L2N.ps_raise rfl tk (pmk_exoN (dvs := []) TP.own TP.ini TP.ty TP.run hr2 TP.b .nil pass0 (by rfl) TP.g (pa_cons pe_non pa_nil)))) pss_nil) (pss_cons (ps_set (i := 2) sc_linit.nd rfl (.inl rfl) (pe_call GW hr (by rfl) M.d__first_wrong.g M.d__first_wrong.F.kp M.d__first_wrong.b .nil pass0 (pa_cons (pv 1) pa_nil))) (pss_cons (ps_if (pt_cmpR op_notN (pv 2) pe_non (nomark _)) (pss_one (L2N.ps_raise rfl tk (pmk_exoN (dvs := []) TP.own TP.ini TP.ty TP.run hr2 TP.b .nil pass0 (by rfl) TP.g (pa_cons (pv 2) pa_nil)))) pss_nil) (pss_one (ps_fld (pv 0) (pv 1) rfl)))), ?_⟩
    refine ⟨_, rfl, v, .ty "tuple", _, _, _, rfl, .ty "tuple", an.ty, kit_ty kit_tup, _, rfl, ?_⟩
    cases et : isTupB d with
    | false =>
      have ew : pcsW d = some none := by cases d <;> first | rfl | cases et
      exact iteT (thr_c TP.own (TP.no "index" (by simp)) (e _ ew))
    | true =>
      refine iteF ?_
      have an0 := an
      obtain ⟨a, xs, ds, rfl, rfl, hT, all⟩ := an.isT et
      refine ⟨_, rfl, .ref a, ds, rfl, an0, lit, fun H1 s1 => ?_⟩
      cases ew : wrongFrom none 0 ds with
      | some j =>
        have ew2 : pcsW (.tuple ds) = some (some j) := by
          show (wrongFrom none 0 ds).map some = _
          rw [ew]; rfl
        refine ⟨_, rfl, rfl, _, rfl, ?_⟩
        exact iteT (thr_of (i := 2) TP.own (TP.no "index" (by simp)) rfl ((e _ ew2).same s1))
      | none =>
        have ew2 : pcsW (.tuple ds) = none := by
          show (wrongFrom none 0 ds).map some = _
          rw [ew]; rfl
        refine ⟨_, rfl, rfl, _, rfl, iteF ?_⟩
        refine ⟨_, rfl, _, rfl, x, C, dx, [], rfl, s1 _ _ hx, T.cl, T.nP, (by show 0 < 1000; decide), ?_⟩
        exact k ew2 _ (fun b o hb e => by rw [upd_ne hb]; exact s1 _ _ e) upd_same
theorem ok_lpieces (T : LotC P w K mg C fI fP fdI fdP) : FnOk P w K mg base CX0 1 fP fdP ["self"] (spPieces K C) := by
  refine T.FP.ok sc_lpieces (fun vs H Q E h => ?_) (fun cdv A outer s H vs Q E hr h => ?_)
  · obtain ⟨v, cs, rfl, _⟩ := h
    rfl
  · obtain ⟨v, cs, rfl, ⟨x, dx, a, rfl, hx, ha⟩, k⟩ := h
    refine ⟨_, pss_one (ps_ret (L2.pe_fld (pv 0) rfl)), ?_⟩
    exact ⟨_, rfl, x, C, dx, _, .ref a, rfl, hx, T.cl, T.nP, rfl, k a ha⟩
end
end My
set_option Elab.async false
set_option linter.all false
set_option maxRecDepth 100000
set_option maxHeartbeats 8000000
set_option exponentiation.threshold 2000
namespace My
open PySem PySem.Spec PyProof.Rows L2 L2H Gn Mt
/-! what the law tells of an error -/
abbrev sLError : Stmt := top 52
abbrev sLClass : Stmt := top 53
abbrev sLField : Stmt := top 54
theorem scLClass : FnScope ["_law_e", "_law_sorts", "_law_found", "_law_word", "_law_fits_here"] ["_law_e"] (defScope sLClass) := ⟨rfl, rfl, rfl, by decide +kernel, rfl, by decide +kernel, by decide +kernel⟩
theorem scLField : FnScope ["_law_e"] ["_law_e"] (defScope sLField) := ⟨rfl, rfl, rfl, by decide +kernel, rfl, by decide +kernel, by decide +kernel⟩
theorem scLError : FnScope ["_law_act", "_law_found", "_law_e", "_law_bases", "_law_plain"] ["_law_act"] (defScope sLError) := ⟨rfl, rfl, rfl, by decide +kernel, rfl, by decide +kernel, by decide +kernel⟩
/-- the classes in the law's order -/
def nmOf : Nat → Str
  | 0 => "InvalidText" | 1 => "InvalidNumber" | 2 => "InvalidStep" | 3 => "InvalidArc" | 4 => "InvalidSighting" | 5 => "InvalidSightings" | 6 => "NotALot" | 7 => "InvalidPieces" | 8 => "InvalidOrder" | 9 => "InvalidIndex" | 10 => "NoStep" | 11 => "TooMany" | _ => "Broken"
def wdOf : Nat → Str
  | 0 => "text" | 1 => "number" | 2 => "step" | 3 => "arc" | 4 => "sighting" | 5 => "sightings" | 6 => "lot" | 7 => "pieces" | 8 => "order" | 9 => "index" | 10 => "none" | 11 => "many" | _ => "broken"
/-- what they have -/
def fdOf (i : Nat) : Option Str := if i = 5 ∨ i = 7 ∨ i = 8 ∨ i = 12 then some "index" else if i = 10 then none else if i = 11 then some "most" else some "given"
structure Er (mg : Str → Option Value) where
  c : Nat → Addr
  R0 : Addr
  R1 : Addr
  R2 : Addr
  g : ∀ i, i < 13 → mg (nmOf i) = some (.ref (c i))
  g0 : mg "NotRight" = some (.ref R0)
  g1 : mg "NotKnown" = some (.ref R1)
  g2 : mg "NotPossible" = some (.ref R2)
  v0 : mg "ValueError" = none
  v1 : mg "LookupError" = none
  v2 : mg "ArithmeticError" = none
  isi : mg "isinstance" = none
  len : mg "len" = none
/-- an error of the class that stands at i -/
structure Held (K : PySem.W.Frag) {mg : Str → Option Value} (B : Er mg) (D : Addr) (i0 : Nat) : Prop where
  ex : ExcC K D
  xf : XfC K D
  lt : i0 < 13
  one : ∀ i, i < 13 → PySem.W.kitOne K (.ref D) (.ref (B.c i)) = some (decide (i = i0))
  no : ∀ n, fdOf i0 = some n → PySem.W.findIn K (.ref D) n = some none
  bs : ∃ b0 b1 b2 : Bool, [b0, b1, b2].count true = 1 ∧ PySem.W.kitOne K (.ref D) (.ref B.R0) = some b0 ∧ PySem.W.kitOne K (.ref D) (.ref B.R1) = some b1 ∧ PySem.W.kitOne K (.ref D) (.ref B.R2) = some b2 ∧
    PySem.W.kitOne K (.ref D) (.type "ValueError") = some b0 ∧ PySem.W.kitOne K (.ref D) (.type "LookupError") = some b1 ∧ PySem.W.kitOne K (.ref D) (.type "ArithmeticError") = some b2
  ma : PySem.W.exmAny K (.ref D) [.ref B.R0, .ref B.R1, .ref B.R2] = some true
/-- what it has -/
def FldAt (H : Hp) (d : Option Addr) (i0 : Nat) (v : V) : Prop := match fdOf i0 with
  | none => v = .non
  | some n => ∃ dd fs, d = some dd ∧ H dd = some (.xd fs) ∧ fs.lookup n = some v
def DictAt (H : Hp) (d : Option Addr) : Prop := ∀ y, d = some y → ∃ fs, H y = some (.xd fs)
def spLClass (K : PySem.W.Frag) {mg : Str → Option Value} (B : Er mg) : Addr × Obj → Sp := fun p vs H Q _ => ∃ (D : Addr) (d : Option Addr) (i0 : Nat), vs = [.ref p.1] ∧ Zc (.ref D) d p.2 ∧ (∃ w, p.2.data = .fields w) ∧ Held K B D i0 ∧ DictAt H d ∧ ∀ H', Same H H' → Q (.str (wdOf i0)) H'
def spLField (K : PySem.W.Frag) {mg : Str → Option Value} (B : Er mg) : Addr × Obj → Sp := fun p vs H Q _ => ∃ (D : Addr) (d : Option Addr) (i0 : Nat) (v : V), vs = [.ref p.1] ∧ Zc (.ref D) d p.2 ∧ (∃ w, p.2.data = .fields w) ∧ Held K B D i0 ∧ DictAt H d ∧ FldAt H d i0 v ∧ ∀ H', Same H H' → Q v H'
theorem isP_of {K : PySem.W.Frag} {a C D : Addr} {d : Option Addr} {b : Bool} {H : Hp} {Q : VK} (X : ExcC K D) (hd : DictAt H d) (o : PySem.W.kitOne K (.ref D) (.ref C) = some b) (q : Q (.bl b) H) : rIsP K (.ref D) a d [.ref a, .ref C] H Q :=
  ⟨D, .ref C, .ref C, b, rfl, X, rfl, hd, fun u r => r, o, q⟩
theorem isPt_of {K : PySem.W.Frag} {a D : Addr} {n : String} {d : Option Addr} {b : Bool} {H : Hp} {Q : VK} (X : ExcC K D) (hd : DictAt H d) (o : PySem.W.kitOne K (.ref D) (.type n) = some b) (q : Q (.bl b) H) : rIsP K (.ref D) a d [.ref a, .ty n] H Q :=
  ⟨D, .ty n, .type n, b, rfl, X, rfl, hd, fun u r => r, o, q⟩
theorem DictAt.same {H H' : Hp} {d : Option Addr} (h : DictAt H d) (e : Same H H') : DictAt H' d := fun y z => by
  obtain ⟨fs, x⟩ := h y z
  exact ⟨fs, e _ _ x⟩
section
variable {P : Program} {w : World} {K : PySem.W.Frag} {mg : Str → Option Value} {base : Heap}
theorem ok_lclass {f : Addr} {fd : FuncData} (F : Fun K "_law_class" "_law_class" sLClass f fd) (B : Er mg) : FnP P w K mg base CX0 1 f fd ["_law_e"] (spLClass K B) := by
  refine funP F scLClass (fun p vs H Q E h => ?_) (fun cdv A outer s H vs Q E p hot hr h => ?_)
  · obtain ⟨D, d, i0, rfl, _⟩ := h
    rfl
  · obtain ⟨D, d, i0, rfl, hz, hf, hd, hD, q⟩ := h
    have mp : (p.1, p.2) ∈ (cxH CX0 P w K mg base ["_law_e", "_law_sorts", "_law_found", "_law_word", "_law_fits_here"] "_law_class" (defScope sLClass) f cdv A outer s H E p).pn := List.mem_cons_self
    refine ⟨_, pss_cons (ps_set (i := 1) scLClass.nd rfl (.inl rfl) (pe_lst (pa_cons (pe_lst (pa_cons pe_str (pa_cons (pe_callB (cr_isP mp hz hf) (by rfl) B.isi (by decide +kernel) (pa_cons (pv 0) (pa_cons (pe_glob (v := .ref (B.c 0)) rfl (B.g 0 (by decide)) rfl) pa_nil))) pa_nil))) (pa_cons (pe_lst (pa_cons pe_str (pa_cons (pe_callB (cr_isP mp hz hf) (by rfl) B.isi (by decide +kernel) (pa_cons (pv 0) (pa_cons (pe_glob (v := .ref (B.c 1)) rfl (B.g 1 (by decide)) rfl) pa_nil))) pa_nil))) pa_nil))))
      (pss_cons (ps_set (i := 1) scLClass.nd rfl (.inl rfl) (pe_op op_cat (pv 1) (pe_lst (pa_cons (pe_lst (pa_cons pe_str (pa_cons (pe_callB (cr_isP mp hz hf) (by rfl) B.isi (by decide +kernel) (pa_cons (pv 0) (pa_cons (pe_glob (v := .ref (B.c 2)) rfl (B.g 2 (by decide)) rfl) pa_nil))) pa_nil))) (pa_cons (pe_lst (pa_cons pe_str (pa_cons (pe_callB (cr_isP mp hz hf) (by rfl) B.isi (by decide +kernel) (pa_cons (pv 0) (pa_cons (pe_glob (v := .ref (B.c 3)) rfl (B.g 3 (by decide)) rfl) pa_nil))) pa_nil))) pa_nil)))))
      (pss_cons (ps_set (i := 1) scLClass.nd rfl (.inl rfl) (pe_op op_cat (pv 1) (pe_lst (pa_cons (pe_lst (pa_cons pe_str (pa_cons (pe_callB (cr_isP mp hz hf) (by rfl) B.isi (by decide +kernel) (pa_cons (pv 0) (pa_cons (pe_glob (v := .ref (B.c 4)) rfl (B.g 4 (by decide)) rfl) pa_nil))) pa_nil))) (pa_cons (pe_lst (pa_cons pe_str (pa_cons (pe_callB (cr_isP mp hz hf) (by rfl) B.isi (by decide +kernel) (pa_cons (pv 0) (pa_cons (pe_glob (v := .ref (B.c 5)) rfl (B.g 5 (by decide)) rfl) pa_nil))) pa_nil))) pa_nil)))))
      (pss_cons (ps_set (i := 1) scLClass.nd rfl (.inl rfl) (pe_op op_cat (pv 1) (pe_lst (pa_cons (pe_lst (pa_cons pe_str (pa_cons (pe_callB (cr_isP mp hz hf) (by rfl) B.isi (by decide +kernel) (pa_cons (pv 0) (pa_cons (pe_glob (v := .ref (B.c 6)) rfl (B.g 6 (by decide)) rfl) pa_nil))) pa_nil))) (pa_cons (pe_lst (pa_cons pe_str (pa_cons (pe_callB (cr_isP mp hz hf) (by rfl) B.isi (by decide +kernel) (pa_cons (pv 0) (pa_cons (pe_glob (v := .ref (B.c 7)) rfl (B.g 7 (by decide)) rfl) pa_nil))) pa_nil))) pa_nil)))))
      (pss_cons (ps_set (i := 1) scLClass.nd rfl (.inl rfl) (pe_op op_cat (pv 1) (pe_lst (pa_cons (pe_lst (pa_cons pe_str (pa_cons (pe_callB (cr_isP mp hz hf) (by rfl) B.isi (by decide +kernel) (pa_cons (pv 0) (pa_cons (pe_glob (v := .ref (B.c 8)) rfl (B.g 8 (by decide)) rfl) pa_nil))) pa_nil))) (pa_cons (pe_lst (pa_cons pe_str (pa_cons (pe_callB (cr_isP mp hz hf) (by rfl) B.isi (by decide +kernel) (pa_cons (pv 0) (pa_cons (pe_glob (v := .ref (B.c 9)) rfl (B.g 9 (by decide)) rfl) pa_nil))) pa_nil))) pa_nil)))))
      (pss_cons (ps_set (i := 1) scLClass.nd rfl (.inl rfl) (pe_op op_cat (pv 1) (pe_lst (pa_cons (pe_lst (pa_cons pe_str (pa_cons (pe_callB (cr_isP mp hz hf) (by rfl) B.isi (by decide +kernel) (pa_cons (pv 0) (pa_cons (pe_glob (v := .ref (B.c 10)) rfl (B.g 10 (by decide)) rfl) pa_nil))) pa_nil))) (pa_cons (pe_lst (pa_cons pe_str (pa_cons (pe_callB (cr_isP mp hz hf) (by rfl) B.isi (by decide +kernel) (pa_cons (pv 0) (pa_cons (pe_glob (v := .ref (B.c 11)) rfl (B.g 11 (by decide)) rfl) pa_nil))) pa_nil))) (pa_cons (pe_lst (pa_cons pe_str (pa_cons (pe_callB (cr_isP mp hz hf) (by rfl) B.isi (by decide +kernel) (pa_cons (pv 0) (pa_cons (pe_glob (v := .ref (B.c 12)) rfl (B.g 12 (by decide)) rfl) pa_nil))) pa_nil))) pa_nil))))))
      (pss_cons (ps_setLcH (i := 2) (g := gLst K 2 (gCons (gName 3) (gCons (gName 4) gNil))) (te := tVar 3) (tt := tTest (tVar 4)) (own := [("_law_word", 3), ("_law_fits_here", 4)]) (p := p) ⟨hot.1, hot.2⟩ mp scLClass.nd rfl rfl (sw_true rfl rfl rfl (by decide +kernel)) (pv 1) (blkOk_by (N := ["_law_e", "_law_sorts", "_law_found", "_law_word", "_law_fits_here"]) (sc := defScope sLClass) (by decide +kernel)) (fun _ _ _ _ _ S => pg_lstH S (pgs_cons (pg_name (i := 3) scLClass.nd rfl (.inl rfl)) (pgs_cons (pg_name (i := 4) scLClass.nd rfl (.inl rfl)) pgs_nil))) (fun _ _ _ _ _ _ => pts_one (pt_val (pv 4))) (fun _ _ _ _ _ _ => pv 3))
      (pss_one (ps_ret (pe_ifExp (pt_cmpR op_eq (pe_callB call_len_seq (by rfl) B.len PySem.boot_len (pa_cons (pv 2) pa_nil)) pe_int (nomark _)) (pe_ix ix_list (pv 2) pe_int (fun _ _ => rfl)) pe_str))))))))), ?_⟩
    dsimp only [gName, tSeq, tAsg]
    have S : Same H H := Same.refl H
    refine ⟨_, rfl, ?_⟩
    dsimp only [tCB, tCons, tC, tNil]
    refine isP_of hd.ex (hD.same S) (hd.one 0 (by decide)) ?_
    refine ⟨(by show 2 ≤ sizeLine; decide), fun a0 h0 => ?_⟩
    have e := same_put (o := HO.lst [.str "text", .bl (decide (0 = i0))]) h0
    have S := S.trans e
    have f0 : upd H a0 (HO.lst [.str "text", .bl (decide (0 = i0))]) a0 = some (HO.lst [.str "text", .bl (decide (0 = i0))]) := upd_same
    generalize upd H a0 (HO.lst [.str "text", .bl (decide (0 = i0))]) = G0 at *
    clear e
    refine ⟨_, rfl, ?_⟩
    dsimp only [tCB, tCons, tC, tNil]
    refine isP_of hd.ex (hD.same S) (hd.one 1 (by decide)) ?_
    refine ⟨(by show 2 ≤ sizeLine; decide), fun a1 h1 => ?_⟩
    have e := same_put (o := HO.lst [.str "number", .bl (decide (1 = i0))]) h1
    have f0 := e _ _ f0
    have S := S.trans e
    have f1 : upd G0 a1 (HO.lst [.str "number", .bl (decide (1 = i0))]) a1 = some (HO.lst [.str "number", .bl (decide (1 = i0))]) := upd_same
    generalize upd G0 a1 (HO.lst [.str "number", .bl (decide (1 = i0))]) = G1 at *
    clear e
    refine ⟨(by show 2 ≤ sizeLine; decide), fun b0 k0 => ?_⟩
    have e := same_put (o := HO.lst [.ref a0, .ref a1]) k0
    have f0 := e _ _ f0
    have f1 := e _ _ f1
    have S := S.trans e
    have fb : upd G1 b0 (HO.lst [.ref a0, .ref a1]) b0 = some (HO.lst [.ref a0, .ref a1]) := upd_same
    generalize upd G1 b0 (HO.lst [.ref a0, .ref a1]) = G2 at *
    clear e
    have fl := fb
    refine ⟨_, rfl, ?_⟩
    refine ⟨_, rfl, ?_⟩
    dsimp only [tCB, tCons, tC, tNil]
    refine isP_of hd.ex (hD.same S) (hd.one 2 (by decide)) ?_
    refine ⟨(by show 2 ≤ sizeLine; decide), fun a2 h2 => ?_⟩
    have e := same_put (o := HO.lst [.str "step", .bl (decide (2 = i0))]) h2
    have f0 := e _ _ f0
    have f1 := e _ _ f1
    have fl := e _ _ fl
    have S := S.trans e
    have f2 : upd G2 a2 (HO.lst [.str "step", .bl (decide (2 = i0))]) a2 = some (HO.lst [.str "step", .bl (decide (2 = i0))]) := upd_same
    generalize upd G2 a2 (HO.lst [.str "step", .bl (decide (2 = i0))]) = G3 at *
    clear e
    refine ⟨_, rfl, ?_⟩
    dsimp only [tCB, tCons, tC, tNil]
    refine isP_of hd.ex (hD.same S) (hd.one 3 (by decide)) ?_
    refine ⟨(by show 2 ≤ sizeLine; decide), fun a3 h3 => ?_⟩
    have e := same_put (o := HO.lst [.str "arc", .bl (decide (3 = i0))]) h3
    have f0 := e _ _ f0
    have f1 := e _ _ f1
    have f2 := e _ _ f2
    have fl := e _ _ fl
    have S := S.trans e
    have f3 : upd G3 a3 (HO.lst [.str "arc", .bl (decide (3 = i0))]) a3 = some (HO.lst [.str "arc", .bl (decide (3 = i0))]) := upd_same
    generalize upd G3 a3 (HO.lst [.str "arc", .bl (decide (3 = i0))]) = G4 at *
    clear e
    refine ⟨(by show 2 ≤ sizeLine; decide), fun b1 k1 => ?_⟩
    have e := same_put (o := HO.lst [.ref a2, .ref a3]) k1
    have f0 := e _ _ f0
    have f1 := e _ _ f1
    have f2 := e _ _ f2
    have f3 := e _ _ f3
    have fl := e _ _ fl
    have S := S.trans e
    have fb : upd G4 b1 (HO.lst [.ref a2, .ref a3]) b1 = some (HO.lst [.ref a2, .ref a3]) := upd_same
    generalize upd G4 b1 (HO.lst [.ref a2, .ref a3]) = G5 at *
    clear e
    refine ⟨b0, b1, [.ref a0, .ref a1], [.ref a2, .ref a3], rfl, rfl, fl, fb, (by show 4 ≤ sizeLine; decide), fun l1 m1 => ?_⟩
    have e := same_put (o := HO.lst ([.ref a0, .ref a1] ++ [.ref a2, .ref a3])) m1
    have f0 := e _ _ f0
    have f1 := e _ _ f1
    have f2 := e _ _ f2
    have f3 := e _ _ f3
    have S := S.trans e
    have fl : upd G5 l1 (HO.lst ([.ref a0, .ref a1] ++ [.ref a2, .ref a3])) l1 = some (HO.lst [.ref a0, .ref a1, .ref a2, .ref a3]) := upd_same
    generalize upd G5 l1 (HO.lst ([.ref a0, .ref a1] ++ [.ref a2, .ref a3])) = G6 at *
    clear e fb
    refine ⟨_, rfl, ?_⟩
    refine ⟨_, rfl, ?_⟩
    dsimp only [tCB, tCons, tC, tNil]
    refine isP_of hd.ex (hD.same S) (hd.one 4 (by decide)) ?_
    refine ⟨(by show 2 ≤ sizeLine; decide), fun a4 h4 => ?_⟩
    have e := same_put (o := HO.lst [.str "sighting", .bl (decide (4 = i0))]) h4
    have f0 := e _ _ f0
    have f1 := e _ _ f1
    have f2 := e _ _ f2
    have f3 := e _ _ f3
    have fl := e _ _ fl
    have S := S.trans e
    have f4 : upd G6 a4 (HO.lst [.str "sighting", .bl (decide (4 = i0))]) a4 = some (HO.lst [.str "sighting", .bl (decide (4 = i0))]) := upd_same
    generalize upd G6 a4 (HO.lst [.str "sighting", .bl (decide (4 = i0))]) = G7 at *
    clear e
    refine ⟨_, rfl, ?_⟩
    dsimp only [tCB, tCons, tC, tNil]
    refine isP_of hd.ex (hD.same S) (hd.one 5 (by decide)) ?_
    refine ⟨(by show 2 ≤ sizeLine; decide), fun a5 h5 => ?_⟩
    have e := same_put (o := HO.lst [.str "sightings", .bl (decide (5 = i0))]) h5
    have f0 := e _ _ f0
    have f1 := e _ _ f1
    have f2 := e _ _ f2
    have f3 := e _ _ f3
    have f4 := e _ _ f4
    have fl := e _ _ fl
    have S := S.trans e
    have f5 : upd G7 a5 (HO.lst [.str "sightings", .bl (decide (5 = i0))]) a5 = some (HO.lst [.str "sightings", .bl (decide (5 = i0))]) := upd_same
    generalize upd G7 a5 (HO.lst [.str "sightings", .bl (decide (5 = i0))]) = G8 at *
    clear e
    refine ⟨(by show 2 ≤ sizeLine; decide), fun b2 k2 => ?_⟩
    have e := same_put (o := HO.lst [.ref a4, .ref a5]) k2
    have f0 := e _ _ f0
    have f1 := e _ _ f1
    have f2 := e _ _ f2
    have f3 := e _ _ f3
    have f4 := e _ _ f4
    have f5 := e _ _ f5
    have fl := e _ _ fl
    have S := S.trans e
    have fb : upd G8 b2 (HO.lst [.ref a4, .ref a5]) b2 = some (HO.lst [.ref a4, .ref a5]) := upd_same
    generalize upd G8 b2 (HO.lst [.ref a4, .ref a5]) = G9 at *
    clear e
    refine ⟨l1, b2, [.ref a0, .ref a1, .ref a2, .ref a3], [.ref a4, .ref a5], rfl, rfl, fl, fb, (by show 6 ≤ sizeLine; decide), fun l2 m2 => ?_⟩
    have e := same_put (o := HO.lst ([.ref a0, .ref a1, .ref a2, .ref a3] ++ [.ref a4, .ref a5])) m2
    have f0 := e _ _ f0
    have f1 := e _ _ f1
    have f2 := e _ _ f2
    have f3 := e _ _ f3
    have f4 := e _ _ f4
    have f5 := e _ _ f5
    have S := S.trans e
    have fl : upd G9 l2 (HO.lst ([.ref a0, .ref a1, .ref a2, .ref a3] ++ [.ref a4, .ref a5])) l2 = some (HO.lst [.ref a0, .ref a1, .ref a2, .ref a3, .ref a4, .ref a5]) := upd_same
    generalize upd G9 l2 (HO.lst ([.ref a0, .ref a1, .ref a2, .ref a3] ++ [.ref a4, .ref a5])) = G10 at *
    clear e fb
    refine ⟨_, rfl, ?_⟩
    refine ⟨_, rfl, ?_⟩
    dsimp only [tCB, tCons, tC, tNil]
    refine isP_of hd.ex (hD.same S) (hd.one 6 (by decide)) ?_
    refine ⟨(by show 2 ≤ sizeLine; decide), fun a6 h6 => ?_⟩
    have e := same_put (o := HO.lst [.str "lot", .bl (decide (6 = i0))]) h6
    have f0 := e _ _ f0
    have f1 := e _ _ f1
    have f2 := e _ _ f2
    have f3 := e _ _ f3
    have f4 := e _ _ f4
    have f5 := e _ _ f5
    have fl := e _ _ fl
    have S := S.trans e
    have f6 : upd G10 a6 (HO.lst [.str "lot", .bl (decide (6 = i0))]) a6 = some (HO.lst [.str "lot", .bl (decide (6 = i0))]) := upd_same
    generalize upd G10 a6 (HO.lst [.str "lot", .bl (decide (6 = i0))]) = G11 at *
    clear e
    refine ⟨_, rfl, ?_⟩
    dsimp only [tCB, tCons, tC, tNil]
    refine isP_of hd.ex (hD.same S) (hd.one 7 (by decide)) ?_
    refine ⟨(by show 2 ≤ sizeLine; decide), fun a7 h7 => ?_⟩
    have e := same_put (o := HO.lst [.str "pieces", .bl (decide (7 = i0))]) h7
    have f0 := e _ _ f0
    have f1 := e _ _ f1
    have f2 := e _ _ f2
    have f3 := e _ _ f3
    have f4 := e _ _ f4
    have f5 := e _ _ f5
    have f6 := e _ _ f6
    have fl := e _ _ fl
    have S := S.trans e
    have f7 : upd G11 a7 (HO.lst [.str "pieces", .bl (decide (7 = i0))]) a7 = some (HO.lst [.str "pieces", .bl (decide (7 = i0))]) := upd_same
    generalize upd G11 a7 (HO.lst [.str "pieces", .bl (decide (7 = i0))]) = G12 at *
    clear e
    refine ⟨(by show 2 ≤ sizeLine; decide), fun b3 k3 => ?_⟩
    have e := same_put (o := HO.lst [.ref a6, .ref a7]) k3
    have f0 := e _ _ f0
    have f1 := e _ _ f1
    have f2 := e _ _ f2
    have f3 := e _ _ f3
    have f4 := e _ _ f4
    have f5 := e _ _ f5
    have f6 := e _ _ f6
    have f7 := e _ _ f7
    have fl := e _ _ fl
    have S := S.trans e
    have fb : upd G12 b3 (HO.lst [.ref a6, .ref a7]) b3 = some (HO.lst [.ref a6, .ref a7]) := upd_same
    generalize upd G12 b3 (HO.lst [.ref a6, .ref a7]) = G13 at *
    clear e
    refine ⟨l2, b3, [.ref a0, .ref a1, .ref a2, .ref a3, .ref a4, .ref a5], [.ref a6, .ref a7], rfl, rfl, fl, fb, (by show 8 ≤ sizeLine; decide), fun l3 m3 => ?_⟩
    have e := same_put (o := HO.lst ([.ref a0, .ref a1, .ref a2, .ref a3, .ref a4, .ref a5] ++ [.ref a6, .ref a7])) m3
    have f0 := e _ _ f0
    have f1 := e _ _ f1
    have f2 := e _ _ f2
    have f3 := e _ _ f3
    have f4 := e _ _ f4
    have f5 := e _ _ f5
    have f6 := e _ _ f6
    have f7 := e _ _ f7
    have S := S.trans e
    have fl : upd G13 l3 (HO.lst ([.ref a0, .ref a1, .ref a2, .ref a3, .ref a4, .ref a5] ++ [.ref a6, .ref a7])) l3 = some (HO.lst [.ref a0, .ref a1, .ref a2, .ref a3, .ref a4, .ref a5, .ref a6, .ref a7]) := upd_same
    generalize upd G13 l3 (HO.lst ([.ref a0, .ref a1, .ref a2, .ref a3, .ref a4, .ref a5] ++ [.ref a6, .ref a7])) = G14 at *
    clear e fb
    refine ⟨_, rfl, ?_⟩
    refine ⟨_, rfl, ?_⟩
    dsimp only [tCB, tCons, tC, tNil]
    refine isP_of hd.ex (hD.same S) (hd.one 8 (by decide)) ?_
    refine ⟨(by show 2 ≤ sizeLine; decide), fun a8 h8 => ?_⟩
    have e := same_put (o := HO.lst [.str "order", .bl (decide (8 = i0))]) h8
    have f0 := e _ _ f0
    have f1 := e _ _ f1
    have f2 := e _ _ f2
    have f3 := e _ _ f3
    have f4 := e _ _ f4
    have f5 := e _ _ f5
    have f6 := e _ _ f6
    have f7 := e _ _ f7
    have fl := e _ _ fl
    have S := S.trans e
    have f8 : upd G14 a8 (HO.lst [.str "order", .bl (decide (8 = i0))]) a8 = some (HO.lst [.str "order", .bl (decide (8 = i0))]) := upd_same
    generalize upd G14 a8 (HO.lst [.str "order", .bl (decide (8 = i0))]) = G15 at *
    clear e
    refine ⟨_, rfl, ?_⟩
    dsimp only [tCB, tCons, tC, tNil]
    refine isP_of hd.ex (hD.same S) (hd.one 9 (by decide)) ?_
    refine ⟨(by show 2 ≤ sizeLine; decide), fun a9 h9 => ?_⟩
    have e := same_put (o := HO.lst [.str "index", .bl (decide (9 = i0))]) h9
    have f0 := e _ _ f0
    have f1 := e _ _ f1
    have f2 := e _ _ f2
    have f3 := e _ _ f3
    have f4 := e _ _ f4
    have f5 := e _ _ f5
    have f6 := e _ _ f6
    have f7 := e _ _ f7
    have f8 := e _ _ f8
    have fl := e _ _ fl
    have S := S.trans e
    have f9 : upd G15 a9 (HO.lst [.str "index", .bl (decide (9 = i0))]) a9 = some (HO.lst [.str "index", .bl (decide (9 = i0))]) := upd_same
    generalize upd G15 a9 (HO.lst [.str "index", .bl (decide (9 = i0))]) = G16 at *
    clear e
    refine ⟨(by show 2 ≤ sizeLine; decide), fun b4 k4 => ?_⟩
    have e := same_put (o := HO.lst [.ref a8, .ref a9]) k4
    have f0 := e _ _ f0
    have f1 := e _ _ f1
    have f2 := e _ _ f2
    have f3 := e _ _ f3
    have f4 := e _ _ f4
    have f5 := e _ _ f5
    have f6 := e _ _ f6
    have f7 := e _ _ f7
    have f8 := e _ _ f8
    have f9 := e _ _ f9
    have fl := e _ _ fl
    have S := S.trans e
    have fb : upd G16 b4 (HO.lst [.ref a8, .ref a9]) b4 = some (HO.lst [.ref a8, .ref a9]) := upd_same
    generalize upd G16 b4 (HO.lst [.ref a8, .ref a9]) = G17 at *
    clear e
    refine ⟨l3, b4, [.ref a0, .ref a1, .ref a2, .ref a3, .ref a4, .ref a5, .ref a6, .ref a7], [.ref a8, .ref a9], rfl, rfl, fl, fb, (by show 10 ≤ sizeLine; decide), fun l4 m4 => ?_⟩
    have e := same_put (o := HO.lst ([.ref a0, .ref a1, .ref a2, .ref a3, .ref a4, .ref a5, .ref a6, .ref a7] ++ [.ref a8, .ref a9])) m4
    have f0 := e _ _ f0
    have f1 := e _ _ f1
    have f2 := e _ _ f2
    have f3 := e _ _ f3
    have f4 := e _ _ f4
    have f5 := e _ _ f5
    have f6 := e _ _ f6
    have f7 := e _ _ f7
    have f8 := e _ _ f8
    have f9 := e _ _ f9
    have S := S.trans e
    have fl : upd G17 l4 (HO.lst ([.ref a0, .ref a1, .ref a2, .ref a3, .ref a4, .ref a5, .ref a6, .ref a7] ++ [.ref a8, .ref a9])) l4 = some (HO.lst [.ref a0, .ref a1, .ref a2, .ref a3, .ref a4, .ref a5, .ref a6, .ref a7, .ref a8, .ref a9]) := upd_same
    generalize upd G17 l4 (HO.lst ([.ref a0, .ref a1, .ref a2, .ref a3, .ref a4, .ref a5, .ref a6, .ref a7] ++ [.ref a8, .ref a9])) = G18 at *
    clear e fb
    refine ⟨_, rfl, ?_⟩
    refine ⟨_, rfl, ?_⟩
    dsimp only [tCB, tCons, tC, tNil]
    refine isP_of hd.ex (hD.same S) (hd.one 10 (by decide)) ?_
    refine ⟨(by show 2 ≤ sizeLine; decide), fun a10 h10 => ?_⟩
    have e := same_put (o := HO.lst [.str "none", .bl (decide (10 = i0))]) h10
    have f0 := e _ _ f0
    have f1 := e _ _ f1
    have f2 := e _ _ f2
    have f3 := e _ _ f3
    have f4 := e _ _ f4
    have f5 := e _ _ f5
    have f6 := e _ _ f6
    have f7 := e _ _ f7
    have f8 := e _ _ f8
    have f9 := e _ _ f9
    have fl := e _ _ fl
    have S := S.trans e
    have f10 : upd G18 a10 (HO.lst [.str "none", .bl (decide (10 = i0))]) a10 = some (HO.lst [.str "none", .bl (decide (10 = i0))]) := upd_same
    generalize upd G18 a10 (HO.lst [.str "none", .bl (decide (10 = i0))]) = G19 at *
    clear e
    refine ⟨_, rfl, ?_⟩
    dsimp only [tCB, tCons, tC, tNil]
    refine isP_of hd.ex (hD.same S) (hd.one 11 (by decide)) ?_
    refine ⟨(by show 2 ≤ sizeLine; decide), fun a11 h11 => ?_⟩
    have e := same_put (o := HO.lst [.str "many", .bl (decide (11 = i0))]) h11
    have f0 := e _ _ f0
    have f1 := e _ _ f1
    have f2 := e _ _ f2
    have f3 := e _ _ f3
    have f4 := e _ _ f4
    have f5 := e _ _ f5
    have f6 := e _ _ f6
    have f7 := e _ _ f7
    have f8 := e _ _ f8
    have f9 := e _ _ f9
    have f10 := e _ _ f10
    have fl := e _ _ fl
    have S := S.trans e
    have f11 : upd G19 a11 (HO.lst [.str "many", .bl (decide (11 = i0))]) a11 = some (HO.lst [.str "many", .bl (decide (11 = i0))]) := upd_same
    generalize upd G19 a11 (HO.lst [.str "many", .bl (decide (11 = i0))]) = G20 at *
    clear e
    refine ⟨_, rfl, ?_⟩
    dsimp only [tCB, tCons, tC, tNil]
    refine isP_of hd.ex (hD.same S) (hd.one 12 (by decide)) ?_
    refine ⟨(by show 2 ≤ sizeLine; decide), fun a12 h12 => ?_⟩
    have e := same_put (o := HO.lst [.str "broken", .bl (decide (12 = i0))]) h12
    have f0 := e _ _ f0
    have f1 := e _ _ f1
    have f2 := e _ _ f2
    have f3 := e _ _ f3
    have f4 := e _ _ f4
    have f5 := e _ _ f5
    have f6 := e _ _ f6
    have f7 := e _ _ f7
    have f8 := e _ _ f8
    have f9 := e _ _ f9
    have f10 := e _ _ f10
    have f11 := e _ _ f11
    have fl := e _ _ fl
    have S := S.trans e
    have f12 : upd G20 a12 (HO.lst [.str "broken", .bl (decide (12 = i0))]) a12 = some (HO.lst [.str "broken", .bl (decide (12 = i0))]) := upd_same
    generalize upd G20 a12 (HO.lst [.str "broken", .bl (decide (12 = i0))]) = G21 at *
    clear e
    refine ⟨(by show 3 ≤ sizeLine; decide), fun b5 k5 => ?_⟩
    have e := same_put (o := HO.lst [.ref a10, .ref a11, .ref a12]) k5
    have f0 := e _ _ f0
    have f1 := e _ _ f1
    have f2 := e _ _ f2
    have f3 := e _ _ f3
    have f4 := e _ _ f4
    have f5 := e _ _ f5
    have f6 := e _ _ f6
    have f7 := e _ _ f7
    have f8 := e _ _ f8
    have f9 := e _ _ f9
    have f10 := e _ _ f10
    have f11 := e _ _ f11
    have f12 := e _ _ f12
    have fl := e _ _ fl
    have S := S.trans e
    have fb : upd G21 b5 (HO.lst [.ref a10, .ref a11, .ref a12]) b5 = some (HO.lst [.ref a10, .ref a11, .ref a12]) := upd_same
    generalize upd G21 b5 (HO.lst [.ref a10, .ref a11, .ref a12]) = G22 at *
    clear e
    refine ⟨l4, b5, [.ref a0, .ref a1, .ref a2, .ref a3, .ref a4, .ref a5, .ref a6, .ref a7, .ref a8, .ref a9], [.ref a10, .ref a11, .ref a12], rfl, rfl, fl, fb, (by show 13 ≤ sizeLine; decide), fun l5 m5 => ?_⟩
    have e := same_put (o := HO.lst ([.ref a0, .ref a1, .ref a2, .ref a3, .ref a4, .ref a5, .ref a6, .ref a7, .ref a8, .ref a9] ++ [.ref a10, .ref a11, .ref a12])) m5
    have f0 := e _ _ f0
    have f1 := e _ _ f1
    have f2 := e _ _ f2
    have f3 := e _ _ f3
    have f4 := e _ _ f4
    have f5 := e _ _ f5
    have f6 := e _ _ f6
    have f7 := e _ _ f7
    have f8 := e _ _ f8
    have f9 := e _ _ f9
    have f10 := e _ _ f10
    have f11 := e _ _ f11
    have f12 := e _ _ f12
    have S := S.trans e
    have fl : upd G22 l5 (HO.lst ([.ref a0, .ref a1, .ref a2, .ref a3, .ref a4, .ref a5, .ref a6, .ref a7, .ref a8, .ref a9] ++ [.ref a10, .ref a11, .ref a12])) l5 = some (HO.lst [.ref a0, .ref a1, .ref a2, .ref a3, .ref a4, .ref a5, .ref a6, .ref a7, .ref a8, .ref a9, .ref a10, .ref a11, .ref a12]) := upd_same
    generalize upd G22 l5 (HO.lst ([.ref a0, .ref a1, .ref a2, .ref a3, .ref a4, .ref a5, .ref a6, .ref a7, .ref a8, .ref a9] ++ [.ref a10, .ref a11, .ref a12])) = G23 at *
    clear e fb
    have all : ∀ (i : Nat) (v : V), ([.ref a0, .ref a1, .ref a2, .ref a3, .ref a4, .ref a5, .ref a6, .ref a7, .ref a8, .ref a9, .ref a10, .ref a11, .ref a12] : List V)[i]? = some v → i < 13 ∧ ∃ a, v = .ref a ∧ G23 a = some (.lst [.str (wdOf i), .bl (decide (i = i0))]) := by
      intro i v hv
      rcases i with _ | _ | _ | _ | _ | _ | _ | _ | _ | _ | _ | _ | _ | i
      · cases hv; exact ⟨by decide, a0, rfl, f0⟩
      · cases hv; exact ⟨by decide, a1, rfl, f1⟩
      · cases hv; exact ⟨by decide, a2, rfl, f2⟩
      · cases hv; exact ⟨by decide, a3, rfl, f3⟩
      · cases hv; exact ⟨by decide, a4, rfl, f4⟩
      · cases hv; exact ⟨by decide, a5, rfl, f5⟩
      · cases hv; exact ⟨by decide, a6, rfl, f6⟩
      · cases hv; exact ⟨by decide, a7, rfl, f7⟩
      · cases hv; exact ⟨by decide, a8, rfl, f8⟩
      · cases hv; exact ⟨by decide, a9, rfl, f9⟩
      · cases hv; exact ⟨by decide, a10, rfl, f10⟩
      · cases hv; exact ⟨by decide, a11, rfl, f11⟩
      · cases hv; exact ⟨by decide, a12, rfl, f12⟩
      · simp at hv
    refine ⟨_, rfl, l5, rfl, ⟨_, SqL.of fl⟩, fun D1 hD1 => ?_⟩
    refine lc_list (K := K) (a := l5) (xs := [.ref a0, .ref a1, .ref a2, .ref a3, .ref a4, .ref a5, .ref a6, .ref a7, .ref a8, .ref a9, .ref a10, .ref a11, .ref a12]) (fun j H2 => H2 D1 = some (.lst (((List.range j).filter fun i => decide (i = i0)).map fun i => V.str (wdOf i))) ∧ Same G23 H2) ⟨upd_same, same_put hD1⟩ (fun j H2 _ ⟨_, e⟩ => SqL.of (e _ _ fl)) ?_ ?_
    · rintro j v H2 hj ⟨h1, h2⟩
      obtain ⟨j13, a, rfl, ha⟩ := all j v hj
      refine ⟨a, _, rfl, SqL.of (h2 _ _ ha), rfl, _, _, rfl, _, _, rfl, rfl, ?_⟩
      refine ⟨rfl, _, rfl, _, rfl, ?_⟩
      have er : ((List.range (j + 1)).filter fun i => decide (i = i0)).map (fun i => V.str (wdOf i)) = ((List.range j).filter fun i => decide (i = i0)).map (fun i => V.str (wdOf i)) ++ (if j = i0 then [V.str (wdOf j)] else []) := by
        rw [List.range_succ, List.filter_append, List.map_append]
        congr 1
        by_cases c : j = i0
        · simp [c]
        · simp [c]
      refine ite2 (fun hc => ?_) (fun hc => ?_)
      · have c : j = i0 := of_decide_eq_true hc
        refine ⟨_, rfl, _, h1, ?_, ?_, fun b o e => ?_⟩
        · refine small1000 (Nat.le_trans (by rw [List.length_map]; exact List.length_filter_le _ _) (by rw [List.length_range]; omega))
        · rw [upd_same, er, if_pos c]
        · rw [upd_ne (ne_of_none e hD1)]
          exact h2 _ _ e
      · have c : ¬ j = i0 := fun z => hc (decide_eq_true z)
        exact ⟨by rw [er, if_neg c, List.append_nil]; exact h1, h2⟩
    · rintro H2 ⟨h1, h2⟩
      have e1 : ((List.range 13).filter fun i => decide (i = i0)) = [i0] := by
        have := hd.lt
        rcases i0 with _ | _ | _ | _ | _ | _ | _ | _ | _ | _ | _ | _ | _ | i0 <;> first | rfl | omega
      rw [show ([.ref a0, .ref a1, .ref a2, .ref a3, .ref a4, .ref a5, .ref a6, .ref a7, .ref a8, .ref a9, .ref a10, .ref a11, .ref a12] : List V).length = 13 from rfl, e1] at h1
      refine ⟨_, rfl, D1, _, rfl, .inl (SqL.of h1), rfl, _, rfl, iteT ?_⟩
      refine ⟨_, rfl, D1, _, 0, .str (wdOf i0), rfl, rfl, SqL.of h1, at_of (j := 0) rfl rfl, ?_⟩
      exact q _ (S.trans h2)
end
end My
set_option Elab.async false
set_option linter.all false
set_option maxRecDepth 100000
set_option maxHeartbeats 8000000
set_option exponentiation.threshold 2000
namespace My
open PySem PySem.Spec PyProof.Rows L2 L2H Gn Mt
theorem any_of {K : PySem.W.Frag} {mg : Str → Option Value} {B : Er mg} {D : Addr} {i0 : Nat} (h : Held K B D i0) : ∀ is : List Nat, (∀ i ∈ is, i < 13) → PySem.W.kitAny K (.ref D) (is.map fun i => Value.ref (B.c i)) = some (is.any fun i => decide (i = i0))
  | [], _ => rfl
  | i :: is, l => by
    rw [List.map_cons, List.any_cons]
    unfold PySem.W.kitAny
    rw [h.one i (l i (by simp))]
    cases decide (i = i0)
    · rw [Bool.false_or]; exact any_of h is fun j m => l j (by simp [m])
    · rfl
section
variable {P : Program} {w : World} {K : PySem.W.Frag} {mg : Str → Option Value} {base : Heap}
theorem ok_lfield {f : Addr} {fd : FuncData} (F : Fun K "_law_field" "_law_field" sLField f fd) (B : Er mg) : FnP P w K mg base CX0 1 f fd ["_law_e"] (spLField K B) := by
  refine funP F scLField (fun p vs H Q E h => ?_) (fun cdv A outer s H vs Q E p hot hr h => ?_)
  · obtain ⟨D, d, i0, v, rfl, _⟩ := h
    rfl
  · obtain ⟨D, d, i0, v, rfl, hz, hf, hd, hD, hv, q⟩ := h
    have mp : (p.1, p.2) ∈ (cxH CX0 P w K mg base ["_law_e"] "_law_field" (defScope sLField) f cdv A outer s H E p).pn := List.mem_cons_self
    refine ⟨_, pss_cons (ps_if (pt_val (pe_callB (cr_isPT mp hz hf) (by rfl) B.isi (by decide +kernel) (pa_cons (pv 0) (pa_cons (pe_tup (pa_cons (pe_glob (v := .ref (B.c 7)) rfl (B.g 7 (by decide)) rfl) (pa_cons (pe_glob (v := .ref (B.c 8)) rfl (B.g 8 (by decide)) rfl)
          (pa_cons (pe_glob (v := .ref (B.c 5)) rfl (B.g 5 (by decide)) rfl) (pa_cons (pe_glob (v := .ref (B.c 12)) rfl (B.g 12 (by decide)) rfl) pa_nil))))) pa_nil)))) (pss_one (ps_ret (pe_xfP mp hz hf (pv 0)))) pss_nil)
      (pss_cons (ps_if (pt_val (pe_callB (cr_isP mp hz hf) (by rfl) B.isi (by decide +kernel) (pa_cons (pv 0) (pa_cons (pe_glob (v := .ref (B.c 10)) rfl (B.g 10 (by decide)) rfl) pa_nil)))) (pss_one (ps_ret pe_non)) pss_nil)
      (pss_one (ps_ret (pe_ifExp (pt_val (pe_callB (cr_isP mp hz hf) (by rfl) B.isi (by decide +kernel) (pa_cons (pv 0) (pa_cons (pe_glob (v := .ref (B.c 11)) rfl (B.g 11 (by decide)) rfl) pa_nil)))) (pe_xfP mp hz hf (pv 0)) (pe_xfP mp hz hf (pv 0)))))), ?_⟩
    refine ⟨_, rfl, (by show 4 ≤ sizeLine; decide), fun tp ht => ?_⟩
    have s1 := same_put (o := HO.tup [.ref (B.c 7), .ref (B.c 8), .ref (B.c 5), .ref (B.c 12)]) ht
    have fld : ∀ (n : Str), fdOf i0 = some n → ∀ R : VK, (∀ H', Same H H' → R v H') → tXfP K p.1 (.ref D) d n (tVar 0) (start ["_law_e"] [.ref p.1]) (upd H tp (.tup [.ref (B.c 7), .ref (B.c 8), .ref (B.c 5), .ref (B.c 12)])) R := fun n hn R k => by
      unfold FldAt at hv
      rw [hn] at hv
      obtain ⟨dd, fs, rfl, h1, h2⟩ := hv
      exact ⟨.ref p.1, rfl, D, dd, fs, v, rfl, rfl, hd.xf, hd.no n hn, rfl, s1 _ _ h1, h2, k _ s1⟩
    refine ⟨D, tp, _, [.ref (B.c 7), .ref (B.c 8), .ref (B.c 5), .ref (B.c 12)], _, rfl, hd.ex, rfl, upd_same, ?_, hD.same s1, any_of hd [7, 8, 5, 12] (by decide), ?_⟩
    · exact .cons (.own _) (.cons (.own _) (.cons (.own _) (.cons (.own _) .nil)))
    refine ⟨_, rfl, ite2 (fun hc => ?_) (fun hc => ?_)⟩
    · refine fld "index" ?_ _ fun H' e => q _ e
      unfold fdOf
      rw [if_pos]
      simp at hc
      omega
    · have n1 : ¬ (i0 = 5 ∨ i0 = 7 ∨ i0 = 8 ∨ i0 = 12) := fun z => hc (by simp; omega)
      refine ⟨_, rfl, ?_⟩
      dsimp only [tCB, tCons, tC, tNil]
      refine isP_of hd.ex (hD.same s1) (hd.one 10 (by decide)) ⟨_, rfl, ite2 (fun h10 => ?_) (fun h10 => ?_)⟩
      · have e10 : 10 = i0 := of_decide_eq_true h10
        have : v = .non := by
          unfold FldAt fdOf at hv
          rw [if_neg n1, if_pos e10.symm] at hv
          exact hv
        rw [← this]
        exact q _ s1
      · have n10 : ¬ i0 = 10 := fun z => h10 (decide_eq_true z.symm)
        refine ⟨_, rfl, ?_⟩
        dsimp only [tCB, tCons, tC, tNil]
        refine isP_of hd.ex (hD.same s1) (hd.one 11 (by decide)) ⟨_, rfl, ite2 (fun h11 => ?_) (fun h11 => ?_)⟩
        · have e11 : 11 = i0 := of_decide_eq_true h11
          refine fld "most" ?_ _ fun H' e => q _ e
          unfold fdOf
          rw [if_neg n1, if_neg n10, if_pos e11.symm]
        · have n11 : ¬ i0 = 11 := fun z => h11 (decide_eq_true z.symm)
          refine fld "given" ?_ _ fun H' e => q _ e
          unfold fdOf
          rw [if_neg n1, if_neg n10, if_neg n11]
end
end My
set_option Elab.async false
set_option linter.all false
set_option maxRecDepth 100000
set_option maxHeartbeats 8000000
set_option exponentiation.threshold 2000
namespace My
open PySem PySem.Spec PyProof.Rows L2 L2H Gn Mt
/-- what is tried raises one of the package's errors, or returns -/
def RaisesAs (K : PySem.W.Frag) {mg : Str → Option Value} (B : Er mg) (Q : VK) : XK := fun C d G => ∃ (D : Addr) (i0 : Nat) (v : V), C = .ref D ∧ Held K B D i0 ∧ DictAt G d ∧ FldAt G d i0 v ∧ ∀ r G', Same G G' → r ≠ sysModules → G' r = some (.lst [.str (wdOf i0), v]) → Q (.ref r) G'
def TellsAs (Q : VK) : VK := fun v G => ∀ r G', Same G G' → G' r = some (.lst [.str "told", v]) → Q (.ref r) G'
def TTe (K : PySem.W.Frag) {mg : Str → Option Value} (B : Er mg) : (XK → Hp → VK → Prop) → Hp → VK → Prop := fun tl H Q =>
  ∀ (E' : XK) (Q' : VK), (∀ C d G, RaisesAs K B Q C d G → E' C d G) → (∀ v G, TellsAs Q v G → Q' v G) → tl E' H Q'
theorem takesN0 {X : Cx} : L2N.Takes X (fun _ _ _ _ => False) := fun _ _ ⟨_, _, _, _, _, _, _, _, _, _, _, _, _, _, _, _, z⟩ => z.elim
/-- _law_class(e), _law_field(e) within the handler -/
def tErrC (K : PySem.W.Frag) {mg : Str → Option Value} (B : Er mg) (x : Addr) (C : Value) (d : Option Addr) : TE := fun σ H Q => tVar 2 σ H fun y H1 => y = .ref x ∧ ∃ D i0, C = .ref D ∧ Held K B D i0 ∧ DictAt H1 d ∧ ∀ H', Same H1 H' → Q (.str (wdOf i0)) H'
def tErrF (K : PySem.W.Frag) {mg : Str → Option Value} (B : Er mg) (x : Addr) (C : Value) (d : Option Addr) : TE := fun σ H Q => tVar 2 σ H fun y H1 => y = .ref x ∧ ∃ D i0 v, C = .ref D ∧ Held K B D i0 ∧ DictAt H1 d ∧ FldAt H1 d i0 v ∧ ∀ H', Same H1 H' → Q v H'
def hnd0 : List Stmt → List Stmt
  | .Try _ (.ExceptHandler _ _ b _ :: _) _ _ _ :: _ => b
  | _ => []
abbrev NE : List Str := ["_law_act", "_law_found", "_law_e", "_law_bases", "_law_plain"]
abbrev cxE (X : Cx) (s : Shared) (H : Hp) (g : Addr) (cdv : Value) : Cx := (cxOf CX0 X.prog X.w X.K X.mg X.base NE "_law_error" (defScope sLError) g cdv X.A X.stack s H E0).nox
def tsErr (K : PySem.W.Frag) {mg : Str → Option Value} (B : Er mg) : Addr → Value → Option Addr → TS := fun x C d =>
  tSeq (tAsg (tLst (tCons (tCB (rIsP K C x d) (tCons (tVar 2) (tCons (tC (V.ref B.R0)) tNil))) (tCons (tCB (rIsP K C x d) (tCons (tVar 2) (tCons (tC (V.ref B.R1)) tNil))) (tCons (tCB (rIsP K C x d) (tCons (tVar 2) (tCons (tC (V.ref B.R2)) tNil))) tNil)))) (gName 3))
    (tSeq (tAsg (tLst (tCons (tCB (rIsP K C x d) (tCons (tVar 2) (tCons (tC (V.ty "ValueError")) tNil))) (tCons (tCB (rIsP K C x d) (tCons (tVar 2) (tCons (tC (V.ty "LookupError")) tNil))) (tCons (tCB (rIsP K C x d) (tCons (tVar 2) (tCons (tC (V.ty "ArithmeticError")) tNil))) tNil)))) (gName 4))
      (tRet (tLstZ (tCons (tIf (tAnd (tTest (tOp (rEqD K) (tVar 3) (tVar 4))) (tTest (tOp rEq (tBM K "list" (rCntB K) (tVar 3) (tCons (tC (V.bl true)) tNil)) (tC (V.int 1))))) (tErrC K B x C d) (tC (V.str "odd"))) (tCons (tErrF K B x C d) tNil)))))
section
variable {X : Cx}
theorem err_suite {g fC fF : Addr} {fdC fdF : FuncData} {cdv : Value} {s : Shared} {H : Hp} (B : Er X.mg) (CL : Df X.K X.mg "_law_class" sLClass ["_law_e"] fC fdC) (CF : Df X.K X.mg "_law_field" sLField ["_law_e"] fF fdF) (rH : RoomH 1 (cxE X s H g cdv).A)
    (x : Addr) (oe : Obj) (C : Value) (d : Option Addr) (pn : List (Addr × Obj)) (z : L2N.Zn C d oe) (hf : ∃ vs, oe.data = .fields vs) : PSs ((cxE X s H g cdv).suite x ((x, oe) :: pn)) (hnd0 (defBody sLError)) (tsErr X.K B x C d) := by
  have GC : FnP X.prog X.w X.K X.mg X.base CX0 1 fC fdC ["_law_e"] (spLClass X.K B) := ok_lclass CL.F B
  have GF : FnP X.prog X.w X.K X.mg X.base CX0 1 fF fdF ["_law_e"] (spLField X.K B) := ok_lfield CF.F B
  have hu : (cxE X s H g cdv).A.units + 64 < cLine := by have := rH.un; omega
  exact pss_cons (ps_set (i := 3) scLError.nd rfl (.inl rfl) (pe_lst (pa_cons (pe_callB (cr_isP (a := x) (oe := oe) List.mem_cons_self z.zc hf) (by rfl) B.isi (by decide +kernel) (pa_cons (pv 2) (pa_cons (pe_glob (v := .ref B.R0) rfl B.g0 rfl) pa_nil)))
          (pa_cons (pe_callB (cr_isP (a := x) (oe := oe) List.mem_cons_self z.zc hf) (by rfl) B.isi (by decide +kernel) (pa_cons (pv 2) (pa_cons (pe_glob (v := .ref B.R1) rfl B.g1 rfl) pa_nil)))
          (pa_cons (pe_callB (cr_isP (a := x) (oe := oe) List.mem_cons_self z.zc hf) (by rfl) B.isi (by decide +kernel) (pa_cons (pv 2) (pa_cons (pe_glob (v := .ref B.R2) rfl B.g2 rfl) pa_nil))) pa_nil)))))
        (pss_cons (ps_set (i := 4) scLError.nd rfl (.inl rfl) (pe_lst (pa_cons (pe_callB (cr_isP (a := x) (oe := oe) List.mem_cons_self z.zc hf) (by rfl) B.isi (by decide +kernel) (pa_cons (pv 2) (pa_cons (pe_bltn (v := .ty "ValueError") (by rfl) B.v0 (by decide +kernel) rfl) pa_nil)))
          (pa_cons (pe_callB (cr_isP (a := x) (oe := oe) List.mem_cons_self z.zc hf) (by rfl) B.isi (by decide +kernel) (pa_cons (pv 2) (pa_cons (pe_bltn (v := .ty "LookupError") (by rfl) B.v1 (by decide +kernel) rfl) pa_nil)))
          (pa_cons (pe_callB (cr_isP (a := x) (oe := oe) List.mem_cons_self z.zc hf) (by rfl) B.isi (by decide +kernel) (pa_cons (pv 2) (pa_cons (pe_bltn (v := .ty "ArithmeticError") (by rfl) B.v2 (by decide +kernel) rfl) pa_nil))) pa_nil)))))
        (pss_one (ps_ret (pe_lstZ (pa_cons (pe_ifExp (PW.pt (pw_and (pt_cmpR (op_eqD (X := (cxE X s H g cdv).suite x ((x, oe) :: pn)) hu) (pv 3) (pv 4) (nomark _)) (pw_and1 (pt_cmpR op_eq (pe_bm PySem.F.plainAttrs_list PySem.F.slot_list_count PySem.F.type_list_count mt_countB (pv 3) (pa_cons pe_bl pa_nil)) pe_int (nomark _)))))
            (PE.imp (t' := tErrC X.K B x C d) (pe_callP GC (q := (x, oe)) ⟨rH.dp, rH.un⟩ List.mem_cons_self ⟨rfl, hf.choose, hf.choose_spec, z.2.2 _ hf.choose_spec⟩ (by rfl) CL.g CL.F.kp CL.b pass0 (pa_cons (pv 2) pa_nil)) (fun σ G Q ⟨y, e1, e2, D, i0, e3, hd, hD, q⟩ => ⟨y, e1, D, d, i0, by rw [e2]; rfl, by rw [← e3]; exact z.zc, hf, hd, hD, q⟩)) pe_str)
          (pa_cons (PE.imp (t' := tErrF X.K B x C d) (pe_callP GF (q := (x, oe)) ⟨rH.dp, rH.un⟩ List.mem_cons_self ⟨rfl, hf.choose, hf.choose_spec, z.2.2 _ hf.choose_spec⟩ (by rfl) CF.g CF.F.kp CF.b pass0 (pa_cons (pv 2) pa_nil)) (fun σ G Q ⟨y, e1, e2, D, i0, v, e3, hd, hD, hv, q⟩ => ⟨y, e1, D, d, i0, v, by rw [e2]; rfl, by rw [← e3]; exact z.zc, hf, hd, hD, hv, q⟩)) pa_nil))))))
theorem err_reads {K : PySem.W.Frag} {mg : Str → Option Value} (B : Er mg) {x D : Addr} {d : Option Addr} {i0 : Nat} {v : V} {Dn : Ends} {u1 u2 u3 u4 : Option V} {G : Hp} (hd : Held K B D i0) (hD : DictAt G d) (hv : FldAt G d i0 v)
    (q : ∀ r G', Same G G' → r ≠ sysModules → G' r = some (.lst [.str (wdOf i0), v]) → Dn.rt (.ref r) G') : tsErr K B x (.ref D) d Dn [u1, u2, some (.ref x), u3, u4] G := by
  obtain ⟨b0, b1, b2, cnt, k0, k1, k2, l0, l1, l2⟩ := hd.bs
  have sh : SeqAt.shaped (PyData.list [.bool b0, .bool b1, .bool b2]) = true := by cases b0 <;> cases b1 <;> cases b2 <;> decide +kernel
  unfold tsErr
  dsimp only [tSeq, tAsg, gName]
  refine ⟨_, rfl, ?_⟩
  dsimp only [tCB, tCons, tC, tNil]
  refine isP_of hd.ex hD k0 ⟨_, rfl, ?_⟩
  dsimp only [tCB, tCons, tC, tNil]
  refine isP_of hd.ex hD k1 ⟨_, rfl, ?_⟩
  dsimp only [tCB, tCons, tC, tNil]
  refine isP_of hd.ex hD k2 ⟨(by show 3 ≤ sizeLine; decide), fun p1 h1 => ?_⟩
  have s1 := same_put (o := HO.lst [.bl b0, .bl b1, .bl b2]) h1
  have f1 : upd G p1 (HO.lst [.bl b0, .bl b1, .bl b2]) p1 = some (.lst ([b0, b1, b2].map V.bl)) := upd_same
  generalize upd G p1 (HO.lst [.bl b0, .bl b1, .bl b2]) = G1 at *
  refine ⟨_, rfl, ?_⟩
  dsimp only [tCB, tCons, tC, tNil]
  refine isPt_of hd.ex (hD.same s1) l0 ⟨_, rfl, ?_⟩
  dsimp only [tCB, tCons, tC, tNil]
  refine isPt_of hd.ex (hD.same s1) l1 ⟨_, rfl, ?_⟩
  dsimp only [tCB, tCons, tC, tNil]
  refine isPt_of hd.ex (hD.same s1) l2 ⟨(by show 3 ≤ sizeLine; decide), fun p2 h2 => ?_⟩
  have s2 := same_put (o := HO.lst [.bl b0, .bl b1, .bl b2]) h2
  have f2 : upd G1 p2 (HO.lst [.bl b0, .bl b1, .bl b2]) p2 = some (.lst ([b0, b1, b2].map V.bl)) := upd_same
  have f1 := s2 _ _ f1
  generalize upd G1 p2 (HO.lst [.bl b0, .bl b1, .bl b2]) = G2 at *
  have S2 := s1.trans s2
  refine ⟨_, rfl, _, rfl, .list [.bool b0, .bool b1, .bool b2], .list [.bool b0, .bool b1, .bool b2], .lst (SqL.of f1) (.cons (.bl b0) (.cons (.bl b1) (.cons (.bl b2) .nil))), .lst (SqL.of f2) (.cons (.bl b0) (.cons (.bl b1) (.cons (.bl b2) .nil))), sh, sh, _, rfl, ?_⟩
  rw [SeqAt.eqv_refl (PyData.list [.bool b0, .bool b1, .bool b2]) (by cases b0 <;> cases b1 <;> cases b2 <;> decide +kernel)]
  refine iteT ⟨_, rfl, .inl ⟨rfl, _, SqL.of f1⟩, p1, [b0, b1, b2], true, rfl, rfl, SqL.of f1, rfl, _, rfl, ?_⟩
  rw [cnt]
  refine iteT ⟨_, rfl, rfl, D, i0, rfl, hd, hD.same S2, fun G3 s3 => ?_⟩
  have S3 := S2.trans s3
  refine ⟨_, rfl, rfl, D, i0, v, rfl, hd, hD.same S3, ?_, fun G4 s4 => ?_⟩
  · unfold FldAt at hv ⊢
    cases e : fdOf i0 with
    | none => rw [e] at hv; exact hv
    | some n =>
      rw [e] at hv
      obtain ⟨dd, fs, h1, h2, h3⟩ := hv
      exact ⟨dd, fs, h1, S3 _ _ h2, h3⟩
  refine ⟨(by show 2 ≤ sizeLine; decide), fun r hr np => q r _ ((S3.trans s4).trans (same_put hr)) np upd_same⟩
theorem error_gives {g fC fF : Addr} {fdC fdF : FuncData} {q : Str} {k : Nat} (B : Er X.mg) (CL : Df X.K X.mg "_law_class" sLClass ["_law_e"] fC fdC) (CF : Df X.K X.mg "_law_field" sLField ["_law_e"] fF fdF) (cdv : Value) :
    GivesN X NE "_law_error" (defScope sLError) g cdv (defBody sLError) "_law_act" q k (TTe X.K B) := by
  intro f c s H Q tl act hc hr want
  have rH : RoomH 1 (cxE X s H g cdv).A := (roomH_of hr).mono (by omega)
  refine ⟨_, pss_cons (ps_try_triN (j := 2) (ts := tsErr X.K B) rfl rfl scLError.nd rfl rfl ⟨rfl, by decide, .inl B.g0⟩ ⟨rfl, by decide, .inl B.g1⟩ ⟨rfl, by decide, .inl B.g2⟩ takesN0
      (fun W pn xe tk _ => pss_one (ps_set (i := 1) scLError.nd rfl (.inl rfl) (act W pn xe _ _ tk))) (err_suite B CL CF rH))
    (pss_one (ps_ret (pe_lst (pa_cons pe_str (pa_cons (pv 1) pa_nil))))), ?_⟩
  dsimp only [gName, tSeq, tAsg]
  refine ⟨rfl, hc, want _ _ (fun C d G w => ?_) (fun v G w => ?_)⟩
  · obtain ⟨D, i0, v, rfl, hd, hD, hv, w⟩ := w
    exact ⟨true, hd.ma, fun _ x hx => err_reads B hd hD hv w, fun z => nomatch z⟩
  · refine ⟨_, rfl, (by show 2 ≤ sizeLine; decide), fun r hr' => ?_⟩
    exact w r _ (same_put hr') upd_same
end
end My
set_option Elab.async false
set_option linter.all false
set_option maxRecDepth 100000
set_option maxHeartbeats 8000000
set_option exponentiation.threshold 2000
namespace My
open PySem PySem.Spec PyProof.Rows L2 L2H Gn
/-! the law's own questions -/
abbrev sLUnder : Stmt := top 48
abbrev sLNum : Stmt := top 50
abbrev sLPart : Stmt := top 51
theorem scLNum : FnScope ["_law_thing", "_law_low_here", "_law_high"] ["_law_thing", "_law_low_here", "_law_high"] (defScope sLNum) := ⟨rfl, rfl, rfl, by decide +kernel, rfl, by decide +kernel, by decide +kernel⟩
theorem scLPart : FnScope ["_law_thing"] ["_law_thing"] (defScope sLPart) := ⟨rfl, rfl, rfl, by decide +kernel, rfl, by decide +kernel, by decide +kernel⟩
theorem scLUnder : FnScope ["_law_one", "_law_two"] ["_law_one", "_law_two"] (defScope sLUnder) := ⟨rfl, rfl, rfl, by decide +kernel, rfl, by decide +kernel, by decide +kernel⟩
/-- a pair of integers has its second one in bounds -/
def Lt60 (d : PyData) : Prop := ∀ p b, d = .tuple [p, .int b] → b ≤ 10 ^ 60
def spAsk60 (K : PySem.W.Frag) (r : PyData → Bool) : Sp := fun vs H Q _ => ∃ v d, vs = [v] ∧ An K H v d ∧ Lt60 d ∧ Q (.bl (r d)) H
section
variable {P : Program} {w : World} {K : PySem.W.Frag} {mg : Str → Option Value} {base : Heap}
theorem ok_lNum {f : Addr} {fd : FuncData} (F : Fun K "_law_is_number" "_law_is_number" sLNum f fd) (B : Bc mg) : FnOk P w K mg base CX0 1 f fd ["_law_thing", "_law_low_here", "_law_high"] (spNumA K) := by
  refine F.ok scLNum (fun vs H Q E h => ?_) (fun cdv A outer s H vs Q E hr h => ?_)
  · obtain ⟨v, d, a, b, rfl, _⟩ := h
    rfl
  · obtain ⟨v, d, a, b, rfl, an, q⟩ := h
    refine ⟨_, pss_one (ps_ret (pe_and (pe_callB call_isi (by rfl) B.isi (by decide +kernel) (pa_cons (pv 0) (pa_cons (pe_bltn (v := .ty "int") (by rfl) B.int (by decide +kernel) rfl) pa_nil)))
      (pe_and (pe_not (pe_callB call_isi (by rfl) B.isi (by decide +kernel) (pa_cons (pv 0) (pa_cons (pe_bltn (v := .ty "bool") (by rfl) B.bool (by decide +kernel) rfl) pa_nil)))) (pe_one (pe_chain op_le op_le (pv 1) (pv 0) (pv 2)))))), ?_⟩
    refine ⟨_, rfl, v, .ty "int", _, _, _, rfl, .ty "int", an.ty, kit_ty kit_int, _, rfl, ?_⟩
    cases ei : isIntB d with
    | false =>
      have e : isNum d a b = false := by cases d <;> first | rfl | cases ei
      rw [e] at q
      exact iteF q
    | true =>
      refine iteT ⟨_, rfl, v, .ty "bool", _, _, _, rfl, .ty "bool", an.ty, kit_ty kit_bool, ?_⟩
      cases eb : isBoolB d with
      | true =>
        have e : isNum d a b = false := by cases d <;> first | rfl | cases eb
        rw [e] at q
        exact ⟨_, rfl, _, rfl, iteF q⟩
      | false =>
        have e3 : isInt d = true := by cases d <;> first | rfl | (cases ei; done) | (cases eb; done)
        obtain ⟨i, rfl, rfl⟩ := an.isI e3
        refine ⟨_, rfl, _, rfl, iteT ⟨_, rfl, _, rfl, _, _, rfl, rfl, _, rfl, ?_⟩⟩
        refine ite2 (fun hc => ?_) (fun hc => ?_)
        · have h1 : a ≤ i := of_decide_eq_true hc
          refine ⟨_, rfl, _, _, rfl, rfl, ?_⟩
          have e : isNum (.int i) a b = decide (i ≤ b) := by
            show decide (a ≤ i ∧ i ≤ b) = _
            rw [decide_eq_decide]; exact ⟨fun z => z.2, fun z => ⟨h1, z⟩⟩
          rw [e] at q
          exact q
        · have h1 : ¬ a ≤ i := fun z => hc (decide_eq_true z)
          have e : isNum (.int i) a b = false := decide_eq_false fun z => h1 z.1
          rw [e] at q
          exact q
theorem ok_lPart {f fN fG : Addr} {fd fdN fdG : FuncData} (F : Fun K "_law_is_part" "_law_is_part" sLPart f fd) (B : Bc mg) (Bl' : Bl mg) (N : Df K mg "_law_is_number" sLNum ["_law_thing", "_law_low_here", "_law_high"] fN fdN) (G : Df K mg "_law_gcd" sGcd ["_law_one", "_law_two"] fG fdG) : FnOk P w K mg base CX0 2 f fd ["_law_thing"] (spAsk60 K isPt) := by
  have GN : FnOk P w K mg base CX0 1 fN fdN ["_law_thing", "_law_low_here", "_law_high"] (spNumA K) := ok_lNum N.F B
  have GG : FnOk P w K mg base CX0 1 fG fdG ["_law_one", "_law_two"] spGcd := ok_gcd G.F Bl'
  refine F.ok scLPart (fun vs H Q E h => ?_) (fun cdv A outer s H vs Q E hr h => ?_)
  · obtain ⟨v, d, rfl, _⟩ := h
    rfl
  · obtain ⟨v, d, rfl, an, h60, q⟩ := h
    refine ⟨_, pss_cons (ps_if (PW.pt (pw_or (pt_not (pt_val (pe_callB call_isi (by rfl) B.isi (by decide +kernel) (pa_cons (pv 0) (pa_cons (pe_bltn (v := .ty "tuple") (by rfl) B.tuple (by decide +kernel) rfl) pa_nil)))))
        (pw_or (pt_cmpR op_ne (pe_callB call_len_seq (by rfl) B.len PySem.boot_len (pa_cons (pv 0) pa_nil)) pe_int (nomark _))
        (pw_or1 (pt_not (pt_val (pe_call GN hr (by rfl) N.g N.F.kp N.b .nil pass0 (pa_cons (pe_ix ix_tup (pv 0) pe_int (fun _ _ => rfl)) (pa_cons pe_int (pa_cons (pe_op op_pow pe_int pe_int) pa_nil)))))))))) (pss_one (ps_ret pe_bl)) pss_nil)
      (pss_one (ps_ret (pe_and (pe_call GN hr (by rfl) N.g N.F.kp N.b .nil pass0 (pa_cons (pe_ix ix_tup (pv 0) pe_int (fun _ _ => rfl)) (pa_cons pe_int (pa_cons (pe_ix ix_tup (pv 0) pe_int (fun _ _ => rfl)) pa_nil))))
        (pe_one (pe_cmpR op_eq (pe_call GG hr (by rfl) G.g G.F.kp G.b .nil pass0 (pa_cons (pe_ix ix_tup (pv 0) pe_int (fun _ _ => rfl)) (pa_cons (pe_ix ix_tup (pv 0) pe_int (fun _ _ => rfl)) pa_nil))) pe_int (nomark _)))))), ?_⟩
    refine ⟨_, rfl, v, .ty "tuple", _, _, _, rfl, .ty "tuple", an.ty, kit_ty kit_tup, _, rfl, ?_⟩
    cases et : isTupB d with
    | false =>
      rw [isPt_fr (isFr_ty et)] at q
      exact iteT q
    | true =>
      refine iteF ?_
      obtain ⟨a, xs, ds, rfl, rfl, hT, all⟩ := an.isT et
      refine ⟨_, rfl, a, xs, rfl, .inr (SqT.of hT), rfl, _, rfl, ?_⟩
      by_cases hl : xs.length = 2
      · obtain ⟨x, y, p, p', rfl, rfl, dx, dy⟩ := dpAll_two all hl
        refine iteF ⟨_, rfl, a, _, 1, y, rfl, rfl, SqT.of hT, at_of (j := 1) rfl rfl, ?_⟩
        refine ⟨_, _, rfl, rfl, ⟨by decide, by decide, by decide⟩, y, p', 1, 10 ^ 60, rfl, dy, _, rfl, ?_⟩
        cases c : isNum p' 1 (10 ^ 60) with
        | false =>
          have e : isPt (.tuple [p, p']) = false := by
            refine isPt_fr ?_
            cases ei : isInt p' with
            | false => exact isFr_no (.inr ei)
            | true =>
              obtain ⟨j, rfl, rfl⟩ := dy.isI ei
              have j2 : j ≤ 10 ^ 60 := h60 p j rfl
              have j1 : ¬ 1 ≤ j := fun z => nomatch c.symm.trans (num_of z j2)
              cases p with
              | int i => simp only [isFr, decide_eq_false j1, Bool.false_and]
              | _ => rfl
          rw [e] at q
          exact iteT q
        | true =>
          have ei : isInt p' = true := by
            cases p' with
            | int i => rfl
            | _ => cases c
          obtain ⟨j, rfl, rfl⟩ := dy.isI ei
          have j1 := (of_decide_eq_true (show decide (1 ≤ j ∧ j ≤ 10 ^ 60) = true from c)).1
          refine iteF ⟨_, rfl, a, _, 0, x, rfl, rfl, SqT.of hT, at_of (j := 0) rfl rfl, ?_⟩
          refine ⟨_, rfl, a, _, 1, .int j, rfl, rfl, SqT.of hT, at_of (j := 1) rfl rfl, x, p, 0, j, rfl, dx, _, rfl, ?_⟩
          cases c0 : isNum p 0 j with
          | false =>
            have e : isPt (.tuple [p, .int j]) = false := by
              cases p with
              | int i =>
                have z : ¬ (0 ≤ i ∧ i ≤ j) := of_decide_eq_false c0
                have y1 : (decide (0 ≤ i) && decide (i ≤ j)) = false := by
                  rw [← Bool.decide_and]; exact decide_eq_false z
                simp only [isPt, y1, Bool.and_false]
              | _ => rfl
            rw [e] at q
            exact iteF q
          | true =>
            have e0 : isInt p = true := by
              cases p with
              | int i => rfl
              | _ => cases c0
            obtain ⟨i, rfl, rfl⟩ := dx.isI e0
            have i0 := of_decide_eq_true (show decide (0 ≤ i ∧ i ≤ j) = true from c0)
            refine iteT ⟨_, rfl, a, _, 0, .int i, rfl, rfl, SqT.of hT, at_of (j := 0) rfl rfl, ?_⟩
            refine ⟨_, rfl, a, _, 1, .int j, rfl, rfl, SqT.of hT, at_of (j := 1) rfl rfl, i, j, rfl, i0.1, by omega, rfl, ?_⟩
            have e : decide (V.int ((Nat.gcd i.natAbs j.natAbs : Nat) : Int) = V.int 1) = isPt (.tuple [.int i, .int j]) := by
              simp only [isPt, isFr, decide_eq_true j1, decide_eq_true i0.1, decide_eq_true i0.2, Bool.true_and, Bool.and_true]
              rw [decide_eq_decide, V.int.injEq]
              show ((Int.gcd i j : Nat) : Int) = 1 ↔ _
              omega
            show Q (.bl (decide (V.int ((Nat.gcd i.natAbs j.natAbs : Nat) : Int) = V.int 1))) H
            rw [e]
            exact q
      · rw [isPt_fr (isFr_len (fun z => hl ((dpAll_len all).trans z)))] at q
        have e : (!(decide (V.int (xs.length : Int) = V.int 2))) = true := by
          rw [decide_eq_false, Bool.not_false]
          intro z
          rw [V.int.injEq] at z
          exact hl (by omega)
        show if (!(decide (V.int (xs.length : Int) = V.int 2))) = true then _ else _
        rw [e]
        exact iteT q
end
end My
set_option Elab.async false
set_option linter.all false
set_option maxRecDepth 100000
set_option maxHeartbeats 8000000
set_option exponentiation.threshold 4000
namespace My
open PySem PySem.Spec PyProof.Rows L2 Gn Mt
abbrev s__law_is_piece : Stmt := top 56
theorem sc__law_is_piece : FnScope ["_law_thing"] ["_law_thing"] (defScope s__law_is_piece) := ⟨rfl, rfl, rfl, by decide +kernel, rfl, by decide +kernel, by decide +kernel⟩
/-! the law's own look at a piece -/
theorem scLUnder2 : FnScope ["_law_one", "_law_two"] ["_law_one", "_law_two"] (defScope sLUnder) := ⟨rfl, rfl, rfl, by decide +kernel, rfl, by decide +kernel, by decide +kernel⟩
def oneD : PyData := .tuple [.int 1, .int 1]
/-- what the law asks of the ends of a piece -/
def endsB (p q : Int × Int) (f t : Bool) : Bool := if (decide (q = (1, 1)) && t) = true then false else if p = q then !(decide (p = (1, 1))) && (f && t) else decide (p.1 * q.2 < q.1 * p.2)
theorem ends_eq {n m n' m' : Int} (le : n ≤ m) (le' : n' ≤ m') (m0' : 0 < m') {f t : Bool} : endsB (n, m) (n', m') f t = ((⟨n, m, !f⟩ : Cut).lt ⟨n', m', t⟩ && !(last.lt ⟨n', m', t⟩)) := by
  have e1 : last.lt ⟨n', m', t⟩ = (decide ((n', m') = ((1, 1) : Int × Int)) && t) := by
    unfold Cut.lt
    by_cases c : n' = 1 ∧ m' = 1
    · obtain ⟨rfl, rfl⟩ := c
      rfl
    · rw [if_neg (fun z => c ⟨z.1.symm, z.2.symm⟩)]
      have : ¬ (n', m') = ((1, 1) : Int × Int) := fun z => c (Prod.mk.inj z)
      rw [decide_eq_false this, Bool.false_and]
      exact decide_eq_false (by show ¬ 1 * m' < n' * 1; omega)
  rw [e1]
  unfold endsB Cut.lt
  by_cases c1 : (decide ((n', m') = ((1, 1) : Int × Int)) && t) = true
  · rw [if_pos c1, c1, Bool.not_true, Bool.and_false]
  · rw [if_neg c1]
    have c1 : (decide ((n', m') = ((1, 1) : Int × Int)) && t) = false := by
      cases z : (decide ((n', m') = ((1, 1) : Int × Int)) && t) with
      | false => rfl
      | true => exact absurd z c1
    rw [c1, Bool.not_false, Bool.and_true]
    by_cases c2 : n = n' ∧ m = m'
    · obtain ⟨rfl, rfl⟩ := c2
      rw [if_pos rfl, if_pos ⟨rfl, rfl⟩, Bool.not_not]
      by_cases c3 : (n, m) = ((1, 1) : Int × Int)
      · rw [decide_eq_true c3, Bool.true_and] at c1
        rw [decide_eq_true c3, c1]
        cases f <;> rfl
      · rw [decide_eq_false c3, Bool.not_false, Bool.true_and]
    · rw [if_neg (fun z => c2 (Prod.mk.inj z)), if_neg c2]
/-- parts that the law's own look takes -/
def Lt4 (d : PyData) : Prop := ∀ ds, d = .tuple ds → ds.length ≤ 60 ∧ ∀ e ∈ ds, Lt60 e
def spLPc (K : PySem.W.Frag) : Sp := fun vs H Q _ => ∃ v d, vs = [v] ∧ An K H v d ∧ Lit4 d ∧ Lt4 d ∧ ∀ H', Same H H' → Q (.bl (isPcB d)) H'
section
variable {P : Program} {w : World} {K : PySem.W.Frag} {mg : Str → Option Value} {base : Heap}
def spUnd (K : PySem.W.Frag) : Sp := fun vs H Q _ => ∃ (u v : V) (p q : Int × Int), vs = [u, v] ∧ Dp K H u (frD p) ∧ Dp K H v (frD q) ∧ Lit p ∧ Lit q ∧ Q (.bl (decide (p.1 * q.2 < q.1 * p.2))) H
theorem ok_lUnd {f : Addr} {fd : FuncData} (F : Fun K "_law_under" "_law_under" sLUnder f fd) : FnOk P w K mg base CX0 1 f fd ["_law_one", "_law_two"] (spUnd K) := by
  refine F.ok scLUnder2 (fun vs H Q E h => ?_) (fun cdv A outer s H vs Q E hr h => ?_)
  · obtain ⟨u, v, p, q, rfl, _⟩ := h
    rfl
  · obtain ⟨u, v, p, q, rfl, h1, h2, l1, l2, k⟩ := h
    refine ⟨_, pss_one (ps_ret (pe_cmpR op_lt (pe_op op_mulW (pe_ix ix_tup (pv 0) pe_int (fun _ _ => rfl)) (pe_ix ix_tup (pv 1) pe_int (fun _ _ => rfl))) (pe_op op_mulW (pe_ix ix_tup (pv 1) pe_int (fun _ _ => rfl)) (pe_ix ix_tup (pv 0) pe_int (fun _ _ => rfl))) (nomark _))), ?_⟩
    obtain ⟨a, rfl, ha⟩ := fr_inv h1
    obtain ⟨b, rfl, hb⟩ := fr_inv h2
    refine ⟨_, rfl, a, _, 0, .int p.1, rfl, rfl, ha, at_of (j := 0) rfl rfl, _, rfl, b, _, 1, .int q.2, rfl, rfl, hb, at_of (j := 1) rfl rfl, _, _, rfl, rfl, wide_mul l1.1 l2.2 (by decide) (by decide) (by decide), ?_⟩
    exact ⟨_, rfl, b, _, 0, .int q.1, rfl, rfl, hb, at_of (j := 0) rfl rfl, _, rfl, a, _, 1, .int p.2, rfl, rfl, ha, at_of (j := 1) rfl rfl, _, _, rfl, rfl, wide_mul l2.1 l1.2 (by decide) (by decide) (by decide), _, _, rfl, rfl, k⟩
/-- the law's defs about pieces -/
structure Lg (K : PySem.W.Frag) (mg : Str → Option Value) where
  bl : Bl mg
  num : Addr × FuncData
  d_num : Df K mg "_law_is_number" sLNum ["_law_thing", "_law_low_here", "_law_high"] num.1 num.2
  gcd : Addr × FuncData
  d_gcd : Df K mg "_law_gcd" sGcd ["_law_one", "_law_two"] gcd.1 gcd.2
  part : Addr × FuncData
  d_part : Df K mg "_law_is_part" sLPart ["_law_thing"] part.1 part.2
  und : Addr × FuncData
  d_und : Df K mg "_law_under" sLUnder ["_law_one", "_law_two"] und.1 und.2
theorem ok_lIsPc {f : Addr} {fd : FuncData} (F : Fun K "_law_is_piece" "_law_is_piece" s__law_is_piece f fd) (B : Bc mg) (M : Lg K mg) : FnOk P w K mg base CX0 3 f fd ["_law_thing"] (spLPc K) := by
  have GP : FnOk P w K mg base CX0 2 M.part.1 M.part.2 ["_law_thing"] (spAsk60 K isPt) := ok_lPart M.d_part.F B M.bl M.d_num M.d_gcd
  have GU : FnOk P w K mg base CX0 1 M.und.1 M.und.2 ["_law_one", "_law_two"] (spUnd K) := ok_lUnd M.d_und.F
  refine F.ok sc__law_is_piece (fun vs H Q E h => ?_) (fun cdv A outer s H vs Q E hr h => ?_)
  · obtain ⟨v, d, rfl, _⟩ := h
    rfl
  · obtain ⟨v, d, rfl, an, lit, l60, k⟩ := h
    have hu := hr.units
    have hr1 : Room 1 _ := hr.mono (by decide)
    refine ⟨_, pss_cons (ps_if (PW.pt (pw_or (pt_not (pt_val (pe_callB (call_isi) (by rfl) B.isi (by decide +kernel) (pa_cons (pv 0) (pa_cons (pe_bltn (v := .ty "tuple") (by rfl) B.tuple (by decide +kernel) rfl) pa_nil))))) (pw_or (pt_cmpR op_ne (pe_callB (call_len_seq) (by rfl) B.len (by decide +kernel) (pa_cons (pv 0) pa_nil)) pe_int (nomark _)) (pw_or (pt_not (pt_val (pe_call GP hr (by rfl) M.d_part.g M.d_part.F.kp M.d_part.b .nil pass0 (pa_cons (pe_ix ix_tup (pv 0) pe_int (fun _ _ => rfl)) pa_nil)))) (pw_or1 (pt_not (pt_val (pe_call GP hr (by rfl) M.d_part.g M.d_part.F.kp M.d_part.b .nil pass0 (pa_cons (pe_ix ix_tup (pv 0) pe_int (fun _ _ => rfl)) pa_nil))))))))) (pss_one (ps_ret pe_bl)) pss_nil) (pss_cons (ps_if (PW.pt (pw_or (pt_not (pt_val (pe_callB (call_isi) (by rfl) B.isi (by decide +kernel) (pa_cons (pe_ix ix_tup (pv 0) pe_int (fun _ _ => rfl)) (pa_cons (pe_bltn (v := .ty "bool") (by rfl) B.bool (by decide +kernel) rfl) pa_nil))))) (pw_or (pt_not (pt_val (pe_callB (call_isi) (by rfl) B.isi (by decide +kernel) (pa_cons (pe_ix ix_tup (pv 0) pe_int (fun _ _ => rfl)) (pa_cons (pe_bltn (v := .ty "bool") (by rfl) B.bool (by decide +kernel) rfl) pa_nil))))) (pw_or1 (PW.pt (pw_and (pt_cmpR (op_eqD hu) (pe_ix ix_tup (pv 0) pe_int (fun _ _ => rfl)) (pe_tup (pa_cons pe_int (pa_cons pe_int pa_nil))) (nomark _)) (pw_and1 (pt_val (pe_ix ix_tup (pv 0) pe_int (fun _ _ => rfl)))))))))) (pss_one (ps_ret pe_bl)) pss_nil) (pss_cons (ps_if (pt_cmpR (op_eqD hu) (pe_ix ix_tup (pv 0) pe_int (fun _ _ => rfl)) (pe_ix ix_tup (pv 0) pe_int (fun _ _ => rfl)) (nomark _)) (pss_one (ps_ret (pe_and (pe_cmpR (op_neD hu) (pe_ix ix_tup (pv 0) pe_int (fun _ _ => rfl)) (pe_tup (pa_cons pe_int (pa_cons pe_int pa_nil))) (nomark _)) (pe_and (pe_ix ix_tup (pv 0) pe_int (fun _ _ => rfl)) (pe_one (pe_ix ix_tup (pv 0) pe_int (fun _ _ => rfl))))))) pss_nil) (pss_one (ps_ret (pe_call GU hr1 (by rfl) M.d_und.g M.d_und.F.kp M.d_und.b .nil pass0 (pa_cons (pe_ix ix_tup (pv 0) pe_int (fun _ _ => rfl)) (pa_cons (pe_ix ix_tup (pv 0) pe_int (fun _ _ => rfl)) pa_nil))))))), ?_⟩
    refine ⟨_, rfl, v, .ty "tuple", _, _, _, rfl, .ty "tuple", an.ty, kit_ty kit_tup, _, rfl, ?_⟩
    cases et : isTupB d with
    | false =>
      have e : isPcB d = false := by cases d <;> first | rfl | cases et
      rw [e] at k
      exact iteT (k _ (Same.refl _))
    | true =>
      refine iteF ?_
      obtain ⟨a, xs, ds, rfl, rfl, hT, all⟩ := an.isT et
      have len := dpAll_len all
      refine ⟨_, rfl, a, xs, rfl, .inr (SqT.of hT), rfl, _, rfl, ?_⟩
      by_cases hl : ds.length = 4
      · obtain ⟨x, y, f1, t1, p, q, fd', td', rfl, rfl, ax, ay, af, at'⟩ := anAll_four all hl
        have sq : SqT K H a [x, y, f1, t1] := SqT.of hT
        have b1 : Lt60 p := (l60 _ rfl).2 _ List.mem_cons_self
        have b2 : Lt60 q := (l60 _ rfl).2 _ (List.mem_cons_of_mem _ List.mem_cons_self)
        refine iteF ⟨_, rfl, a, _, 0, x, rfl, rfl, sq, at_of (j := 0) rfl rfl, x, p, rfl, ax, b1, _, rfl, ?_⟩
        cases c1 : isPt p with
        | false =>
          have e : isPcB (.tuple [p, q, fd', td']) = false := by
            unfold isPcB
            split
            · rename_i z
              cases z
              rw [pcB, c1, Bool.false_and]
            · rfl
          rw [e] at k
          exact iteT (k _ (Same.refl _))
        | true =>
        refine iteF ⟨_, rfl, a, _, 1, y, rfl, rfl, sq, at_of (j := 1) rfl rfl, y, q, rfl, ay, b2, _, rfl, ?_⟩
        cases c2 : isPt q with
        | false =>
          have e : isPcB (.tuple [p, q, fd', td']) = false := by
            unfold isPcB
            split
            · rename_i z
              cases z
              rw [pcB, c2, Bool.false_and, Bool.and_false]
            · rfl
          rw [e] at k
          exact iteT (k _ (Same.refl _))
        | true =>
        refine iteF ⟨_, rfl, a, _, 2, f1, rfl, rfl, sq, at_of (j := 2) rfl rfl, f1, .ty "bool", _, _, _, rfl, .ty "bool", af.ty, kit_ty kit_bool, _, rfl, ?_⟩
        cases c3 : isBoolB fd' with
        | false =>
          have e : isPcB (.tuple [p, q, fd', td']) = false := by cases fd' <;> first | rfl | cases c3
          rw [e] at k
          exact iteT (k _ (Same.refl _))
        | true =>
        refine iteF ⟨_, rfl, a, _, 3, t1, rfl, rfl, sq, at_of (j := 3) rfl rfl, t1, .ty "bool", _, _, _, rfl, .ty "bool", at'.ty, kit_ty kit_bool, _, rfl, ?_⟩
        cases c4 : isBoolB td' with
        | false =>
          have e : isPcB (.tuple [p, q, fd', td']) = false := by cases td' <;> first | (cases fd' <;> rfl) | cases c4
          rw [e] at k
          exact iteT (k _ (Same.refl _))
        | true =>
        refine iteF ?_
        cases af with
        | bl f0 =>
          cases at' with
          | bl t0 =>
            obtain ⟨n, m, rfl, m0, co, n0, le⟩ := partD_of c1
            obtain ⟨n', m', rfl, m0', co', n0', le'⟩ := partD_of c2
            have l1 : Lit (n, m) := (lit _ rfl).2 _ List.mem_cons_self n m rfl
            have l2 : Lit (n', m') := (lit _ rfl).2 _ (List.mem_cons_of_mem _ List.mem_cons_self) n' m' rfl
            have dx := an_fr ax
            have dy := an_fr ay
            have ek : isPcB (.tuple [.tuple [.int n, .int m], .tuple [.int n', .int m'], .bool f0, .bool t0]) = endsB (n, m) (n', m') f0 t0 := by
              rw [ends_eq le le' m0']
              show pcB _ _ _ _ = _
              rw [pcB, c1, c2]
              rfl
            rw [ek] at k
            unfold endsB at k
            refine ⟨_, rfl, a, _, 1, y, rfl, rfl, sq, at_of (j := 1) rfl rfl, (by show 2 ≤ sizeLine; decide), fun r1 n1 => ?_⟩
            have s1 := same_put (o := HO.tup [V.int 1, V.int 1]) n1
            have g1 : upd H r1 (HO.tup [V.int 1, V.int 1]) r1 = some (.tup [V.int 1, V.int 1]) := upd_same
            generalize upd H r1 (HO.tup [V.int 1, V.int 1]) = H1 at *
            have sq1 := sqT_same s1 sq
            have dx1 := dp_same s1 _ _ dx
            have dy1 := dp_same s1 _ _ dy
            have d11 : Dp K H1 (.ref r1) (frD (1, 1)) := fr_mk (SqT.of g1)
            refine ⟨_, _, dy1, d11, fr_shaped _, fr_shaped _, _, rfl, ?_⟩
            rw [fr_eqv]
            refine and_join (decide ((n', m') = ((1, 1) : Int × Int)) && t0) (fun z R r => ⟨_, rfl, a, _, 3, .bl t0, rfl, rfl, sq1, at_of (j := 3) rfl rfl, _, rfl, ?_⟩) (fun z => ?_) ?_
            · have z : (n', m') = ((1, 1) : Int × Int) := Prod.ext (of_decide_eq_true z).1 (of_decide_eq_true z).2
              rw [decide_eq_true z, Bool.true_and] at r
              exact r
            · have z : ¬ (n', m') = ((1, 1) : Int × Int) := fun q => (of_decide_eq_false z) (Prod.mk.inj q)
              rw [decide_eq_false z, Bool.false_and]
            cases c5 : (decide ((n', m') = ((1, 1) : Int × Int)) && t0) with
            | true =>
              rw [if_pos c5] at k
              exact iteT (k _ s1)
            | false =>
              rw [if_neg (by rw [c5]; decide)] at k
              refine iteF ⟨_, rfl, a, _, 0, x, rfl, rfl, sq1, at_of (j := 0) rfl rfl, _, rfl, a, _, 1, y, rfl, rfl, sq1, at_of (j := 1) rfl rfl, _, _, dx1, dy1, fr_shaped _, fr_shaped _, _, rfl, ?_⟩
              rw [fr_eqv]
              by_cases c6 : n = n' ∧ m = m'
              · rw [decide_eq_true (p := (n, m).1 = (n', m').1 ∧ (n, m).2 = (n', m').2) c6]
                rw [if_pos (Prod.ext c6.1 c6.2)] at k
                refine iteT ⟨_, rfl, a, _, 0, x, rfl, rfl, sq1, at_of (j := 0) rfl rfl, (by show 2 ≤ sizeLine; decide), fun r2 n2 => ?_⟩
                have s2 := same_put (o := HO.tup [V.int 1, V.int 1]) n2
                have g2 : upd H1 r2 (HO.tup [V.int 1, V.int 1]) r2 = some (.tup [V.int 1, V.int 1]) := upd_same
                generalize upd H1 r2 (HO.tup [V.int 1, V.int 1]) = H2 at *
                have sq2 := sqT_same s2 sq1
                refine ⟨_, _, dp_same s2 _ _ dx1, fr_mk (x := 1) (y := 1) (SqT.of g2), fr_shaped _, fr_shaped _, _, rfl, ?_⟩
                rw [fr_eqv]
                have k := k H2 (s1.trans s2)
                by_cases c7 : n = 1 ∧ m = 1
                · rw [decide_eq_true (p := (n, m) = ((1, 1) : Int × Int)) (Prod.ext c7.1 c7.2)] at k
                  rw [decide_eq_true (p := (n, m).1 = ((1, 1) : Int × Int).1 ∧ (n, m).2 = ((1, 1) : Int × Int).2) c7]
                  exact iteF k
                · rw [decide_eq_false (p := (n, m) = ((1, 1) : Int × Int)) (fun z => c7 (Prod.mk.inj z))] at k
                  rw [decide_eq_false (p := (n, m).1 = ((1, 1) : Int × Int).1 ∧ (n, m).2 = ((1, 1) : Int × Int).2) c7]
                  refine iteT ⟨_, rfl, a, _, 2, .bl f0, rfl, rfl, sq2, at_of (j := 2) rfl rfl, _, rfl, ?_⟩
                  cases f0 with
                  | false => exact iteF k
                  | true => exact iteT ⟨_, rfl, a, _, 3, .bl t0, rfl, rfl, sq2, at_of (j := 3) rfl rfl, k⟩
              · rw [decide_eq_false (p := (n, m).1 = (n', m').1 ∧ (n, m).2 = (n', m').2) c6]
                rw [if_neg (fun z => c6 (Prod.mk.inj z))] at k
                exact iteF ⟨_, rfl, a, _, 0, x, rfl, rfl, sq1, at_of (j := 0) rfl rfl, _, rfl, a, _, 1, y, rfl, rfl, sq1, at_of (j := 1) rfl rfl, x, y, (n, m), (n', m'), rfl, dx1, dy1, l1, l2, k _ s1⟩
          | _ => cases c4
        | _ => cases c3
      · rw [isPc_len hl] at k
        have e : (!(decide (V.int (xs.length : Int) = V.int 4))) = true := by
          rw [decide_eq_false, Bool.not_false]
          intro z
          rw [V.int.injEq] at z
          exact hl (by omega)
        show if (!(decide (V.int (xs.length : Int) = V.int 4))) = true then _ else _
        rw [e]
        exact iteT (k _ (Same.refl _))
end
end My
set_option Elab.async false
set_option linter.all false
set_option maxRecDepth 100000
set_option maxHeartbeats 8000000
set_option exponentiation.threshold 4000
namespace My
open PySem PySem.Spec PyProof.Rows L2 Gn Mt
abbrev s__law_wrong : Stmt := top 57
theorem sc__law_wrong : FnScope ["_law_thing", "_law_k", "_law_end", "_law_low_here"] ["_law_thing"] (defScope s__law_wrong) := ⟨rfl, rfl, rfl, by decide +kernel, rfl, by decide +kernel, by decide +kernel⟩
/-! the law's own look at pieces -/
theorem andS {t q : TT} {σ : L2.St} {H : Hp} {R : Bool → Hp → Prop} (a b : Bool) (h1 : ∀ S : Bool → Hp → Prop, (∀ H', Same H H' → S a H') → t σ H S) (h2 : ∀ H1, Same H H1 → ∀ S : Bool → Hp → Prop, (∀ H', Same H1 H' → S b H') → q σ H1 S) (k : ∀ H', Same H H' → R (a && b) H') : tAnd t q σ H R := h1 _ fun H1 s1 => by
  cases a with
  | true => exact h2 H1 s1 _ fun H2 s2 => k H2 (s1.trans s2)
  | false => exact k H1 s1
theorem orS {t q : TT} {σ : L2.St} {H : Hp} {R : Bool → Hp → Prop} (a b : Bool) (h1 : ∀ S : Bool → Hp → Prop, (∀ H', Same H H' → S a H') → t σ H S) (h2 : ∀ H1, Same H H1 → ∀ S : Bool → Hp → Prop, (∀ H', Same H1 H' → S b H') → q σ H1 S) (k : ∀ H', Same H H' → R (a || b) H') : tOr t q σ H R := h1 _ fun H1 s1 => by
  cases a with
  | true => exact k H1 s1
  | false => exact h2 H1 s1 _ fun H2 s2 => k H2 (s1.trans s2)
theorem seqIfB {c : TT} {t r : TS} {D : Ends} {σ : L2.St} {H : Hp} (b : Bool) (h : ∀ R : Bool → Hp → Prop, (∀ H', Same H H' → R b H') → c σ H R) (kt : b = true → ∀ H', Same H H' → t { D with nx := r D } σ H') (kf : b = false → ∀ H', Same H H' → r D σ H') : tSeq (tIfS c t tNext) r D σ H := h _ fun H' s => by
  cases b with
  | true => exact iteT (kt rfl H' s)
  | false => exact iteF (kf rfl H' s)
/-- where a piece may not stand behind another one, as the law asks it -/
theorem side_eq {c e : Cut} (vc : c.V) (ve : e.V) : (decide (c.n * e.d < e.n * c.d) || (decide (c.n = e.n ∧ c.d = e.d) && (e.b || !c.b))) = !(e.lt c) := by
  unfold Cut.lt
  by_cases q : c.n = e.n ∧ c.d = e.d
  · rw [if_pos ⟨q.1.symm, q.2.symm⟩, decide_eq_true q, q.1, q.2, decide_eq_false (Int.lt_irrefl _)]
    cases c.b <;> cases e.b <;> rfl
  · rw [if_neg (fun z => q ⟨z.1.symm, z.2.symm⟩), decide_eq_false q, Bool.false_and, Bool.or_false]
    have ne : c.n * e.d ≠ e.n * c.d := fun z => q (Cut.cross vc.d ve.d vc.co ve.co z)
    by_cases l : c.n * e.d < e.n * c.d
    · rw [decide_eq_true l, decide_eq_false (by omega)]; rfl
    · rw [decide_eq_false l, decide_eq_true (by omega)]; rfl
/-- the list that the law makes of it -/
def wrV : Option (Option Nat) → List V
  | none => []
  | some w => [ixV w]
def LtP (d : PyData) : Prop := ∀ ds, d = .tuple ds → ∀ e ∈ ds, Lt4 e
def spLW (K : PySem.W.Frag) : Sp := fun vs H Q _ => ∃ v d, vs = [v] ∧ An K H v d ∧ LitP d ∧ LtP d ∧ ∀ r H', Same H H' → r ≠ sysModules → H' r = some (.lst (wrV (pcsW d))) → Q (.ref r) H'
section
variable {P : Program} {w : World} {K : PySem.W.Frag} {mg : Str → Option Value} {base : Heap}
/-- a list made last -/
theorem lz1 {H H0 : Hp} {Q : VK} {vs : List V} (S : Same H H0) (k : ∀ r H', Same H H' → r ≠ sysModules → H' r = some (.lst vs) → Q (.ref r) H') : ∀ r, H0 r = none → r ≠ sysModules → Q (.ref r) (upd H0 r (.lst vs)) := fun r hr np => k r _ (S.trans (same_put hr)) np upd_same
theorem ok_lWrong {f fP : Addr} {fd fdP : FuncData} (F : Fun K "_law_wrong" "_law_wrong" s__law_wrong f fd) (B : Bc mg) (rg : mg "range" = none) (M : Lg K mg) (Pc : Df K mg "_law_is_piece" s__law_is_piece ["_law_thing"] fP fdP) : FnOk P w K mg base CX0 4 f fd ["_law_thing"] (spLW K) := by
  have GP : FnOk P w K mg base CX0 3 fP fdP ["_law_thing"] (spLPc K) := ok_lIsPc Pc.F B M
  have GU : FnOk P w K mg base CX0 1 M.und.1 M.und.2 ["_law_one", "_law_two"] (spUnd K) := ok_lUnd M.d_und.F
  refine F.ok sc__law_wrong (fun vs H Q E h => ?_) (fun cdv A outer s H vs Q E hr h => ?_)
  · obtain ⟨v, d, rfl, _⟩ := h
    rfl
  · obtain ⟨v, d, rfl, an, lit, l60, k⟩ := h
    have hu := hr.units
    have hr1 : Room 1 _ := hr.mono (by decide)
    refine ⟨_, pss_cons (ps_if (pt_not (pt_val (pe_callB (call_isi) (by rfl) B.isi (by decide +kernel) (pa_cons (pv 0) (pa_cons (pe_bltn (v := .ty "tuple") (by rfl) B.tuple (by decide +kernel) rfl) pa_nil))))) (pss_one (ps_ret (pe_lstZ (pa_cons pe_non pa_nil)))) pss_nil) (pss_cons (ps_for PassesOwn.never rfl (pi_range1 rfl rg (pa_cons (pe_callB (call_len_seq) (by rfl) B.len (by decide +kernel) (pa_cons (pv 0) pa_nil)) pa_nil)) (pg_name (i := 1) sc__law_wrong.nd rfl (.inl rfl)) (pss_cons (ps_if (pt_not (pt_val (pe_call GP hr (by rfl) Pc.g Pc.F.kp Pc.b .nil pass0 (pa_cons (pe_ix ix_tup (pv 0) (pv 1) (fun _ _ => rfl)) pa_nil)))) (pss_one (ps_ret (pe_lstZ (pa_cons (pv 1) pa_nil)))) pss_nil) (pss_one (ps_if (pt_cmpR op_gt (pv 1) pe_int (nomark _)) (pss_cons (ps_par (i := 2) (j := 3) (by rfl) sc__law_wrong.nd rfl rfl (by decide) rfl rfl (pa_cons (pe_ix ix_tup (pe_ix ix_tup (pv 0) (pe_op op_sub (pv 1) pe_int) (fun _ _ => rfl)) pe_int (fun _ _ => rfl)) (pa_cons (pe_ix ix_tup (pe_ix ix_tup (pv 0) (pv 1) (fun _ _ => rfl)) pe_int (fun _ _ => rfl)) pa_nil)) (by rfl)) (pss_one (ps_if (PW.pt (pw_or (pt_val (pe_call GU hr1 (by rfl) M.d_und.g M.d_und.F.kp M.d_und.b .nil pass0 (pa_cons (pv 3) (pa_cons (pv 2) pa_nil)))) (pw_or1 (PW.pt (pw_and (pt_cmpR (op_eqD hu) (pv 3) (pv 2) (nomark _)) (pw_and1 (PW.pt (pw_or (pt_val (pe_ix ix_tup (pe_ix ix_tup (pv 0) (pe_op op_sub (pv 1) pe_int) (fun _ _ => rfl)) pe_int (fun _ _ => rfl))) (pw_or1 (pt_val (pe_ix ix_tup (pe_ix ix_tup (pv 0) (pv 1) (fun _ _ => rfl)) pe_int (fun _ _ => rfl)))))))))))) (pss_one (ps_ret (pe_lstZ (pa_cons (pv 1) pa_nil)))) pss_nil))) pss_nil)))) (pss_one (ps_ret (pe_lstZ pa_nil)))), ?_⟩
    refine ⟨_, rfl, v, .ty "tuple", _, _, _, rfl, .ty "tuple", an.ty, kit_ty kit_tup, _, rfl, ?_⟩
    cases et : isTupB d with
    | false =>
      have ew : pcsW d = some none := by cases d <;> first | rfl | cases et
      rw [ew] at k
      exact iteT ⟨(by show 1 ≤ sizeLine; decide), lz1 (Same.refl _) k⟩
    | true =>
      refine iteF ?_
      obtain ⟨a, xs, ds, rfl, rfl, hT, all⟩ := an.isT et
      have ha : SqT K H a xs := SqT.of hT
      have len := dpAll_len all
      have ek : pcsW (.tuple ds) = (wrongFrom none 0 ds).map some := rfl
      rw [ek] at k
      have few := (lit ds rfl).1
      refine ⟨_, rfl, a, _, rfl, .inr ha, (xs.length : Int), rfl, by omega, by omega, for_range (lo := 0) (n := (xs.length : Int).toNat) (fun i σ H' => (∃ p1 p2 p3, σ = [some (.ref a), p1, p2, p3] ∧ Same H H') ∧ wrongFrom none 0 ds = wrongFrom (prevD ds i) i (ds.drop i) ∧ ∀ q, prevD ds i = some q → isPcB q = true) ⟨⟨_, _, _, rfl, Same.refl _⟩, rfl, (fun q z => by cases z)⟩ ?_ ?_⟩
      · rintro i σ H1 hi ⟨⟨p1, p2, p3, rfl, s1⟩, sc, pv⟩
        have hi' : i < xs.length := by omega
        have hix : xs[i]? = some xs[i] := List.getElem?_eq_getElem hi'
        obtain ⟨d, hd, dx⟩ := anAll_get all hix
        have dr : ds.drop i = d :: ds.drop (i + 1) := by
          have l := List.getElem?_eq_some_iff.mp hd
          rw [← l.2, List.getElem_cons_drop]
        rw [dr, wrongFrom] at sc
        have md := List.mem_of_getElem? hd
        have ld := (lit ds rfl).2 d md
        have l6 := l60 ds rfl d md
        rw [Int.zero_add]
        have ai : atI xs (i : Int) = some xs[i] := at_of (j := i) rfl hix
        refine ⟨_, rfl, _, rfl, a, xs, (i : Int), xs[i], rfl, rfl, sqT_same s1 ha, ai, xs[i], d, rfl, dx.same s1, ld, l6, fun H2 s2 => ⟨_, rfl, ?_⟩⟩
        have S2 := s1.trans s2
        cases c1 : isPcB d with
        | false =>
          rw [c1, Bool.false_and, if_neg (by decide)] at sc
          rw [sc] at k
          exact iteT ⟨_, rfl, (by show 1 ≤ sizeLine; decide), lz1 S2 k⟩
        | true =>
          refine iteF ?_
          rw [c1, Bool.true_and] at sc
          obtain ⟨c, e, rfl, ic, ie, lt, eb, ee⟩ := pc_of c1
          have pn : prevD ds (i + 1) = some (pcD c e) := by rw [prevD, if_neg (by omega), Nat.add_sub_cancel]; exact hd
          have L2' := pc_lit (lit ds rfl).2 md
          refine ⟨_, rfl, _, _, rfl, rfl, _, rfl, ite2 (fun c0 => ?_) (fun c0 => nextI (nxI ⟨⟨_, _, _, rfl, S2⟩, ?_, fun q hq => ?_⟩))⟩
          · have i0 : (i : Int) > 0 := of_decide_eq_true c0
            have hj : xs[i - 1]? = some xs[i - 1] := List.getElem?_eq_getElem (by omega)
            obtain ⟨d', hd', dx'⟩ := anAll_get all hj
            have pe : prevD ds i = some d' := by rw [prevD, if_neg (by omega)]; exact hd'
            obtain ⟨c', e', rfl, ic', ie', lt', eb', ee'⟩ := pc_of (pv d' pe)
            have es : sideB (prevD ds i) (pcD c e) = e'.lt c := by
              rw [pe]
              show (endD (pcD c' e')).lt (begD (pcD c e)) = _
              rw [ee', eb]
            rw [es] at sc
            have L1 := pc_lit (lit ds rfl).2 (List.mem_of_getElem? hd')
            obtain ⟨t, lo, hg, et', ht, dl, dh⟩ := pc_inv (pc_dp (dx.same S2))
            obtain ⟨t', lo', hg', et2, ht', dl', dh'⟩ := pc_inv (pc_dp (dx'.same S2))
            have at0 : atI xs (i : Int) = some (.ref t) := by rw [← et']; exact ai
            have at1 : atI xs ((i : Int) - 1) = some (.ref t') := at_of (j := i - 1) (by omega) (by rw [hj, et2])
            have ha2 := sqT_same S2 ha
            refine ⟨_, rfl, _, rfl, _, _, rfl, rfl, a, xs, (i : Int) - 1, .ref t', rfl, rfl, ha2, at1, t', _, 1, hg', rfl, rfl, ht', at_of (j := 1) rfl rfl, ?_⟩
            refine ⟨_, rfl, _, rfl, a, xs, (i : Int), .ref t, rfl, rfl, ha2, at0, t, _, 0, lo, rfl, rfl, ht, at_of (j := 0) rfl rfl, _, _, rfl, nxI ?_⟩
            have f3 := side_eq ic.toV ie'.toV
            refine lastIfB (!(e'.lt c)) (fun R kR => orS (decide (c.n * e'.d < e'.n * c.d)) (decide (c.n = e'.n ∧ c.d = e'.d) && (e'.b || !c.b)) (fun S sS => ?_) (fun H4 s4 S sS => ?_) (fun H4 s4 => by rw [f3]; exact kR H4 s4)) (fun z H4 s4 => ?_) (fun z H4 s4 => ?_)
            · exact ⟨_, rfl, _, rfl, lo, hg', (c.n, c.d), (e'.n, e'.d), rfl, dl, dh', L2'.1, L1.2, _, rfl, sS _ (Same.refl _)⟩
            · refine andS (decide (c.n = e'.n ∧ c.d = e'.d)) (e'.b || !c.b) (fun S2 sS2 => ?_) (fun H5 s5 S2 sS2 => ?_) sS
              · refine ⟨_, rfl, _, rfl, frD (c.n, c.d), frD (e'.n, e'.d), dp_same s4 _ _ dl, dp_same s4 _ _ dh', fr_shaped _, fr_shaped _, _, rfl, ?_⟩
                rw [fr_eqv]
                exact sS2 _ (Same.refl _)
              · refine orS e'.b (!c.b) (fun S3 sS3 => ?_) (fun H6 s6 S3 sS3 => ?_) sS2
                · exact ⟨_, rfl, _, rfl, _, _, rfl, rfl, a, xs, (i : Int) - 1, .ref t', rfl, rfl, sqT_same (s4.trans s5) ha2, at1, t', _, 3, .bl e'.b, rfl, rfl, sqT_same (s4.trans s5) ht', at_of (j := 3) rfl rfl, _, rfl, sS3 _ (Same.refl _)⟩
                · exact ⟨_, rfl, _, rfl, a, xs, (i : Int), .ref t, rfl, rfl, sqT_same ((s4.trans s5).trans s6) ha2, at0, t, _, 2, .bl (!c.b), rfl, rfl, sqT_same ((s4.trans s5).trans s6) ht, at_of (j := 2) rfl rfl, _, rfl, sS3 _ (Same.refl _)⟩
            · have z : e'.lt c = false := by
                cases y : e'.lt c with
                | false => rfl
                | true => rw [y] at z; cases z
              rw [z, if_neg (by decide)] at sc
              rw [sc] at k
              exact ⟨_, rfl, (by show 1 ≤ sizeLine; decide), lz1 (S2.trans s4) k⟩
            · have z : e'.lt c = true := by
                cases y : e'.lt c with
                | true => rfl
                | false => rw [y] at z; cases z
              rw [if_pos z] at sc
              refine ⟨⟨_, _, _, rfl, S2.trans s4⟩, ?_, fun q hq => ?_⟩
              · rw [pn]; exact sc
              · rw [pn] at hq
                cases hq
                exact c1
          · have i0 : i = 0 := by
              have : ¬ (i : Int) > 0 := fun z => c0 (decide_eq_true z)
              omega
            subst i0
            rw [if_pos (show sideB (prevD ds 0) (pcD c e) = true from rfl)] at sc
            rw [pn]
            exact sc
          · rw [pn] at hq
            cases hq
            exact c1
      · rintro σ H1 ⟨⟨p1, p2, p3, rfl, s1⟩, sc, _⟩
        have tk : ds.drop (xs.length : Int).toNat = [] := List.drop_eq_nil_of_le (by omega)
        rw [tk] at sc
        rw [sc] at k
        exact ⟨Nat.zero_le _, lz1 s1 k⟩
end
end My
set_option Elab.async false
set_option linter.all false
set_option maxRecDepth 100000
set_option maxHeartbeats 4000000
namespace Gn
open PySem PySem.Spec PyProof.Rows L2
/-! sorted(set of ints), as many as a set has here -/
section
variable {P : Program} {w : World} {A : Around} {E : Value → Shared → Prop} {s : Shared} {a : Addr}
/-- what comes of it -/
def Comes (s : Shared) (S : Int → Bool) (n : Nat) (Q : Value → Shared → Prop) : Prop :=
  ∀ (z : Shared) (at_ : Addr) (res : Array Value) (ep : Nat) (ks : List Int), (∀ b o, s.heap.get? b = some o → z.heap.get? b = some o) → z.gens = s.gens → z.os = s.os → s.heap.objs.size ≤ at_ →
    z.heap.get? at_ = some (seqObj "list" res ep) → IntsAre res.toList ks → ks.Pairwise (· < ·) → (∀ k, k ∈ ks ↔ S k = true) → ks.length = n → Q (.ref at_) z
theorem sorted_big {S : Int → Bool} {n : Nat} {Q : Value → Shared → Prop} (R : SetR w s.heap a S n) (quiet : A.handled = none) (h : Comes s S n Q) : wpAny (model P w) A (call (.builtin "sorted") [.ref a]) Q E s := by
  obtain ⟨ob, els, gen, tb, isO, isS, dat, good, uni, mem, few, fits, cnt, ris, ord⟩ := R
  apply Calls.call_function_entry kind_sorted plain_sorted entry_sorted (args_sorted1 _)
  unfold Builtin.«sorted»
  apply wpAny_bind (m := checkCount "sorted" 1 1 _)
  apply wpAny_pure
  refine wpAny_bind (collect_set (A := A.in1) quiet ⟨ob, isO, isS.1, dat⟩ fits few ris ord fun y vs old more ge oe perm => ?_)
  have many : vs.length = n := by
    rw [perm.length_eq, List.length_map, Array.length_toList]
    exact cnt
  have nums : IntsAre vs (vs.map Builtin.Re.reRawOf) := ints_of vs fun v hv => by
    obtain ⟨e, he, q⟩ := List.mem_map.mp (perm.mem_iff.mp hv)
    obtain ⟨k, tk, h1, _⟩ := good e he
    rw [← q]
    exact ⟨k, tk, h1⟩
  have same : (vs.map Builtin.Re.reRawOf).Perm (els.toList.map keyOf) := by
    have l := perm.map Builtin.Re.reRawOf
    rw [List.map_map] at l
    exact l
  have line : vs.length ≤ sizeLine := by
    rw [many, ← cnt, sizeLine_eq]
    have : scanBound = 4096 := rfl
    omega
  refine wpAny_bind (wpAny_newList ?_ line)
  have new : (y.heap.push (seqObj "list" vs.toArray 0)).get? y.heap.objs.size = some (seqObj "list" vs.toArray 0) := Heap.get?_push_size _ rfl
  refine wpAny_bind (wpAny_holding (wpAny_call_entry slot_list_sort ⟨_, new, rfl⟩ entry_list_sort (SrtO.list_sort_ord SrtO.swo_int new line (fun h2 => SrtO.ints_sortable nums h2) fun out hs hb => ⟨_, rfl, ?_⟩) (args_list_sort _)))
  obtain ⟨i1, i2, i3⟩ := SrtO.ints_out nums hs hb
  have i4 : (out.map SrtO.iv).Perm (els.toList.map keyOf) := i2.trans same
  obtain ⟨ep, hep⟩ := sortedHeap_at (vs := vs) (out := out.toArray) new
  refine wpAny_pure ⟨_, rfl, h _ y.heap.objs.size out.toArray ep (out.map SrtO.iv) (fun b o e => ?_) ge oe more hep (by simpa using i1) (lt_of_le_nodup _ i3 (i4.nodup_iff.mpr uni)) (fun k => by rw [i4.mem_iff, ← mem k]) ?_⟩
  · have e1 := old b o e
    have lt := Heap.lt_size e1
    show (sortedHeap (y.heap.push (seqObj "list" vs.toArray 0)) y.heap.objs.size vs out.toArray).get? b = some o
    rw [sortedHeap_old (Nat.ne_of_lt lt) (by rw [size_push']; exact Nat.le_succ_of_le lt)]
    exact Heap.get?_push_of_some _ e1
  · rw [i4.length_eq, List.length_map, Array.length_toList]
    exact cnt
end
/-- sorted(a set), any set of ints there is -/
def rSortedSetN (w : World) : List V → Hp → VK → Prop := fun vs H Q => ∃ (a : Addr) (S : Int → Bool) (n : Nat), vs = [V.ref a] ∧ H a = some (SetO w a S n) ∧
  ∀ (ks : List Int) (p : Addr), ks.Pairwise (· < ·) → (∀ k : Int, k ∈ ks ↔ S k = true) → ks.length = n → H p = none → Q (.ref p) (upd H p (.lst (ks.map V.int)))
theorem cr_sortedSetN {X : Cx} (hc : X.calm = true) : CallR X (.builtin "sorted") (rSortedSetN X.w) := by
  intro pins s σ H vs us Q I r h
  obtain ⟨a, S, n, rfl, ha, q⟩ := h
  rw [Vals.ref1 r]
  have R := setO_get I ha
  have small : n < scanBound := by
    obtain ⟨_, _, _, _, _, _, _, _, _, _, few, _, cnt, _⟩ := id R
    omega
  refine sorted_big R (I.ok.hd hc) fun z p res ep ks old ge oe more hp nums lt mem cnt => ?_
  have fitsL : (ks.map V.int).length ≤ sizeLine := by
    rw [List.length_map, cnt, sizeLine_eq]
    have : scanBound = 4096 := rfl
    omega
  have free : H p = none := I.hok.fresh more
  have J : Inv X pins σ (upd H p (.lst (ks.map V.int))) { s with heap := z.heap, gens := z.gens, drawn := z.drawn, toks := z.toks } :=
    I.call (ch := []) (Un.laid old more free) (I.hok.laid old more ⟨fitsL, res.toList, ep, vals_of_ints nums, hp⟩) (by rw [ge]; exact I.bare) (fun _ y => nomatch y)
  have same : z = { s with heap := z.heap, gens := z.gens, drawn := z.drawn, toks := z.toks } := by
    cases z; cases s; cases oe; rfl
  rw [same]
  exact ⟨.ref p, _, J, rfl, q ks p lt mem cnt free⟩
end Gn
set_option Elab.async false
set_option linter.all false
set_option maxRecDepth 100000
set_option maxHeartbeats 4000000
/-! list(x): its place told not to be that of the modules' dict; pieces of tuples -/
namespace Gn
open PySem PySem.Spec PyProof.Rows L2
section
variable {X : Cx}
theorem call_list_ofZ : CallR X (.type "list") (fun xs H Q => ∃ p ys, xs = [.ref p] ∧ (SqL X.K H p ys ∨ SqT X.K H p ys) ∧ ∀ l, H l = none → l ≠ sysModules → Q (.ref l) (upd H l (.lst ys))) := by
  intro pins s σ H xs us Q I r h
  obtain ⟨p, ys, rfl, hq, q⟩ := h
  obtain ⟨u, rfl, rx⟩ := vals1 r
  cases rx
  have fin : ∀ (its : List Value), Vals ys its → ys.length ≤ sizeLine → ∀ (h' : Heap) (c' : Nat), (∀ b o', s.heap.get? b = some o' → h'.get? b = some o') →
      h'.get? s.heap.objs.size = some { cls := .type "list", dict := none, data := .seq its.toArray c', slots := #[] } → EP X pins σ Q (.ref s.heap.objs.size) { s with heap := h' } := fun its r' hz h' c' kp e =>
    ⟨.ref s.heap.objs.size, _, I.laid (t' := s.toks) kp (Nat.le_refl _) (show ObjOk X.prog X.w _ h' _ (.lst ys) from ⟨hz, its, c', r', e⟩), rfl, q _ (I.hok.fresh (Nat.le_refl _)) (Nat.ne_of_gt I.big)⟩
  rcases hq with hq | hq
  · obtain ⟨its, r', pl, hz⟩ := I.list hq
    have hlen := r'.length
    obtain ⟨o, ho, hc, n, hd⟩ := pl.isList
    exact call_list_seq p (.inl rfl) ho hc hd (fun h' c' kp e => fin its r' hz h' c' kp e) (by simp only [List.size_toArray] <;> omega)
  · obtain ⟨its, r', pl, hz⟩ := I.tuple hq
    have hlen := r'.length
    obtain ⟨o, ho, hc, n, hd⟩ := pl
    exact call_list_seq p (.inr rfl) ho hc hd (fun h' c' kp e => fin its r' hz h' c' kp e) (by simp only [List.size_toArray] <;> omega)
end
theorem anAll_drop {K : PySem.W.Frag} {H : Hp} : ∀ {xs : List V} {ds : List PyData} (k : Nat), AnAll K H xs ds → AnAll K H (xs.drop k) (ds.drop k)
  | _, _, 0, h => h
  | _, _, k + 1, .nil => .nil
  | _, _, k + 1, .cons _ t => anAll_drop k t
theorem anAll_take {K : PySem.W.Frag} {H : Hp} : ∀ {xs : List V} {ds : List PyData} (k : Nat), AnAll K H xs ds → AnAll K H (xs.take k) (ds.take k)
  | _, _, 0, h => by rw [List.take_zero, List.take_zero]; exact .nil
  | _, _, k + 1, .nil => .nil
  | _, _, k + 1, .cons h t => .cons h (anAll_take k t)
theorem anAll_app {K : PySem.W.Frag} {H : Hp} : ∀ {xs ys : List V} {ds es : List PyData}, AnAll K H xs ds → AnAll K H ys es → AnAll K H (xs ++ ys) (ds ++ es)
  | _, _, _, _, .nil, h => h
  | _, _, _, _, .cons h t, h2 => .cons h (anAll_app t h2)
theorem anAll_rev {K : PySem.W.Frag} {H : Hp} : ∀ {xs : List V} {ds : List PyData}, AnAll K H xs ds → AnAll K H xs.reverse ds.reverse
  | _, _, .nil => .nil
  | _, _, .cons h t => by
    rw [List.reverse_cons, List.reverse_cons]
    exact anAll_app (anAll_rev t) (.cons h .nil)
/-- a tuple of such data, its items out of some, not too many -/
def TupOf (K : PySem.W.Frag) (H : Hp) (c : Addr) (n : Nat) (ok : PyData → Prop) : Prop := ∃ xs ds, H c = some (.tup xs) ∧ AnAll K H xs ds ∧ ds.length ≤ n ∧ ∀ d ∈ ds, ok d
theorem TupOf.same {K : PySem.W.Frag} {H H' : Hp} {c : Addr} {n : Nat} {ok : PyData → Prop} (h : TupOf K H c n ok) (s : Same H H') : TupOf K H' c n ok := by
  obtain ⟨xs, ds, h1, h2, h3, h4⟩ := h
  exact ⟨xs, ds, s _ _ h1, h2.same s, h3, h4⟩
theorem anAll_ln {K : PySem.W.Frag} {H : Hp} {xs : List V} {ds : List PyData} (h : AnAll K H xs ds) : xs.length = ds.length := dpAll_len h
theorem sl_any {K : PySem.W.Frag} {H : Hp} {a : Addr} {n : Nat} {ok : PyData → Prop} {lo hi : Option Int} {Q : VK} (h : TupOf K H a n ok) (k : ∀ c H', Same H H' → TupOf K H' c n ok → Q (.ref c) H') : rSlA K (.ref a) lo hi H Q := by
  have h0 := h
  obtain ⟨xs, ds, h1, h2, h3, h4⟩ := h
  refine ⟨a, xs, rfl, SqT.of h1, fun _ => k a H (Same.refl _) h0, fun _ p np => ?_⟩
  have s := same_put (o := HO.tup (cutV xs lo hi)) np
  refine k p _ s ⟨cutV xs lo hi, (ds.drop (HT.sIx xs.length 0 lo)).take (HT.sIx xs.length xs.length hi - HT.sIx xs.length 0 lo), upd_same, (anAll_take _ (anAll_drop _ h2)).same s, ?_, fun d m => h4 d (List.mem_of_mem_drop (List.mem_of_mem_take m))⟩
  rw [List.length_take, List.length_drop]
  omega
theorem cat_any {K : PySem.W.Frag} {H : Hp} {a b : Addr} {n m : Nat} {ok : PyData → Prop} {Q : VK} (h : TupOf K H a n ok) (h' : TupOf K H b m ok) (nm : n + m ≤ 1000) (k : ∀ c H', Same H H' → TupOf K H' c (n + m) ok → Q (.ref c) H') : rCatA K (.ref a) (.ref b) H Q := by
  obtain ⟨xs, ds, h1, h2, h3, h4⟩ := h
  obtain ⟨ys, es, g1, g2, g3, g4⟩ := h'
  have l1 := anAll_ln h2
  have l2 := anAll_ln g2
  refine ⟨a, b, xs, ys, rfl, rfl, SqT.of h1, SqT.of g1, Nat.le_of_lt (small1000 (by omega)), fun _ => k b H (Same.refl _) ⟨ys, es, g1, g2, by omega, g4⟩, fun _ _ => k a H (Same.refl _) ⟨xs, ds, h1, h2, by omega, h4⟩, fun _ _ p np => ?_⟩
  have s := same_put (o := HO.tup (xs ++ ys)) np
  refine k p _ s ⟨xs ++ ys, ds ++ es, upd_same, anAll_app (h2.same s) (g2.same s), by rw [List.length_append]; omega, fun d m => (List.mem_append.mp m).elim (h4 d) (g4 d)⟩
end Gn
set_option Elab.async false
set_option linter.all false
set_option maxRecDepth 100000
set_option maxHeartbeats 8000000
set_option exponentiation.threshold 4000
namespace My
open PySem PySem.Spec PyProof.Rows L2 Gn Mt
abbrev s__law_pieces : Stmt := top 49
theorem sc__law_pieces : FnScope ["_law_tin_here", "_law_many", "_law_k", "_law_cuts", "_law_found", "_law_way", "_law_low_here", "_law_high"] ["_law_tin_here", "_law_many"] (defScope s__law_pieces) := ⟨rfl, rfl, rfl, by decide +kernel, rfl, by decide +kernel, by decide +kernel⟩
/-! drawn pieces -/
mutual
theorem an_sipN {K : PySem.W.Frag} {H H' : Hp} {t : Addr} (T : Tin H t) (e : Sipped H H' t) : ∀ {v : V} {d : PyData}, An K H v d → noL d = true → An K H' v d
  | _, _, .non, _ => .non
  | _, _, .bl b, _ => .bl b
  | _, _, .int i, _ => .int i
  | _, _, .str x, _ => .str x
  | _, _, .lst _ _ _, f => by unfold noL at f; cases f
  | _, _, .tup (a := a) h s, f => by
    unfold noL at f
    refine .tup (e.2 _ _ h fun z => ?_) (anAll_sipN T e s f)
    obtain ⟨_, _, _, ht, _⟩ := T
    rw [z, ht] at h
    cases h
  | _, _, .dct _, f => by unfold noL at f; cases f
theorem anAll_sipN {K : PySem.W.Frag} {H H' : Hp} {t : Addr} (T : Tin H t) (e : Sipped H H' t) : ∀ {vs : List V} {ds : List PyData}, AnAll K H vs ds → noLs ds = true → AnAll K H' vs ds
  | _, _, .nil, _ => .nil
  | _, _, .cons h s, f => by
    unfold noLs at f
    rw [Bool.and_eq_true] at f
    exact .cons (an_sipN T e h f.1) (anAll_sipN T e s f.2)
end
/-- draws leave it -/
def sipB : PyData → Bool
  | .list ds => (ds.length != 3 || ds.all isTupB) && noLs ds
  | d => noL d
theorem sipped_put {H0 G : Hp} {t D : Addr} {o : HO} (s : Sipped H0 G t) (n : H0 D = none) (nt : D ≠ t) : Sipped H0 (upd G D o) t := by
  obtain ⟨⟨a, b, c, h, r⟩, k⟩ := s
  exact ⟨⟨a, b, c, by rw [upd_ne (Ne.symm nt)]; exact h, r⟩, fun x z e ne => by rw [upd_ne (ne_of_none e n)]; exact k x z e ne⟩
theorem sipped_trans {H0 G G' : Hp} {t : Addr} (s : Sipped H0 G t) (s' : Sipped G G' t) : Sipped H0 G' t := ⟨s'.1, fun b o e n => s'.2 _ _ (s.2 _ _ e n) n⟩
theorem sipped_sm {H0 G G' : Hp} {t : Addr} (s : Sipped H0 G t) (s' : Same G G') : Sipped H0 G' t := sipped_trans s (Sipped.ofSame s.1 s')
mutual
theorem an_tupN {K : PySem.W.Frag} {H H' : Hp} (e : ∀ a xs, H a = some (.tup xs) → H' a = some (.tup xs)) : ∀ {v : V} {d : PyData}, An K H v d → noL d = true → An K H' v d
  | _, _, .non, _ => .non
  | _, _, .bl b, _ => .bl b
  | _, _, .int i, _ => .int i
  | _, _, .str x, _ => .str x
  | _, _, .lst _ _ _, f => by unfold noL at f; cases f
  | _, _, .tup h s, f => by
    unfold noL at f
    exact .tup (e _ _ h) (anAll_tupN e s f)
  | _, _, .dct _, f => by unfold noL at f; cases f
theorem anAll_tupN {K : PySem.W.Frag} {H H' : Hp} (e : ∀ a xs, H a = some (.tup xs) → H' a = some (.tup xs)) : ∀ {vs : List V} {ds : List PyData}, AnAll K H vs ds → noLs ds = true → AnAll K H' vs ds
  | _, _, .nil, _ => .nil
  | _, _, .cons h s, f => by
    unfold noLs at f
    rw [Bool.and_eq_true] at f
    exact .cons (an_tupN e h f.1) (anAll_tupN e s f.2)
end
/-- a small fraction from 0 to 1 -/
structure Sml (p : Int × Int) : Prop where
  n0 : 0 ≤ p.1
  le : p.1 ≤ p.2
  d1 : 1 ≤ p.2
  d24 : p.2 ≤ 24
def GoodP (d : PyData) : Prop := ∃ (p q : Int × Int) (f t : Bool), d = .tuple [frD p, frD q, .bool f, .bool t] ∧ Sml p ∧ Sml q
theorem sml_low {a : Int} (h0 : 0 ≤ a) (h : a ≤ 24) : Sml (a / ((Nat.gcd a.natAbs (24 : Int).natAbs : Nat) : Int), 24 / ((Nat.gcd a.natAbs (24 : Int).natAbs : Nat) : Int)) := by
  have g1 : 1 ≤ Nat.gcd a.natAbs (24 : Int).natAbs := Nat.gcd_pos_of_pos_right _ (by decide)
  have g2 : Nat.gcd a.natAbs (24 : Int).natAbs ≤ 24 := Nat.le_of_dvd (by decide) (Nat.gcd_dvd_right _ _)
  generalize Nat.gcd a.natAbs (24 : Int).natAbs = g at *
  have gp : (0 : Int) < (g : Int) := by omega
  refine ⟨Int.ediv_nonneg h0 (by omega), Int.ediv_le_ediv gp h, ?_, ?_⟩
  · show 1 ≤ 24 / (g : Int)
    exact (Int.le_ediv_iff_mul_le gp).mpr (by omega)
  · show 24 / (g : Int) ≤ 24
    exact Int.ediv_le_self _ (by decide)
theorem good_noL {d : PyData} (h : GoodP d) : noL d = true := by
  obtain ⟨p, q, f, t, rfl, _⟩ := h
  rfl
theorem app_pc {K : PySem.W.Frag} {H : Hp} {D : Addr} {xs : List V} {ds : List PyData} {v : V} {d : PyData} (hD : H D = some (.lst xs)) (all : AnAll K H xs ds) (good : ∀ e ∈ ds, GoodP e) (h : An K H v d) (g : GoodP d) : AnAll K (upd H D (.lst (xs ++ [v]))) (xs ++ [v]) (ds ++ [d]) := by
  have e : ∀ a ys, H a = some (.tup ys) → upd H D (.lst (xs ++ [v])) a = some (.tup ys) := fun a ys z => by
    rw [upd_ne (fun q => by rw [q, hD] at z; cases z)]
    exact z
  exact anAll_app (anAll_tupN e all (noLs_iff.mpr fun d m => good_noL (good d m))) (.cons (an_tupN e h (good_noL g)) .nil)
theorem app_good {ds : List PyData} {d : PyData} (good : ∀ e ∈ ds, GoodP e) (g : GoodP d) : ∀ e ∈ ds ++ [d], GoodP e := fun e m => by
  rcases List.mem_append.mp m with m | m
  · exact good e m
  · rw [List.mem_singleton.mp m]; exact g
theorem last_of {K : PySem.W.Frag} {H : Hp} : ∀ {xs : List V} {ds : List PyData}, AnAll K H xs ds → xs ≠ [] → ∃ xs0 x ds0 d, xs = xs0 ++ [x] ∧ ds = ds0 ++ [d] ∧ An K H x d
  | _, _, .nil, h => absurd rfl h
  | [x], [d], .cons a .nil, _ => ⟨[], x, [], d, rfl, rfl, a⟩
  | x :: y :: r, d :: e :: s, .cons a b, _ => by
    obtain ⟨xs0, z, ds0, f, h1, h2, h3⟩ := last_of b (by simp)
    exact ⟨x :: xs0, z, d :: ds0, f, by rw [h1]; rfl, by rw [h2]; rfl, h3⟩
def spPcs (K : PySem.W.Frag) : Sp := fun vs H Q _ => ∃ (t : Addr) (m : Int), vs = [.ref t, .int m] ∧ Tin H t ∧ 1 ≤ m ∧ m ≤ 4 ∧ ∀ r xs ds H', Sipped H H' t → H' r = some (.tup xs) → AnAll K H' xs ds → (∀ d ∈ ds, GoodP d) → ds.length ≤ 9 → Q (.ref r) H'
section
variable {P : Program} {w : World} {K : PySem.W.Frag} {mg : Str → Option Value} {base : Heap}
theorem ok_pieces {f fS fL fG : Addr} {fd fdS fdL fdG : FuncData} (F : Fun K "_law_pieces" "_law_pieces" s__law_pieces f fd) (B : Bl mg) (rg : mg "range" = none) (so : mg "sorted" = none) (se : mg "set" = none) (tu : mg "tuple" = none) (Si : Df K mg "_law_sip" sSip ["_law_tin_here", "_law_top"] fS fdS) (Lo : Df K mg "_law_low" sLow ["_law_top", "_law_bottom"] fL fdL) (Gc : Df K mg "_law_gcd" sGcd ["_law_one", "_law_two"] fG fdG) : FnOk P w K mg base CX0 3 f fd ["_law_tin_here", "_law_many"] (spPcs K) := by
  have LS : FnOk P w K mg base CX0 1 fS fdS ["_law_tin_here", "_law_top"] spSip := ok_sip Si.F B
  have LL : FnOk P w K mg base CX0 2 fL fdL ["_law_top", "_law_bottom"] spLow := ok_low Lo.F B Gc
  refine F.ok sc__law_pieces (fun vs H Q E h => ?_) (fun cdv A outer s H vs Q E hr h => ?_)
  · obtain ⟨t, m, rfl, _⟩ := h
    rfl
  · obtain ⟨t, m, rfl, T0, m1, m4, k⟩ := h
    have hu := hr.units
    have hr1 : Room 1 _ := hr.mono (by decide)
    have hr2 : Room 2 _ := hr.mono (by decide)
    refine ⟨_, pss_cons (ps_set (i := 3) sc__law_pieces.nd rfl (.inl rfl) (pe_callB (cr_sortedSetN rfl) (by rfl) so (by decide +kernel) (pa_cons (pe_callTy (cr_setN rfl) (by rfl) se (by decide +kernel) (pa_cons (pe_lc (te := tCall spSip [] E0 (tCons (tVar 0) (tCons (tC (.int 24)) tNil))) (own := [("_law_k", 2)]) (g := gName 2) (tt := tYes) rfl sc__law_pieces.nd (pi_range1 rfl rg (pa_cons (pe_op op_mul pe_int (pv 1)) pa_nil)) (blkOk_by (N := ["_law_tin_here", "_law_many", "_law_k", "_law_cuts", "_law_found", "_law_way", "_law_low_here", "_law_high"]) (sc := defScope s__law_pieces) (by decide +kernel)) (fun _ _ _ _ _ => pg_name (i := 2) sc__law_pieces.nd rfl (.inl rfl)) (fun _ _ _ _ _ => pts_nil) (fun _ _ _ _ _ => (pe_call LS hr1 (by rfl) Si.g Si.F.kp Si.b .nil pass0 (pa_cons (pv 0) (pa_cons pe_int pa_nil))))) pa_nil)) pa_nil))) (pss_cons (ps_par (i := 4) (j := 2) (by rfl) sc__law_pieces.nd rfl rfl (by decide) rfl rfl (pa_cons (pe_lst pa_nil) (pa_cons pe_int pa_nil)) (by rfl)) (pss_cons (ps_while PassesOwn.never (pt_cmpR op_lt (pe_op op_add (pv 2) pe_int) (pe_callB (call_len_seq) (by rfl) B.len (by decide +kernel) (pa_cons (pv 3) pa_nil)) (nomark _)) (pss_cons (ps_par3 (i := 5) (j := 6) (l := 7) (by rfl) sc__law_pieces.nd rfl rfl rfl (by decide) (by decide) (by decide) rfl rfl rfl (pa_cons (pe_call LS hr1 (by rfl) Si.g Si.F.kp Si.b .nil pass0 (pa_cons (pv 0) (pa_cons pe_int pa_nil))) (pa_cons (pe_call LL hr2 (by rfl) Lo.g Lo.F.kp Lo.b .nil pass0 (pa_cons (pe_ix ix_list (pv 3) (pv 2) (fun _ _ => rfl)) (pa_cons pe_int pa_nil))) (pa_cons (pe_call LL hr2 (by rfl) Lo.g Lo.F.kp Lo.b .nil pass0 (pa_cons (pe_ix ix_list (pv 3) (pe_op op_add (pv 2) pe_int) (fun _ _ => rfl)) (pa_cons pe_int pa_nil))) pa_nil))) (by rfl)) (pss_one (ps_if (pt_cmpR op_eq (pv 5) pe_int (nomark _)) (pss_cons (ps_expr (pe_bm PySem.F.plainAttrs_list PySem.F.slot_list_append PySem.F.type_list_append mt_append (pv 4) (pa_cons (pe_tup (pa_cons (pv 6) (pa_cons (pv 6) (pa_cons pe_bl (pa_cons pe_bl pa_nil))))) pa_nil))) (pss_one (ps_set (i := 2) sc__law_pieces.nd rfl (.inl rfl) (pe_op op_add (pv 2) pe_int)))) (pss_cons (ps_expr (pe_bm PySem.F.plainAttrs_list PySem.F.slot_list_append PySem.F.type_list_append mt_append (pv 4) (pa_cons (pe_tup (pa_cons (pv 6) (pa_cons (pv 7) (pa_cons (pe_cmpR op_eq (pe_call LS hr1 (by rfl) Si.g Si.F.kp Si.b .nil pass0 (pa_cons (pv 0) (pa_cons pe_int pa_nil))) pe_int (nomark _)) (pa_cons (pe_cmpR op_eq (pe_call LS hr1 (by rfl) Si.g Si.F.kp Si.b .nil pass0 (pa_cons (pv 0) (pa_cons pe_int pa_nil))) pe_int (nomark _)) pa_nil))))) pa_nil))) (pss_one (ps_set (i := 2) sc__law_pieces.nd rfl (.inl rfl) (pe_op op_add (pv 2) pe_int)))))))) (pss_cons (ps_if (PW.pt (pw_and (pt_cmpR (op_neNil (Nat.lt_of_le_of_lt (Nat.le_add_right _ 64) hu)) (pv 4) (pe_lst pa_nil) (nomark _)) (pw_and (pt_cmpR op_eq (pe_call LS hr1 (by rfl) Si.g Si.F.kp Si.b .nil pass0 (pa_cons (pv 0) (pa_cons pe_int pa_nil))) pe_int (nomark _)) (pw_and (pt_cmpR (op_neD hu) (pe_ix ix_tup (pe_ix ix_list (pv 4) (pe_un un_neg pe_int) (fun _ _ => rfl)) pe_int (fun _ _ => rfl)) (pe_tup (pa_cons pe_int (pa_cons pe_int pa_nil))) (nomark _)) (pw_and1 (pt_not (pt_val (pe_ix ix_tup (pe_ix ix_list (pv 4) (pe_un un_neg pe_int) (fun _ _ => rfl)) pe_int (fun _ _ => rfl))))))))) (pss_one (ps_expr (pe_bm PySem.F.plainAttrs_list PySem.F.slot_list_append PySem.F.type_list_append mt_append (pv 4) (pa_cons (pe_tup (pa_cons (pe_ix ix_tup (pe_ix ix_list (pv 4) (pe_un un_neg pe_int) (fun _ _ => rfl)) pe_int (fun _ _ => rfl)) (pa_cons (pe_tup (pa_cons pe_int (pa_cons pe_int pa_nil))) (pa_cons pe_bl (pa_cons pe_bl pa_nil))))) pa_nil)))) pss_nil) (pss_one (ps_ret (pe_callTy cr_tupL (by rfl) tu (by decide +kernel) (pa_cons (pv 4) pa_nil))))))), ?_⟩
    refine ⟨_, rfl, _, _, rfl, rfl, .inl ⟨by decide, by decide⟩, 2 * m, rfl, by omega, by omega, fun E nE => ?_⟩
    have nEt : E ≠ t := T0.not nE
    have sE := same_put (o := HO.lst []) nE
    refine lc_range (lo := 0) (n := (2 * m).toNat) (fun i H' => ∃ rs : List Int, H' E = some (.lst (rs.map V.int)) ∧ rs.length = i ∧ (∀ r ∈ rs, 0 ≤ r ∧ r ≤ 23) ∧ Sipped H H' t) ⟨[], upd_same, rfl, (fun r mr => nomatch mr), Sipped.ofSame T0 sE⟩ ?_ ?_
    · rintro i H2 hi ⟨rs, g1, g2, g3, g4⟩
      refine ⟨rfl, _, rfl, t, 24, rfl, g4.1, by decide, by decide, fun e H3 e0 e1 s3 => ?_⟩
      refine ⟨_, s3.2 _ _ g1 nEt, small1000 (by rw [List.length_map]; omega), rs ++ [e], by rw [upd_same, List.map_append]; rfl, by rw [List.length_append, g2]; rfl, fun r mr => ?_, sipped_put (sipped_trans g4 s3) nE nEt⟩
      rcases List.mem_append.mp mr with mr | mr
      · exact g3 r mr
      · rw [List.mem_singleton.mp mr]; omega
    rintro H2 ⟨rs, g1, g2, g3, g4⟩
    refine ⟨E, rs, rfl, SqL.of g1, by omega, fun p ks np kd kl km => ?_⟩
    have s5 := same_put (o := SetO w p (fun j => decide (j ∈ rs)) ks.length) np
    refine ⟨p, _, _, rfl, upd_same, fun ys p2 yp ym yl n2 => ?_⟩
    have s6 := same_put (o := HO.lst (ys.map V.int)) n2
    have S6 := sipped_sm g4 (s5.trans s6)
    have T5 := (Sipped.ofSame g4.1 s5).1
    have tC : p2 ≠ t := T5.not n2
    have rgy : ∀ q ∈ ys, 0 ≤ q ∧ q ≤ 23 := fun q mq => g3 q (of_decide_eq_true ((ym q).mp mq))
    have few : ys.length ≤ 8 := by omega
    generalize hH : upd (upd _ _ _) _ _ = H6
    have S6 : Sipped H H6 t := by rw [← hH]; exact S6
    have hC : H6 p2 = some (.lst (ys.map V.int)) := by rw [← hH]; exact upd_same
    refine nxI ⟨Nat.zero_le _, fun D nD => ⟨_, _, rfl, nxI ?_⟩⟩
    have f3 := same_put (o := HO.lst []) nD
    have gD : upd H6 D (HO.lst []) D = some (.lst []) := upd_same
    have hC7 := f3 _ _ hC
    have tD : D ≠ t := S6.1.not nD
    have nCD : p2 ≠ D := fun z => by rw [z, nD] at hC; cases hC
    have S7 := sipped_sm S6 f3
    generalize upd H6 D (HO.lst []) = H7 at *
    have n0D : H D = none := by
      cases z : H D with
      | none => rfl
      | some o => rw [S6.2 _ _ z tD] at nD; cases nD
    refine while_by (fun σ H' => ∃ (j : Nat) (xs : List V) (ds : List PyData) (w1 w2 w3 : Option V), σ = [some (.ref t), some (.int m), some (.int (j : Nat)), some (.ref p2), some (.ref D), w1, w2, w3] ∧ Sipped H H' t ∧ H' p2 = some (.lst (ys.map V.int)) ∧ H' D = some (.lst xs) ∧ AnAll K H' xs ds ∧ (∀ d ∈ ds, GoodP d) ∧ ds.length ≤ j ∧ j ≤ ys.length)
      (fun (σ : L2.St) (_ : Hp) => match (σ[2]? : Option (Option V)) with | some (some (V.int i)) => ((ys.length : Int) + 1 - i).toNat | _ => 0) ⟨0, [], [], _, _, _, rfl, S7, hC7, gD, .nil, (fun d h => nomatch h), Nat.le_refl _, Nat.zero_le _⟩ ?_ ?_
    · rintro σ H8 ⟨j, xs, ds, w1, w2, w3, rfl, S8, hC8, hD8, all, good, ld, lj⟩
      refine ⟨_, rfl, _, _, rfl, rfl, _, rfl, p2, _, rfl, .inl (SqL.of hC8), _, _, rfl, rfl, _, rfl, ?_⟩
      rw [List.length_map]
      have lx := dpAll_len all
      refine ite2 (fun c => ?_) (fun c => nxI ?_)
      · have lt : j + 1 < ys.length := by have := of_decide_eq_true c; omega
        have h1 : (ys.map V.int)[j]? = some (.int ys[j]) := by rw [List.getElem?_map, List.getElem?_eq_getElem (by omega)]; rfl
        have h2 : (ys.map V.int)[j + 1]? = some (.int ys[j + 1]) := by rw [List.getElem?_map, List.getElem?_eq_getElem lt]; rfl
        have r1 := rgy ys[j] (List.getElem_mem _)
        have r2 := rgy ys[j + 1] (List.getElem_mem _)
        have sm1 := sml_low r1.1 (by omega)
        have sm2 := sml_low r2.1 (by omega)
        generalize ys[j] = y1 at *
        generalize ys[j + 1] = y2 at *
        refine ⟨_, rfl, t, 3, rfl, S8.1, by decide, by decide, fun way H9 w0 w3 s9 => ?_⟩
        have hC9 := s9.2 _ _ hC8 tC
        have hD9 := s9.2 _ _ hD8 tD
        have S9 := sipped_trans S8 s9
        have all9 := anAll_sipN S8.1 s9 all (noLs_iff.mpr fun d m => good_noL (good d m))
        refine ⟨_, rfl, _, rfl, p2, _, (j : Int), .int y1, rfl, rfl, SqL.of hC9, at_of (j := j) rfl h1, y1, 24, rfl, r1.1, by decide, by decide, fun q1 nq1 => ?_⟩
        have f10 := same_put (o := HO.tup [.int (y1 / ((Nat.gcd y1.natAbs (24 : Int).natAbs : Nat) : Int)), .int (24 / ((Nat.gcd y1.natAbs (24 : Int).natAbs : Nat) : Int))]) nq1
        have g10 : upd H9 q1 (HO.tup [.int (y1 / ((Nat.gcd y1.natAbs (24 : Int).natAbs : Nat) : Int)), .int (24 / ((Nat.gcd y1.natAbs (24 : Int).natAbs : Nat) : Int))]) q1 = some (.tup [.int (y1 / ((Nat.gcd y1.natAbs (24 : Int).natAbs : Nat) : Int)), .int (24 / ((Nat.gcd y1.natAbs (24 : Int).natAbs : Nat) : Int))]) := upd_same
        generalize upd H9 q1 (HO.tup [.int (y1 / ((Nat.gcd y1.natAbs (24 : Int).natAbs : Nat) : Int)), .int (24 / ((Nat.gcd y1.natAbs (24 : Int).natAbs : Nat) : Int))]) = H10 at *
        refine ⟨_, rfl, _, rfl, _, _, rfl, rfl, p2, _, (j : Int) + 1, .int y2, rfl, rfl, SqL.of (f10 _ _ hC9), at_of (j := j + 1) (by omega) h2, y2, 24, rfl, r2.1, by decide, by decide, fun q2 nq2 => ?_⟩
        have f11 := same_put (o := HO.tup [.int (y2 / ((Nat.gcd y2.natAbs (24 : Int).natAbs : Nat) : Int)), .int (24 / ((Nat.gcd y2.natAbs (24 : Int).natAbs : Nat) : Int))]) nq2
        have g11 : upd H10 q2 (HO.tup [.int (y2 / ((Nat.gcd y2.natAbs (24 : Int).natAbs : Nat) : Int)), .int (24 / ((Nat.gcd y2.natAbs (24 : Int).natAbs : Nat) : Int))]) q2 = some (.tup [.int (y2 / ((Nat.gcd y2.natAbs (24 : Int).natAbs : Nat) : Int)), .int (24 / ((Nat.gcd y2.natAbs (24 : Int).natAbs : Nat) : Int))]) := upd_same
        generalize upd H10 q2 (HO.tup [.int (y2 / ((Nat.gcd y2.natAbs (24 : Int).natAbs : Nat) : Int)), .int (24 / ((Nat.gcd y2.natAbs (24 : Int).natAbs : Nat) : Int))]) = H11 at *
        have g1 := f11 _ _ g10
        generalize y1 / ((Nat.gcd y1.natAbs (24 : Int).natAbs : Nat) : Int) = n1 at *
        generalize (24 : Int) / ((Nat.gcd y1.natAbs (24 : Int).natAbs : Nat) : Int) = d1 at *
        generalize y2 / ((Nat.gcd y2.natAbs (24 : Int).natAbs : Nat) : Int) = n2' at *
        generalize (24 : Int) / ((Nat.gcd y2.natAbs (24 : Int).natAbs : Nat) : Int) = d2 at *
        have S11 := sipped_sm S9 (f10.trans f11)
        have hC11 := f11 _ _ (f10 _ _ hC9)
        have hD11 := f11 _ _ (f10 _ _ hD9)
        have all11 := AnAll.same (f10.trans f11) all9
        have a1 : An K H11 (.ref q1) (frD (n1, d1)) := .tup g1 (.cons (.int _) (.cons (.int _) .nil))
        have a2 : An K H11 (.ref q2) (frD (n2', d2)) := .tup g11 (.cons (.int _) (.cons (.int _) .nil))
        refine ⟨_, _, _, rfl, nxI ?_⟩
        refine ⟨_, rfl, rfl, _, rfl, ite2 (fun cw => ?_) (fun cw => ?_)⟩
        · refine ⟨_, rfl, .inl ⟨rfl, _, SqL.of hD11⟩, _, rfl, _, rfl, (by show 4 ≤ sizeLine; decide), fun pt npt => ?_⟩
          have f12 := same_put (o := HO.tup [V.ref q1, V.ref q1, V.bl true, V.bl true]) npt
          have g12 : upd H11 pt (HO.tup [V.ref q1, V.ref q1, V.bl true, V.bl true]) pt = some (.tup [V.ref q1, V.ref q1, V.bl true, V.bl true]) := upd_same
          generalize upd H11 pt (HO.tup [V.ref q1, V.ref q1, V.bl true, V.bl true]) = H12 at *
          have ap : An K H12 (.ref pt) (.tuple [frD (n1, d1), frD (n1, d1), .bool true, .bool true]) := .tup g12 (.cons (a1.same f12) (.cons (a1.same f12) (.cons (.bl _) (.cons (.bl _) .nil))))
          have gp : GoodP (.tuple [frD (n1, d1), frD (n1, d1), .bool true, .bool true]) := ⟨_, _, _, _, rfl, sm1, sm1⟩
          refine ⟨D, xs, .ref pt, rfl, rfl, f12 _ _ hD11, small1000 (by omega), nxI ⟨_, rfl, _, _, rfl, rfl, ?_⟩⟩
          exact nxI ⟨⟨j + 1, _, ds ++ [.tuple [frD (n1, d1), frD (n1, d1), .bool true, .bool true]], _, _, _, rfl, sipped_put (sipped_sm S11 f12) n0D tD, by rw [upd_ne nCD]; exact f12 _ _ hC11, upd_same, app_pc (f12 _ _ hD11) (AnAll.same f12 all11) good ap gp, app_good good gp, by rw [List.length_append]; show ds.length + 1 ≤ j + 1; omega, by omega⟩, by show ((ys.length : Int) + 1 - ((j : Int) + 1)).toNat < ((ys.length : Int) + 1 - (j : Int)).toNat; omega⟩
        · refine ⟨_, rfl, .inl ⟨rfl, _, SqL.of hD11⟩, _, rfl, _, rfl, _, rfl, t, 2, rfl, S11.1, by decide, by decide, fun u1 H12 _ _ s12 => ?_⟩
          have S12 := sipped_trans S11 s12
          refine ⟨rfl, _, rfl, t, 2, rfl, S12.1, by decide, by decide, fun u2 H13 _ _ s13 => ?_⟩
          have S13 := sipped_trans S12 s13
          have b1 := an_sipN S12.1 s13 (an_sipN S11.1 s12 a1 rfl) rfl
          have b2 := an_sipN S12.1 s13 (an_sipN S11.1 s12 a2 rfl) rfl
          have all13 := anAll_sipN S12.1 s13 (anAll_sipN S11.1 s12 all11 (noLs_iff.mpr fun d m => good_noL (good d m))) (noLs_iff.mpr fun d m => good_noL (good d m))
          have hD13 := s13.2 _ _ (s12.2 _ _ hD11 tD) tD
          have hC13 := s13.2 _ _ (s12.2 _ _ hC11 tC) tC
          refine ⟨rfl, (by show 4 ≤ sizeLine; decide), fun pt npt => ?_⟩
          have f14 := same_put (o := HO.tup [V.ref q1, V.ref q2, V.bl (decide (V.int u1 = V.int 0)), V.bl (decide (V.int u2 = V.int 0))]) npt
          have g14 : upd H13 pt (HO.tup [V.ref q1, V.ref q2, V.bl (decide (V.int u1 = V.int 0)), V.bl (decide (V.int u2 = V.int 0))]) pt = some (.tup [V.ref q1, V.ref q2, V.bl (decide (V.int u1 = V.int 0)), V.bl (decide (V.int u2 = V.int 0))]) := upd_same
          generalize upd H13 pt (HO.tup [V.ref q1, V.ref q2, V.bl (decide (V.int u1 = V.int 0)), V.bl (decide (V.int u2 = V.int 0))]) = H14 at *
          generalize decide (V.int u1 = V.int 0) = v1 at *
          generalize decide (V.int u2 = V.int 0) = v2 at *
          have ap : An K H14 (.ref pt) (.tuple [frD (n1, d1), frD (n2', d2), .bool v1, .bool v2]) := .tup g14 (.cons (b1.same f14) (.cons (b2.same f14) (.cons (.bl _) (.cons (.bl _) .nil))))
          have gp : GoodP (.tuple [frD (n1, d1), frD (n2', d2), .bool v1, .bool v2]) := ⟨_, _, _, _, rfl, sm1, sm2⟩
          refine ⟨D, xs, .ref pt, rfl, rfl, f14 _ _ hD13, small1000 (by omega), nxI ⟨_, rfl, _, _, rfl, rfl, ?_⟩⟩
          exact nxI ⟨⟨j + 2, _, ds ++ [.tuple [frD (n1, d1), frD (n2', d2), .bool v1, .bool v2]], _, _, _, rfl, sipped_put (sipped_sm S13 f14) n0D tD, by rw [upd_ne nCD]; exact f14 _ _ hC13, upd_same, app_pc (f14 _ _ hD13) (AnAll.same f14 all13) good ap gp, app_good good gp, by rw [List.length_append]; show ds.length + 1 ≤ j + 2; omega, by omega⟩, by show ((ys.length : Int) + 1 - ((j : Int) + 2)).toNat < ((ys.length : Int) + 1 - (j : Int)).toNat; omega⟩
      · have fin : ∀ (G : Hp) (zs : List V) (es : List PyData), Sipped H G t → G D = some (.lst zs) → AnAll K G zs es → (∀ d ∈ es, GoodP d) → es.length ≤ 9 → ∀ r, G r = none → Q (.ref r) (upd G r (.tup zs)) := fun G zs es s h a g l r nr => k r zs es _ (sipped_sm s (same_put nr)) upd_same (AnAll.same (same_put nr) a) g l
        refine ⟨_, rfl, Nat.zero_le _, fun e0 ne0 => ?_⟩
        have f0 := same_put (o := HO.lst []) ne0
        refine ⟨D, e0, xs, rfl, rfl, SqL.of (f0 _ _ hD8), SqL.of upd_same, _, rfl, ?_⟩
        have S9 := sipped_sm S8 f0
        have hD9 := f0 _ _ hD8
        have all9 := AnAll.same f0 all
        generalize upd H8 e0 (HO.lst []) = H9 at *
        refine ite2 (fun c1 => ?_) (fun c1 => iteF (nextI (nxI ⟨_, rfl, D, xs, rfl, SqL.of hD9, fun r nr => fin H9 xs ds S9 hD9 all9 good (by omega) r nr⟩)))
        refine ⟨_, rfl, t, 4, rfl, S9.1, by decide, by decide, fun u1 H10 _ _ s10 => ?_⟩
        have hD10 := s10.2 _ _ hD9 tD
        have S10 := sipped_trans S9 s10
        have all10 := anAll_sipN S9.1 s10 all9 (noLs_iff.mpr fun d m => good_noL (good d m))
        refine ⟨rfl, _, rfl, ite2 (fun c2 => ?_) (fun c2 => iteF (nextI (nxI ⟨_, rfl, D, xs, rfl, SqL.of hD10, fun r nr => fin H10 xs ds S10 hD10 all10 good (by omega) r nr⟩)))⟩
        obtain ⟨xs0, x, ds0, d, rfl, rfl, ax⟩ : ∃ xs0 x ds0 d, xs = xs0 ++ [x] ∧ ds = ds0 ++ [d] ∧ An K H10 x d := last_of all10 (by rintro rfl; simp at c1)
        obtain ⟨pp, qq, ff, tt, rfl, sp, sq⟩ := good d (by simp)
        rw [List.length_append] at ld
        obtain ⟨ap, ys4, ds4, rfl, z4, hT4, all4⟩ := ax.isT rfl
        cases z4
        obtain ⟨y1, y2, y3, y4, e1, e2, e3, e4, rfl, z5, ay1, ay2, ay3, ay4⟩ := anAll_four all4 rfl
        cases z5
        cases ay3
        cases ay4
        have sq4 : SqT K H10 ap [y1, y2, .bl ff, .bl tt] := SqT.of hT4
        have hl : atI (xs0 ++ [V.ref ap]) (-1) = some (.ref ap) := atI_last _ _
        refine ⟨_, rfl, 1, rfl, D, _, -1, .ref ap, rfl, rfl, SqL.of hD10, hl, ap, _, 1, y2, rfl, rfl, sq4, at_of (j := 1) rfl rfl, (by show 2 ≤ sizeLine; decide), fun r1 nr1 => ?_⟩
        have f11 := same_put (o := HO.tup [V.int 1, V.int 1]) nr1
        have g11 : upd H10 r1 (HO.tup [V.int 1, V.int 1]) r1 = some (.tup [V.int 1, V.int 1]) := upd_same
        generalize upd H10 r1 (HO.tup [V.int 1, V.int 1]) = H11 at *
        have hD11 := f11 _ _ hD10
        have S11 := sipped_sm S10 f11
        have all11 := AnAll.same f11 all10
        have ay := ay2.same f11
        refine ⟨_, _, an_fr ay, fr_mk (x := 1) (y := 1) (SqT.of g11), fr_shaped _, fr_shaped _, _, rfl, ite2 (fun c3 => ?_) (fun c3 => iteF (nextI (nxI ⟨_, rfl, D, _, rfl, SqL.of hD11, fun r nr => fin H11 _ _ S11 hD11 all11 good (by rw [List.length_append]; omega) r nr⟩)))⟩
        refine ⟨_, rfl, 1, rfl, D, _, -1, .ref ap, rfl, rfl, SqL.of hD11, hl, ap, _, 3, .bl tt, rfl, rfl, sqT_same f11 sq4, at_of (j := 3) rfl rfl, _, rfl, ite2 (fun c4 => ?_) (fun c4 => nextI (nxI ⟨_, rfl, D, _, rfl, SqL.of hD11, fun r nr => fin H11 _ _ S11 hD11 all11 good (by rw [List.length_append]; omega) r nr⟩))⟩
        refine ⟨_, rfl, .inl ⟨rfl, _, SqL.of hD11⟩, _, rfl, 1, rfl, D, _, -1, .ref ap, rfl, rfl, SqL.of hD11, hl, ap, _, 1, y2, rfl, rfl, sqT_same f11 sq4, at_of (j := 1) rfl rfl, (by show 2 ≤ sizeLine; decide), fun r2 nr2 => ?_⟩
        have f12 := same_put (o := HO.tup [V.int 1, V.int 1]) nr2
        have g12 : upd H11 r2 (HO.tup [V.int 1, V.int 1]) r2 = some (.tup [V.int 1, V.int 1]) := upd_same
        generalize upd H11 r2 (HO.tup [V.int 1, V.int 1]) = H12 at *
        refine ⟨(by show 4 ≤ sizeLine; decide), fun pt npt => ?_⟩
        have f13 := same_put (o := HO.tup [y2, V.ref r2, V.bl false, V.bl false]) npt
        have g13 : upd H12 pt (HO.tup [y2, V.ref r2, V.bl false, V.bl false]) pt = some (.tup [y2, V.ref r2, V.bl false, V.bl false]) := upd_same
        have g12 := f13 _ _ g12
        generalize upd H12 pt (HO.tup [y2, V.ref r2, V.bl false, V.bl false]) = H13 at *
        have f123 := f12.trans f13
        have ap2 : An K H13 (.ref pt) (.tuple [frD qq, frD (1, 1), .bool false, .bool false]) := .tup g13 (.cons (ay.same f123) (.cons (.tup g12 (.cons (.int _) (.cons (.int _) .nil))) (.cons (.bl _) (.cons (.bl _) .nil))))
        have gp : GoodP (.tuple [frD qq, frD (1, 1), .bool false, .bool false]) := ⟨_, _, _, _, rfl, sq, ⟨by decide, by decide, by decide, by decide⟩⟩
        have l9 : (xs0 ++ [V.ref ap]).length ≤ 9 := by rw [List.length_append] at lx ⊢; rw [List.length_append] at lx; omega
        refine ⟨D, _, .ref pt, rfl, rfl, f123 _ _ hD11, small1000 (by omega), nxI ?_⟩
        exact ⟨_, rfl, D, _, rfl, SqL.of upd_same, fun r nr => fin _ _ _ (sipped_put (sipped_sm S11 f123) n0D tD) upd_same (app_pc (f123 _ _ hD11) (AnAll.same f123 all11) good ap2 gp) (app_good good gp) (by rw [List.length_append, List.length_append]; show ds0.length + 1 + 1 ≤ 9; have : ds0.length + [_].length ≤ j := ld; simp at this; omega) r nr⟩
    · rintro σ H Q Q' hQ ⟨x, hx, i, j, e1, e2, y, hy, p, ys, e3, h3, i', j', e4, e5, b, e6, h⟩
      exact ⟨x, hx, i, j, e1, e2, y, hy, p, ys, e3, h3, i', j', e4, e5, b, e6, hQ _ _ h⟩
end
end My
set_option Elab.async false
set_option linter.all false
set_option maxRecDepth 100000
set_option maxHeartbeats 4000000
/-! t[::-1], t a tuple; set(a tuple of ints) -/
namespace Gn
open PySem PySem.Spec PyProof.Rows L2
theorem turn_adjust (n : Nat) : Builtin.Slice.slicePlaces (Builtin.Slice.sliceAdjust none none (-1) (n : Int)).1 (Builtin.Slice.sliceAdjust none none (-1) (n : Int)).2 (-1) = n ∧ (Builtin.Slice.sliceAdjust none none (-1) (n : Int)).1 = (n : Int) - 1 := by
  have a : (Builtin.Slice.sliceAdjust none none (-1) (n : Int)) = ((n : Int) - 1, -1) := by
    simp only [Builtin.Slice.sliceAdjust, show ((-1 : Int) < 0) = True by decide, if_true]
  rw [a]
  refine ⟨?_, rfl⟩
  unfold Builtin.Slice.slicePlaces
  simp only [show ((-1 : Int) > 0) = False by decide, if_false, show (-(-1) : Int) = 1 by decide, Int.ediv_one]
  split <;> omega
theorem turn_pick (xs : Array Value) : ((List.range xs.size).filterMap fun (m : Nat) => xs[(((xs.size : Nat) : Int) - 1 + (m : Int) * (-1)).toNat]?).toArray = xs.toList.reverse.toArray := by
  congr 1
  have g : ∀ k, k ≤ xs.size → ((List.range k).filterMap fun (m : Nat) => xs[(((xs.size : Nat) : Int) - 1 + (m : Int) * (-1)).toNat]?) = xs.toList.reverse.take k := by
    intro k
    induction k with
    | zero => intro _; rfl
    | succ k ih =>
      intro hk
      have i1 : (((xs.size : Nat) : Int) - 1 + (k : Int) * (-1)).toNat = xs.size - 1 - k := by omega
      have i2 : xs.size - 1 - k < xs.size := by omega
      have hl : k < xs.toList.reverse.length := by rw [List.length_reverse, Array.length_toList]; omega
      rw [List.range_succ, List.filterMap_append, ih (by omega), List.take_add_one, List.getElem?_eq_getElem hl]
      congr 1
      simp only [List.filterMap_cons, List.filterMap_nil, i1, Array.getElem?_eq_getElem i2, Option.toList]
      congr 1
      rw [List.getElem_reverse]
      simp only [Array.length_toList, Array.getElem_toList]
  rw [g _ (Nat.le_refl _)]
  refine List.take_of_length_le ?_
  rw [List.length_reverse, Array.length_toList]
  exact Nat.le_refl _
section
variable {prog : Program} {w : World} {A : Around} {E : Value → Shared → Prop} {s : Shared}
theorem turn_item {t sl : Addr} {its : Array Value} {vl vu vs : Value} {Q : Value → Shared → Prop} (ht : IsTup s.heap t its) (hs : s.heap.IsSliceOf sl vl vu vs) (pl : IsPart vl none) (pu : IsPart vu none) (ps : IsPart vs (some (-1)))
    (h : Q (.ref s.heap.objs.size) { s with heap := s.heap.push { cls := .type "tuple", data := .seq its.toList.reverse.toArray } }) (hz : its.size ≤ sizeLine) : wpAny (model prog w) A (getItem (.ref t) (.ref sl)) Q E s := by
  have hfit : sizeOk (.seq its.toList.reverse.toArray) := by
    show its.toList.reverse.toArray.size ≤ sizeLine
    rw [List.size_toArray, List.length_reverse, Array.length_toList]; exact hz
  obtain ⟨os, hos, hcs, hds⟩ := id hs
  unfold getItem
  try with_reducible refine wpAny_holding ?_
  first | refine wpAny_bind (wpAny_pure ?_) | skip
  refine wpAny_bind (wpAny_sequenceKey ht.typeIs (by decide) (wpAny_bind (wpAny_callSpecial?_slot (name := Str.ofString "__getitem__") ht.typeIs PyProof.Rows.slot_tuple_getitem (wpAny_call_entry PyProof.Rows.slot_tuple_getitem ht.typeIs PyProof.Rows.entry_tuple_getitem ?_ (PyProof.Rows.args_tuple_getitem _ _)))))
  show wpAny _ _ (Builtin.Tuple.tupleItemsOf (.ref t) >>= _) _ _ s
  refine wpAny_bind (PyProof.Rows.tupleItemsOf_ ht (wpAny_bind (wpAny_typeOf (show s.TypeIs (.ref sl) "slice" from ⟨os, hos, hcs⟩) ?_)))
  rw [if_pos (by decide)]
  refine wpAny_bind ?_
  unfold Builtin.Slice.sliceApplied Builtin.Slice.sliceFields
  refine wpAny_bind (wpAny_bind (wpAny_field hos hds (x := vl) rfl (wpAny_bind (wpAny_field hos hds (x := vu) rfl (wpAny_bind (wpAny_field hos hds (x := vs) rfl (wpAny_pure (wpAny_bind (HT.slicePart_ ps ?_)))))))))
  show wpAny _ _ (if ((-1 : Int) == 0) = true then _ else _) _ _ s
  rw [if_neg (by decide)]
  refine wpAny_bind (HT.slicePart_ pl (wpAny_bind (HT.slicePart_ pu (wpAny_bind (wpAny_pure ?_)))))
  have e1 := (turn_adjust its.size).1
  have e2 := (turn_adjust its.size).2
  show wpAny _ _ (pure ((Builtin.Slice.sliceAdjust none none (-1) (its.size : Int)).1, (-1 : Int), Builtin.Slice.slicePlaces (Builtin.Slice.sliceAdjust none none (-1) (its.size : Int)).1 (Builtin.Slice.sliceAdjust none none (-1) (its.size : Int)).2 (-1))) _ _ s
  rw [e1, e2]
  refine wpAny_pure ?_
  have no : ¬ ((((its.size : Nat) : Int) - 1 == 0 && (-1 : Int) == 1 && its.size == its.size) = true) := by
    rw [show ((-1 : Int) == 1) = false by decide]; simp
  show wpAny _ _ (if ((((its.size : Nat) : Int) - 1 == 0 && (-1 : Int) == 1 && its.size == its.size) = true) then _ else _) _ _ s
  rw [if_neg no, turn_pick]
  first
    | exact wpAny_bind (m := Builtin.Tuple.tupleExact _) (wpAny_newObj_type (wpAny_pure ⟨_, rfl, wpAny_pure h⟩) hfit)
    | exact wpAny_bind (wpAny_bind (m := Builtin.Tuple.tupleExact _) (wpAny_newObj_type (wpAny_pure ⟨_, rfl, wpAny_pure h⟩) hfit))
    | exact wpAny_bind (wpAny_bind (m := Builtin.Tuple.tupleExact _) (wpAny_newObj_type (wpAny_pure (wpAny_pure ⟨_, rfl, wpAny_pure h⟩)) hfit))
end
def tTurn (K : PySem.W.Frag) (te : TE) : TE := fun σ H Q => te σ H fun x H1 => ∃ a xs, x = .ref a ∧ SqT K H1 a xs ∧ ∀ p, H1 p = none → Q (.ref p) (upd H1 p (.tup xs.reverse))
section
variable {X : Cx}
theorem pe_turn {e : Expr} {te : TE} {k : Nat} {p1 p2 p3 pos : Pos} (he : PE X e te) : PE X (.Subscript e (.Slice none none (some (.UnaryOp .USub (.Constant (.int 1) k p1) p2)) p3) pos) (tTurn X.K te) := by
  refine ⟨fun pins s σ H Q I h => ?_⟩
  refine Subscript_ (thn (he.run pins s σ H _ I h) fun v s1 ⟨x, H1, I1, r1, q1⟩ => ?_)
  obtain ⟨a, xs, ex, hx, q⟩ := q1
  subst ex
  cases r1
  have hst : PO X (some (.UnaryOp .USub (.Constant (.int 1) k p1) p2)) (tPart (tUn (rU fun i => .int (-i)) (tC (.int 1)))) := po_some (pe_un un_neg pe_int)
  refine wpAny_Slice (thn (po_none.run pins s1 σ H1 (fun o H2 => o = none ∧ H2 = H1) I1 ⟨rfl, rfl⟩) fun vl s2 ⟨l, H2, I2, pl, el, e2⟩ => ?_)
  subst el e2
  refine thn (po_none.run pins s2 σ H2 (fun o H3 => o = none ∧ H3 = H2) I2 ⟨rfl, rfl⟩) fun vu s3 ⟨u, H3, I3, pu, eu, e3⟩ => ?_
  subst eu e3
  refine thn (hst.run pins s3 σ H3 (fun o H4 => o = some (-1) ∧ H4 = H3) I3 ⟨1, rfl, -1, rfl, rfl, rfl⟩) fun vs s4 ⟨o, H4, I4, ps, eo, e4⟩ => ?_
  subst eo e4
  have I5 : Inv X pins σ H4 { s4 with heap := s4.heap.push { cls := .type "slice", data := .fields #[vl, vu, vs] } } := I4.kept (t' := s4.toks) fun b ob q => Heap.get?_push_of_some _ q
  obtain ⟨its, r, ht, hz⟩ := I5.tuple hx
  have hlen := r.length
  show wpAny (model X.prog X.w) X.A (subscriptTail e (.Slice none none (some (.UnaryOp .USub (.Constant (.int 1) k p1) p2)) p3) (.ref a) (.ref s4.heap.objs.size)) (EP X pins σ Q) X.xe { s4 with heap := s4.heap.push { cls := .type "slice", data := .fields #[vl, vu, vs] } }
  refine tail_any (ops := [.ref a, .ref s4.heap.objs.size]) ht.typeIs (PyProof.Rows.slot_tuple_getitem.lookup) ?_ (by with_unfolding_all rfl)
  refine turn_item ht (Heap.IsSliceOf.new _ vl vu vs) pl pu ps ?_ (by rw [List.size_toArray]; omega)
  refine ⟨.ref _, _, I5.laid (t' := s4.toks) (o := .tup xs.reverse) (fun b ob q => Heap.get?_push_of_some _ q) (Nat.le_refl _) ?_, rfl, q _ (I5.hok.fresh (Nat.le_refl _))⟩
  exact ⟨by rw [List.length_reverse]; omega, _, r.reverse, ⟨_, Heap.get?_push_size _ rfl, rfl, _, rfl⟩⟩
/-- set(t), t a tuple of ints -/
def rSetT (K : PySem.W.Frag) (w : World) : List V → Hp → VK → Prop := fun xs H Q => ∃ (l : Addr) (ns : List Int), xs = [.ref l] ∧ SqT K H l (ns.map V.int) ∧ ns.length ≤ 1000 ∧ ∀ p c, H p = none → c ≤ ns.length → Q (.ref p) (upd H p (SetO w p (fun j => decide (j ∈ ns)) c))
theorem cr_setT (hc : X.calm = true) : CallR X (.type "set") (rSetT X.K X.w) := by
  intro pins s σ H xs us Q I r h
  obtain ⟨l, ns, rfl, hl, hf, q⟩ := h
  rw [Vals.ref1 r]
  obtain ⟨its, rv, tp, hz⟩ := I.tuple hl
  refine call_set_tupI ns (I.ok.hd hc) tp (by simpa using intsAre_of rv) (by unfold scanBound; omega) fun h' tk c hS hcn k => ?_
  exact ⟨.ref s.heap.objs.size, _, I.laid (t' := tk) k (Nat.le_refl _) (setO_new hS), rfl, q _ c (I.hok.fresh (Nat.le_refl _)) hcn⟩
end
end Gn
set_option Elab.async false
set_option linter.all false
set_option maxRecDepth 100000
set_option maxHeartbeats 8000000
set_option exponentiation.threshold 4000
namespace My
open PySem PySem.Spec PyProof.Rows L2 Gn Mt
abbrev s__law_bent : Stmt := top 58
theorem sc__law_bent : FnScope ["_law_tin_here", "_law_right_here", "_law_way", "_law_at", "_law_low_here", "_law_high", "_law_first", "_law_last", "_law_odd"] ["_law_tin_here", "_law_right_here"] (defScope s__law_bent) := ⟨rfl, rfl, rfl, by decide +kernel, rfl, by decide +kernel, by decide +kernel⟩
/-! pieces bent by the law -/
theorem an_sipB {K : PySem.W.Frag} {H H' : Hp} {t : Addr} (T : Tin H t) (e : Sipped H H' t) {v : V} {d : PyData} (h : An K H v d) (f : sipB d = true) : An K H' v d := by
  cases h with
  | lst h n s =>
    rename_i a xs ds
    have f : ((ds.length != 3 || ds.all isTupB) && noLs ds) = true := f
    rw [Bool.and_eq_true] at f
    refine .lst (e.2 _ _ h fun z => ?_) n (anAll_sipN T e s f.2)
    obtain ⟨_, _, _, ht, _⟩ := T
    rw [z, ht] at h
    cases h
    have l := dpAll_len s
    have f1 := f.1
    rw [← l] at f1
    have f1 : ds.all isTupB = true := by simpa using f1
    cases s with
    | cons h1 s => cases h1; exact absurd f1 (by simp [isTupB])
  | non => exact .non
  | bl b => exact .bl b
  | int i => exact .int i
  | str x => exact .str x
  | tup h s => exact an_sipN T e (.tup h s) f
  | dct h => exact an_sipN T e (.dct h) f
def isA (K : PySem.W.Frag) (d : PyData) : Fact := fun H v => An K H v d
theorem lasts_A {K : PySem.W.Frag} {d : PyData} : Lasts (isA K d) := fun _ _ _ e h => An.same e h
theorem lastsAll_A {K : PySem.W.Frag} {ds : List PyData} : LastsAll (ds.map (isA K)) := fun q h => by
  obtain ⟨d, _, rfl⟩ := List.mem_map.mp h
  exact lasts_A
theorem allF_A {K : PySem.W.Frag} {H : Hp} : ∀ {ds : List PyData} {vs : List V}, AllF (ds.map (isA K)) H vs → AnAll K H vs ds
  | [], vs, h => by
    have e : vs = [] := h
    subst e
    exact .nil
  | d :: ds, v :: vs, h => .cons h.1 (allF_A h.2)
section
variable {K : PySem.W.Frag} {σ : L2.St} {H : Hp} {d : PyData} {ds : List PyData} {te : TE} {ta : TA}
/-- ints, texts and the like as they are -/
def plain : V → Option PyData
  | .non => some .none
  | .bl b => some (.bool b)
  | .int i => some (.int i)
  | .str x => some (.str x)
  | _ => none
theorem fa_c (v : V) (h : plain v = some d := by rfl) : Fm (tC v) σ H (isA K d) := fun H1 _ Q q => q v H1 (Same.refl _) (by
  cases v with
  | non => cases h; exact .non
  | bl b => cases h; exact .bl b
  | int i => cases h; exact .int i
  | str x => cases h; exact .str x
  | _ => cases h)
theorem fa_neg {i : Int} : Fm (tUn (rU fun i => .int (-i)) (tC (.int i))) σ H (isA K (.int (-i))) := fun H1 _ Q q => ⟨i, rfl, q _ H1 (Same.refl _) (.int _)⟩
structure FmD (K : PySem.W.Frag) (ta : TA) (σ : L2.St) (H : Hp) (ds : List PyData) : Prop where
  fm : FmA ta σ H (ds.map (isA K))
theorem faA_nil : FmD K tNil σ H [] := ⟨fmA_nil⟩
theorem faA_cons (h : Fm te σ H (isA K d)) (hs : FmD K ta σ H ds) : FmD K (tCons te ta) σ H (d :: ds) := ⟨fmA_cons lasts_A h hs.fm⟩
theorem fa_tup (hl : ds.length ≤ 1000) (hs : FmD K ta σ H ds) : Fm (tTup ta) σ H (isA K (.tuple ds)) := fun H1 e Q q => hs.fm H1 e _ fun vs H2 e2 rs =>
  ⟨by rw [rs.len, List.length_map, sizeLine_eq]; omega, fun p hp => q _ _ (e2.trans (same_put hp)) (.tup upd_same ((allF_A rs).same (same_put hp)))⟩
theorem fa_lst (hl : ds.length ≤ 1000) (hs : FmD K ta σ H ds) : Fm (tLstZ ta) σ H (isA K (.list ds)) := fun H1 e Q q => hs.fm H1 e _ fun vs H2 e2 rs =>
  ⟨by rw [rs.len, List.length_map, sizeLine_eq]; omega, fun p hp np => q _ _ (e2.trans (same_put hp)) (.lst upd_same np ((allF_A rs).same (same_put hp)))⟩
end
theorem fa_v {K : PySem.W.Frag} {σ : L2.St} {H : Hp} {d : PyData} {i : Nat} {x : V} (hσ : σ[i]? = some (some x)) (a : An K H x d) : Fm (tVar i) σ H (isA K d) := fun H1 e Q q => ⟨x, hσ, q x H1 (Same.refl _) (a.same e)⟩
def atomB : PyData → Bool
  | .none => true
  | .bool _ => true
  | .int i => decide (i.natAbs ≤ 24)
  | _ => false
def aB : PyData → Bool
  | .tuple es => decide (es.length ≤ 2) && es.all atomB
  | d => atomB d
def pB : PyData → Bool
  | .tuple es => decide (es.length ≤ 4) && es.all aB
  | .list es => decide (es.length ≤ 4) && es.all aB
  | d => atomB d
def bentB : PyData → Bool
  | .tuple ds => decide (ds.length ≤ 10) && ds.all pB
  | .list ds => decide (ds.length ≤ 10) && ds.all (fun d => isTupB d && pB d)
  | .none => true
  | _ => false
theorem aB_fr {p : Int × Int} (h : Sml p) : aB (frD p) = true := by
  show (decide (2 ≤ 2) && ((decide (p.1.natAbs ≤ 24)) && (decide (p.2.natAbs ≤ 24) && true))) = true
  have := h.n0
  have := h.le
  have := h.d1
  have := h.d24
  rw [decide_eq_true (show p.1.natAbs ≤ 24 by omega), decide_eq_true (show p.2.natAbs ≤ 24 by omega)]
  rfl
def odd1 (p q : Int × Int) (f t : Bool) : List PyData := [.tuple [frD q, frD p, .bool f, .bool t], .tuple [frD p, frD q, .int 1, .bool t], .tuple [frD p, frD (2, 4), .bool f, .bool t], .tuple [frD p, frD q, .bool f], .tuple [frD p, frD (1, 1), .bool true, .bool true], .none]
def odd2 (p q : Int × Int) (f t : Bool) : List PyData := [.tuple [frD p, frD p, .bool true, .bool false], .tuple [frD (0, 1), frD q, .bool true, .bool t], .list [frD p, frD q, .bool f, .bool t], .tuple [frD p, frD (3, 2), .bool f, .bool t], .tuple [frD (1, 1), frD (1, 1), .bool true, .bool true]]
theorem odds_ok {p q : Int × Int} {f t : Bool} (hp : Sml p) (hq : Sml q) : ∀ d ∈ odd1 p q f t ++ odd2 p q f t, pB d = true ∧ sipB d = true := by
  have a := aB_fr hp
  have b := aB_fr hq
  have b2 : ∀ f, aB (.bool f) = true := fun _ => rfl
  have i1 : aB (.int 1) = true := rfl
  have c1 : aB (frD (2, 4)) = true := by decide
  have c2 : aB (frD (1, 1)) = true := by decide
  have c3 : aB (frD (0, 1)) = true := by decide
  have c4 : aB (frD (3, 2)) = true := by decide
  have n1 : ∀ p, noL (frD p) = true := fun _ => rfl
  intro d m
  unfold odd1 odd2 at m
  simp only [List.cons_append, List.nil_append, List.mem_cons, List.mem_nil_iff, or_false] at m
  rcases m with rfl | rfl | rfl | rfl | rfl | rfl | rfl | rfl | rfl | rfl | rfl
  all_goals refine ⟨by simp [pB, atomB, a, b, b2, i1, c1, c2, c3, c4], ?_⟩
  all_goals first | rfl | simp [sipB, noL, noLs, n1]
def okG (d : PyData) : Prop := GoodP d
theorem good_pB {d : PyData} (h : GoodP d) : pB d = true ∧ isTupB d = true := by
  obtain ⟨p, q, f, t, rfl, hp, hq⟩ := h
  refine ⟨?_, rfl⟩
  have a := aB_fr hp
  have b := aB_fr hq
  have b2 : ∀ f, aB (.bool f) = true := fun _ => rfl
  simp [pB, a, b, b2]
theorem good_bent {d : PyData} (h : GoodP d) : bentB d = true := by
  obtain ⟨p, q, f, t, rfl, hp, hq⟩ := h
  have a : pB (frD p) = true := by
    have := hp.n0; have := hp.le; have := hp.d1; have := hp.d24
    simp [pB, frD, aB, atomB]; omega
  have b : pB (frD q) = true := by
    have := hq.n0; have := hq.le; have := hq.d1; have := hq.d24
    simp [pB, frD, aB, atomB]; omega
  show (decide (4 ≤ 10) && (pB (frD p) && (pB (frD q) && (true && (true && true))))) = true
  rw [a, b]
  rfl
def spBent (K : PySem.W.Frag) : Sp := fun vs H Q _ => ∃ t r, vs = [.ref t, .ref r] ∧ Tin H t ∧ (∃ xs ds, H r = some (.tup xs) ∧ AnAll K H xs ds ∧ ds.length ≤ 9 ∧ ∀ d ∈ ds, GoodP d) ∧ ∀ v d H', bentB d = true → An K H' v d → Sipped H H' t → Q v H'
theorem tupOf_sip {K : PySem.W.Frag} {H H' : Hp} {t c : Addr} {n : Nat} (T : Tin H t) (e : Sipped H H' t) (h : TupOf K H c n GoodP) : TupOf K H' c n GoodP := by
  obtain ⟨xs, ds, h1, h2, h3, h4⟩ := h
  refine ⟨xs, ds, e.2 _ _ h1 fun z => ?_, anAll_sipN T e h2 (noLs_iff.mpr fun d m => good_noL (h4 d m)), h3, h4⟩
  obtain ⟨_, _, _, ht, _⟩ := T
  rw [z, ht] at h1
  cases h1
def ok1 (d : PyData) : Prop := pB d = true
theorem _root_.Gn.TupOf.imp {K : PySem.W.Frag} {H : Hp} {c : Addr} {n : Nat} {ok ok' : PyData → Prop} (h : TupOf K H c n ok) (i : ∀ d, ok d → ok' d) : TupOf K H c n ok' := by
  obtain ⟨xs, ds, h1, h2, h3, h4⟩ := h
  exact ⟨xs, ds, h1, h2, h3, fun d m => i d (h4 d m)⟩
theorem tupOf_b {K : PySem.W.Frag} {H : Hp} {c : Addr} {n : Nat} (h : TupOf K H c n ok1) (n30 : n ≤ 10) : ∃ ds, An K H (.ref c) (.tuple ds) ∧ bentB (.tuple ds) = true := by
  obtain ⟨xs, ds, h1, h2, h3, h4⟩ := h
  refine ⟨ds, .tup h1 h2, ?_⟩
  show (decide (ds.length ≤ 10) && ds.all pB) = true
  rw [Bool.and_eq_true]
  exact ⟨decide_eq_true (by omega), List.all_eq_true.mpr h4⟩
theorem sl_to {K : PySem.W.Frag} {H : Hp} {a : Addr} {xs : List V} {ds : List PyData} {ok : PyData → Prop} {lo hi : Option Int} {m : Nat} {Q : VK} (h1 : H a = some (.tup xs)) (h2 : AnAll K H xs ds) (h4 : ∀ d ∈ ds, ok d) (hm : (cutV xs lo hi).length ≤ m) (k : ∀ c H', Same H H' → TupOf K H' c m ok → Q (.ref c) H') : rSlA K (.ref a) lo hi H Q := by
  have l := anAll_ln h2
  refine ⟨a, xs, rfl, SqT.of h1, fun z => k a H (Same.refl _) ⟨xs, ds, h1, h2, ?_, h4⟩, fun _ p np => ?_⟩
  · obtain ⟨z1, z2⟩ := z
    unfold cutV at hm
    rw [List.length_take, List.length_drop] at hm
    omega
  have s := same_put (o := HO.tup (cutV xs lo hi)) np
  refine k p _ s ⟨cutV xs lo hi, (ds.drop (HT.sIx xs.length 0 lo)).take (HT.sIx xs.length xs.length hi - HT.sIx xs.length 0 lo), upd_same, (anAll_take _ (anAll_drop _ h2)).same s, ?_, fun d m => h4 d (List.mem_of_mem_drop (List.mem_of_mem_take m))⟩
  unfold cutV at hm
  rw [List.length_take, List.length_drop] at hm ⊢
  omega
theorem cut_to (xs : List V) (j : Nat) : (cutV xs none (some (j : Int))).length ≤ j := by
  unfold cutV
  rw [show HT.sIx xs.length xs.length (some (j : Int)) = min j xs.length from HT.sIx_nat .., HT.sIx_none, List.length_take]
  omega
theorem cut_on (xs : List V) (j : Nat) : (cutV xs (some (j : Int)) none).length ≤ xs.length - j := by
  unfold cutV
  rw [show HT.sIx xs.length 0 (some (j : Int)) = min j xs.length from HT.sIx_nat .., HT.sIx_none, List.length_take, List.length_drop]
  omega
theorem cut_one (xs : List V) (j : Nat) : (cutV xs (some (j : Int)) (some ((j : Int) + 1))).length ≤ 1 := by
  unfold cutV
  rw [show HT.sIx xs.length 0 (some (j : Int)) = min j xs.length from HT.sIx_nat .., show HT.sIx xs.length xs.length (some ((j : Int) + 1)) = min (j + 1) xs.length from HT.sIx_nat xs.length xs.length (j + 1), List.length_take, List.length_drop]
  omega
theorem np {σ : L2.St} {H : Hp} {Q : Option Int → Hp → Prop} (h : Q none H) : tNoPart σ H Q := h
def tFr (n m : Int) : TE := tTup (tCons (tC (.int n)) (tCons (tC (.int m)) tNil))
theorem fm_fr {K : PySem.W.Frag} {σ : L2.St} {H : Hp} {n m : Int} : Fm (tFr n m) σ H (isA K (frD (n, m))) := fa_tup (ds := [.int n, .int m]) (by show 2 ≤ 1000; decide) (faA_cons (fa_c (.int n)) (faA_cons (fa_c (.int m)) faA_nil))
def tOdd1 : TA := tCons (tTup (tCons (tVar 5) (tCons (tVar 4) (tCons (tVar 6) (tCons (tVar 7) tNil))))) (tCons (tTup (tCons (tVar 4) (tCons (tVar 5) (tCons (tC (.int 1)) (tCons (tVar 7) tNil))))) (tCons (tTup (tCons (tVar 4) (tCons (tFr 2 4) (tCons (tVar 6) (tCons (tVar 7) tNil))))) (tCons (tTup (tCons (tVar 4) (tCons (tVar 5) (tCons (tVar 6) tNil)))) (tCons (tTup (tCons (tVar 4) (tCons (tFr 1 1) (tCons (tC (.bl true)) (tCons (tC (.bl true)) tNil))))) (tCons (tC .non) tNil)))))
def tOdd2 : TA := tCons (tTup (tCons (tVar 4) (tCons (tVar 4) (tCons (tC (.bl true)) (tCons (tC (.bl false)) tNil))))) (tCons (tTup (tCons (tFr 0 1) (tCons (tVar 5) (tCons (tC (.bl true)) (tCons (tVar 7) tNil))))) (tCons (tLstZ (tCons (tVar 4) (tCons (tVar 5) (tCons (tVar 6) (tCons (tVar 7) tNil))))) (tCons (tTup (tCons (tVar 4) (tCons (tFr 3 2) (tCons (tVar 6) (tCons (tVar 7) tNil))))) (tCons (tTup (tCons (tFr 1 1) (tCons (tFr 1 1) (tCons (tC (.bl true)) (tCons (tC (.bl true)) tNil))))) tNil))))
section
variable {K : PySem.W.Frag} {σ : L2.St} {H : Hp} {x y : V} {p q : Int × Int} {f t : Bool}
theorem fm_odd1 (h4 : σ[4]? = some (some x)) (h5 : σ[5]? = some (some y)) (h6 : σ[6]? = some (some (.bl f))) (h7 : σ[7]? = some (some (.bl t))) (a : An K H x (frD p)) (b : An K H y (frD q)) : FmD K tOdd1 σ H (odd1 p q f t) := by
  have v4 := fa_v h4 a
  have v5 := fa_v h5 b
  have v6 := fa_v (K := K) (H := H) h6 (.bl f)
  have v7 := fa_v (K := K) (H := H) h7 (.bl t)
  unfold tOdd1 odd1
  exact faA_cons (fa_tup (by show 4 ≤ 1000; decide) (faA_cons v5 (faA_cons v4 (faA_cons v6 (faA_cons v7 faA_nil))))) (faA_cons (fa_tup (by show 4 ≤ 1000; decide) (faA_cons v4 (faA_cons v5 (faA_cons (fa_c (.int 1)) (faA_cons v7 faA_nil))))) (faA_cons (fa_tup (by show 4 ≤ 1000; decide) (faA_cons v4 (faA_cons fm_fr (faA_cons v6 (faA_cons v7 faA_nil)))))
    (faA_cons (fa_tup (by show 3 ≤ 1000; decide) (faA_cons v4 (faA_cons v5 (faA_cons v6 faA_nil)))) (faA_cons (fa_tup (by show 4 ≤ 1000; decide) (faA_cons v4 (faA_cons fm_fr (faA_cons (fa_c (.bl true)) (faA_cons (fa_c (.bl true)) faA_nil))))) (faA_cons (fa_c .non) faA_nil)))))
theorem fm_odd2 (h4 : σ[4]? = some (some x)) (h5 : σ[5]? = some (some y)) (h6 : σ[6]? = some (some (.bl f))) (h7 : σ[7]? = some (some (.bl t))) (a : An K H x (frD p)) (b : An K H y (frD q)) : FmD K tOdd2 σ H (odd2 p q f t) := by
  have v4 := fa_v h4 a
  have v5 := fa_v h5 b
  have v6 := fa_v (K := K) (H := H) h6 (.bl f)
  have v7 := fa_v (K := K) (H := H) h7 (.bl t)
  unfold tOdd2 odd2
  exact faA_cons (fa_tup (by show 4 ≤ 1000; decide) (faA_cons v4 (faA_cons v4 (faA_cons (fa_c (.bl true)) (faA_cons (fa_c (.bl false)) faA_nil))))) (faA_cons (fa_tup (by show 4 ≤ 1000; decide) (faA_cons fm_fr (faA_cons v5 (faA_cons (fa_c (.bl true)) (faA_cons v7 faA_nil))))) (faA_cons (fa_lst (by show 4 ≤ 1000; decide) (faA_cons v4 (faA_cons v5 (faA_cons v6 (faA_cons v7 faA_nil)))))
    (faA_cons (fa_tup (by show 4 ≤ 1000; decide) (faA_cons v4 (faA_cons fm_fr (faA_cons v6 (faA_cons v7 faA_nil))))) (faA_cons (fa_tup (by show 4 ≤ 1000; decide) (faA_cons fm_fr (faA_cons fm_fr (faA_cons (fa_c (.bl true)) (faA_cons (fa_c (.bl true)) faA_nil))))) faA_nil))))
end
theorem shp {ds : List PyData} (h : ∀ d ∈ ds, GoodP d) : PyData.canLayAll0 ds = true ∧ PyData.depthAll ds ≤ 2 := by
  induction ds with
  | nil => exact ⟨rfl, Nat.zero_le _⟩
  | cons d r ih =>
    obtain ⟨a, b⟩ := ih fun e m => h e (List.mem_cons_of_mem _ m)
    obtain ⟨p, q, f, t, rfl, _, _⟩ := h d List.mem_cons_self
    have h1 : PyData.canLay0 (.tuple [frD p, frD q, .bool f, .bool t]) = true := by rfl
    have h2 : PyData.depth (.tuple [frD p, frD q, .bool f, .bool t]) = 2 := by rfl
    simp only [PyData.canLayAll0, PyData.depthAll, h1, h2, a]
    exact ⟨rfl, by omega⟩
theorem good_shaped {ds : List PyData} (h : ∀ d ∈ ds, GoodP d) : SeqAt.shaped (.tuple ds) = true := by
  obtain ⟨a, b⟩ := shp h
  unfold SeqAt.shaped
  simp only [PyData.canLay0, PyData.depth, a]
  simp
  omega
theorem good_flat {ds : List PyData} (h : ∀ d ∈ ds, GoodP d) : flat (.tuple ds) = true := by
  have : flat.flats ds = true := by
    induction ds with
    | nil => rfl
    | cons d r ih =>
      obtain ⟨p, q, f, t, rfl, _, _⟩ := h d List.mem_cons_self
      have z := ih fun e m => h e (List.mem_cons_of_mem _ m)
      simp only [flat.flats, z, Bool.and_true]
      simp only [flat, frD, flat.flats, Bool.and_self]
  simpa only [flat] using this
theorem eqv_nil (ds : List PyData) : PyData.eqv (.tuple ds) (.tuple []) = ds.isEmpty := by
  cases ds <;> simp [PyData.eqv, PyData.eqvAll]
section
variable {P : Program} {w : World} {K : PySem.W.Frag} {mg : Str → Option Value} {base : Heap}
theorem ok_bent {f fS fP : Addr} {fd fdS fdP : FuncData} (F : Fun K "_law_bent" "_law_bent" s__law_bent f fd) (B : Bl mg) (li : mg "list" = none) (mx : mg "max" = none) (S : Df K mg "_law_sip" sSip ["_law_tin_here", "_law_top"] fS fdS) (Pk : Df K mg "_law_pick" sPick ["_law_tin_here", "_law_menu"] fP fdP) : FnOk P w K mg base CX0 3 f fd ["_law_tin_here", "_law_right_here"] (spBent K) := by
  have GS : FnOk P w K mg base CX0 1 fS fdS ["_law_tin_here", "_law_top"] spSip := ok_sip S.F B
  have GP : FnOk P w K mg base CX0 2 fP fdP ["_law_tin_here", "_law_menu"] spPick := ok_pick Pk.F B S
  refine F.ok sc__law_bent (fun vs H Q E h => ?_) (fun cdv A outer s H vs Q E hr h => ?_)
  · obtain ⟨t, r, rfl, _⟩ := h
    rfl
  · obtain ⟨t, r, rfl, T0, ⟨xs, ds, hr0, al0, l9, ok0⟩, k⟩ := h
    have hu := hr.units
    have hr1 : Room 1 _ := hr.mono (by decide)
    refine ⟨_, pss_cons (ps_par (i := 2) (j := 3) (by rfl) sc__law_bent.nd rfl rfl (by decide) rfl rfl (pa_cons (pe_call GS hr1 (by rfl) S.g S.F.kp S.b .nil pass0 (pa_cons (pv 0) (pa_cons pe_int pa_nil))) (pa_cons (pe_call GS hr1 (by rfl) S.g S.F.kp S.b .nil pass0 (pa_cons (pv 0) (pa_cons (pe_callB (call_max2 rfl) (by rfl) mx (by decide +kernel) (pa_cons pe_int (pa_cons (pe_callB (call_len_seq) (by rfl) B.len (by decide +kernel) (pa_cons (pv 1) pa_nil)) pa_nil))) pa_nil))) pa_nil)) (by rfl)) (pss_cons (ps_if (PW.pt (pw_or (pt_cmpR (op_eqD hu) (pv 1) (pe_tup pa_nil) (nomark _)) (pw_or1 (pt_cmpR op_gt (pv 2) pe_int (nomark _))))) (pss_one (ps_ret (pv 1))) pss_nil) (pss_cons (ps_asg (pe_ix ix_tup (pv 1) (pv 3) (fun _ _ => rfl)) (pg_tup (by rfl) (pgs_cons (pg_name (i := 4) sc__law_bent.nd rfl (.inl rfl)) (pgs_cons (pg_name (i := 5) sc__law_bent.nd rfl (.inl rfl)) (pgs_cons (pg_name (i := 6) sc__law_bent.nd rfl (.inl rfl)) (pgs_cons (pg_name (i := 7) sc__law_bent.nd rfl (.inl rfl)) pgs_nil)))))) (pss_cons (ps_set (i := 8) sc__law_bent.nd rfl (.inl rfl) (pe_lst (t := tOdd1) (by unfold tOdd1 tFr; exact (pa_cons (pe_tup (pa_cons (pv 5) (pa_cons (pv 4) (pa_cons (pv 6) (pa_cons (pv 7) pa_nil))))) (pa_cons (pe_tup (pa_cons (pv 4) (pa_cons (pv 5) (pa_cons pe_int (pa_cons (pv 7) pa_nil))))) (pa_cons (pe_tup (pa_cons (pv 4) (pa_cons (pe_tup (pa_cons pe_int (pa_cons pe_int pa_nil))) (pa_cons (pv 6) (pa_cons (pv 7) pa_nil))))) (pa_cons (pe_tup (pa_cons (pv 4) (pa_cons (pv 5) (pa_cons (pv 6) pa_nil)))) (pa_cons (pe_tup (pa_cons (pv 4) (pa_cons (pe_tup (pa_cons pe_int (pa_cons pe_int pa_nil))) (pa_cons pe_bl (pa_cons pe_bl pa_nil))))) (pa_cons pe_non pa_nil))))))))) (pss_cons (ps_set (i := 8) sc__law_bent.nd rfl (.inl rfl) (pe_op op_cat (pv 8) (pe_lst (t := tOdd2) (by unfold tOdd2 tFr; exact (pa_cons (pe_tup (pa_cons (pv 4) (pa_cons (pv 4) (pa_cons pe_bl (pa_cons pe_bl pa_nil))))) (pa_cons (pe_tup (pa_cons (pe_tup (pa_cons pe_int (pa_cons pe_int pa_nil))) (pa_cons (pv 5) (pa_cons pe_bl (pa_cons (pv 7) pa_nil))))) (pa_cons (pe_lstZ (pa_cons (pv 4) (pa_cons (pv 5) (pa_cons (pv 6) (pa_cons (pv 7) pa_nil))))) (pa_cons (pe_tup (pa_cons (pv 4) (pa_cons (pe_tup (pa_cons pe_int (pa_cons pe_int pa_nil))) (pa_cons (pv 6) (pa_cons (pv 7) pa_nil))))) (pa_cons (pe_tup (pa_cons (pe_tup (pa_cons pe_int (pa_cons pe_int pa_nil))) (pa_cons (pe_tup (pa_cons pe_int (pa_cons pe_int pa_nil))) (pa_cons pe_bl (pa_cons pe_bl pa_nil))))) pa_nil))))))))) (pss_cons (ps_if (pt_cmpR op_lt (pv 2) pe_int (nomark _)) (pss_one (ps_ret (pe_op op_catA (pe_op op_catA (pe_slice sl_tupA (pv 1) po_none (po_some (pv 3))) (pe_tup (pa_cons (pe_call GP hr (by rfl) Pk.g Pk.F.kp Pk.b .nil pass0 (pa_cons (pv 0) (pa_cons (pv 8) pa_nil))) pa_nil))) (pe_slice sl_tupA (pv 1) (po_some (pe_op op_add (pv 3) pe_int)) po_none)))) pss_nil) (pss_cons (ps_if (pt_cmpR op_eq (pv 2) pe_int (nomark _)) (pss_one (ps_ret (pe_op op_catA (pe_op op_catA (pe_slice sl_tupA (pv 1) po_none (po_some (pv 3))) (pe_slice sl_tupA (pv 1) (po_some (pv 3)) (po_some (pe_op op_add (pv 3) pe_int)))) (pe_slice sl_tupA (pv 1) (po_some (pv 3)) po_none)))) pss_nil) (pss_one (ps_ret (pe_call GP hr (by rfl) Pk.g Pk.F.kp Pk.b .nil pass0 (pa_cons (pv 0) (pa_cons (pe_lst (pa_cons (pe_callTy call_list_ofZ (by rfl) li (by decide +kernel) (pa_cons (pv 1) pa_nil)) (pa_cons (pe_turn (pv 1)) (pa_cons pe_non (pa_cons (pe_ix ix_tup (pv 1) pe_int (fun _ _ => rfl)) (pa_cons (pe_op op_catA (pv 1) (pe_tup (pa_cons (pe_tup (pa_cons (pv 5) (pa_cons (pe_tup (pa_cons pe_int (pa_cons pe_int pa_nil))) (pa_cons pe_bl (pa_cons pe_bl pa_nil))))) pa_nil))) pa_nil)))))) pa_nil))))))))))), ?_⟩
    have line : ∀ {G : Hp}, Sipped H G t → TupOf K G r 9 GoodP := fun s => tupOf_sip T0 s ⟨_, _, hr0, al0, l9, ok0⟩
    have atr : ∀ {G : Hp}, Sipped H G t → G r = some (.tup xs) := fun s => s.2 _ _ hr0 fun z => by
      obtain ⟨_, _, _, ht, _⟩ := T0
      rw [z, ht] at hr0
      cases hr0
    have all : ∀ {G : Hp}, Sipped H G t → AnAll K G xs ds := fun s => anAll_sipN T0 s al0 (noLs_iff.mpr fun d m => good_noL (ok0 d m))
    have same : ∀ {G : Hp}, Sipped H G t → ∃ es, An K G (.ref r) (.tuple es) ∧ bentB (.tuple es) = true := fun s => tupOf_b ((line s).imp fun d h => (good_pB h).1) (by decide)
    have len := dpAll_len al0
    refine ⟨_, rfl, t, 7, rfl, T0, by decide, by decide, fun way H1 w0 w1 s1 => ?_⟩
    refine ⟨_, rfl, _, rfl, r, _, rfl, .inr (SqT.of (atr s1)), _, _, rfl, t, _, rfl, s1.1, by split <;> omega, ?_, fun at0 H2 p0 p1 s2 => ?_⟩
    · have e : (2 : Nat) ^ 100 > 1000 := by decide
      split <;> omega
    have S2 := s1.trans s2
    obtain ⟨j, rfl⟩ : ∃ j : Nat, at0 = (j : Int) := ⟨at0.toNat, by omega⟩
    refine ⟨_, _, rfl, nxI ⟨_, rfl, Nat.zero_le _, fun q0 nq0 => ?_⟩⟩
    have f3 := same_put (o := HO.tup []) nq0
    have g3 : upd H2 q0 (HO.tup []) q0 = some (.tup []) := upd_same
    generalize upd H2 q0 (HO.tup []) = H3 at *
    have S3 := S2.trans (Sipped.ofSame S2.1 f3)
    refine ⟨_, _, (An.tup (atr S3) (all S3)).dp (good_flat ok0), .tup (SqT.of g3) .nil, good_shaped ok0, by rfl, _, rfl, ?_⟩
    rw [eqv_nil]
    cases ce : ds.isEmpty with
    | true =>
      obtain ⟨es, an, hb⟩ := same S3
      exact iteT (iteT ⟨_, rfl, k _ _ _ hb an S3⟩)
    | false =>
    refine iteF ⟨_, rfl, _, _, rfl, rfl, _, rfl, ite2 (fun c => ?_) (fun c => ?_)⟩
    · obtain ⟨es, an, hb⟩ := same S3
      exact ⟨_, rfl, k _ _ _ hb an S3⟩
    have pos : 0 < xs.length := by
      rw [len]
      cases ds with
      | nil => cases ce
      | cons _ _ => simp
    have a1 : j < xs.length := by
      split at p1 <;> omega
    have hx : xs[j]? = some xs[j] := List.getElem?_eq_getElem a1
    obtain ⟨d, hd, ad⟩ := anAll_get (all S3) hx
    obtain ⟨p, q, ff, tt, rfl, hp, hq⟩ := ok0 d (List.mem_of_getElem? hd)
    obtain ⟨ap, ys4, ds4, ex, z4, hT4, all4⟩ := ad.isT rfl
    cases z4
    obtain ⟨y1, y2, y3, y4, e1, e2, e3, e4, rfl, z5, ay1, ay2, ay3, ay4⟩ := anAll_four all4 rfl
    cases z5
    cases ay3
    cases ay4
    refine ⟨_, rfl, _, rfl, r, xs, (j : Int), .ref ap, rfl, rfl, SqT.of (atr S3), at_of (j := j) rfl (by rw [hx, ex]), ?_⟩
    refine ⟨ap, _, rfl, SqT.of hT4, rfl, _, _, rfl, _, _, rfl, _, _, rfl, _, _, rfl, rfl, ?_⟩
    unfold tSeq tAsg
    have fm := fm_lst (lastsAll_A) (by rw [List.length_map]; exact (by decide : 6 ≤ 1000)) (FmD.fm (fm_odd1 (K := K) (σ := [some (V.ref t), some (V.ref r), some (V.int way), some (V.int (j : Int)), some y1, some y2, some (V.bl ff), some (V.bl tt), none]) rfl rfl rfl rfl ay1 ay2))
    refine nxI (fm H3 (Same.refl _) _ fun v1 H4 e4 l1 => ?_)
    unfold gName
    obtain ⟨m, vs, rfl, hm, af⟩ := l1
    have al1 : AnAll K H4 vs (odd1 p q ff tt) := allF_A af
    have l1 : vs.length = 6 := (dpAll_len al1).trans (by unfold odd1; rfl)
    have fm2 := fm_lst (lastsAll_A) (by rw [List.length_map]; exact (by decide : 5 ≤ 1000)) (FmD.fm (fm_odd2 (K := K) (σ := [some (V.ref t), some (V.ref r), some (V.int way), some (V.int (j : Int)), some y1, some y2, some (V.bl ff), some (V.bl tt), some (V.ref m)]) rfl rfl rfl rfl (ay1.same e4) (ay2.same e4)))
    refine nxI ⟨_, rfl, fm2 H4 (Same.refl _) _ fun v2 H5 e5 l2 => ?_⟩
    obtain ⟨m2, vs2, rfl, hm2, af2⟩ := l2
    have al2 : AnAll K H5 vs2 (odd2 p q ff tt) := allF_A af2
    have l2 : vs2.length = 5 := (dpAll_len al2).trans (by unfold odd2; rfl)
    refine ⟨m, m2, vs, vs2, rfl, rfl, e5 _ _ hm, hm2, by rw [l1, l2]; show 11 ≤ sizeLine; decide, fun c0 nc0 => ?_⟩
    have S5 := S3.trans (Sipped.ofSame S3.1 (e4.trans e5))
    have mt : c0 ≠ t := S5.1.not nc0
    have f6 := same_put (o := HO.lst (vs ++ vs2)) nc0
    have g6 : upd H5 c0 (HO.lst (vs ++ vs2)) c0 = some (.lst (vs ++ vs2)) := upd_same
    have al : AnAll K (upd H5 c0 (HO.lst (vs ++ vs2))) (vs ++ vs2) (odd1 p q ff tt ++ odd2 p q ff tt) := AnAll.same f6 (anAll_app (AnAll.same e5 al1) al2)
    have lv : (vs ++ vs2).length = 11 := by rw [List.length_append, l1, l2]
    have b1 := (ay2.same (e4.trans e5)).same f6
    generalize upd H5 c0 (HO.lst (vs ++ vs2)) = H6 at *
    generalize vs ++ vs2 = us at *
    have S6 := S5.trans (Sipped.ofSame S5.1 f6)
    have oks := odds_ok (f := ff) (t := tt) hp hq
    have okG : ∀ d, GoodP d → ok1 d := fun d h => (good_pB h).1
    refine nxI ⟨_, rfl, _, _, rfl, rfl, _, rfl, ite2 (fun c1 => ?_) (fun c1 => nxI ⟨_, rfl, rfl, _, rfl, ite2 (fun c2 => ?_) (fun c2 => nxI ?_)⟩)⟩
    · refine ⟨_, rfl, _, rfl, _, rfl, sl_to (atr S6) (all S6) ok0 (cut_to xs j) fun z1 H7 s7 T7 => ?_⟩
      have S7 := S6.trans (Sipped.ofSame S6.1 s7)
      refine ⟨_, rfl, _, rfl, t, c0, us, rfl, S7.1, s7 _ _ g6, mt, by omega, by omega, fun x H8 hx s8 => ?_⟩
      have S8 := S7.trans s8
      obtain ⟨i, hi⟩ := List.getElem?_of_mem hx
      obtain ⟨dx, hdx, anx⟩ := anAll_get (al.same s7) hi
      obtain ⟨g1x, sbx⟩ := oks dx (List.mem_of_getElem? hdx)
      have anx8 := an_sipB S7.1 s8 anx sbx
      refine ⟨(by show 1 ≤ sizeLine; decide), fun pt npt => ?_⟩
      have s9 := same_put (o := HO.tup [x]) npt
      have T9 : TupOf K (upd H8 pt (HO.tup [x])) pt 1 ok1 := ⟨[x], [dx], upd_same, .cons (anx8.same s9) .nil, Nat.le_refl _, fun d m => by rw [List.mem_singleton.mp m]; exact g1x⟩
      refine cat_any (((tupOf_sip S7.1 s8 T7).same s9).imp okG) T9 (by omega) fun z2 H10 s10 T10 => ?_
      have S10 := S8.trans (Sipped.ofSame S8.1 (s9.trans s10))
      refine ⟨_, rfl, _, rfl, _, _, rfl, rfl, _, rfl, np (sl_to (atr S10) (all S10) ok0 (cut_on xs (j + 1)) fun z3 H11 s11 T11 => ?_)⟩
      refine cat_any (T10.same s11) (T11.imp okG) (by omega) fun z4 H12 s12 T12 => ?_
      obtain ⟨es, an, hb⟩ := tupOf_b T12 (by omega)
      exact k _ _ _ hb an (S10.trans (Sipped.ofSame S10.1 (s11.trans s12)))
    · refine ⟨_, rfl, _, rfl, _, rfl, sl_to (atr S6) (all S6) ok0 (cut_to xs j) fun z1 H7 s7 T7 => ?_⟩
      have S7 := S6.trans (Sipped.ofSame S6.1 s7)
      refine ⟨_, rfl, _, rfl, _, rfl, _, rfl, _, _, rfl, rfl, _, rfl, sl_to (atr S7) (all S7) ok0 (cut_one xs j) fun z2 H8 s8 T8 => ?_⟩
      refine cat_any (T7.same s8) T8 (by omega) fun z3 H9 s9 T9 => ?_
      have S9 := S7.trans (Sipped.ofSame S7.1 (s8.trans s9))
      refine ⟨_, rfl, _, rfl, _, rfl, np (sl_to (atr S9) (all S9) ok0 (cut_on xs j) fun z4 H10 s10 T10 => ?_)⟩
      refine cat_any (T9.same s10) T10 (by omega) fun z5 H11 s11 T11 => ?_
      obtain ⟨es, an, hb⟩ := tupOf_b (T11.imp okG) (by omega)
      exact k _ _ _ hb an (S9.trans (Sipped.ofSame S9.1 (s10.trans s11)))
    · refine ⟨_, rfl, _, rfl, r, _, rfl, .inr (SqT.of (atr S6)), fun q1 n1 z1 => ?_⟩
      have s7 := same_put (o := HO.lst xs) n1
      have g7 : upd H6 q1 (HO.lst xs) q1 = some (.lst xs) := upd_same
      generalize upd H6 q1 (HO.lst xs) = H7 at *
      have S7 := S6.trans (Sipped.ofSame S6.1 s7)
      refine ⟨_, rfl, r, _, rfl, SqT.of (atr S7), fun q2 n2 => ?_⟩
      have s8 := same_put (o := HO.tup xs.reverse) n2
      have g8 : upd H7 q2 (HO.tup xs.reverse) q2 = some (.tup xs.reverse) := upd_same
      generalize upd H7 q2 (HO.tup xs.reverse) = H8 at *
      have S8 := S7.trans (Sipped.ofSame S7.1 s8)
      have hx0 : xs[0]? = some xs[0] := List.getElem?_eq_getElem pos
      refine ⟨_, rfl, r, _, 0, xs[0], rfl, rfl, SqT.of (atr S8), at_of (j := 0) rfl hx0, ?_⟩
      refine ⟨_, rfl, _, rfl, (by show 2 ≤ sizeLine; decide), fun q3 n3 => ⟨(by show 4 ≤ sizeLine; decide), fun q4 n4 => ⟨(by show 1 ≤ sizeLine; decide), fun q5 n5 => ?_⟩⟩⟩
      have s9 := same_put (o := HO.tup [V.int 1, V.int 1]) n3
      have g9 : upd H8 q3 (HO.tup [V.int 1, V.int 1]) q3 = some (.tup [V.int 1, V.int 1]) := upd_same
      generalize upd H8 q3 (HO.tup [V.int 1, V.int 1]) = H9 at *
      have s10 := same_put (o := HO.tup [y2, V.ref q3, V.bl true, V.bl false]) n4
      have g10 : upd H9 q4 (HO.tup [y2, V.ref q3, V.bl true, V.bl false]) q4 = some (.tup [y2, V.ref q3, V.bl true, V.bl false]) := upd_same
      have g9 := s10 _ _ g9
      generalize upd H9 q4 (HO.tup [y2, V.ref q3, V.bl true, V.bl false]) = H10 at *
      have s11 := same_put (o := HO.tup [V.ref q4]) n5
      have g11 : upd H10 q5 (HO.tup [V.ref q4]) q5 = some (.tup [V.ref q4]) := upd_same
      have g9 := s11 _ _ g9
      have g10 := s11 _ _ g10
      generalize upd H10 q5 (HO.tup [V.ref q4]) = H11 at *
      have E11 := ((s7.trans s8).trans (s9.trans s10)).trans s11
      have S11 := S8.trans (Sipped.ofSame S8.1 ((s9.trans s10).trans s11))
      have gq : GoodP (.tuple [frD q, frD (1, 1), .bool true, .bool false]) := ⟨_, _, _, _, rfl, hq, ⟨by decide, by decide, by decide, by decide⟩⟩
      have T11 : TupOf K H11 q5 1 GoodP := ⟨[.ref q4], [.tuple [frD q, frD (1, 1), .bool true, .bool false]], g11, .cons (.tup g10 (.cons (b1.same E11) (.cons (.tup g9 (.cons (.int _) (.cons (.int _) .nil))) (.cons (.bl _) (.cons (.bl _) .nil))))) .nil, Nat.le_refl _, fun d m => by rw [List.mem_singleton.mp m]; exact gq⟩
      refine cat_any (line S11) T11 (by decide) fun q6 H12 s12 T12 => ?_
      refine ⟨(by show 5 ≤ sizeLine; decide), fun m0 hm0 => ?_⟩
      have s13 := same_put (o := HO.lst [V.ref q1, V.ref q2, V.non, xs[0], V.ref q6]) hm0
      have g13 : upd H12 m0 (HO.lst [V.ref q1, V.ref q2, V.non, xs[0], V.ref q6]) m0 = some (.lst [V.ref q1, V.ref q2, V.non, xs[0], V.ref q6]) := upd_same
      have S12 := S11.trans (Sipped.ofSame S11.1 s12)
      have mt0 : m0 ≠ t := S12.1.not hm0
      generalize upd H12 m0 (HO.lst [V.ref q1, V.ref q2, V.non, xs[0], V.ref q6]) = H13 at *
      have S13 := S12.trans (Sipped.ofSame S12.1 s13)
      have E13 : Same H7 H13 := ((s8.trans (s9.trans s10)).trans s11).trans (s12.trans s13)
      have E8 : Same H8 H13 := ((s9.trans s10).trans s11).trans (s12.trans s13)
      refine ⟨t, m0, _, rfl, S13.1, g13, mt0, by show 0 < 5; decide, by show 5 ≤ 1000; decide, fun x H14 hx14 s14 => ?_⟩
      have S14 := S13.trans s14
      have nol : noLs ds = true := noLs_iff.mpr fun d m => good_noL (ok0 d m)
      obtain ⟨dx, anx, bx, sx⟩ : ∃ dx, An K H13 x dx ∧ bentB dx = true ∧ sipB dx = true := by
        simp only [List.mem_cons, List.mem_nil_iff, or_false] at hx14
        rcases hx14 with rfl | rfl | rfl | rfl | rfl
        · refine ⟨.list ds, .lst (E13 _ _ g7) z1 (all S13), ?_, ?_⟩
          · show (decide (ds.length ≤ 10) && ds.all (fun d => isTupB d && pB d)) = true
            rw [Bool.and_eq_true]
            exact ⟨decide_eq_true (by omega), List.all_eq_true.mpr fun d m => by rw [(good_pB (ok0 d m)).1, (good_pB (ok0 d m)).2]; rfl⟩
          · show ((ds.length != 3 || ds.all isTupB) && noLs ds) = true
            have z : ds.all isTupB = true := List.all_eq_true.mpr fun d m => (good_pB (ok0 d m)).2
            rw [z, Bool.or_true, Bool.true_and]
            exact nol
        · refine ⟨.tuple ds.reverse, .tup (E8 _ _ g8) (anAll_rev (all S13)), ?_, noLs_iff.mpr fun d m => good_noL (ok0 d (List.mem_reverse.mp m))⟩
          show (decide (ds.reverse.length ≤ 10) && ds.reverse.all pB) = true
          rw [Bool.and_eq_true]
          exact ⟨decide_eq_true (by rw [List.length_reverse]; omega), List.all_eq_true.mpr fun d m => (good_pB (ok0 d (List.mem_reverse.mp m))).1⟩
        · exact ⟨.none, .non, rfl, rfl⟩
        · obtain ⟨d0, hd0, ad0⟩ := anAll_get (all S13) hx0
          have go := ok0 d0 (List.mem_of_getElem? hd0)
          refine ⟨d0, ad0, good_bent go, ?_⟩
          obtain ⟨_, _, _, _, rfl, _, _⟩ := go
          rfl
        · obtain ⟨ys, es, h1, h2, h3, h4⟩ := T12.same s13
          refine ⟨.tuple es, .tup h1 h2, ?_, noLs_iff.mpr fun d m => good_noL (h4 d m)⟩
          show (decide (es.length ≤ 10) && es.all pB) = true
          rw [Bool.and_eq_true]
          exact ⟨decide_eq_true (by omega), List.all_eq_true.mpr fun d m => (good_pB (h4 d m)).1⟩
      exact k _ _ _ bx (an_sipB S13.1 s14 anx sx) S14
end
end My
set_option Elab.async false
set_option linter.all false
/-! how much of the rim a lot covers: sums in lowest terms, and not -/
namespace Mt
/-- a sum of two fractions, as it comes -/
def addF (w x : Int × Int) : Int × Int := (w.1 * x.2 + x.1 * w.2, w.2 * x.2)
/-- in lowest terms -/
def addL (w x : Int × Int) : Int × Int := lowQ (addF w x).1 (addF w x).2
/-- in lowest terms, from 0 on, the bottom a part of L -/
structure Red (L : Int) (w : Int × Int) : Prop where
  n0 : 0 ≤ w.1
  d0 : 0 < w.2
  co : Int.gcd w.1 w.2 = 1
  dv : w.2 ∣ L
theorem cancel {a b c : Int} (c0 : 0 < c) (h : c * a = c * b) : a = b := Int.eq_of_mul_eq_mul_left (by omega) h
theorem addL_eq {w x : Int × Int} (hw : 0 < w.2) (hx : 0 < x.2) : 0 < (addL w x).2 ∧ Int.gcd (addL w x).1 (addL w x).2 = 1 ∧ (addL w x).1 * (w.2 * x.2) = (w.1 * x.2 + x.1 * w.2) * (addL w x).2 := by
  have b0 : 0 < w.2 * x.2 := Int.mul_pos hw hx
  obtain ⟨g, g0, e1, e2, d0, co⟩ := lowQ_ex (a := w.1 * x.2 + x.1 * w.2) b0
  refine ⟨d0, co, ?_⟩
  show (lowQ (w.1 * x.2 + x.1 * w.2) (w.2 * x.2)).1 * (w.2 * x.2) = (w.1 * x.2 + x.1 * w.2) * (lowQ (w.1 * x.2 + x.1 * w.2) (w.2 * x.2)).2
  generalize lowQ (w.1 * x.2 + x.1 * w.2) (w.2 * x.2) = q at *
  rw [e1, e2, Int.mul_comm q.2 g, ← Int.mul_assoc]
theorem addL_red {L : Int} {w x : Int × Int} (hw : 0 < w.2) (hx : 0 < x.2) (dw : w.2 ∣ L) (dx : x.2 ∣ L) (n : 0 ≤ w.1 * x.2 + x.1 * w.2) : Red L (addL w x) := by
  obtain ⟨d0, co, e⟩ := addL_eq hw hx
  have b0 : 0 < w.2 * x.2 := Int.mul_pos hw hx
  generalize addL w x = q at *
  refine ⟨?_, d0, co, ?_⟩
  · have h : 0 ≤ q.1 * (w.2 * x.2) := by rw [e]; exact Int.mul_nonneg n (by omega)
    exact Int.nonneg_of_mul_nonneg_left h b0
  · obtain ⟨u, hu⟩ := dw
    obtain ⟨v, hv⟩ := dx
    have k : (w.2 * x.2) * (q.1 * L) = (w.2 * x.2) * ((w.1 * u + x.1 * v) * q.2) := by
      have k1 : (w.2 * x.2) * (q.1 * L) = (q.1 * (w.2 * x.2)) * L := by simp only [Int.mul_assoc, Int.mul_comm, Int.mul_left_comm]
      rw [k1, e]
      have k2 : (w.1 * x.2 + x.1 * w.2) * q.2 * L = (w.1 * (x.2 * L) + x.1 * (w.2 * L)) * q.2 := by
        simp only [Int.add_mul, Int.mul_add, Int.mul_assoc, Int.mul_comm, Int.mul_left_comm]
      rw [k2]
      have k3 : x.2 * L = (w.2 * x.2) * u := by rw [hu]; simp only [Int.mul_assoc, Int.mul_comm, Int.mul_left_comm]
      have k4 : w.2 * L = (w.2 * x.2) * v := by rw [hv]; simp only [Int.mul_assoc, Int.mul_comm, Int.mul_left_comm]
      rw [k3, k4]
      simp only [Int.add_mul, Int.mul_add, Int.mul_assoc, Int.mul_comm, Int.mul_left_comm]
    have k := cancel b0 k
    exact Cut.dvd_co (a := q.2) (b := q.1) (c := L) (by rw [Int.gcd_comm]; exact co) ⟨w.1 * u + x.1 * v, by rw [k, Int.mul_comm]⟩
/-- the same sum -/
theorem addL_cross {w x T : Int × Int} (hw : 0 < w.2) (hx : 0 < x.2) (e : w.1 * T.2 = T.1 * w.2) : (addL w x).1 * (addF T x).2 = (addF T x).1 * (addL w x).2 := by
  obtain ⟨d0, co, e1⟩ := addL_eq hw hx
  generalize addL w x = q at *
  show q.1 * (T.2 * x.2) = (T.1 * x.2 + x.1 * T.2) * q.2
  refine cancel hw ?_
  have k1 : w.2 * (q.1 * (T.2 * x.2)) = (q.1 * (w.2 * x.2)) * T.2 := by simp only [Int.mul_assoc, Int.mul_comm, Int.mul_left_comm]
  rw [k1, e1]
  have k2 : (w.1 * x.2 + x.1 * w.2) * q.2 * T.2 = ((w.1 * T.2) * x.2 + x.1 * w.2 * T.2) * q.2 := by simp only [Int.add_mul, Int.mul_add, Int.mul_assoc, Int.mul_comm, Int.mul_left_comm]
  rw [k2, e]
  simp only [Int.add_mul, Int.mul_add, Int.mul_assoc, Int.mul_comm, Int.mul_left_comm]
def fr (c : Cut) : Int × Int := (c.n, c.d)
def neg (c : Cut) : Int × Int := (-c.n, c.d)
/-- the sum of the lengths, in lowest terms all along -/
def wid : List Cut → Int × Int → Int × Int
  | c :: e :: r, w => wid r (addL (addL w (fr e)) (neg c))
  | _, w => w
/-- and at the end alone -/
def widF : List Cut → Int × Int → Int × Int
  | c :: e :: r, w => widF r (addF (addF w (fr e)) (neg c))
  | _, w => w
/-- a piece's ends in their order, with bottoms out of L -/
def Pcs (L : Int) : List Cut → Prop
  | c :: e :: r => (0 < c.d ∧ 0 < e.d ∧ 0 ≤ e.n ∧ c.d ∣ L ∧ e.d ∣ L ∧ c.n * e.d ≤ e.n * c.d) ∧ Pcs L r
  | _ => True
theorem step_red {L : Int} {w : Int × Int} {c e : Cut} (R : Red L w) (c0 : 0 < c.d) (e0 : 0 < e.d) (n0 : 0 ≤ e.n) (dc : c.d ∣ L) (de : e.d ∣ L) (le : c.n * e.d ≤ e.n * c.d) : Red L (addL w (fr e)) ∧ Red L (addL (addL w (fr e)) (neg c)) := by
  have a1 : 0 ≤ w.1 * e.d := Int.mul_nonneg R.n0 (by omega)
  have a2 : 0 ≤ e.n * w.2 := Int.mul_nonneg n0 (by have := R.d0; omega)
  have R1 : Red L (addL w (fr e)) := addL_red R.d0 e0 R.dv de (by show 0 ≤ w.1 * e.d + e.n * w.2; omega)
  refine ⟨R1, addL_red R1.d0 c0 R1.dv dc ?_⟩
  obtain ⟨_, _, e1⟩ := addL_eq (w := w) (x := fr e) R.d0 e0
  have d1 := R1.d0
  generalize addL w (fr e) = q at *
  have e1 : q.1 * (w.2 * e.d) = (w.1 * e.d + e.n * w.2) * q.2 := e1
  show 0 ≤ q.1 * c.d + -c.n * q.2
  -- q.1 * e.d is no less than e.n * q.2
  have b1 : w.2 * (e.n * q.2) ≤ w.2 * (q.1 * e.d) := by
    have k1 : w.2 * (q.1 * e.d) = q.1 * (w.2 * e.d) := by simp only [Int.mul_assoc, Int.mul_comm, Int.mul_left_comm]
    have k2 : (w.1 * e.d + e.n * w.2) * q.2 = w.1 * e.d * q.2 + w.2 * (e.n * q.2) := by rw [Int.add_mul]; congr 1; simp only [Int.mul_assoc, Int.mul_comm, Int.mul_left_comm]
    have k3 : 0 ≤ w.1 * e.d * q.2 := Int.mul_nonneg a1 (by omega)
    rw [k1, e1, k2]
    omega
  have b2 : e.n * q.2 ≤ q.1 * e.d := Int.le_of_mul_le_mul_left b1 R.d0
  have b3 : e.d * (c.n * q.2) ≤ e.d * (q.1 * c.d) := by
    have k1 : e.d * (c.n * q.2) = (c.n * e.d) * q.2 := by simp only [Int.mul_assoc, Int.mul_comm, Int.mul_left_comm]
    have k2 : e.d * (q.1 * c.d) = (q.1 * e.d) * c.d := by simp only [Int.mul_assoc, Int.mul_comm, Int.mul_left_comm]
    have k3 : (c.n * e.d) * q.2 ≤ (e.n * c.d) * q.2 := Int.mul_le_mul_of_nonneg_right le (by omega)
    have k4 : (e.n * q.2) * c.d ≤ (q.1 * e.d) * c.d := Int.mul_le_mul_of_nonneg_right b2 (by omega)
    have k5 : (e.n * c.d) * q.2 = (e.n * q.2) * c.d := by simp only [Int.mul_assoc, Int.mul_comm, Int.mul_left_comm]
    rw [k1, k2]
    omega
  have b4 : c.n * q.2 ≤ q.1 * c.d := Int.le_of_mul_le_mul_left b3 e0
  rw [Int.neg_mul]
  omega
theorem wid_red {L : Int} : ∀ {cs : List Cut} {w T : Int × Int}, Pcs L cs → Red L w → 0 < T.2 → w.1 * T.2 = T.1 * w.2 → Red L (wid cs w) ∧ 0 < (widF cs T).2 ∧ (wid cs w).1 * (widF cs T).2 = (widF cs T).1 * (wid cs w).2
  | [], w, T, _, R, t0, e => ⟨R, t0, e⟩
  | [_], w, T, _, R, t0, e => ⟨R, t0, e⟩
  | c :: g :: r, w, T, h, R, t0, e => by
    obtain ⟨⟨c0, g0, n0, dc, dg, le⟩, hr⟩ := h
    obtain ⟨R1, R2⟩ := step_red R c0 g0 n0 dc dg le
    have t1 : 0 < (addF T (fr g)).2 := Int.mul_pos t0 g0
    have t2 : 0 < (addF (addF T (fr g)) (neg c)).2 := Int.mul_pos t1 c0
    have e1 := addL_cross (x := fr g) R.d0 g0 e
    have e2 := addL_cross (x := neg c) R1.d0 c0 e1
    have z := wid_red hr R2 t2 e2
    exact z
/-- both come to the same -/
theorem wid_eq {L : Int} {cs : List Cut} (h : Pcs L cs) (L0 : (1 : Int) ∣ L) : Red L (wid cs (0, 1)) ∧ 0 < (widF cs (0, 1)).2 ∧ lowQ (widF cs (0, 1)).1 (widF cs (0, 1)).2 = wid cs (0, 1) := by
  obtain ⟨R, t0, e⟩ := wid_red (w := (0, 1)) (T := (0, 1)) h ⟨by decide, by decide, by decide, L0⟩ (by decide) rfl
  refine ⟨R, t0, ?_⟩
  obtain ⟨g, g0, e1, e2, b0, co⟩ := lowQ_ex (a := (widF cs (0, 1)).1) t0
  generalize lowQ (widF cs (0, 1)).1 (widF cs (0, 1)).2 = q at *
  generalize wid cs (0, 1) = w at *
  rw [e1, e2] at e
  have e3 : g * (q.1 * w.2) = g * (w.1 * q.2) := by
    have k1 : g * (q.1 * w.2) = q.1 * g * w.2 := by simp only [Int.mul_assoc, Int.mul_comm, Int.mul_left_comm]
    have k2 : g * (w.1 * q.2) = w.1 * (q.2 * g) := by simp only [Int.mul_assoc, Int.mul_comm, Int.mul_left_comm]
    rw [k1, k2, e]
  obtain ⟨h1, h2⟩ := Cut.cross b0 R.d0 co R.co (cancel g0 e3)
  exact Prod.ext h1 h2
end Mt
set_option Elab.async false
set_option linter.all false
set_option maxRecDepth 100000
set_option maxHeartbeats 8000000
set_option exponentiation.threshold 4000
namespace My
open PySem PySem.Spec PyProof.Rows L2 Gn Mt
abbrev s__law_width : Stmt := top 59
theorem sc__law_width : FnScope ["_law_rows_here", "_law_top", "_law_bottom", "_law_low_here", "_law_high", "_law_first", "_law_last", "_law_part_here"] ["_law_rows_here"] (defScope s__law_width) := ⟨rfl, rfl, rfl, by decide +kernel, rfl, by decide +kernel, by decide +kernel⟩
section
variable {K : PySem.W.Frag} {H : Hp}
theorem dps_get : ∀ {xs : List V} {ds : List PyData}, DpAll K H xs ds → ∀ {i : Nat} {x : V}, xs[i]? = some x → ∃ d, ds[i]? = some d ∧ Dp K H x d
  | _, _, .nil, i, x, h => by simp at h
  | _, _, .cons a b, 0, x, h => by cases h; exact ⟨_, rfl, a⟩
  | _, _, .cons a b, i + 1, x, h => dps_get b h
theorem dps_at : ∀ {xs : List V} {ds : List PyData}, DpAll K H xs ds → ∀ {i : Nat} {d : PyData}, ds[i]? = some d → ∃ x, xs[i]? = some x ∧ Dp K H x d
  | _, _, .nil, i, x, h => by simp at h
  | _, _, .cons a b, 0, x, h => by cases h; exact ⟨_, rfl, a⟩
  | _, _, .cons a b, i + 1, x, h => dps_at b h
theorem dps_len : ∀ {xs : List V} {ds : List PyData}, DpAll K H xs ds → xs.length = ds.length
  | _, _, .nil => rfl
  | _, _, .cons _ b => congrArg Nat.succ (dps_len b)
theorem dps_snoc : ∀ {xs : List V} {ds : List PyData} {x : V} {d : PyData}, DpAll K H xs ds → Dp K H x d → DpAll K H (xs ++ [x]) (ds ++ [d])
  | _, _, _, _, .nil, h => .cons h .nil
  | _, _, _, _, .cons a b, h => .cons a (dps_snoc b h)
theorem tup_inv {v : V} {ds : List PyData} (h : Dp K H v (.tuple ds)) : ∃ a xs, v = .ref a ∧ SqT K H a xs ∧ DpAll K H xs ds := by
  cases h with
  | tup a b => exact ⟨_, _, rfl, a, b⟩
theorem lst_inv {v : V} {ds : List PyData} (h : Dp K H v (.list ds)) : ∃ a xs, v = .ref a ∧ SqL K H a xs ∧ DpAll K H xs ds := by
  cases h with
  | lst a b => exact ⟨_, _, rfl, a, b⟩
end
theorem pcs_get : ∀ {cs : List Cut} {i : Nat} {d : PyData}, (pcsD cs)[i]? = some d → ∃ c e, cs[2 * i]? = some c ∧ cs[2 * i + 1]? = some e ∧ d = pcD c e
  | c :: e :: r, 0, d, h => ⟨c, e, rfl, rfl, (Option.some.inj h).symm⟩
  | c :: e :: r, i + 1, d, h => by
    obtain ⟨a, b, h1, h2, h3⟩ := pcs_get (cs := r) (i := i) h
    refine ⟨a, b, ?_, ?_, h3⟩
    · rw [show 2 * (i + 1) = 2 * i + 1 + 1 by omega]; exact h1
    · rw [show 2 * (i + 1) + 1 = 2 * i + 1 + 1 + 1 by omega]; exact h2
  | [], i, d, h => by simp [pcsD] at h
  | [c], i, d, h => by simp [pcsD] at h
theorem pcs_noL : ∀ {cs : List Cut} {d : PyData}, d ∈ pcsD cs → noL d = true
  | c :: e :: r, d, h => by
    rcases List.mem_cons.mp h with rfl | h
    · rfl
    · exact pcs_noL (cs := r) h
  | [], _, h => nomatch h
  | [_], _, h => nomatch h
theorem pcs_len : ∀ {cs : List Cut}, odd cs.length = false → 2 * (pcsD cs).length = cs.length
  | [], _ => rfl
  | [c], h => by simp [odd] at h
  | c :: e :: r, h => by
    have := pcs_len (cs := r) (by simpa [odd] using h)
    show 2 * ((pcsD r).length + 1) = r.length + 1 + 1
    omega
theorem pcs_at {cs : List Cut} (h : odd cs.length = false) {i : Nat} (hi : i < (pcsD cs).length) : ∃ c e, cs[2 * i]? = some c ∧ cs[2 * i + 1]? = some e ∧ (pcsD cs)[i]? = some (pcD c e) := by
  obtain ⟨c, e, h1, h2, h3⟩ := pcs_get (List.getElem?_eq_getElem hi)
  exact ⟨c, e, h1, h2, by rw [← h3]; exact List.getElem?_eq_getElem hi⟩
theorem asc_at {cs : List Cut} (h : Asc cs) {i j : Nat} {c e : Cut} (hc : cs[i]? = some c) (he : cs[j]? = some e) (lt : i < j) : c.lt e = true := by
  obtain ⟨li, rfl⟩ := List.getElem?_eq_some_iff.mp hc
  obtain ⟨lj, rfl⟩ := List.getElem?_eq_some_iff.mp he
  exact List.pairwise_iff_getElem.mp h i j li lj lt
theorem evens_at {α : Type} : ∀ (l : List α) (i : Nat), (evens l)[i]? = l[2 * i]?
  | [], i => by simp [evens]
  | [a], 0 => rfl
  | [a], i + 1 => by simp [evens]
  | a :: b :: r, 0 => rfl
  | a :: b :: r, i + 1 => by
    rw [show 2 * (i + 1) = 2 * i + 1 + 1 by omega]
    exact evens_at r i
theorem evens_both {α : Type} : ∀ (l : List α), odd l.length = false → 2 * (evens l).length = l.length ∧ 2 * (evens (l.drop 1)).length = l.length
  | [], _ => ⟨rfl, rfl⟩
  | [a], h => by simp [odd] at h
  | [a, b], _ => ⟨rfl, rfl⟩
  | [a, b, c], h => by simp [odd] at h
  | a :: b :: c :: d :: r, h => by
    obtain ⟨h1, h2⟩ := evens_both (c :: d :: r) (by simpa [odd] using h)
    refine ⟨?_, ?_⟩
    · show 2 * ((evens (c :: d :: r)).length + 1) = (c :: d :: r).length + 1 + 1
      omega
    · show 2 * ((evens ((c :: d :: r).drop 1)).length + 1) = (c :: d :: r).length + 1 + 1
      omega
/-! how much of the rim right pieces cover -/
/-- all cuts at small fractions -/
def SmlC (cs : List Cut) : Prop := ∀ c ∈ cs, Sml (c.n, c.d)
theorem widF_step (T : Int × Int) (c e : Cut) : addF (addF T (fr e)) (neg c) = (T.1 * e.d * c.d + (e.n * c.d - c.n * e.d) * T.2, T.2 * e.d * c.d) := by
  show ((T.1 * e.d + e.n * T.2) * c.d + -c.n * (T.2 * e.d), T.2 * e.d * c.d) = _
  refine Prod.ext ?_ rfl
  show (T.1 * e.d + e.n * T.2) * c.d + -c.n * (T.2 * e.d) = T.1 * e.d * c.d + (e.n * c.d - c.n * e.d) * T.2
  have k1 : (T.1 * e.d + e.n * T.2) * c.d = T.1 * e.d * c.d + e.n * T.2 * c.d := Int.add_mul ..
  have k2 : (e.n * c.d - c.n * e.d) * T.2 = e.n * c.d * T.2 - c.n * e.d * T.2 := Int.sub_mul ..
  have k3 : e.n * T.2 * c.d = e.n * c.d * T.2 := by simp only [Int.mul_assoc, Int.mul_comm, Int.mul_left_comm]
  have k4 : -c.n * (T.2 * e.d) = -(c.n * e.d * T.2) := by rw [Int.neg_mul]; congr 1; simp only [Int.mul_assoc, Int.mul_comm, Int.mul_left_comm]
  rw [k1, k2, k3, k4]
  omega
theorem lt_le {c e : Cut} (h : c.lt e = true) : c.n * e.d ≤ e.n * c.d := by
  unfold Cut.lt at h
  split at h
  · rename_i z
    rw [z.1, z.2]
    exact Int.le_refl _
  · exact Int.le_of_lt (of_decide_eq_true h)
theorem drop_two {cs : List Cut} {i : Nat} {c e : Cut} (hc : cs[2 * i]? = some c) (he : cs[2 * i + 1]? = some e) : cs.drop (2 * i) = c :: e :: cs.drop (2 * (i + 1)) := by
  have l1 := List.getElem?_eq_some_iff.mp hc
  have l2 := List.getElem?_eq_some_iff.mp he
  rw [← l1.2, ← l2.2, show 2 * (i + 1) = 2 * i + 1 + 1 by omega, List.getElem_cons_drop, List.getElem_cons_drop]
def spLWid (K : PySem.W.Frag) : Sp := fun vs H Q _ => ∃ (v : V) (cs : List Cut), vs = [v] ∧ Dp K H v (.tuple (pcsD cs)) ∧ Lt cs ∧ SmlC cs ∧ cs.length ≤ 20 ∧ ∀ r H', Same H H' → H' r = some (.tup [.int (lowQ (widF cs (0, 1)).1 (widF cs (0, 1)).2).1, .int (lowQ (widF cs (0, 1)).1 (widF cs (0, 1)).2).2]) → Q (.ref r) H'
section
variable {P : Program} {w : World} {K : PySem.W.Frag} {mg : Str → Option Value} {base : Heap}
theorem ok_lwidth {f fL fG : Addr} {fd fdL fdG : FuncData} (F : Fun K "_law_width" "_law_width" s__law_width f fd) (B : Bl mg) (Lo : Df K mg "_law_low" sLow ["_law_top", "_law_bottom"] fL fdL) (Gc : Df K mg "_law_gcd" sGcd ["_law_one", "_law_two"] fG fdG) : FnOk P w K mg base CX0 3 f fd ["_law_rows_here"] (spLWid K) := by
  have LL : FnOk P w K mg base CX0 2 fL fdL ["_law_top", "_law_bottom"] spLow := ok_low Lo.F B Gc
  refine F.ok sc__law_width (fun vs H Q E h => ?_) (fun cdv A outer s H vs Q E hr h => ?_)
  · obtain ⟨v, cs, rfl, _⟩ := h
    rfl
  · obtain ⟨v, cs, rfl, hv, L, sm, few, k⟩ := h
    obtain ⟨a, xs, rfl, ha, hx⟩ := tup_inv hv
    have lx := dps_len hx
    have l2 := pcs_len L.e
    refine ⟨_, pss_cons (ps_asg (pe_tup (pa_cons pe_int (pa_cons pe_int pa_nil))) (pg_tup (by rfl) (pgs_cons (pg_name (i := 1) sc__law_width.nd rfl (.inl rfl)) (pgs_cons (pg_name (i := 2) sc__law_width.nd rfl (.inl rfl)) pgs_nil)))) (pss_cons (ps_for PassesOwn.never rfl (pi_tup (pv 0)) (pg_tup (by rfl) (pgs_cons (pg_name (i := 3) sc__law_width.nd rfl (.inl rfl)) (pgs_cons (pg_name (i := 4) sc__law_width.nd rfl (.inl rfl)) (pgs_cons (pg_name (i := 5) sc__law_width.nd rfl (.inl rfl)) (pgs_cons (pg_name (i := 6) sc__law_width.nd rfl (.inl rfl)) pgs_nil))))) (pss_cons (ps_set (i := 7) sc__law_width.nd rfl (.inl rfl) (pe_op op_sub (pe_op op_mul (pe_ix ix_tup (pv 4) pe_int (fun _ _ => rfl)) (pe_ix ix_tup (pv 3) pe_int (fun _ _ => rfl))) (pe_op op_mul (pe_ix ix_tup (pv 3) pe_int (fun _ _ => rfl)) (pe_ix ix_tup (pv 4) pe_int (fun _ _ => rfl))))) (pss_one (ps_par (i := 1) (j := 2) (by rfl) sc__law_width.nd rfl rfl (by decide) rfl rfl (pa_cons (pe_op op_add (pe_op op_mul (pe_op op_mul (pv 1) (pe_ix ix_tup (pv 4) pe_int (fun _ _ => rfl))) (pe_ix ix_tup (pv 3) pe_int (fun _ _ => rfl))) (pe_op op_mul (pv 7) (pv 2))) (pa_cons (pe_op op_mul (pe_op op_mul (pv 2) (pe_ix ix_tup (pv 4) pe_int (fun _ _ => rfl))) (pe_ix ix_tup (pv 3) pe_int (fun _ _ => rfl))) pa_nil)) (by rfl))))) (pss_one (ps_ret (pe_call LL hr (by rfl) Lo.g Lo.F.kp Lo.b .nil pass0 (pa_cons (pv 1) (pa_cons (pv 2) pa_nil)))))), ?_⟩
    refine ⟨(by show 2 ≤ sizeLine; decide), fun q0 n0 => ?_⟩
    have s0 := same_put (o := HO.tup [V.int 0, V.int 1]) n0
    have g0 : upd H q0 (HO.tup [V.int 0, V.int 1]) q0 = some (.tup [V.int 0, V.int 1]) := upd_same
    generalize upd H q0 (HO.tup [V.int 0, V.int 1]) = H0 at *
    have ha := sqT_same s0 ha
    have hx := dps_same s0 _ _ hx
    refine ⟨q0, _, rfl, SqT.of g0, rfl, _, _, rfl, _, _, rfl, rfl, ?_⟩
    refine nxI ⟨_, rfl, a, rfl, ⟨_, ha⟩, for_tup (K := K) (a := a) (xs := xs) (fun i σ H' => ∃ (T : Int × Int) (p3 p4 p5 p6 p7 : Option V), σ = [some (.ref a), some (.int T.1), some (.int T.2), p3, p4, p5, p6, p7] ∧ H' = H0 ∧ widF (cs.drop (2 * i)) T = widF cs (0, 1) ∧ 0 < T.2 ∧ T.2 ≤ 576 ^ i ∧ 0 ≤ T.1) ⟨(0, 1), none, none, none, none, none, rfl, rfl, rfl, by decide, by decide, by decide⟩ (fun i σ H' _ ⟨_, _, _, _, _, _, _, e, _⟩ => by rw [e]; exact ha) ?_ ?_⟩
    · rintro i x σ H1 hi ⟨T, p3, p4, p5, p6, p7, rfl, rfl, wd, t0, tb, tn⟩
      obtain ⟨d, hd, dx⟩ := dps_get hx hi
      obtain ⟨c, e, hc, he, rfl⟩ := pcs_get hd
      obtain ⟨t, lo, hg, rfl, ht, dl, dh⟩ := pc_inv dx
      obtain ⟨al, rfl, hal⟩ := fr_inv dl
      obtain ⟨ah, rfl, hah⟩ := fr_inv dh
      have sc := sm c (List.mem_of_getElem? hc)
      have se := sm e (List.mem_of_getElem? he)
      have lt := asc_at L.a hc he (by omega)
      have c1 := sc.n0; have c2 := sc.le; have c3 := sc.d1; have c4 := sc.d24
      have d1 := se.n0; have d2 := se.le; have d3 := se.d1; have d4 := se.d24
      dsimp only at c1 c2 c3 c4 d1 d2 d3 d4
      have m1 : e.n * c.d ≤ 24 * 24 := Int.mul_le_mul (by omega) (by omega) (by omega) (by omega)
      have m2 : c.n * e.d ≤ 24 * 24 := Int.mul_le_mul (by omega) (by omega) (by omega) (by omega)
      have m3 : 0 ≤ e.n * c.d := Int.mul_nonneg d1 (by omega)
      have m4 : 0 ≤ c.n * e.d := Int.mul_nonneg c1 (by omega)
      have le : c.n * e.d ≤ e.n * c.d := lt_le lt
      have cm : ∀ {x y : Int}, 0 ≤ y → y ≤ 24 → CMul x y := fun h1 h2 => .inr ⟨by omega, by omega⟩
      refine ⟨t, _, rfl, ht, rfl, _, _, rfl, _, _, rfl, _, _, rfl, _, _, rfl, rfl, ?_⟩
      refine ⟨_, rfl, ah, _, 0, .int e.n, rfl, rfl, hah, at_of (j := 0) rfl rfl, _, rfl, al, _, 1, .int c.d, rfl, rfl, hal, at_of (j := 1) rfl rfl, _, _, rfl, rfl, cm (by omega) c4, ?_⟩
      refine ⟨_, rfl, al, _, 0, .int c.n, rfl, rfl, hal, at_of (j := 0) rfl rfl, _, rfl, ah, _, 1, .int e.d, rfl, rfl, hah, at_of (j := 1) rfl rfl, _, _, rfl, rfl, cm (by omega) d4, _, _, rfl, rfl, nxI ?_⟩
      refine ⟨_, rfl, _, rfl, ah, _, 1, .int e.d, rfl, rfl, hah, at_of (j := 1) rfl rfl, _, _, rfl, rfl, cm (by omega) d4, ?_⟩
      refine ⟨_, rfl, al, _, 1, .int c.d, rfl, rfl, hal, at_of (j := 1) rfl rfl, _, _, rfl, rfl, cm (by omega) c4, ?_⟩
      refine ⟨_, rfl, _, rfl, _, _, rfl, rfl, .inl ⟨by omega, by omega⟩, _, _, rfl, rfl, ?_⟩
      refine ⟨_, rfl, _, rfl, ah, _, 1, .int e.d, rfl, rfl, hah, at_of (j := 1) rfl rfl, _, _, rfl, rfl, cm (by omega) d4, ?_⟩
      refine ⟨_, rfl, al, _, 1, .int c.d, rfl, rfl, hal, at_of (j := 1) rfl rfl, _, _, rfl, rfl, cm (by omega) c4, _, _, rfl, nxI ?_⟩
      rw [drop_two hc he] at wd
      have wd : widF (cs.drop (2 * (i + 1))) (addF (addF T (fr e)) (neg c)) = widF cs (0, 1) := wd
      rw [widF_step] at wd
      have p1 : 0 < T.2 * e.d := Int.mul_pos t0 (by omega)
      refine ⟨(T.1 * e.d * c.d + (e.n * c.d - c.n * e.d) * T.2, T.2 * e.d * c.d), _, _, _, _, _, rfl, rfl, wd, Int.mul_pos p1 (by omega), ?_, ?_⟩
      · show T.2 * e.d * c.d ≤ 576 ^ (i + 1)
        have q0 : (0 : Int) ≤ 576 ^ i := by omega
        have q1 : T.2 * e.d ≤ 576 ^ i * 24 := Int.mul_le_mul tb d4 (by omega) q0
        have q2 : T.2 * e.d * c.d ≤ 576 ^ i * 24 * 24 := Int.mul_le_mul q1 c4 (by omega) (by omega)
        rw [Int.pow_succ]
        omega
      · show 0 ≤ T.1 * e.d * c.d + (e.n * c.d - c.n * e.d) * T.2
        have z1 : 0 ≤ T.1 * e.d * c.d := Int.mul_nonneg (Int.mul_nonneg tn (by omega)) (by omega)
        have z2 : 0 ≤ (e.n * c.d - c.n * e.d) * T.2 := Int.mul_nonneg (by omega) (by omega)
        omega
    · rintro σ H1 ⟨T, p3, p4, p5, p6, p7, rfl, rfl, wd, t0, tb, tn⟩
      have e0 : cs.drop (2 * xs.length) = [] := List.drop_eq_nil_of_le (by omega)
      rw [e0] at wd
      have wd : T = widF cs (0, 1) := wd
      have l10 : xs.length ≤ 10 := by omega
      have b1 : (576 : Int) ^ xs.length ≤ 576 ^ 10 := by
        have : (576 : Nat) ^ xs.length ≤ 576 ^ 10 := Nat.pow_le_pow_right (by decide) l10
        exact_mod_cast this
      have b2 : (576 : Int) ^ 10 < 2 ^ 100 := by decide
      have b3 : T.2.natAbs < 2 ^ 100 := by
        have : T.2 < 2 ^ 100 := by omega
        omega
      refine ⟨_, rfl, _, rfl, T.1, T.2, rfl, tn, t0, b3, fun r nr => k r _ (s0.trans (same_put nr)) ?_⟩
      rw [← wd]
      exact upd_same
end
end My
set_option Elab.async false
set_option linter.all false
set_option maxRecDepth 100000
set_option maxHeartbeats 4000000
namespace My
open PySem PySem.Spec PyProof.Rows L2 Gn Mt
abbrev sLowest : Stmt := top 24
theorem scLowest : FnScope ["top", "bottom", "shared"] ["top", "bottom"] (defScope sLowest) := ⟨rfl, rfl, rfl, by decide +kernel, rfl, by decide +kernel, by decide +kernel⟩
section
variable {P : Program} {w : World} {K : PySem.W.Frag} {mg : Str → Option Value} {base : Heap}
theorem ok_lowest {f : Addr} {fd : FuncData} (F : Fun K "lowest" "lowest" sLowest f fd) (B : Bc mg) : FnOk P w K mg base CX0 1 f fd ["top", "bottom"] spLow := by
  refine F.ok scLowest (fun vs H Q E h => ?_) (fun cdv A outer s H vs Q E hr h => ?_)
  · obtain ⟨a, b, rfl, _⟩ := h
    rfl
  · obtain ⟨a, b, rfl, a0, b0, b1, q⟩ := h
    refine ⟨_, pss_cons (ps_set (i := 2) scLowest.nd rfl (.inl rfl) (pe_callBfun cr_gcd (by rfl) B.gcd (pa_cons (pv 0) (pa_cons (pv 1) pa_nil))))
      (pss_one (ps_ret (pe_tup (pa_cons (pe_op op_fdivW (pv 0) (pv 2)) (pa_cons (pe_op op_fdivW (pv 1) (pv 2)) pa_nil))))), ?_⟩
    have g0 : (0 : Int) < ((Nat.gcd a.natAbs b.natAbs : Nat) : Int) := by
      have := Nat.gcd_pos_of_pos_right a.natAbs (show 0 < b.natAbs by omega); omega
    have g1 : (((Nat.gcd a.natAbs b.natAbs : Nat) : Int)).natAbs < 2 ^ 100 := by
      rw [Int.natAbs_natCast]
      exact Nat.lt_of_le_of_lt (Nat.le_of_dvd (by omega) (Nat.gcd_dvd_right _ _)) b1
    exact ⟨_, rfl, _, rfl, a, b, rfl, _, rfl, _, rfl, _, _, rfl, rfl, wide_div g0 g1 (by decide) (by decide), _, rfl, _, rfl, _, _, rfl, rfl, wide_div g0 g1 (by decide) (by decide), (by show 2 ≤ sizeLine; decide), fun p hp => q p hp⟩
end
end My
set_option Elab.async false
set_option linter.all false
set_option maxRecDepth 100000
set_option maxHeartbeats 8000000
set_option exponentiation.threshold 4000
namespace My
open PySem PySem.Spec PyProof.Rows L2 Gn Mt
/-! how much of the rim a lot covers, by the program -/
abbrev s_lwidth : Stmt := inClass (top 29) 4
theorem sc_lwidth : FnScope ["self", "top", "bottom", "piece", "low", "high", "end_top", "end_bottom"] ["self"] (defScope s_lwidth) := ⟨rfl, rfl, rfl, by decide +kernel, rfl, by decide +kernel, by decide +kernel⟩
/-- all bottoms up to 24 go into it -/
def L24 : Int := 5354228880
theorem dv24 : ∀ n : Nat, 1 ≤ n → n ≤ 24 → ((n : Int) ∣ L24) := by
  intro n h1 h2
  have : ∀ m ∈ List.range 25, 1 ≤ m → ((m : Int) ∣ L24) := by decide +kernel
  exact this n (List.mem_range.mpr (by omega)) h1
theorem dv24i {d : Int} (h1 : 1 ≤ d) (h2 : d ≤ 24) : d ∣ L24 := by
  have := dv24 d.toNat (by omega) (by omega)
  rwa [Int.toNat_of_nonneg (by omega)] at this
/-- what is added, one end after the other -/
def Wi (W : Int × Int) (c e : Cut) : Nat → Int × Int
  | 0 => W
  | 1 => addL W (fr e)
  | _ => addL (addL W (fr e)) (neg c)
def spWidth (K : PySem.W.Frag) (C : Addr) : Sp := fun vs H Q _ => ∃ (v : V) (cs : List Cut), vs = [v] ∧ LotAt K C H v cs ∧ Lt cs ∧ SmlC cs ∧ cs.length ≤ 20 ∧ ∀ r H', Same H H' → H' r = some (.tup [.int (wid cs (0, 1)).1, .int (wid cs (0, 1)).2]) → Q (.ref r) H'
section
variable {P : Program} {w : World} {K : PySem.W.Frag} {mg : Str → Option Value} {base : Heap} {C fI fP : Addr} {fdI fdP : FuncData}
theorem ok_lwid {f fL : Addr} {fd fdL : FuncData} (F : Fun K "width" "Lot.width" s_lwidth f fd) (T : LotC P w K mg C fI fP fdI fdP) (B : Bc mg) (Lo : Df K mg "lowest" sLowest ["top", "bottom"] fL fdL) : FnOk P w K mg base CX0 2 f fd ["self"] (spWidth K C) := by
  have LL : FnOk P w K mg base CX0 1 fL fdL ["top", "bottom"] spLow := ok_lowest Lo.F B
  refine F.ok sc_lwidth (fun vs H Q E h => ?_) (fun cdv A outer s H vs Q E hr h => ?_)
  · obtain ⟨v, cs, rfl, _⟩ := h
    rfl
  · obtain ⟨v, cs, rfl, ⟨x0, dx0, a, rfl, hx0, hda⟩, L, sm, few, k⟩ := h
    refine ⟨_, pss_cons (ps_asg (pe_tup (pa_cons pe_int (pa_cons pe_int pa_nil))) (pg_tup (by rfl) (pgs_cons (pg_name (i := 1) sc_lwidth.nd rfl (.inl rfl)) (pgs_cons (pg_name (i := 2) sc_lwidth.nd rfl (.inl rfl)) pgs_nil)))) (pss_cons (ps_for PassesOwn.never rfl (pi_tup (L2.pe_fld (pv 0) rfl)) (pg_name (i := 3) sc_lwidth.nd rfl (.inl rfl)) (pss_cons (ps_asg (pe_slice sl_tupA (pv 3) po_none (po_some pe_int)) (pg_tup (by rfl) (pgs_cons (pg_name (i := 4) sc_lwidth.nd rfl (.inl rfl)) (pgs_cons (pg_name (i := 5) sc_lwidth.nd rfl (.inl rfl)) pgs_nil)))) (pss_one (ps_for PassesOwn.never rfl (pi_tup (pe_tup (pa_cons (pv 5) (pa_cons (pe_tup (pa_cons (pe_un un_neg (pe_ix ix_tup (pv 4) pe_int (fun _ _ => rfl))) (pa_cons (pe_ix ix_tup (pv 4) pe_int (fun _ _ => rfl)) pa_nil))) pa_nil)))) (pg_tup (by rfl) (pgs_cons (pg_name (i := 6) sc_lwidth.nd rfl (.inl rfl)) (pgs_cons (pg_name (i := 7) sc_lwidth.nd rfl (.inl rfl)) pgs_nil))) (pss_one (ps_asg (pe_call LL hr (by rfl) Lo.g Lo.F.kp Lo.b .nil pass0 (pa_cons (pe_op op_add (pe_op op_mul (pv 1) (pv 7)) (pe_op op_mul (pv 6) (pv 2))) (pa_cons (pe_op op_mul (pv 2) (pv 7)) pa_nil))) (pg_tup (by rfl) (pgs_cons (pg_name (i := 1) sc_lwidth.nd rfl (.inl rfl)) (pgs_cons (pg_name (i := 2) sc_lwidth.nd rfl (.inl rfl)) pgs_nil))))))))) (pss_one (ps_ret (pe_tup (pa_cons (pv 1) (pa_cons (pv 2) pa_nil)))))), ?_⟩
    obtain ⟨a', xs, ea, ha, hx⟩ := tup_inv hda
    cases ea
    have lx := dps_len hx
    have l2 := pcs_len L.e
    refine ⟨(by show 2 ≤ sizeLine; decide), fun q0 n0 => ?_⟩
    have s0 := same_put (o := HO.tup [V.int 0, V.int 1]) n0
    have g0 : upd H q0 (HO.tup [V.int 0, V.int 1]) q0 = some (.tup [V.int 0, V.int 1]) := upd_same
    generalize upd H q0 (HO.tup [V.int 0, V.int 1]) = H0 at *
    refine ⟨q0, _, rfl, SqT.of g0, rfl, _, _, rfl, _, _, rfl, rfl, ?_⟩
    refine nxI ⟨_, rfl, x0, C, dx0, _, .ref a, rfl, s0 _ _ hx0, T.cl, T.nP, rfl, a, rfl, ⟨_, sqT_same s0 ha⟩, for_tup (K := K) (a := a) (xs := xs) (fun i σ H' => ∃ (W : Int × Int) (p3 p4 p5 p6 p7 : Option V), σ = [some (.ref x0), some (.int W.1), some (.int W.2), p3, p4, p5, p6, p7] ∧ Same H H' ∧ wid (cs.drop (2 * i)) W = wid cs (0, 1) ∧ Red L24 W)
      ⟨(0, 1), none, none, none, none, none, rfl, s0, rfl, ⟨by decide, by decide, by decide, dv24i (by decide) (by decide)⟩⟩ (fun i σ H' _ ⟨_, _, _, _, _, _, _, s, _⟩ => sqT_same s ha) ?_ ?_⟩
    · rintro i x σ H1 hi ⟨W, p3, p4, p5, p6, p7, rfl, s1, wd, R⟩
      obtain ⟨d, hd, dx⟩ := dps_get (dps_same s1 _ _ hx) hi
      obtain ⟨c, e, hc, he, rfl⟩ := pcs_get hd
      obtain ⟨t, lo, hg, rfl, ht, dl, dh⟩ := pc_inv dx
      obtain ⟨al, rfl, hal⟩ := fr_inv dl
      obtain ⟨ah, rfl, hah⟩ := fr_inv dh
      have sc := sm c (List.mem_of_getElem? hc)
      have se := sm e (List.mem_of_getElem? he)
      have lt := asc_at L.a hc he (by omega)
      have c1 := sc.n0; have c2 := sc.le; have c3 := sc.d1; have c4 := sc.d24
      have d1 := se.n0; have d2 := se.le; have d3 := se.d1; have d4 := se.d24
      dsimp only at c1 c2 c3 c4 d1 d2 d3 d4
      have le : c.n * e.d ≤ e.n * c.d := lt_le lt
      obtain ⟨R1, R2⟩ := step_red R (by omega) (by omega) d1 (dv24i c3 c4) (dv24i d3 d4) le
      rw [drop_two hc he] at wd
      have wd : wid (cs.drop (2 * (i + 1))) (addL (addL W (fr e)) (neg c)) = wid cs (0, 1) := wd
      have n1 : 0 ≤ W.1 * (fr e).2 + (fr e).1 * W.2 := by
        have a1 : 0 ≤ W.1 * e.d := Int.mul_nonneg R.n0 (by omega)
        have a2 : 0 ≤ e.n * W.2 := Int.mul_nonneg d1 (by have := R.d0; omega)
        show 0 ≤ W.1 * e.d + e.n * W.2
        omega
      have n2 : 0 ≤ (addL W (fr e)).1 * (neg c).2 + (neg c).1 * (addL W (fr e)).2 := by
        obtain ⟨d0, co, eq⟩ := addL_eq (w := addL W (fr e)) (x := neg c) R1.d0 (by show 0 < c.d; omega)
        have z : 0 ≤ (addL (addL W (fr e)) (neg c)).1 * ((addL W (fr e)).2 * (neg c).2) := Int.mul_nonneg R2.n0 (by have := Int.mul_pos R1.d0 (show 0 < (neg c).2 from by show 0 < c.d; omega); omega)
        rw [eq] at z
        exact Int.nonneg_of_mul_nonneg_left z d0
      refine ⟨_, rfl, 2, rfl, t, _, rfl, ht, fun z => absurd z.2 (by show ¬ (2 = 4); decide), fun _ q1 nq1 => ?_⟩
      have s2 := same_put (o := HO.tup [V.ref al, V.ref ah]) nq1
      have g2 : upd H1 q1 (HO.tup [V.ref al, V.ref ah]) q1 = some (.tup [V.ref al, V.ref ah]) := upd_same
      have ec : cutV [V.ref al, V.ref ah, V.bl (!c.b), V.bl e.b] none (some 2) = [V.ref al, V.ref ah] := by rfl
      rw [ec]
      generalize upd H1 q1 (HO.tup [V.ref al, V.ref ah]) = H2 at *
      refine ⟨q1, _, rfl, SqT.of g2, rfl, _, _, rfl, _, _, rfl, rfl, nxI ?_⟩
      refine ⟨_, rfl, _, rfl, al, _, 0, .int c.n, rfl, rfl, sqT_same s2 hal, at_of (j := 0) rfl rfl, c.n, rfl, ?_⟩
      refine ⟨_, rfl, al, _, 1, .int c.d, rfl, rfl, sqT_same s2 hal, at_of (j := 1) rfl rfl, (by show 2 ≤ sizeLine; decide), fun q2 nq2 => ⟨(by show 2 ≤ sizeLine; decide), fun q3 nq3 => ?_⟩⟩
      have s3 := same_put (o := HO.tup [V.int (-c.n), V.int c.d]) nq2
      have g3 : upd H2 q2 (HO.tup [V.int (-c.n), V.int c.d]) q2 = some (.tup [V.int (-c.n), V.int c.d]) := upd_same
      generalize upd H2 q2 (HO.tup [V.int (-c.n), V.int c.d]) = H3 at *
      have s4 := same_put (o := HO.tup [V.ref ah, V.ref q2]) nq3
      have g4 : upd H3 q3 (HO.tup [V.ref ah, V.ref q2]) q3 = some (.tup [V.ref ah, V.ref q2]) := upd_same
      have g3 := s4 _ _ g3
      generalize upd H3 q3 (HO.tup [V.ref ah, V.ref q2]) = H4 at *
      have S4 := s1.trans (s2.trans (s3.trans s4))
      have hah4 := sqT_same (s2.trans (s3.trans s4)) hah
      refine ⟨q3, rfl, ⟨_, SqT.of g4⟩, for_tup (K := K) (a := q3) (xs := [V.ref ah, V.ref q2]) (fun j σ H' => ∃ p6 p7, σ = [some (.ref x0), some (.int (Wi W c e j).1), some (.int (Wi W c e j).2), some (.ref t), some (.ref al), some (.ref ah), p6, p7] ∧ Same H4 H') ⟨_, _, rfl, Same.refl _⟩ (fun j σ H' _ ⟨_, _, _, s⟩ => sqT_same s (SqT.of g4)) ?_ ?_⟩
      · rintro j y σ H5 hj ⟨p6, p7, rfl, s5⟩
        obtain ⟨ad, X, rfl, hX, x1, x2, x3, RW, nn, eW⟩ : ∃ (ad : Addr) (X : Int × Int), y = .ref ad ∧ SqT K H5 ad [.int X.1, .int X.2] ∧ 0 < X.2 ∧ X.2 ≤ 24 ∧ X.1.natAbs ≤ 24 ∧ Red L24 (Wi W c e j) ∧ 0 ≤ (Wi W c e j).1 * X.2 + X.1 * (Wi W c e j).2 ∧ Wi W c e (j + 1) = addL (Wi W c e j) X := by
          match j, hj with
          | 0, hj =>
            cases hj
            exact ⟨ah, fr e, rfl, sqT_same s5 hah4, by show 0 < e.d; omega, d4, by show e.n.natAbs ≤ 24; omega, R, n1, rfl⟩
          | 1, hj =>
            cases hj
            exact ⟨q2, neg c, rfl, sqT_same s5 (SqT.of g3), by show 0 < c.d; omega, c4, by show (-c.n).natAbs ≤ 24; omega, R1, n2, rfl⟩
          | j + 2, hj => simp at hj
        rw [eW]
        generalize Wi W c e j = Wj at *
        have wl : Wj.2 ≤ L24 := Int.le_of_dvd (by decide) RW.dv
        have wp := RW.d0
        have b1 : Wj.2 * X.2 ≤ L24 * 24 := Int.mul_le_mul wl x2 (by omega) (by decide)
        have b2 : 0 < Wj.2 * X.2 := Int.mul_pos wp x1
        have b3 : (Wj.2 * X.2).natAbs < 2 ^ 100 := by
          have : L24 * 24 < 2 ^ 99 := by decide
          have e2 : (2 : Int) ^ 99 < 2 ^ 100 := by decide
          omega
        refine ⟨ad, _, rfl, hX, rfl, _, _, rfl, _, _, rfl, rfl, ?_⟩
        refine ⟨_, rfl, _, rfl, _, _, rfl, rfl, .inr ⟨by omega, by omega⟩, _, rfl, _, rfl, _, _, rfl, rfl, .inl ⟨by omega, by omega⟩, _, _, rfl, rfl, _, rfl, _, rfl, _, _, rfl, rfl, .inr ⟨by omega, by omega⟩, ?_⟩
        refine ⟨_, _, rfl, nn, b2, b3, fun r nr => ?_⟩
        refine ⟨r, _, rfl, SqT.of upd_same, rfl, _, _, rfl, _, _, rfl, rfl, ?_⟩
        exact nxI ⟨_, _, rfl, s5.trans (same_put nr)⟩
      · rintro σ H5 ⟨p6, p7, rfl, s5⟩
        exact nxI ⟨addL (addL W (fr e)) (neg c), _, _, _, _, _, rfl, S4.trans s5, wd, R2⟩
    · rintro σ H1 ⟨W, p3, p4, p5, p6, p7, rfl, s1, wd, R⟩
      have e0 : cs.drop (2 * xs.length) = [] := List.drop_eq_nil_of_le (by omega)
      rw [e0] at wd
      have wd : W = wid cs (0, 1) := wd
      refine ⟨_, rfl, _, rfl, (by show 2 ≤ sizeLine; decide), fun r nr => k r _ (s1.trans (same_put nr)) ?_⟩
      rw [← wd]
      exact upd_same
end
end My
set_option Elab.async false
set_option linter.all false
set_option maxRecDepth 100000
set_option maxHeartbeats 8000000
set_option exponentiation.threshold 4000
namespace My
open PySem PySem.Spec PyProof.Rows L2 Gn Mt
/-! what bent things are like; pieces are equal just as their cuts -/
theorem atom_int {n : Int} (h : atomB (.int n) = true) : n.natAbs ≤ 24 := of_decide_eq_true h
theorem aB_pair {n m : Int} (h : aB (.tuple [.int n, .int m]) = true) : n.natAbs ≤ 24 ∧ m.natAbs ≤ 24 := by
  have h : (decide (2 ≤ 2) && (atomB (.int n) && (atomB (.int m) && true))) = true := h
  simp only [Bool.and_eq_true] at h
  exact ⟨atom_int h.2.1, atom_int h.2.2.1⟩
theorem pB_in {es : List PyData} (h : pB (.tuple es) = true) : es.length ≤ 4 ∧ ∀ x ∈ es, aB x = true := by
  have h : (decide (es.length ≤ 4) && es.all aB) = true := h
  rw [Bool.and_eq_true] at h
  exact ⟨of_decide_eq_true h.1, List.all_eq_true.mp h.2⟩
theorem bent_in {ds : List PyData} (h : bentB (.tuple ds) = true) : ds.length ≤ 10 ∧ ∀ x ∈ ds, pB x = true := by
  have h : (decide (ds.length ≤ 10) && ds.all pB) = true := h
  rw [Bool.and_eq_true] at h
  exact ⟨of_decide_eq_true h.1, List.all_eq_true.mp h.2⟩
theorem aB_lt60 {x : PyData} (h : aB x = true) : Lt60 x := by
  rintro p b rfl
  have h : (decide (2 ≤ 2) && (atomB p && (atomB (.int b) && true))) = true := h
  simp only [Bool.and_eq_true] at h
  have := atom_int h.2.2.1
  omega
theorem pB_lit {e : PyData} (h : pB e = true) : Lit4 e ∧ Lt4 e := by
  refine ⟨fun ds z => ?_, fun ds z => ?_⟩
  · subst z
    obtain ⟨l, al⟩ := pB_in h
    refine ⟨by omega, fun x m n k z => ?_⟩
    subst z
    obtain ⟨h1, h2⟩ := aB_pair (al _ m)
    exact ⟨Nat.lt_of_le_of_lt h1 (by decide), Nat.lt_of_le_of_lt h2 (by decide)⟩
  · subst z
    obtain ⟨l, al⟩ := pB_in h
    exact ⟨by omega, fun x m => aB_lt60 (al _ m)⟩
theorem bent_lit {d : PyData} (h : bentB d = true) : LitP d ∧ LtP d := by
  refine ⟨fun ds z => ?_, fun ds z => ?_⟩
  · subst z
    obtain ⟨l, al⟩ := bent_in h
    exact ⟨by omega, fun e m => (pB_lit (al e m)).1⟩
  · subst z
    obtain ⟨l, al⟩ := bent_in h
    exact fun e m => (pB_lit (al e m)).2
theorem pcs_sml : ∀ {cs : List Cut}, (∀ c ∈ cs, c.In) → odd cs.length = false → (∀ d ∈ pcsD cs, pB d = true) → SmlC cs
  | [], _, _, _ => fun c m => by cases m
  | [c], _, o, _ => by simp [odd] at o
  | c :: e :: r, v, o, h => by
    obtain ⟨_, al⟩ := pB_in (h _ List.mem_cons_self)
    obtain ⟨a1, a2⟩ := aB_pair (al (frD (c.n, c.d)) List.mem_cons_self)
    obtain ⟨b1, b2⟩ := aB_pair (al (frD (e.n, e.d)) (List.mem_cons_of_mem _ List.mem_cons_self))
    have ih := pcs_sml (cs := r) (fun x m => v x (List.mem_cons_of_mem _ (List.mem_cons_of_mem _ m))) (by simpa [odd] using o) fun d m => h d (List.mem_cons_of_mem _ m)
    have one : ∀ x : Cut, x.In → x.d.natAbs ≤ 24 → Sml (x.n, x.d) := fun x hx hd => ⟨hx.n0, hx.nd, by have := hx.d; show 1 ≤ x.d; omega, by show x.d ≤ 24; omega⟩
    intro x m
    rcases List.mem_cons.mp m with rfl | m
    · exact one _ (v _ List.mem_cons_self) a2
    rcases List.mem_cons.mp m with rfl | m
    · exact one _ (v _ (List.mem_cons_of_mem _ List.mem_cons_self)) b2
    exact ih x m
/-- a bent thing that is right -/
theorem bent_right {d : PyData} (h : bentB d = true) (w : pcsW d = none) : ∃ cs, d = .tuple (pcsD cs) ∧ Lt cs ∧ SmlC cs ∧ cs.length ≤ 20 := by
  obtain ⟨cs, rfl, L⟩ := pcs_of w
  obtain ⟨l, al⟩ := bent_in h
  have := pcs_len L.e
  exact ⟨cs, rfl, L, pcs_sml L.v L.e al, by omega⟩
theorem pc_eqv (c e c' e' : Cut) : PyData.eqv (pcD c e) (pcD c' e') = decide (c = c' ∧ e = e') := by
  have h1 : PyData.eqv (pcD c e) (pcD c' e') = (PyData.eqv (frD (c.n, c.d)) (frD (c'.n, c'.d)) && (PyData.eqv (frD (e.n, e.d)) (frD (e'.n, e'.d)) && (PyData.eqv (.bool (!c.b)) (.bool (!c'.b)) && (PyData.eqv (.bool e.b) (.bool e'.b) && true)))) := by
    simp only [pcD, PyData.eqv, PyData.eqvAll]
  rw [h1, fr_eqv, fr_eqv]
  obtain ⟨n, d, b⟩ := c
  obtain ⟨n', d', b'⟩ := c'
  obtain ⟨m, k, f⟩ := e
  obtain ⟨m', k', f'⟩ := e'
  have hb : ∀ x y : Bool, PyData.eqv (.bool x) (.bool y) = decide (x = y) := by decide
  rw [hb, hb]
  simp only [Cut.mk.injEq]
  rw [Bool.eq_iff_iff]
  simp only [Bool.and_eq_true, decide_eq_true_eq, Bool.and_true]
  constructor
  · rintro ⟨⟨h1, h2⟩, ⟨h3, h4⟩, h5, h6⟩
    exact ⟨⟨h1, h2, by cases b <;> cases b' <;> first | rfl | cases h5⟩, h3, h4, h6⟩
  · rintro ⟨⟨h1, h2, h5⟩, h3, h4, h6⟩
    exact ⟨⟨h1, h2⟩, ⟨h3, h4⟩, by rw [h5], h6⟩
theorem pcs_eqv : ∀ {cs es : List Cut}, odd cs.length = false → odd es.length = false → PyData.eqv (.tuple (pcsD cs)) (.tuple (pcsD es)) = decide (cs = es)
  | [], [], _, _ => by simp [pcsD, PyData.eqv, PyData.eqvAll]
  | [c], _, o, _ => by simp [odd] at o
  | _, [c], _, o => by simp [odd] at o
  | [], c :: e :: r, _, _ => by simp [pcsD, PyData.eqv, PyData.eqvAll]
  | c :: e :: r, [], _, _ => by simp [pcsD, PyData.eqv, PyData.eqvAll]
  | c :: e :: r, c' :: e' :: r', o, o' => by
    have ih := pcs_eqv (cs := r) (es := r') (by simpa [odd] using o) (by simpa [odd] using o')
    have h1 : PyData.eqv (.tuple (pcsD (c :: e :: r))) (.tuple (pcsD (c' :: e' :: r'))) = (PyData.eqv (pcD c e) (pcD c' e') && PyData.eqv (.tuple (pcsD r)) (.tuple (pcsD r'))) := by
      simp only [pcsD, PyData.eqv, PyData.eqvAll]
    rw [h1, pc_eqv, ih, ← Bool.decide_and]
    rw [decide_eq_decide]
    simp only [List.cons.injEq]
    exact ⟨fun ⟨⟨a, b⟩, c⟩ => ⟨a, b, c⟩, fun ⟨a, b, c⟩ => ⟨⟨a, b⟩, c⟩⟩
end My
set_option Elab.async false
set_option linter.all false
set_option maxRecDepth 100000
set_option maxHeartbeats 4000000
/-! x == y by an own __eq__, whatever it answers -/
namespace Gn
open PySem PySem.Spec PyProof.Rows L2
def rEqI (K : PySem.W.Frag) (C : Addr) (sp : Sp) : R2 := fun x y H Q => ∃ (a dx b : Addr) (fs : List (Str × V)), x = .ref a ∧ y = .ref b ∧ H a = some (.ins C dx fs) ∧
  ((∃ dy gs, H b = some (.ins C dy gs)) ∨ ((∃ ys, H b = some (.tup ys)) ∧ PySem.W.notFirst K C (.type "tuple") = true)) ∧ sp [x, y] H Q fun _ _ _ => False
theorem op_eqI {X : Cx} {CX : CXT} {n : Nat} {C f : Addr} {fd : FuncData} {ps : List Str} {sp : Sp} (F : FnOk X.prog X.w X.K X.mg X.base CX n f fd ps sp) (hs : PySem.W.findIn X.K (.ref C) "__eq__" = some (some (.ref f))) (hf : PySem.W.isFn X.K (.ref f) = true)
    (hb : Binds X.K fd ps []) (hr : Room n X.A) (hx : Passes CX X fun _ _ _ => False) : OpR X (compareOp .Eq) (rEqI X.K C sp) := by
  intro pins s σ H x y v u Q I rx ry h
  obtain ⟨a, dx, b, fs, rfl, rfl, ha, hy, q⟩ := h
  cases rx
  cases ry
  obtain ⟨mA, J, _⟩ := ins_get I.hok ha
  obtain ⟨od, J, _⟩ := J.look
  obtain ⟨m, hF⟩ := I.fr
  obtain ⟨tb, hl, nf⟩ : ∃ tb, PySem.W.Looks (model X.prog X.w) s.heap (typeOf (.ref b)) tb ∧ PySem.W.notFirst X.K C tb = true := by
    rcases hy with ⟨dy, gs, hb'⟩ | ⟨⟨ys, hb'⟩, nf⟩
    · obtain ⟨mB, J', _⟩ := ins_get I.hok hb'
      obtain ⟨od', J', _⟩ := J'.look
      exact ⟨.ref C, J'.type, by simp [PySem.W.notFirst]⟩
    · obtain ⟨_, _, _, o, h1, h2, _⟩ := (show ObjOk X.prog X.w H s.heap b (.tup ys) from I.hok b _ hb')
      exact ⟨.type "tuple", fun A Q E s k q => wpAny_typeOf_ref (k _ _ h1) (by rw [h2]; exact q), nf⟩
  show wpAny _ _ (richCompare .Eq _ _) _ _ _
  refine PySem.W.cmp_K (op := .Eq) (tb := tb) hr.units0 hF I.ok.mod.kin J hl nf hs hf ?_
  refine wpAny_mono (run_fn (us := [.ref a, .ref b]) (vs := [.ref a, .ref b]) F hr hb .nil hx I (.cons rfl (.cons rfl .nil)) (by simpa using q)) (fun w s' z => ?_) fun _ _ e => e
  obtain ⟨z', H', I', rz, qz⟩ := z
  exact SlX.cmpback rz ⟨z', H', I', rz, qz⟩
end Gn
set_option Elab.async false
set_option linter.all false
set_option maxRecDepth 100000
set_option maxHeartbeats 8000000
set_option exponentiation.threshold 4000
namespace My
open PySem PySem.Spec PyProof.Rows L2 Gn Mt
/-! == of lots -/
abbrev s_leq : Stmt := inClass (top 29) 5
theorem sc_leq : FnScope ["self", "other"] ["self", "other"] (defScope s_leq) := ⟨rfl, rfl, rfl, by decide +kernel, rfl, by decide +kernel, by decide +kernel⟩
/-- what isinstance(x, Lot) asks of the class -/
structure LotI (K : PySem.W.Frag) (C : Addr) : Prop where
  ca : PySem.W.findIn K (.ref C) "__class__" = some (some (.builtin "object.__class__"))
  cn : PySem.W.specialIn K (.builtin "object.__class__") "__get__" = some (some (.builtin "getset_descriptor.__get__"))
  ct : PySem.W.takesIn K (.builtin "object.__class__") = some true
  cm : PySem.W.mroIn K C (.type "object") = some true
  yes : PySem.W.kitOne K (.ref C) (.ref C) = some true
  no : PySem.W.kitOne K (.type "tuple") (.ref C) = some false
theorem pcs_lay : ∀ cs : List Cut, PyData.canLayAll0 (pcsD cs) = true ∧ PyData.depthAll (pcsD cs) ≤ 2
  | [] => ⟨rfl, Nat.zero_le _⟩
  | [_] => ⟨rfl, Nat.zero_le _⟩
  | c :: e :: r => by
    obtain ⟨a, b⟩ := pcs_lay r
    have h1 : PyData.canLay0 (pcD c e) = true := by rfl
    have h2 : PyData.depth (pcD c e) = 2 := by rfl
    rw [pcsD]
    simp only [PyData.canLayAll0, PyData.depthAll, h1, h2, a]
    exact ⟨rfl, by omega⟩
theorem pcs_shaped (cs : List Cut) : SeqAt.shaped (.tuple (pcsD cs)) = true := by
  obtain ⟨a, b⟩ := pcs_lay cs
  unfold SeqAt.shaped
  simp only [PyData.canLay0, PyData.depth, a]
  simp
  omega
def spLEq (K : PySem.W.Frag) (C : Addr) : Sp := fun vs H Q _ => ∃ (u v : V) (cs : List Cut), vs = [u, v] ∧ LotAt K C H u cs ∧ odd cs.length = false ∧ ((∃ es, LotAt K C H v es ∧ odd es.length = false ∧ Q (.bl (decide (cs = es))) H) ∨ (∃ y ys, v = .ref y ∧ H y = some (.tup ys) ∧ Q (.bl false) H))
section
variable {P : Program} {w : World} {K : PySem.W.Frag} {mg : Str → Option Value} {base : Heap} {C fI fP : Addr} {fdI fdP : FuncData}
theorem ok_leq {f : Addr} {fd : FuncData} (F : Fun K "__eq__" "Lot.__eq__" s_leq f fd) (T : LotC P w K mg C fI fP fdI fdP) (LI : LotI K C) (B : Bc mg) : FnOk P w K mg base CX0 1 f fd ["self", "other"] (spLEq K C) := by
  refine F.ok sc_leq (fun vs H Q E h => ?_) (fun cdv A outer s H vs Q E hr h => ?_)
  · obtain ⟨u, v, cs, rfl, _⟩ := h
    rfl
  · obtain ⟨u, v, cs, rfl, ⟨x, dx, a, rfl, hx, hda⟩, o1, h⟩ := h
    have hu := hr.units
    refine ⟨_, pss_one (ps_ret (pe_and (pe_callB (call_isi) (by rfl) B.isi (by decide +kernel) (pa_cons (pv 1) (pa_cons (pe_glob (v := .ref C) rfl T.mgC rfl) pa_nil))) (pe_one (pe_cmpR (op_eqD hu) (L2.pe_fld (pv 0) rfl) (L2.pe_fld (pv 1) rfl) (nomark _))))), ?_⟩
    rcases h with ⟨es, ⟨y, dy, b, rfl, hy, hdb⟩, o2, q⟩ | ⟨y, ys, rfl, hy, q⟩
    · refine ⟨_, rfl, .ref y, .ref C, _, _, true, rfl, .own C, .base (.ins hy T.cl LI.ca LI.cn LI.ct LI.cm), LI.yes, _, rfl, iteT ?_⟩
      refine ⟨_, rfl, x, C, dx, _, .ref a, rfl, hx, T.cl, T.nP, rfl, _, rfl, y, C, dy, _, .ref b, rfl, hy, T.cl, T.nP, rfl, ?_⟩
      refine ⟨_, _, hda, hdb, pcs_shaped cs, pcs_shaped es, ?_⟩
      rw [pcs_eqv o1 o2]
      exact q
    · refine ⟨_, rfl, .ref y, .ref C, _, _, false, rfl, .own C, .base (.tup hy), LI.no, _, rfl, iteF q⟩
end
end My
set_option Elab.async false
set_option linter.all false
set_option maxRecDepth 100000
set_option maxHeartbeats 4000000
/-! x != y of two instances with an own __eq__ and no __ne__ -/
namespace Gn
open PySem PySem.Spec PyProof.Rows L2
/-- what the class says of it -/
structure NeC (K : PySem.W.Frag) (C f : Addr) : Prop where
  cls : ∃ (nm q : Str) (N : Addr) (bs : List Value) (hd : Bool) (sn : List Str) (sub : List Value) (ab : Bool) (col : Option Bool) (dd : Option Addr) (k0 k1 k2 k3 k5 : Option Value) (nw : String),
    K.lookup C = some (excClassObj nm q C N bs [.type "object"] hd sn sub ab col dd k0 k1 k2 k3 k5 nw) ∧ PySem.W.nsOkIn K N = true ∧ PySem.W.nsIn K N "__eq__" = some (some (.ref f)) ∧ PySem.W.nsIn K N "__ne__" = some none
  fn : PySem.W.isFn K (.ref f) = true
def rNeI (C : Addr) (sp : Sp) : R2 := fun x y H Q => ∃ (a dx b dy : Addr) (fs gs : List (Str × V)), x = .ref a ∧ y = .ref b ∧ H a = some (.ins C dx fs) ∧ H b = some (.ins C dy gs) ∧ sp [x, y] H (fun v H' => ∃ c, v = .bl c ∧ Q (.bl (!c)) H') fun _ _ _ => False
theorem ns_val {K : PySem.W.Frag} {h : Heap} {N : Addr} {mN : Str → Option Value} {n : Str} {v : Value} (X : K.In h) (G : h.Ns N mN) (e : PySem.W.nsIn K N n = some (some v)) : mN n = some v := by
  obtain ⟨ob, ents, epo, hob, hdat, _, hfi⟩ := G
  unfold PySem.W.nsIn at e
  split at e
  · rename_i c d l k sl q
    cases hob.symm.trans (X _ _ q)
    cases hdat
    split at e
    · rename_i en he
      cases e
      exact (hfi n).symm.trans (by unfold nsFind findBy; rw [← Array.find?_toList, he]; rfl)
    · split at e <;> cases e
  · cases e
theorem op_neI {X : Cx} {CX : CXT} {n : Nat} {C f : Addr} {fd : FuncData} {ps : List Str} {sp : Sp} (F : FnOk X.prog X.w X.K X.mg X.base CX n f fd ps sp) (c : NeC X.K C f) (hb : Binds X.K fd ps []) (hr : Room (n + 1) X.A) (hx : Passes CX X fun _ _ _ => False) :
    OpR X (compareOp .NotEq) (rNeI C sp) := by
  intro pins s σ H x y v u Q I rx ry h
  obtain ⟨a, dx, b, dy, fs, gs, rfl, rfl, ha, hb', hsp⟩ := h
  cases rx
  cases ry
  obtain ⟨mA, J, _⟩ := ins_get I.hok ha
  obtain ⟨mB, J', _⟩ := ins_get I.hok hb'
  obtain ⟨od, J, _⟩ := J.look
  obtain ⟨od', J', _⟩ := J'.look
  obtain ⟨nm, q', N, bs, hd, sn, sub, ab, col, dd, k0, k1, k2, k3, k5, nw, lk, ok, e1, e2⟩ := c.cls
  have G : s.heap.Ns N (s.heap.nsMap N) := .of_isNs (PySem.W.isNs_of_in I.kIn ok)
  obtain ⟨of, lf, cf⟩ : ∃ of, X.K.lookup f = some of ∧ of.cls = .type "function" := by
    have z : PySem.W.typeIn X.K (.ref f) = some (.type "function") := beq_iff_eq.mp c.fn
    have z : (X.K.lookup f).map (·.cls) = some (.type "function") := z
    cases e : X.K.lookup f with
    | none => rw [e] at z; cases z
    | some o => rw [e] at z; exact ⟨o, rfl, Option.some.inj z⟩
  have Y : s.heap.OwnEqNoNe a C f "object" [.type "object"] := ⟨_, of, nm, q', N, bs, hd, sn, sub, ab, col, dd, k0, k1, k2, k3, k5, nw, s.heap.nsMap N, some (.builtin "object.__eq__"), J.1, J.2, I.kIn _ _ lk, G, ns_val I.kIn G e1, I.kIn _ _ lf, cf, PySem.F.cmp_object.mro, PySem.F.cmp_object.eq.lookup, PySem.W.ns_none_of I.kIn G e2⟩
  have r1 : Room n X.A.in1 := Room.in1 hr
  have r2 : Vals [V.ref a, V.ref b] [Value.ref a, Value.ref b] := .cons rfl (.cons rfl .nil)
  have hl := F.len _ _ _ _ hsp
  have bn := hb s [.ref a, .ref b] I.kIn (by simpa using hl)
  rw [List.append_nil] at bn
  refine compareOp_ne_ownEq PySem.F.cmp_object Y J'.1 J'.2 (hu_of hr) ?_
  refine wpAny_call (codeAny_mono (F.run X.A.in1 X.stack s H ⟨[.ref a, .ref b], []⟩ [.ref a, .ref b] [.ref a, .ref b] _ _ r1 I.env0.in1 bn r2 hsp) fun r s' hq => ?_)
  match r, hq with
  | .error z, hq => exact hx pins σ H s z s' I hq
  | .ok (.ret w), hq =>
    obtain ⟨z, H', I', rz, c', ez, qz⟩ := I.after hq
    subst ez
    cases rz
    exact ⟨c', rfl, .bl (!c'), H', I', rfl, qz⟩
  | .ok .next, hq => exact hq.elim
  | .ok .brk, hq => exact hq.elim
  | .ok .cont, hq => exact hq.elim
end Gn
set_option Elab.async false
set_option linter.all false
set_option maxRecDepth 100000
set_option maxHeartbeats 4000000
/-! bool(x) of an instance whose class has neither __bool__ nor __len__ -/
namespace Gn
open PySem PySem.Spec PyProof.Rows L2
theorem truthy_ins {M : Model} {A : Around} {E : Value → Shared → Prop} {s : Shared} {K : PySem.W.Frag} {x C : Addr} {ox : Obj} {od : Option Obj} {Q : Bool → Shared → Prop} (X : K.In s.heap) (J : PySem.W.InstAt s.heap x ox C od)
    (hb : PySem.W.findIn K (.ref C) "__bool__" = some none) (hl : PySem.W.findIn K (.ref C) "__len__" = some none) (q : Q true s) : wpAny M A (truthy (.ref x)) Q E s := by
  unfold truthy
  refine wpAny_bind (m := callSpecial? (.ref x) (Str.ofString "__bool__")) ?_
  refine wpAny_bind ?_
  refine wpAny_bind (J.type.here ?_)
  refine (PySem.W.looks_findIn X hb).here (wpAny_pure ?_)
  refine wpAny_bind (wpAny_bind ?_)
  exact J.type.here ((PySem.W.looks_findIn X hl).here (wpAny_pure q))
theorem meets_bool_ins {K : PySem.W.Frag} {x C : Addr} (hb : PySem.W.findIn K (.ref C) "__bool__" = some none) (hl : PySem.W.findIn K (.ref C) "__len__" = some none) :
    Meets (Builtin.«bool.__new__» ⟨[.type "bool", .ref x], []⟩) (fun _ R s => (K.In s.heap ∧ ∃ ox od, PySem.W.InstAt s.heap x ox C od) ∧ R (.ok (.ret (.bool true))) s) := Meets.of_wp fun prog w A R s hs => by
  obtain ⟨⟨X, ox, od, J⟩, hs⟩ := hs
  obtain ⟨hp, gs, dr, tk, os⟩ := s
  have f1 := PySem.F.conv_sub_bool
  repeat (any_goals (first | assumption | (with_reducible refine truthy_ins X J hb hl ?_) | wp_step))
  all_goals first | exact ⟨_, rfl, hs⟩ | exact hs | skip
theorem call_boolI {X : Cx} {C : Addr} (hb : PySem.W.findIn X.K (.ref C) "__bool__" = some none) (hl : PySem.W.findIn X.K (.ref C) "__len__" = some none) : CallR X (.type "bool") (fun xs H Q => ∃ (a dx : Addr) (fs : List (Str × V)), xs = [.ref a] ∧ H a = some (.ins C dx fs) ∧ Q (.bl true) H) := by
  intro pins s σ H xs us Q I r h
  obtain ⟨a, dx, fs, rfl, ha, q⟩ := h
  obtain rfl := Vals.ref1 r
  obtain ⟨mA, J, _⟩ := ins_get I.hok ha
  obtain ⟨od, J, _⟩ := J.look
  exact call_bool_1 (meets_bool_ins hb hl) ⟨⟨I.kIn, _, _, J⟩, rfl, .bl true, H, I, rfl, q⟩
end Gn
set_option Elab.async false
set_option linter.all false
set_option maxRecDepth 100000
set_option maxHeartbeats 4000000
/-! repr(x) by an own __repr__ -/
namespace Gn
open PySem PySem.Spec PyProof.Rows L2
theorem call_reprI {X : Cx} {CX : CXT} {n : Nat} {C f : Addr} {fd : FuncData} {ps : List Str} {sp : Sp} (F : FnOk X.prog X.w X.K X.mg X.base CX n f fd ps sp) (hs : PySem.W.findIn X.K (.ref C) "__repr__" = some (some (.ref f))) (hf : PySem.W.isFn X.K (.ref f) = true)
    (hb : Binds X.K fd ps []) (hr : Room (n + 1) X.A) (hx : Passes CX X fun _ _ _ => False) :
    CallR X (.builtin "repr") (fun xs H Q => ∃ (a dx : Addr) (fs : List (Str × V)), xs = [.ref a] ∧ H a = some (.ins C dx fs) ∧ sp [.ref a] H (fun v H' => ∃ y, v = .str y ∧ Q (.str y) H') fun _ _ _ => False) := by
  intro pins s σ H xs us Q I r h
  obtain ⟨a, dx, fs, rfl, ha, hsp⟩ := h
  obtain rfl := Vals.ref1 r
  obtain ⟨mA, J, _⟩ := ins_get I.hok ha
  obtain ⟨od, J, _⟩ := J.look
  have r1 : Room n X.A.in1 := Room.in1 hr
  have hl := F.len _ _ _ _ hsp
  have bn := hb s [.ref a] I.kIn (by simpa using hl)
  rw [List.append_nil] at bn
  refine Calls.call_function_entry PySem.F.kind_repr PySem.F.plain_repr PySem.F.entry_repr (PySem.F.args_repr1 _) ?_
  unfold Builtin.«repr»
  refine wpAny_bind (m := oneArg "repr" _) (wpAny_pure (wpAny_bind (m := cRoomFor _ _) (wpAny_cRoomFor (by show X.A.units + 1 < cLine; exact hu_of hr) ?_)))
  refine wpAny_bind (wpAny_bind (J.type.here ((PySem.W.looks_findIn I.kIn hs).here ?_)))
  refine wpAny_bind (m := callSpecialIfBound? (.ref a) (Str.ofString "__repr__")) (PySem.W.ifBound_K I.kIn J hs hf (wpAny_call (codeAny_mono (F.run X.A.in1 X.stack s H ⟨[.ref a], []⟩ [.ref a] [.ref a] _ _ r1 I.env0.in1 bn (.cons rfl .nil) hsp) fun r s' hq => ?_)))
  match r, hq with
  | .error z, hq => exact hx pins σ H s z s' I hq
  | .ok (.ret w), hq =>
    obtain ⟨z, H', I', rz, y, ez, qz⟩ := I.after hq
    subst ez
    obtain ⟨tk, e⟩ := (show ∃ tk, w = .str y tk from rz)
    subst e
    refine wpAny_bind (wpAny_isInstance (T := "str") (b := true) rfl isSubtype_str_str (wpAny_pure ?_))
    exact ⟨_, rfl, V.str y, H', I', ⟨tk, rfl⟩, qz⟩
  | .ok .next, hq => exact hq.elim
  | .ok .brk, hq => exact hq.elim
  | .ok .cont, hq => exact hq.elim
end Gn
set_option Elab.async false
set_option linter.all false
set_option maxRecDepth 100000
set_option maxHeartbeats 8000000
set_option exponentiation.threshold 4000
namespace My
open PySem PySem.Spec PyProof.Rows L2 Gn Mt
/-! repr of lots -/
abbrev s_lrepr : Stmt := inClass (top 29) 7
theorem sc_lrepr : FnScope ["self"] ["self"] (defScope s_lrepr) := ⟨rfl, rfl, rfl, by decide +kernel, rfl, by decide +kernel, by decide +kernel⟩
def lotTx1 : Str := Str.empty ++ ("Lot of " : Str)
def lotTx2 (n : Nat) : Str := lotTx1 ++ ((toString ((n : Nat) : Int) : String) : Str)
def lotTx (n : Nat) : Str := lotTx2 n ++ (" pieces" : Str)
theorem lotTx_sz {n : Nat} (h : n ≤ 10) : (lotTx1.length ≤ sizeLine ∧ (lotTx2 n).length ≤ sizeLine) ∧ (lotTx n).length ≤ sizeLine := by
  have : ∀ m ∈ List.range 11, (lotTx1.length ≤ sizeLine ∧ (lotTx2 m).length ≤ sizeLine) ∧ (lotTx m).length ≤ sizeLine := by decide +kernel
  exact this n (List.mem_range.mpr (by omega))
def spLRepr (K : PySem.W.Frag) (C : Addr) : Sp := fun vs H Q _ => ∃ (v : V) (cs : List Cut), vs = [v] ∧ LotAt K C H v cs ∧ odd cs.length = false ∧ cs.length ≤ 20 ∧ Q (.str (lotTx (pcsD cs).length)) H
section
variable {P : Program} {w : World} {K : PySem.W.Frag} {mg : Str → Option Value} {base : Heap} {C fI fP : Addr} {fdI fdP : FuncData}
theorem ok_lrepr {f : Addr} {fd : FuncData} (F : Fun K "__repr__" "Lot.__repr__" s_lrepr f fd) (T : LotC P w K mg C fI fP fdI fdP) (B : Bc mg) : FnOk P w K mg base CX0 1 f fd ["self"] (spLRepr K C) := by
  refine F.ok sc_lrepr (fun vs H Q E h => ?_) (fun cdv A outer s H vs Q E hr h => ?_)
  · obtain ⟨v, cs, rfl, _⟩ := h
    rfl
  · obtain ⟨v, cs, rfl, ⟨x, dx, a, rfl, hx, hda⟩, o1, few, q⟩ := h
    obtain ⟨a', xs, ea, ha, hxs⟩ := tup_inv hda
    cases ea
    have lx := dps_len hxs
    have l2 := pcs_len o1
    obtain ⟨⟨z1, z2⟩, z3⟩ := lotTx_sz (n := xs.length) (by omega)
    rw [← lx] at q
    refine ⟨_, pss_one (ps_ret (pe_joined (.cons pe_str (.cons (pe_fmt (pe_callB (call_len_seq) (by rfl) B.len (by decide +kernel) (pa_cons (L2.pe_fld (pv 0) rfl) pa_nil))) (.cons pe_str .nil))))), ?_⟩
    refine ⟨_, rfl, z1, _, rfl, x, C, dx, _, .ref a, rfl, hx, T.cl, T.nP, rfl, a, xs, rfl, .inr ha, .inr ⟨_, rfl, ?_, _, rfl, z2, _, rfl, z3, q⟩⟩
    have : ∀ m ∈ List.range 11, ((m : Nat) : Int).natAbs.log2 < 1920 := by decide +kernel
    exact this _ (List.mem_range.mpr (by omega))
end
end My
set_option Elab.async false
set_option linter.all false
set_option maxRecDepth 100000
set_option maxHeartbeats 8000000
set_option exponentiation.threshold 4000
namespace My
open PySem PySem.Spec PyProof.Rows L2 Gn Mt
/-! bent things: small, flat -/
theorem smUp {c c' e e' : Nat} {d : PyData} (h : Sm c e d) (hc : c ≤ c') (he : e ≤ e') : Sm c' e' d := ⟨h.sh, Nat.le_trans h.ln hc, Nat.le_trans h.dp he, h.cl⟩
theorem sm_atom {d : PyData} (h : atomB d = true) : Sm 1921 0 d := by
  cases d with
  | none => exact ⟨by decide +kernel, by decide +kernel, by decide +kernel, by decide +kernel⟩
  | bool b => cases b <;> exact ⟨by decide +kernel, by decide +kernel, by decide +kernel, by decide +kernel⟩
  | int i => exact Sm.int (Nat.lt_of_le_of_lt (of_decide_eq_true h) (by decide))
  | _ => cases h
theorem sm_aB {d : PyData} (h : aB d = true) : Sm (2 * (1921 + 2) + 3) 1 d := by
  cases d with
  | tuple es =>
    have h : (decide (es.length ≤ 2) && es.all atomB) = true := h
    rw [Bool.and_eq_true] at h
    exact Sm.tup (fun e m => sm_atom (List.all_eq_true.mp h.2 e m)) (of_decide_eq_true h.1)
  | none => exact smUp (sm_atom (d := .none) h) (by decide) (by decide)
  | bool b => exact smUp (sm_atom (d := .bool b) h) (by decide) (by decide)
  | int i => exact smUp (sm_atom (d := .int i) h) (by decide) (by decide)
  | _ => cases h
theorem sm_pB {d : PyData} (h : pB d = true) : Sm (4 * (2 * (1921 + 2) + 3 + 2) + 3) 2 d := by
  cases d with
  | tuple es =>
    obtain ⟨l, al⟩ := pB_in h
    exact Sm.tup (fun e m => sm_aB (al e m)) l
  | list es =>
    have h : (decide (es.length ≤ 4) && es.all aB) = true := h
    rw [Bool.and_eq_true] at h
    exact Sm.lst (fun e m => sm_aB (List.all_eq_true.mp h.2 e m)) (of_decide_eq_true h.1)
  | none => exact smUp (sm_atom (d := .none) h) (by decide) (by decide)
  | bool b => exact smUp (sm_atom (d := .bool b) h) (by decide) (by decide)
  | int i => exact smUp (sm_atom (d := .int i) h) (by decide) (by decide)
  | _ => cases h
theorem sm_bent {d : PyData} (h : bentB d = true) : Sm (10 * (4 * (2 * (1921 + 2) + 3 + 2) + 3 + 2) + 3) 3 d := by
  cases d with
  | tuple es =>
    obtain ⟨l, al⟩ := bent_in h
    exact Sm.tup (fun e m => sm_pB (al e m)) l
  | list es =>
    have h : (decide (es.length ≤ 10) && es.all (fun d => isTupB d && pB d)) = true := h
    rw [Bool.and_eq_true] at h
    exact Sm.lst (fun e m => sm_pB (by have := List.all_eq_true.mp h.2 e m; rw [Bool.and_eq_true] at this; exact this.2)) (of_decide_eq_true h.1)
  | none => exact smUp (sm_atom (d := .none) rfl) (by decide) (by decide)
  | _ => cases h
theorem flats_all : ∀ {ds : List PyData}, (∀ d ∈ ds, flat d = true) → flat.flats ds = true
  | [], _ => by simp only [flat.flats]
  | d :: ds, h => by
    simp only [flat.flats, Bool.and_eq_true]
    exact ⟨h d List.mem_cons_self, flats_all fun e m => h e (List.mem_cons_of_mem _ m)⟩
theorem flat_atom {d : PyData} (h : atomB d = true) : flat d = true := by
  cases d <;> first | (simp only [flat]; done) | cases h
theorem flat_aB {d : PyData} (h : aB d = true) : flat d = true := by
  cases d with
  | tuple es =>
    have h : (decide (es.length ≤ 2) && es.all atomB) = true := h
    rw [Bool.and_eq_true] at h
    simp only [flat]
    exact flats_all fun e m => flat_atom (List.all_eq_true.mp h.2 e m)
  | dict _ => cases h
  | list _ => cases h
  | _ => simp only [flat]
theorem flat_pB {d : PyData} (h : pB d = true) : flat d = true := by
  cases d with
  | tuple es =>
    simp only [flat]
    exact flats_all fun e m => flat_aB ((pB_in h).2 e m)
  | list es =>
    have h : (decide (es.length ≤ 4) && es.all aB) = true := h
    rw [Bool.and_eq_true] at h
    simp only [flat]
    exact flats_all fun e m => flat_aB (List.all_eq_true.mp h.2 e m)
  | dict _ => cases h
  | _ => simp only [flat]
theorem flat_bent {d : PyData} (h : bentB d = true) : flat d = true := by
  cases d with
  | tuple es =>
    simp only [flat]
    exact flats_all fun e m => flat_pB ((bent_in h).2 e m)
  | list es =>
    have h : (decide (es.length ≤ 10) && es.all (fun d => isTupB d && pB d)) = true := h
    rw [Bool.and_eq_true] at h
    simp only [flat]
    exact flats_all fun e m => flat_pB (by have := List.all_eq_true.mp h.2 e m; rw [Bool.and_eq_true] at this; exact this.2)
  | dict _ => cases h
  | _ => simp only [flat]
theorem wrong_shift : ∀ {ds : List PyData} {p : Option PyData} {i j : Nat}, wrongFrom p i ds = none → wrongFrom p j ds = none
  | [], _, _, _, _ => rfl
  | d :: ds, p, i, j, h => by
    rw [wrongFrom] at h ⊢
    split at h
    · rename_i z
      rw [if_pos z]
      exact wrong_shift h
    · cases h
/-- a right thing without its first piece is right -/
theorem pcs_tail {ds : List PyData} (h : pcsW (.tuple ds) = none) : pcsW (.tuple (ds.drop 1)) = none := by
  cases ds with
  | nil => exact h
  | cons d r =>
    have h : (wrongFrom none 0 (d :: r)).map some = none := h
    rw [Option.map_eq_none_iff, wrongFrom] at h
    split at h
    · rename_i z
      show (wrongFrom none 0 r).map some = none
      rw [Option.map_eq_none_iff]
      cases r with
      | nil => rfl
      | cons d2 r2 =>
        rw [wrongFrom] at h
        split at h
        · rename_i z2
          rw [Bool.and_eq_true] at z2
          rw [wrongFrom, if_pos (by rw [z2.1]; rfl)]
          exact wrong_shift h
        · cases h
    · cases h
end My
set_option Elab.async false
set_option linter.all false
set_option maxRecDepth 100000
set_option maxHeartbeats 8000000
set_option exponentiation.threshold 2000
namespace My
open PySem PySem.Spec PyProof.Rows L2 L2H Gn
/-! the law's own questions, what is due, whether it came -/
abbrev sLEnds : Stmt := top 55
theorem scLEnds : FnScope ["_law_found", "_law_dues"] ["_law_found", "_law_dues"] (defScope sLEnds) := ⟨rfl, rfl, rfl, by decide +kernel, rfl, by decide +kernel, by decide +kernel⟩
/-- a list of such values, wherever it lies -/
def DuesAt (K : PySem.W.Frag) (H : Hp) (r : V) (ds : List PyData) : Prop := ∃ p xs, r = .ref p ∧ H p = some (.lst xs) ∧ AnAll K H xs ds
theorem DuesAt.same {K : PySem.W.Frag} {H H' : Hp} {r : V} {ds : List PyData} (e : Same H H') (h : DuesAt K H r ds) : DuesAt K H' r ds := by
  obtain ⟨p, xs, rfl, h, a⟩ := h
  exact ⟨p, xs, rfl, e _ _ h, a.same e⟩
/-- what is due where g says that it is right -/
def dueD (wd : Str) (d : PyData) (g : Bool) : List PyData := if g = true then [] else [.list [.str wd, d]]
/-- small enough to be shown -/
structure Shw (d : PyData) : Prop where
  sh : d.showable = true
  dp : d.depth < 60
  ln : d.shown.length ≤ sizeLine
def spEnds (K : PySem.W.Frag) : Sp := fun vs H Q _ => ∃ (f : Addr) (u : V), vs = [.ref f, u] ∧ ((∃ (wd : Str) (r : V), DuesAt K H u [] ∧ H f = some (.lst [.str wd, r]) ∧ ∀ H', Same H H' → Q (.bl (decide (wd = "told"))) H') ∨
  ∃ (e d : PyData) (es : List PyData), DuesAt K H u (e :: es) ∧ (∃ ls, e = .list ls) ∧ An K H (.ref f) d ∧ Shw d ∧ Shw e ∧ ∀ H', Same H H' → Q (.bl (decide (d.shown = e.shown))) H')
section
variable {P : Program} {w : World} {K : PySem.W.Frag} {mg : Str → Option Value} {base : Heap}
theorem ok_ends {f : Addr} {fd : FuncData} (F : Fun K "_law_ends_right" "_law_ends_right" sLEnds f fd) (rp : mg "repr" = none) : FnG P w K mg base CX0 1 f fd ["_law_found", "_law_dues"] (spEnds K) := by
  refine funG0 F scLEnds (fun vs H Q E h => ?_) (fun cdv A outer s H vs Q E hg hr h => ?_)
  · obtain ⟨f, u, rfl, _⟩ := h
    rfl
  · obtain ⟨f, u, rfl, b⟩ := h
    have hu : (A.deeper (envOfC "_law_ends_right" (defScope sLEnds) s.heap.objs.size _ cdv)).units + 64 < cLine := hr.units
    refine ⟨_, pss_one (ps_ret (pe_ifExp (pt_cmpR (op_neNil (Nat.lt_of_le_of_lt (Nat.le_add_right _ 64) hu)) (pv 1) (pe_lst pa_nil) (nomark _))
      (pe_cmpR op_eq (pe_callB (cr_reprA hg hu) (by rfl) rp (by decide +kernel) (pa_cons (pv 0) pa_nil)) (pe_callB (cr_reprA hg hu) (by rfl) rp (by decide +kernel) (pa_cons (pe_ix ix_list (pv 1) pe_int (fun _ _ => rfl)) pa_nil)) (nomark _))
      (pe_cmpR op_eq (pe_ix ix_list (pv 0) pe_int (fun _ _ => rfl)) pe_str (nomark _)))), ?_⟩
    rcases b with ⟨wd, r, ⟨p, xs, rfl, hp, all⟩, hf, q⟩ | ⟨e, d, es, ⟨p, xs, rfl, hp, all⟩, ⟨ls, rfl⟩, an, sd, se, q⟩
    · cases all
      refine ⟨_, rfl, (by show 0 ≤ sizeLine; decide), fun z hz => ?_⟩
      have s1 := same_put (o := .lst []) hz
      refine ⟨p, z, [], rfl, rfl, .inl (.inl (s1 _ _ hp)), .inl (.inl upd_same), _, rfl, iteF ?_⟩
      refine ⟨_, rfl, _, _, 0, .str wd, rfl, rfl, .inl (.inl (s1 _ _ hf)), at_of (j := 0) rfl rfl, ?_⟩
      have e : decide (V.str wd = V.str "told") = decide (wd = "told") := by rw [decide_eq_decide, V.str.injEq]
      refine ⟨rfl, ?_⟩
      rw [e]
      exact q _ s1
    · cases all with
      | cons h1 h2 =>
        refine ⟨_, rfl, (by show 0 ≤ sizeLine; decide), fun z hz => ?_⟩
        have s1 := same_put (o := .lst []) hz
        refine ⟨p, z, _, rfl, rfl, .inl (.inl (s1 _ _ hp)), .inl (.inl upd_same), _, rfl, iteT ?_⟩
        refine ⟨_, rfl, f, d, rfl, an.same s1, sd.sh, sd.dp, sd.ln, ?_⟩
        cases h1 with
        | lst h0 ne t =>
          refine ⟨_, rfl, p, _, 0, _, rfl, rfl, .inl (.inl (s1 _ _ hp)), at_of (j := 0) rfl rfl, _, _, rfl, .lst (s1 _ _ h0) ne (t.same s1), se.sh, se.dp, se.ln, ?_⟩
          have e : decide (V.str d.shown = V.str (PyData.list ls).shown) = decide (d.shown = (PyData.list ls).shown) := by rw [decide_eq_decide, V.str.injEq]
          refine ⟨rfl, ?_⟩
          rw [e]
          exact q _ s1
end
end My
set_option Elab.async false
set_option linter.all false
set_option maxRecDepth 100000
set_option maxHeartbeats 4000000
/-! x == [] of any list; a method's one keyword behind self -/
namespace Gn
open PySem PySem.Spec PyProof.Rows L2
section
variable {X : Cx}
def rEqNil (K : PySem.W.Frag) : R2 := fun x y H Q => ∃ a b xs, x = .ref a ∧ y = .ref b ∧ SqL K H a xs ∧ SqL K H b [] ∧ Q (.bl xs.isEmpty) H
theorem op_eqNil (hu : X.A.units < cLine) : OpR X (compareOp .Eq) (rEqNil X.K) := by
  intro pins s σ H x y v u Q I rx ry h
  obtain ⟨a, b, xs, rfl, rfl, ha, hb, q⟩ := h
  cases (show v = Value.ref a from rx)
  cases (show u = Value.ref b from ry)
  obtain ⟨us, r1, p1, _⟩ := I.list ha
  obtain ⟨ws, r2, p2, _⟩ := I.list hb
  cases r2
  cases r1 with
  | nil => exact SeqAt.RcAt.lists (e := fun _ => true) p1.isList p2.isList rfl hu (fun j h1 h2 => absurd h2 (Nat.not_lt_zero j)) _ _ _ _ ⟨.bl _, H, I, rfl, q⟩
  | cons r1 r2 => exact SeqAt.RcAt.lists_lengths p1.isList p2.isList (by simp) hu _ _ _ _ ⟨.bl _, H, I, rfl, q⟩
end
def kwN {α : Type} : List α → List α → List α
  | [u], [a] => [u, a]
  | _, _ => []
section
variable {K : PySem.W.Frag} {fd : FuncData}
theorem kbn1 {p q : Str} (h : ∀ u a : Value, bindArgs fd ⟨[u], [(q, a)]⟩ = pure [(p, u), (q, a)]) : KBn K fd [p, q] 1 [q] kwN kwN :=
  ⟨fun s us ws _ lu hl => match us, ws, lu, hl with
    | [u], [a], _, _ => .of_eq (h u a)
    | [], _, z, _ => (nomatch z)
    | _ :: _ :: _, _, z, _ => (nomatch z)
    | [_], [], _, z => (nomatch z)
    | [_], _ :: _ :: _, _, z => (nomatch z), fun {vs us zs ws} r rz => by
    cases r with
    | nil => exact .nil
    | cons a b => cases b with
      | nil => cases rz with
        | nil => exact .nil
        | cons c d => cases d with
          | nil => exact .cons a (.cons c .nil)
          | cons _ _ => exact .nil
      | cons _ _ => exact .nil⟩
theorem kwnOf1 {x qual : Str} {st : Stmt} {f : Addr} {fd : FuncData} {p q : Str} (F : Fun K x qual st f fd)
    (h : ∀ (kV doc pm : Value) (an : Option Addr) (cdv ct u a : Value), bindArgs (PySem.W.fnOf x qual (defArgs st) (defBody st) (defScope st) .none kV doc pm an cdv ct) ⟨[u], [(q, a)]⟩ = pure [(p, u), (q, a)]) : KBn K fd [p, q] 1 [q] kwN kwN := by
  obtain ⟨oc, od, kV, doc, pm, an, cdv, ct, osl, rfl, lk, hcd⟩ := F.ex
  exact kbn1 fun u a => h kV doc pm an cdv ct u a
end
end Gn
set_option Elab.async false
set_option linter.all false
set_option maxRecDepth 100000
set_option maxHeartbeats 8000000
set_option exponentiation.threshold 4000
namespace My
open PySem PySem.Spec PyProof.Rows L2 Gn Mt
abbrev s__law_right : Stmt := top 60
/-! a turn of the law: what it asks, what is due, what is found -/
abbrev NR : List Str := ["_law_tin_here", "_law_turn", "_law_found", "_law_dues", "_law_mine", "_law_line", "_law_mate", "_law_thing", "_law_k", "_law_each"]
theorem sc__law_right : FnScope NR ["_law_tin_here"] (defScope s__law_right) := ⟨rfl, rfl, rfl, by decide +kernel, rfl, by decide +kernel, by decide +kernel⟩
def qR : Str := (envOfC "_law_right" (defScope s__law_right) 0 0 .none).qual ++ "<lambda>"
theorem tabQ_sip {H H' : Hp} {t P : Addr} {q : Str} (T : LamX.TabS H P q) (hT : Tin H t) (s : Sipped H H' t) : LamX.TabS H' P q := by
  obtain ⟨ps, h1, h2, h3⟩ := T
  obtain ⟨a, b, c, hl, _⟩ := hT
  refine ⟨ps, s.2 _ _ h1 (fun z => by rw [z, hl] at h1; cases h1), h2, fun pos cv hc => ?_⟩
  obtain ⟨c0, e1, e2⟩ := h3 pos cv hc
  exact ⟨c0, e1, s.2 _ _ e2 (fun z => by rw [z, hl] at e2; unfold LamX.CodeO at e2; cases e2)⟩
/-- it drew from its tin and made new things; tables may grow -/
structure Stq (T : List (Addr × Str)) (H H' : Hp) (t : Addr) : Prop where
  tin : Tin H' t
  keep : ∀ b o, H b = some o → b ≠ t → (∀ ps, o ≠ .tbl ps) → H' b = some o
  tab : LamX.Tabs T H'
section
variable {T : List (Addr × Str)} {H H' H1 H2 : Hp} {t : Addr}
theorem Stq.refl (hT : Tin H t) (hB : LamX.Tabs T H) : Stq T H H t := ⟨hT, fun _ _ e _ _ => e, hB⟩
theorem sipped_same (hT : Tin H t) (s : Same H H1) : Sipped H H1 t := Sipped.ofSame hT s
theorem Stq.drawn (a : Stq T H H1 t) (s : Sipped H1 H2 t) : Stq T H H2 t :=
  ⟨s.1, fun b o e n x => s.2 _ _ (a.keep b o e n x) n, fun p hp => tabQ_sip (a.tab p hp) a.tin s⟩
theorem Stq.same (a : Stq T H H1 t) (s : Same H1 H2) : Stq T H H2 t := a.drawn (Sipped.ofSame a.tin s)
theorem Stq.ext (a : Stq T H H1 t) (e : LamX.ExtN H1 H2) (hB : LamX.Tabs T H2) : Stq T H H2 t := by
  refine ⟨?_, fun b o z n x => e b o (a.keep b o z n x) x, hB⟩
  obtain ⟨u, v, c, hl, r⟩ := a.tin
  exact ⟨u, v, c, e _ _ hl (fun ps z => by cases z), r⟩
theorem Stq.trans (a : Stq T H H1 t) (b : Stq T H1 H2 t) : Stq T H H2 t := ⟨b.tin, fun c o e n x => b.keep c o (a.keep c o e n x) n x, b.tab⟩
/-- a list that it made since grows -/
theorem Stq.put {G0 G : Hp} {l : Addr} {xs ys : List V} (n : G0 l = none) (nt : l ≠ t) (b : Stq T G0 G t) (hl : G l = some (.lst xs)) : Stq T G0 (upd G l (.lst ys)) t := by
  refine ⟨?_, fun c o e nt x => ?_, fun p hp => ?_⟩
  · obtain ⟨u, v, w, ht, r⟩ := b.tin
    exact ⟨u, v, w, by rw [upd_ne (Ne.symm nt)]; exact ht, r⟩
  · have ne : c ≠ l := fun z => by rw [z, n] at e; cases e
    rw [upd_ne ne]
    exact b.keep c o e nt x
  · obtain ⟨ps, h1, h2, h3⟩ := b.tab p hp
    have ne : p.1 ≠ l := fun z => by rw [z, hl] at h1; cases h1
    refine ⟨ps, by rw [upd_ne ne]; exact h1, h2, fun pos cv hc => ?_⟩
    obtain ⟨c0, e1, e2⟩ := h3 pos cv hc
    have ne2 : c0 ≠ l := fun z => by rw [z, hl] at e2; unfold LamX.CodeO at e2; cases e2
    exact ⟨c0, e1, by rw [upd_ne ne2]; exact e2⟩
end
mutual
theorem an_ext {K : PySem.W.Frag} {H H' : Hp} (e : LamX.ExtN H H') : ∀ {v : V} {d : PyData}, An K H v d → An K H' v d
  | _, _, .non => .non
  | _, _, .bl b => .bl b
  | _, _, .int i => .int i
  | _, _, .str x => .str x
  | _, _, .lst h n t => .lst (e _ _ h fun ps z => by cases z) n (anAll_ext e t)
  | _, _, .tup h t => .tup (e _ _ h fun ps z => by cases z) (anAll_ext e t)
  | _, _, .dct h => .dct (e _ _ h fun ps z => by cases z)
theorem anAll_ext {K : PySem.W.Frag} {H H' : Hp} (e : LamX.ExtN H H') : ∀ {vs : List V} {ds : List PyData}, AnAll K H vs ds → AnAll K H' vs ds
  | _, _, .nil => .nil
  | _, _, .cons h t => .cons (an_ext e h) (anAll_ext e t)
end
theorem DuesAt.ext {K : PySem.W.Frag} {H H' : Hp} {r : V} {ds : List PyData} (e : LamX.ExtN H H') (h : DuesAt K H r ds) : DuesAt K H' r ds := by
  obtain ⟨p, xs, rfl, h, a⟩ := h
  exact ⟨p, xs, rfl, e _ _ h (fun ps z => by cases z), anAll_ext e a⟩
/-- what is due: lists that are shown -/
def Du (ds : List PyData) : Prop := ∀ e ∈ ds, Shw e ∧ ∃ l, e = .list l
def ordL (w : Option Nat) : PyData := .list [.str "pieces", ixD w]
theorem an_ix {K : PySem.W.Frag} {H : Hp} : ∀ w : Option Nat, An K H (ixV w) (ixD w)
  | none => .non
  | some _ => .int _
theorem shw_pair {wd : Str} {d : PyData} (h1 : Sm 1921 0 (.str wd)) (h2 : Sm 1921 0 d) : Shw (.list [.str wd, d]) := by
  have s := Sm.lst (n := 2) (ds := [.str wd, d]) (fun e m => by
    rcases List.mem_cons.mp m with rfl | m
    · exact h1
    · rw [List.mem_singleton.mp m]; exact h2) (Nat.le_refl _)
  exact ⟨s.sh, Nat.lt_of_le_of_lt s.dp (by decide), Nat.le_trans s.ln (by decide)⟩
theorem sm_word : Sm 1921 0 (.str "pieces") := ⟨by decide +kernel, by decide +kernel, by decide +kernel, by decide +kernel⟩
theorem sm_ix {w : Option Nat} (h : ∀ j, w = some j → j ≤ 24) : Sm 1921 0 (ixD w) := by
  cases w with
  | none => exact sm_atom (d := .none) rfl
  | some j => exact sm_atom (d := .int (j : Nat)) (decide_eq_true (by have := h j rfl; omega))
theorem wrong_lt : ∀ {ds : List PyData} {p : Option PyData} {i j : Nat}, wrongFrom p i ds = some j → j < i + ds.length
  | [], _, _, _, h => by cases h
  | d :: ds, p, i, j, h => by
    rw [wrongFrom] at h
    rw [List.length_cons]
    split at h
    · have := wrong_lt h; omega
    · cases h; omega
theorem pcsW_lt {d : PyData} {w : Option Nat} (hb : bentB d = true) (h : pcsW d = some w) : ∀ j, w = some j → j ≤ 24 := fun j e => by
  subst e
  cases d with
  | tuple ds =>
    have l := (bent_in hb).1
    have h : (wrongFrom none 0 ds).map some = some (some j) := h
    obtain ⟨k, hk, e⟩ := Option.map_eq_some_iff.mp h
    cases e
    have := wrong_lt hk
    omega
  | _ => cases h
def wl (d : PyData) : List (Option Nat) := match pcsW d with
  | none => []
  | some w => [w]
theorem wrV_wl {d : PyData} : wrV (pcsW d) = (wl d).map ixV := by
  unfold wl
  cases pcsW d <;> rfl
theorem wl_len {d : PyData} : (wl d).length ≤ 1 := by
  unfold wl
  cases pcsW d <;> simp
/-- what is due -/
def duesP (d : PyData) : List PyData := (wl d).map ordL
theorem duesP_none {d : PyData} (h : pcsW d = none) : duesP d = [] := by unfold duesP wl; rw [h]; rfl
theorem duesP_some {d : PyData} {w : Option Nat} (h : pcsW d = some w) : duesP d = [ordL w] := by unfold duesP wl; rw [h]; rfl
theorem du_p {d : PyData} (hb : bentB d = true) : Du (duesP d) := fun e m => by
  cases h : pcsW d with
  | none => rw [duesP_none h] at m; cases m
  | some w =>
    rw [duesP_some h] at m
    rw [List.mem_singleton.mp m]
    exact ⟨shw_pair sm_word (sm_ix (pcsW_lt hb h)), _, rfl⟩
/-- what is found: the lot, or the first that is due -/
def Fnd (K : PySem.W.Frag) (C : Addr) (H : Hp) (f : Addr) (vt : V) (ds : List PyData) : Prop := ∃ (wd : Str) (v : V), H f = some (.lst [.str wd, v]) ∧
  ((ds = [] ∧ wd = "told" ∧ ∃ x dx, v = .ref x ∧ H x = some (.ins C dx [("_pieces", vt)])) ∨ ∃ d es, ds = .list [.str wd, d] :: es ∧ (∀ G : Hp, An K G v d) ∧ f ≠ sysModules)
theorem Fnd.ext {K : PySem.W.Frag} {C : Addr} {H H' : Hp} {f : Addr} {vt : V} {ds : List PyData} (h : Fnd K C H f vt ds) (e : LamX.ExtN H H') : Fnd K C H' f vt ds := by
  obtain ⟨wd, v, h, r⟩ := h
  refine ⟨wd, v, e _ _ h (fun ps z => by cases z), ?_⟩
  rcases r with ⟨r1, r2, x, dx, r3, r4⟩ | r
  · exact .inl ⟨r1, r2, x, dx, r3, e _ _ r4 (fun ps z => by cases z)⟩
  · exact .inr r
theorem Fnd.put {K : PySem.W.Frag} {C : Addr} {H : Hp} {f l g : Addr} {xs : List V} {o : HO} {vt : V} {ds : List PyData} (hl : H l = some (.lst (.ref g :: xs))) (h : Fnd K C H f vt ds) : Fnd K C (upd H l o) f vt ds := by
  obtain ⟨wd, v, h, r⟩ := h
  have ne : f ≠ l := fun z => by rw [z, hl] at h; cases h
  refine ⟨wd, v, by rw [upd_ne ne]; exact h, ?_⟩
  rcases r with ⟨r1, r2, x, dx, r3, r4⟩ | r
  · refine .inl ⟨r1, r2, x, dx, r3, ?_⟩
    rw [upd_ne (fun z => by rw [z, hl] at r4; cases r4)]
    exact r4
  · exact .inr r
theorem ends_ok {K : PySem.W.Frag} {C : Addr} {H : Hp} {f : Addr} {u vt : V} {ds : List PyData} {Q : VK} {E : XK} (F : Fnd K C H f vt ds) (D : DuesAt K H u ds) (du : Du ds) (q : ∀ H', Same H H' → Q (.bl true) H') : spEnds K [.ref f, u] H Q E := by
  obtain ⟨wd, v, h, ⟨rfl, rfl, _⟩ | ⟨d, es, rfl, an, ne⟩⟩ := F
  · exact ⟨f, u, rfl, .inl ⟨"told", v, D, h, fun H' s => q H' s⟩⟩
  · obtain ⟨sh, ls⟩ := du _ List.mem_cons_self
    refine ⟨f, u, rfl, .inr ⟨_, _, es, D, ls, .lst h ne (.cons (.str _) (.cons (an H) .nil)), sh, sh, fun H' s => ?_⟩⟩
    rw [decide_eq_true rfl]
    exact q H' s
theorem ends_at {K : PySem.W.Frag} {σ : L2.St} {H : Hp} {f u : V} {Q : VK} {E : XK} (h : spEnds K [f, u] H Q E) : tNil σ H (fun xs H2 => spEnds K ((f :: (u :: xs)) ++ []) H2 Q E) := h
theorem tabs_put {T : List (Addr × Str)} {G : Hp} {D : Addr} {xs : List V} {o : HO} (h : LamX.Tabs T G) (hD : G D = some (.lst xs)) : LamX.Tabs T (upd G D o) := fun p hp => by
  obtain ⟨ps, h1, h2, h3⟩ := h p hp
  have ne : p.1 ≠ D := fun z => by rw [z, hD] at h1; cases h1
  refine ⟨ps, by rw [upd_ne ne]; exact h1, h2, fun pos cv hc => ?_⟩
  obtain ⟨c0, e1, e2⟩ := h3 pos cv hc
  have ne2 : c0 ≠ D := fun z => by rw [z, hD] at e2; unfold LamX.CodeO at e2; cases e2
  exact ⟨c0, e1, by rw [upd_ne ne2]; exact e2⟩
theorem same_made {H : Hp} {x dx C : Addr} (n1 : H x = none) (n2 : H dx = none) (ne : dx ≠ x) : Same H (upd (upd H dx (.own x)) x (.ins C dx [])) :=
  (same_put n2).trans (same_put (by rw [upd_ne (Ne.symm ne)]; exact n1))
section
variable {K : PySem.W.Frag} {mg : Str → Option Value} {B : Er mg} {H : Hp} {Q Q' : VK} {E' : XK} {T : List (Addr × Str)}
/-- what then is found -/
def After (K : PySem.W.Frag) (C : Addr) (T : List (Addr × Str)) (H : Hp) (Q : VK) (vt : V) (ds : List PyData) : Prop := ∀ f G, LamX.ExtN H G → LamX.Tabs T G → Fnd K C G f vt ds → Q (.ref f) G
/-- Lot(thing), tried: the lot, or the first that is due raised -/
theorem try_lot {C CP : Addr} {v : V} {d : PyData} (h : Held K B CP 7) (an : An K H v d) (lit : LitP d) (hT : LamX.Tabs T H) (hE : ∀ C d G, RaisesAs K B Q C d G → E' C d G) (hQ : ∀ v G, TellsAs Q v G → Q' v G)
    (q : After K C T H Q v (duesP d)) : ∀ x dx, H x = none → H dx = none → dx ≠ x → spInitX K C CP (.ref x :: [v]) (upd (upd H dx (.own x)) x (.ins C dx [])) (fun u H2 => u = .non ∧ Q' (.ref x) H2) E' := fun x dx n1 n2 ne => by
  have s0 := same_made (C := C) n1 n2 ne
  refine ⟨x, dx, v, d, rfl, upd_same, an.same s0, lit, fun z H' kp hx => ⟨rfl, ?_⟩, fun w z => ?_⟩
  · have s1 : Same H H' := fun b o e => kp b o (fun y => by rw [y, n1] at e; cases e) (s0 _ _ e)
    exact hQ _ _ fun f G s2 hf => q f G (LamX.ExtN.of (s1.trans s2)) ((hT.ext s1).ext s2) ⟨_, _, hf, .inl ⟨duesP_none z, rfl, x, dx, rfl, s2 _ _ hx⟩⟩
  · intro y H' s n hy
    have S := s0.trans s
    exact hE _ _ _ ⟨CP, 7, _, rfl, h, fun y' e => by cases e; exact ⟨_, hy⟩, by unfold FldAt; exact ⟨y, _, rfl, hy, rfl⟩, fun f G s2 np hf => q f G (LamX.ExtN.of (S.trans s2)) ((hT.ext S).ext s2) ⟨_, _, hf, .inr ⟨_, [], duesP_some z, fun G => an_ix w, np⟩⟩⟩
/-- Lot(thing), thing right -/
theorem make_lot {C CP : Addr} {v : V} {d : PyData} {E' : XK} (an : An K H v d) (lit : LitP d) (z : pcsW d = none) (k : ∀ x dx H', Same H H' → H' x = some (.ins C dx [("_pieces", v)]) → Q (.ref x) H') :
    ∀ x dx, H x = none → H dx = none → dx ≠ x → spInitX K C CP (.ref x :: [v]) (upd (upd H dx (.own x)) x (.ins C dx [])) (fun u H2 => u = .non ∧ Q (.ref x) H2) E' := fun x dx n1 n2 ne => by
  have s0 := same_made (C := C) n1 n2 ne
  refine ⟨x, dx, v, d, rfl, upd_same, an.same s0, lit, fun _ H' kp hx => ⟨rfl, ?_⟩, fun w y => by rw [z] at y; cases y⟩
  exact k x dx H' (fun b o e => kp b o (fun y => by rw [y, n1] at e; cases e) (s0 _ _ e)) hx
end
theorem passN {X : Cx} {E : XK} (tk : L2N.Takes X (fun C d _ G => E C d G)) : Passes (L2N.CX X.prog X.w) X E := fun pins σ H s e s' I c => (L2N.passAt tk σ) pins H s e s' I c
/-! how much of the rim: small numbers -/
theorem widF_bd : ∀ {cs : List Cut} {T : Int × Int} {B : Nat}, SmlC cs → T.1.natAbs ≤ B → T.2.natAbs ≤ B → (widF cs T).1.natAbs ≤ B * 1152 ^ cs.length ∧ (widF cs T).2.natAbs ≤ B * 1152 ^ cs.length
  | [], T, B, _, h1, h2 => ⟨by show T.1.natAbs ≤ B * 1152 ^ 0; omega, by show T.2.natAbs ≤ B * 1152 ^ 0; omega⟩
  | [c], T, B, _, h1, h2 => ⟨by show T.1.natAbs ≤ B * 1152 ^ 1; omega, by show T.2.natAbs ≤ B * 1152 ^ 1; omega⟩
  | c :: e :: r, T, B, sm, h1, h2 => by
    have sc := sm c List.mem_cons_self
    have se := sm e (List.mem_cons_of_mem _ List.mem_cons_self)
    have c1 := sc.n0; have c2 := sc.le; have c3 := sc.d1; have c4 := sc.d24
    have d1 := se.n0; have d2 := se.le; have d3 := se.d1; have d4 := se.d24
    dsimp only at c1 c2 c3 c4 d1 d2 d3 d4
    have m1 : e.n * c.d ≤ 24 * 24 := Int.mul_le_mul (by omega) (by omega) (by omega) (by omega)
    have m2 : c.n * e.d ≤ 24 * 24 := Int.mul_le_mul (by omega) (by omega) (by omega) (by omega)
    have m3 : 0 ≤ e.n * c.d := Int.mul_nonneg d1 (by omega)
    have m4 : 0 ≤ c.n * e.d := Int.mul_nonneg c1 (by omega)
    have q1 : (T.2 * e.d * c.d).natAbs ≤ B * 24 * 24 := by
      rw [Int.natAbs_mul, Int.natAbs_mul]
      exact Nat.mul_le_mul (Nat.mul_le_mul h2 (by omega)) (by omega)
    have q2 : (T.1 * e.d * c.d).natAbs ≤ B * 24 * 24 := by
      rw [Int.natAbs_mul, Int.natAbs_mul]
      exact Nat.mul_le_mul (Nat.mul_le_mul h1 (by omega)) (by omega)
    have q3 : ((e.n * c.d - c.n * e.d) * T.2).natAbs ≤ 576 * B := by
      rw [Int.natAbs_mul]
      exact Nat.mul_le_mul (by omega) h2
    have ih := widF_bd (cs := r) (T := addF (addF T (fr e)) (neg c)) (B := B * 1152) (fun x m => sm x (List.mem_cons_of_mem _ (List.mem_cons_of_mem _ m))) (by rw [widF_step]; show (T.1 * e.d * c.d + (e.n * c.d - c.n * e.d) * T.2).natAbs ≤ _; have := Int.natAbs_add_le (T.1 * e.d * c.d) ((e.n * c.d - c.n * e.d) * T.2); omega) (by rw [widF_step]; show (T.2 * e.d * c.d).natAbs ≤ _; omega)
    have up : B * 1152 * 1152 ^ r.length ≤ B * 1152 ^ (c :: e :: r).length := by
      rw [Nat.mul_assoc, ← Nat.pow_succ']
      exact Nat.mul_le_mul_left _ (Nat.pow_le_pow_right (by decide) (by simp))
    exact ⟨Nat.le_trans ih.1 up, Nat.le_trans ih.2 up⟩
theorem pcs24 : ∀ {cs : List Cut}, SmlC cs → Asc cs → Pcs L24 cs
  | [], _, _ => trivial
  | [_], _, _ => trivial
  | c :: e :: r, sm, a => by
    have sc := sm c List.mem_cons_self
    have se := sm e (List.mem_cons_of_mem _ List.mem_cons_self)
    have c3 := sc.d1; have c4 := sc.d24
    have d1 := se.n0; have d3 := se.d1; have d4 := se.d24
    dsimp only at c3 c4 d1 d3 d4
    have a1 := List.pairwise_cons.mp a
    have a2 := List.pairwise_cons.mp a1.2
    exact ⟨⟨by omega, by omega, d1, dv24i c3 c4, dv24i d3 d4, lt_le (a1.1 e List.mem_cons_self)⟩, pcs24 (fun x m => sm x (List.mem_cons_of_mem _ (List.mem_cons_of_mem _ m))) a2.2⟩
theorem lowQ_abs (a b : Int) : (lowQ a b).1.natAbs ≤ a.natAbs ∧ (lowQ a b).2.natAbs ≤ b.natAbs := by
  unfold lowQ
  exact ⟨by rw [Int.natAbs_ediv_of_dvd (Int.ofNat_dvd_left.mpr (Nat.gcd_dvd_left _ _))]; exact Nat.div_le_self _ _, by rw [Int.natAbs_ediv_of_dvd (Int.ofNat_dvd_left.mpr (Nat.gcd_dvd_right _ _))]; exact Nat.div_le_self _ _⟩
theorem wid_ok {cs : List Cut} (L : Lt cs) (sm : SmlC cs) (few : cs.length ≤ 20) : lowQ (widF cs (0, 1)).1 (widF cs (0, 1)).2 = wid cs (0, 1) ∧ (wid cs (0, 1)).1.natAbs < 2 ^ 1000 ∧ (wid cs (0, 1)).2.natAbs < 2 ^ 1000 := by
  obtain ⟨_, _, e⟩ := wid_eq (pcs24 sm L.a) (Int.one_dvd _)
  obtain ⟨b1, b2⟩ := widF_bd (cs := cs) (T := (0, 1)) (B := 1) sm (by decide) (by decide)
  obtain ⟨l1, l2⟩ := lowQ_abs (widF cs (0, 1)).1 (widF cs (0, 1)).2
  have p : 1 * 1152 ^ cs.length ≤ 1 * 1152 ^ 20 := Nat.mul_le_mul_left _ (Nat.pow_le_pow_right (by decide) few)
  have k : 1 * 1152 ^ 20 < 2 ^ 1000 := by decide
  refine ⟨e, ?_, ?_⟩
  · rw [← e]; omega
  · rw [← e]; omega
end My
set_option Elab.async false
set_option linter.all false
set_option maxRecDepth 100000
set_option maxHeartbeats 8000000
set_option exponentiation.threshold 4000
namespace My
open PySem PySem.Spec PyProof.Rows L2 Gn Mt
/-! a turn of the law -/
/-- what the law asks of the module -/
structure La (P : Program) (w : World) (K : PySem.W.Frag) (mg : Str → Option Value) (base : Heap) where
  C : Addr
  fI : Addr
  fP : Addr
  fW : Addr
  fE : Addr
  fR : Addr
  fdI : FuncData
  fdP : FuncData
  fdW : FuncData
  fdE : FuncData
  fdR : FuncData
  T : LotC P w K mg C fI fP fdI fdP
  kw : KBn K fdI ["self", "pieces"] 1 ["pieces"] kwN kwN
  LI : LotI K C
  bp : Bp K mg
  pd : Pd K mg
  CP : Addr
  eP : Addr × FuncData
  tP : OwE P w K mg base "InvalidPieces" ["index"] CP eP.1 eP.2
  er : Er mg
  hP : Held K er CP 7
  pw : ∃ p, PropOf K C "width" p fW
  FW : Fun K "width" "Lot.width" s_lwidth fW fdW
  bW : Binds K fdW ["self"] []
  FE : Fun K "__eq__" "Lot.__eq__" s_leq fE fdE
  bE : Binds K fdE ["self", "other"] []
  eS : PySem.W.findIn K (.ref C) "__eq__" = some (some (.ref fE))
  eF : PySem.W.isFn K (.ref fE) = true
  nF : PySem.W.notFirst K C (.type "tuple") = true
  nC : NeC K C fE
  FR : Fun K "__repr__" "Lot.__repr__" s_lrepr fR fdR
  bR : Binds K fdR ["self"] []
  rS : PySem.W.findIn K (.ref C) "__repr__" = some (some (.ref fR))
  rF : PySem.W.isFn K (.ref fR) = true
  nb : PySem.W.findIn K (.ref C) "__bool__" = some none
  nl : PySem.W.findIn K (.ref C) "__len__" = some none
  bl : Bl mg
  rp : mg "repr" = none
  all : mg "all" = none
  range : mg "range" = none
  list : mg "list" = none
  max : mg "max" = none
  str : mg "str" = none
  sorted : mg "sorted" = none
  set : mg "set" = none
  lgK : Lg K mg
  f_ls : Addr × FuncData
  ls : Df K mg "_law_sip" sSip ["_law_tin_here", "_law_top"] f_ls.1 f_ls.2
  f_lk : Addr × FuncData
  lk : Df K mg "_law_pick" sPick ["_law_tin_here", "_law_menu"] f_lk.1 f_lk.2
  f_lg : Addr × FuncData
  lg : Df K mg "_law_gcd" sGcd ["_law_one", "_law_two"] f_lg.1 f_lg.2
  f_ll : Addr × FuncData
  ll : Df K mg "_law_low" sLow ["_law_top", "_law_bottom"] f_ll.1 f_ll.2
  f_lp : Addr × FuncData
  lp : Df K mg "_law_pieces" s__law_pieces ["_law_tin_here", "_law_many"] f_lp.1 f_lp.2
  f_lE : Addr × FuncData
  lE : Df K mg "_law_error" sLError ["_law_act"] f_lE.1 f_lE.2
  f_lC : Addr × FuncData
  lC : Df K mg "_law_class" sLClass ["_law_e"] f_lC.1 f_lC.2
  f_lF : Addr × FuncData
  lF : Df K mg "_law_field" sLField ["_law_e"] f_lF.1 f_lF.2
  f_lX : Addr × FuncData
  lX : Df K mg "_law_ends_right" sLEnds ["_law_found", "_law_dues"] f_lX.1 f_lX.2
  f_li : Addr × FuncData
  li : Df K mg "_law_is_piece" s__law_is_piece ["_law_thing"] f_li.1 f_li.2
  f_lw : Addr × FuncData
  lw : Df K mg "_law_wrong" s__law_wrong ["_law_thing"] f_lw.1 f_lw.2
  f_lb : Addr × FuncData
  lb : Df K mg "_law_bent" s__law_bent ["_law_tin_here", "_law_right_here"] f_lb.1 f_lb.2
  f_lq : Addr × FuncData
  lq : Df K mg "_law_width" s__law_width ["_law_rows_here"] f_lq.1 f_lq.2
  f_low : Addr × FuncData
  low : Df K mg "lowest" sLowest ["top", "bottom"] f_low.1 f_low.2
  TT : List (Addr × Str)
/-- the lists of what is due last when a list of other ones grows -/
theorem anOrd_put {K : PySem.W.Frag} {H : Hp} {D : Addr} {zs : List V} {o : HO} (hD : H D = some (.lst zs)) (hz : ∀ z ∈ zs, ∃ p, z = .ref p) : ∀ {ys : List V} {ws : List (Option Nat)}, AnAll K H ys (ws.map ordL) → AnAll K (upd H D o) ys (ws.map ordL)
  | _, [], h => by cases h; exact .nil
  | _, w :: ws, h => by
    rw [List.map_cons] at h ⊢
    cases h with
    | cons h t =>
      refine .cons ?_ (anOrd_put hD hz t)
      unfold ordL at h ⊢
      cases h with
      | lst h ne s =>
        rename_i a xs
        have na : a ≠ D := fun z => by
          rw [z, hD] at h
          cases h
          cases s with
          | cons s1 s2 =>
            cases s1
            obtain ⟨p, e⟩ := hz _ List.mem_cons_self
            cases e
        refine .lst (by rw [upd_ne na]; exact h) ne ?_
        cases s with
        | cons s1 s2 => cases s1; cases s2 with
          | cons s3 s4 => cases s4; exact .cons (.str _) (.cons (by cases w <;> (cases s3; first | exact .non | exact .int _)) .nil)
theorem ord_refs {K : PySem.W.Frag} {H : Hp} : ∀ {ys : List V} {ws : List (Option Nat)}, AnAll K H ys (ws.map ordL) → ∀ z ∈ ys, ∃ p, z = .ref p
  | _, [], h, z, m => by cases h; cases m
  | _, w :: ws, h, z, m => by
    rw [List.map_cons] at h
    cases h with
    | cons h t =>
      rcases List.mem_cons.mp m with rfl | m
      · unfold ordL at h
        cases h with
        | lst _ _ _ => exact ⟨_, rfl⟩
      · exact ord_refs t z m
theorem ix_inv {K : PySem.W.Frag} {H : Hp} {v : V} {w : Option Nat} (h : An K H v (ixD w)) : v = ixV w := by
  cases w with
  | none => cases h; rfl
  | some j => cases h; rfl
/-- one more of these lists in a list of them -/
theorem ord_add {K : PySem.W.Frag} {H : Hp} {D p : Addr} {ys : List V} {ws : List (Option Nat)} {w : Option Nat} (hD : H D = some (.lst ys)) (al : AnAll K H ys (ws.map ordL)) (np : H p = none) (ne : p ≠ sysModules) :
    AnAll K (upd (upd H p (.lst [.str "pieces", ixV w])) D (.lst (ys ++ [.ref p]))) (ys ++ [.ref p]) ((ws ++ [w]).map ordL) := by
  have s := same_put (o := HO.lst [.str "pieces", ixV w]) np
  have pD : p ≠ D := (ne_of_none hD np).symm
  rw [List.map_append]
  refine anAll_app (anOrd_put (s _ _ hD) (ord_refs al) (al.same s)) (.cons ?_ .nil)
  exact .lst (by rw [upd_ne pD, upd_same]) ne (.cons (.str _) (.cons (an_ix w) .nil))
theorem seqK {t r : TS} {D : Ends} {σ : L2.St} {H : Hp} (Φ : L2.St → Hp → Prop) (h : ∀ D' : Ends, (∀ σ' H', Φ σ' H' → D'.nx σ' H') → t D' σ H) (k : ∀ σ' H', Φ σ' H' → r D σ' H') : tSeq t r D σ H := h _ k
theorem Fnd.told {K : PySem.W.Frag} {C : Addr} {H : Hp} {f : Addr} {vt : V} (h : Fnd K C H f vt []) : ∃ x dx, H f = some (.lst [.str "told", .ref x]) ∧ H x = some (.ins C dx [("_pieces", vt)]) := by
  obtain ⟨wd, v, h, ⟨_, rfl, x, dx, rfl, hx⟩ | ⟨_, _, z, _⟩⟩ := h
  · exact ⟨x, dx, h, hx⟩
  · cases z
/-- the getter, what it gives named -/
def spGet (C : Addr) : Sp := fun vs H Q _ => ∃ x dx v, vs = [V.ref x] ∧ H x = some (.ins C dx [("_pieces", v)]) ∧ Q v H
theorem line_of {n : Nat} (h : n ≤ 10) : (("Lot of " : Str) ++ ((toString ((n : Nat) : Int) : String) : Str)) ++ (" pieces" : Str) = lotTx n ∧ ("Lot of " : Str).length + ((toString ((n : Nat) : Int) : String) : Str).length ≤ sizeLine ∧ (("Lot of " : Str) ++ ((toString ((n : Nat) : Int) : String) : Str)).length + (" pieces" : Str).length ≤ sizeLine ∧ ((n : Nat) : Int).natAbs.log2 < 1920 := by
  have : ∀ m ∈ List.range 11, (("Lot of " : Str) ++ ((toString ((m : Nat) : Int) : String) : Str)) ++ (" pieces" : Str) = lotTx m ∧ ("Lot of " : Str).length + ((toString ((m : Nat) : Int) : String) : Str).length ≤ sizeLine ∧ (("Lot of " : Str) ++ ((toString ((m : Nat) : Int) : String) : Str)).length + (" pieces" : Str).length ≤ sizeLine ∧ ((m : Nat) : Int).natAbs.log2 < 1920 := by decide +kernel
  exact this n (List.mem_range.mpr (by omega))
theorem sm_line {n : Nat} (h : n ≤ 10) : Sm 1921 0 (.str (lotTx n)) := by
  have : ∀ m ∈ List.range 11, (PyData.str (lotTx m)).showable = true ∧ (PyData.str (lotTx m)).shown.length ≤ 1921 ∧ (PyData.str (lotTx m)).depth ≤ 0 ∧ (PyData.str (lotTx m)).canLay0 = true := by decide +kernel
  obtain ⟨h1, h2, h3, h4⟩ := this n (List.mem_range.mpr (by omega))
  exact ⟨h1, h2, h3, h4⟩
theorem sm_row {ds : List PyData} {W : Int × Int} {n : Nat} (hb : bentB (.tuple ds) = true) (h1 : W.1.natAbs < 2 ^ 1000) (h2 : W.2.natAbs < 2 ^ 1000) (h : n ≤ 10) : Shw (.list [.tuple ds, .tuple [.int W.1, .int W.2], .str (lotTx n), .bool true]) := by
  have a := sm_bent hb
  have b : Sm (2 * 1923 + 3) 1 (.tuple ([W.1, W.2].map PyData.int)) := Sm.ints (fun i m => by
    rcases List.mem_cons.mp m with rfl | m
    · exact h1
    · rw [List.mem_singleton.mp m]; exact h2) (Nat.le_refl _)
  have s := Sm.lst (n := 4) (ds := [.tuple ds, .tuple [.int W.1, .int W.2], .str (lotTx n), .bool true]) (fun e m => by
    simp only [List.mem_cons, List.mem_nil_iff, or_false] at m
    rcases m with rfl | rfl | rfl | rfl
    · exact a
    · exact smUp b (by decide) (by decide)
    · exact smUp (sm_line h) (by decide) (by decide)
    · exact smUp (sm_atom (d := .bool true) rfl) (by decide) (by decide)) (Nat.le_refl _)
  exact ⟨s.sh, Nat.lt_of_le_of_lt s.dp (by decide), Nat.le_trans s.ln (by decide)⟩
def wholeC : List Cut := [⟨0, 1, false⟩, ⟨1, 1, false⟩]
theorem whole_pcs : pcsD wholeC = [.tuple [.tuple [.int 0, .int 1], .tuple [.int 1, .int 1], .bool true, .bool false]] := rfl
theorem whole_right : pcsW (.tuple (pcsD wholeC)) = none := by decide +kernel
theorem whole_bent : bentB (.tuple (pcsD wholeC)) = true := by decide +kernel
theorem bent_drop {ds : List PyData} (h : bentB (.tuple ds) = true) : bentB (.tuple (ds.drop 1)) = true := by
  obtain ⟨l, al⟩ := bent_in h
  show (decide ((ds.drop 1).length ≤ 10) && (ds.drop 1).all pB) = true
  rw [Bool.and_eq_true]
  exact ⟨decide_eq_true (by rw [List.length_drop]; omega), List.all_eq_true.mpr fun x m => al x (List.mem_of_mem_drop m)⟩
theorem pcs_drop : ∀ {cs : List Cut}, odd cs.length = false → (pcsD cs).drop 1 = pcsD (cs.drop 2)
  | [], _ => rfl
  | [_], o => by simp [odd] at o
  | _ :: _ :: _, _ => rfl
theorem anAll_drop {K : PySem.W.Frag} {H : Hp} : ∀ {vs : List V} {ds : List PyData}, AnAll K H vs ds → ∀ n : Nat, AnAll K H (vs.drop n) (ds.drop n)
  | _, _, h, 0 => h
  | _, _, .nil, _ + 1 => .nil
  | _, _, .cons _ t, n + 1 => anAll_drop t n
theorem drop_ne {cs : List Cut} (h : cs ≠ []) : cs ≠ cs.drop 2 := fun z => by
  have := congrArg List.length z
  rw [List.length_drop] at this
  have : cs.length = 0 := by omega
  exact h (List.eq_nil_of_length_eq_zero this)
theorem odd_drop {cs : List Cut} (h : odd cs.length = false) : odd (cs.drop 2).length = false := by
  match cs, h with
  | [], _ => rfl
  | [_], o => simp [odd] at o
  | _ :: _ :: r, o => simpa [odd] using o
def spRight (TT : List (Addr × Str)) : Sp := fun vs H Q _ => ∃ t, vs = [.ref t] ∧ Tin H t ∧ LamX.Tabs TT H ∧ ∀ H', Stq TT H H' t → Q (.bl true) H'
section
variable {P : Program} {w : World} {K : PySem.W.Frag} {mg : Str → Option Value} {base : Heap}
theorem ok_lget {C fI fP : Addr} {fdI fdP : FuncData} (T : LotC P w K mg C fI fP fdI fdP) : FnOk P w K mg base CX0 1 fP fdP ["self"] (spGet C) := by
  refine T.FP.ok sc_lpieces (fun vs H Q E h => ?_) (fun cdv A outer s H vs Q E hr h => ?_)
  · obtain ⟨x, dx, v, rfl, _⟩ := h
    rfl
  · obtain ⟨x, dx, v, rfl, hx, k⟩ := h
    exact ⟨_, pss_one (ps_ret (L2.pe_fld (pv 0) rfl)), ⟨_, rfl, x, C, dx, _, v, rfl, hx, T.cl, T.nP, rfl, k⟩⟩
theorem ok_right {f cc PR : Addr} {fd : FuncData} (F : Fun K "_law_right" "_law_right" s__law_right f fd) (M : La P w K mg base) (ec : fd.code = .ref cc) (TB : LamX.TabB base mg cc PR) (mR : (PR, qR) ∈ M.TT) (one : ∀ q ∈ M.TT, q.1 = PR → q.2 = qR) : FnG P w K mg base CX0 10 f fd ["_law_tin_here"] (spRight M.TT) := by
  have GI : FnOk P w K mg base (L2N.CX P w) 6 M.fI M.fdI ["self", "pieces"] (spInitX K M.C M.CP) := ok_linitX M.T M.bp M.pd M.tP
  have GP : FnOk P w K mg base CX0 1 M.fP M.fdP ["self"] (spGet M.C) := ok_lget M.T
  have GW : FnOk P w K mg base CX0 2 M.fW M.fdW ["self"] (spWidth K M.C) := ok_lwid M.FW M.T M.bp.c M.low
  have GE : FnOk P w K mg base CX0 1 M.fE M.fdE ["self", "other"] (spLEq K M.C) := ok_leq M.FE M.T M.LI M.bp.c
  have GR : FnOk P w K mg base CX0 1 M.fR M.fdR ["self"] (spLRepr K M.C) := ok_lrepr M.FR M.T M.bp.c
  have LP : FnOk P w K mg base CX0 2 M.f_lk.1 M.f_lk.2 ["_law_tin_here", "_law_menu"] spPick := ok_pick M.lk.F M.bl M.ls
  have LPs : FnOk P w K mg base CX0 3 M.f_lp.1 M.f_lp.2 ["_law_tin_here", "_law_many"] (spPcs K) := ok_pieces M.lp.F M.bl M.range M.sorted M.set M.bp.c.tuple M.ls M.ll M.lg
  have LB : FnOk P w K mg base CX0 3 M.f_lb.1 M.f_lb.2 ["_law_tin_here", "_law_right_here"] (spBent K) := ok_bent M.lb.F M.bl M.list M.max M.ls M.lk
  have LW : FnOk P w K mg base CX0 4 M.f_lw.1 M.f_lw.2 ["_law_thing"] (spLW K) := ok_lWrong M.lw.F M.bp.c M.range M.lgK M.li
  have LQ : FnOk P w K mg base CX0 3 M.f_lq.1 M.f_lq.2 ["_law_rows_here"] (spLWid K) := ok_lwidth M.lq.F M.bl M.ll M.lg
  have LX : FnG P w K mg base CX0 1 M.f_lX.1 M.f_lX.2 ["_law_found", "_law_dues"] (spEnds K) := ok_ends M.lX.F M.rp
  obtain ⟨pP, hpP⟩ := M.T.pp
  obtain ⟨pW, hpW⟩ := M.pw
  refine funGC F sc__law_right (fun vs H Q E h => ?_) (fun A outer s H vs Q E hg hr h => ?_)
  · obtain ⟨t, rfl, _⟩ := h
    rfl
  · obtain ⟨t, rfl, T0, TT0, q⟩ := h
    have hu := hr.units
    have hr1 : Room 1 _ := hr.mono (by decide)
    have hr2 : Room 2 _ := hr.mono (by decide)
    have hr3 : Room 3 _ := hr.mono (by decide)
    have hr4 : Room 4 _ := hr.mono (by decide)
    have hr7 : Room (6 + 1) _ := hr.mono (by decide)
    refine ⟨_, pss_cons (ps_for PassesOwn.never rfl (pi_range1 rfl M.range (pa_cons pe_int pa_nil)) (pg_name (i := 1) sc__law_right.nd rfl (.inl rfl)) (pss_cons (ps_set (i := 7) sc__law_right.nd rfl (.inr rfl) (pe_call LB hr3 (by rfl) M.lb.g M.lb.F.kp M.lb.b .nil pass0 (pa_cons (pv 0) (pa_cons (pe_call LPs hr3 (by rfl) M.lp.g M.lp.F.kp M.lp.b .nil pass0 (pa_cons (pv 0) (pa_cons pe_int pa_nil))) pa_nil)))) (pss_cons (ps_set (i := 2) sc__law_right.nd rfl (.inl rfl) (pe_lst (pa_cons (pe_lamN (T := M.TT) (k := 7) (by rfl) M.lE.g M.lE.F M.lE.F.kp M.lE.b scLError rfl (.inl rfl) (error_gives M.er M.lC M.lF) TB ec mR one hr (LamX.lamS_by (by show LamX.lamSB (defScope s__law_right) _ = true; decide +kernel)) rfl (fun _ _ _ _ _ => rfl) (fun A o s H E f c hr' => (pe_makeS M.T.mkL GI hr' (by rfl) M.T.mgC M.T.bI (fun σ => L2N.passAt lamN_takes σ) (pa_cons (pv 7) pa_nil)))) pa_nil))) (pss_cons (ps_expr (pe_bm PySem.F.plainAttrs_list PySem.F.slot_list_append PySem.F.type_list_append mt_append (pv 2) (pa_cons (pe_lamN (T := M.TT) (k := 7) (by rfl) M.lE.g M.lE.F M.lE.F.kp M.lE.b scLError rfl (.inl rfl) (error_gives M.er M.lC M.lF) TB ec mR one hr (LamX.lamS_by (by show LamX.lamSB (defScope s__law_right) _ = true; decide +kernel)) rfl (fun _ _ _ _ _ => rfl) (fun A o s H E f c hr' => (pe_makeSK M.T.mkL GI hr' (by rfl) M.T.mgC M.kw (fun σ => L2N.passAt lamN_takes σ) (pk_cons (pv 7) pk_nil)))) pa_nil))) (pss_cons (ps_set (i := 3) sc__law_right.nd rfl (.inr rfl) (pe_lc (te := tLstZ (tCons (tC (.str "pieces")) (tCons (tVar 8) tNil))) (own := [("_law_k", 8)]) (g := gName 8) (tt := tYes) rfl sc__law_right.nd (pi_list (pe_call LW hr4 (by rfl) M.lw.g M.lw.F.kp M.lw.b .nil pass0 (pa_cons (pv 7) pa_nil))) (blkOk_by (N := NR) (sc := defScope s__law_right) (by decide +kernel)) (fun _ _ _ _ _ => pg_name (i := 8) sc__law_right.nd rfl (.inl rfl)) (fun _ _ _ _ _ => pts_nil) (fun _ _ _ _ _ => (pe_lstZ (pa_cons pe_str (pa_cons (pv 8) pa_nil)))))) (pss_cons (ps_if (pt_not (pt_val (pe_callB (cr_all rfl) (by rfl) M.all (by decide +kernel) (pa_cons (pe_lc (te := tCall (spEnds K) [] E0 (tCons (tVar 9) (tCons (tVar 3) tNil))) (own := [("_law_each", 9)]) (g := gName 9) (tt := tYes) rfl sc__law_right.nd (pi_list (pv 2)) (blkOk_by (N := NR) (sc := defScope s__law_right) (by decide +kernel)) (fun _ _ _ _ _ => pg_name (i := 9) sc__law_right.nd rfl (.inl rfl)) (fun _ _ _ _ _ => pts_nil) (fun _ _ _ _ _ => (pe_callG LX hg hr1 (by rfl) M.lX.g M.lX.F.kp M.lX.b .nil pass0 (pa_cons (pv 9) (pa_cons (pv 3) pa_nil))))) pa_nil)))) (pss_one (ps_ret pe_bl)) pss_nil) (pss_one (ps_if (pt_cmpR (op_eqNil (Nat.lt_of_le_of_lt (Nat.le_add_right _ 64) hu)) (pv 3) (pe_lst pa_nil) (nomark _)) (pss_cons (ps_set (i := 4) sc__law_right.nd rfl (.inl rfl) (pe_ix ix_list (pe_ix ix_list (pv 2) pe_int (fun _ _ => rfl)) pe_int (fun _ _ => rfl))) (pss_cons (ps_set (i := 5) sc__law_right.nd rfl (.inl rfl) (pe_op op_add_str (pe_op op_add_str pe_str (pe_callTy (call_str_int) (by rfl) M.str (by decide +kernel) (pa_cons (pe_callB (call_len_seq) (by rfl) M.bl.len (by decide +kernel) (pa_cons (pv 7) pa_nil)) pa_nil))) pe_str)) (pss_cons (ps_if (pt_cmpR op_ne (pe_callB (cr_reprA hg hu) (by rfl) M.rp (by decide +kernel) (pa_cons (pe_lstZ (pa_cons (pe_prop (pv 4) M.T.cl hpP GP hr2 M.T.bP .nil pass0 rfl) (pa_cons (pe_prop (pv 4) M.T.cl hpW GW hr3 M.bW .nil pass0 rfl) (pa_cons (pe_callB (call_reprI GR M.rS M.rF M.bR hr2 pass0) (by rfl) M.rp (by decide +kernel) (pa_cons (pv 4) pa_nil)) (pa_cons (pe_callTy (call_boolI M.nb M.nl) (by rfl) M.bp.c.bool (by decide +kernel) (pa_cons (pv 4) pa_nil)) pa_nil))))) pa_nil)) (pe_callB (cr_reprA hg hu) (by rfl) M.rp (by decide +kernel) (pa_cons (pe_lstZ (pa_cons (pv 7) (pa_cons (pe_call LQ hr3 (by rfl) M.lq.g M.lq.F.kp M.lq.b .nil pass0 (pa_cons (pv 7) pa_nil)) (pa_cons (pv 5) (pa_cons pe_bl pa_nil))))) pa_nil)) (nomark _)) (pss_one (ps_ret pe_bl)) pss_nil) (pss_cons (ps_set (i := 6) sc__law_right.nd rfl (.inl rfl) (pe_ifExp (pt_cmpR (op_neD hu) (pv 7) (pe_tup pa_nil) (nomark _)) (pe_makeS M.T.mkL GI hr7 (by rfl) M.T.mgC M.T.bI (fun σ => L2N.passAt takesN0 σ) (pa_cons (pe_slice sl_tupA (pv 7) (po_some pe_int) po_none) pa_nil)) (pe_makeS M.T.mkL GI hr7 (by rfl) M.T.mgC M.T.bI (fun σ => L2N.passAt takesN0 σ) (pa_cons (pe_tup (pa_cons (pe_tup (pa_cons (pe_tup (pa_cons pe_int (pa_cons pe_int pa_nil))) (pa_cons (pe_tup (pa_cons pe_int (pa_cons pe_int pa_nil))) (pa_cons pe_bl (pa_cons pe_bl pa_nil))))) pa_nil)) pa_nil)))) (pss_one (ps_if (PW.pt (pw_or (pt_not (pt_cmpR (op_eqI GE M.eS M.eF M.bE hr1 pass0) (pv 4) (pe_ix ix_list (pe_ix ix_list (pv 2) pe_int (fun _ _ => rfl)) pe_int (fun _ _ => rfl)) (nomark _))) (pw_or (pt_cmpR (op_neI GE M.nC M.bE hr2 pass0) (pv 4) (pe_ix ix_list (pe_ix ix_list (pv 2) pe_int (fun _ _ => rfl)) pe_int (fun _ _ => rfl)) (nomark _)) (pw_or (pt_cmpR (op_eqI GE M.eS M.eF M.bE hr1 pass0) (pv 4) (pv 6) (nomark _)) (pw_or1 (pt_cmpR (op_eqI GE M.eS M.eF M.bE hr1 pass0) (pv 4) (pv 7) (nomark _))))))) (pss_one (ps_ret pe_bl)) pss_nil)))))) pss_nil)))))))) (pss_one (ps_ret pe_bl)), ?_⟩
    refine ⟨8, rfl, by decide, by decide, for_range (lo := 0) (n := 8) (fun i σ H' => ∃ a1 a2 a3 a4 a5 a6 a7, σ = [some (.ref t), a1, a2, a3, a4, a5, a6, a7, none, none] ∧ Stq M.TT H H' t) ⟨none, none, none, none, none, none, none, rfl, Stq.refl T0 TT0⟩ ?_ ?_⟩
    · rintro i σ H1 _ ⟨a1, a2, a3, a4, a5, a6, a7, rfl, S1⟩
      -- the thing
      refine ⟨_, rfl, _, rfl, t, 4, rfl, S1.tin, by decide, by decide, fun r xs ds H2 s2 hr0 al good l9 => ?_⟩
      have S2 := S1.drawn s2
      refine ⟨t, r, rfl, S2.tin, ⟨xs, ds, hr0, al, l9, good⟩, fun v d Hb hb an s3 => ?_⟩
      have Sb := S2.drawn s3
      obtain ⟨lit, l60⟩ := bent_lit hb
      have anX : ∀ {G : Hp}, LamX.ExtN Hb G → An K G v d := fun e => an_ext e an
      clear s2 s3 S1 S2 hr0 al good l9
      -- found
      refine nxI ⟨Sb.tab, fun Hx x1 Tx => ?_⟩
      intro E' Q' hE hQ
      refine ⟨_, rfl, try_lot M.hP (anX x1) lit Tx hE hQ fun f1 H3 x2 T3 F1 => ?_⟩
      have E3 := x1.trans x2
      clear hE hQ x1 x2 Tx
      refine ⟨(by show 1 ≤ sizeLine; decide), fun l nl => ?_⟩
      have s4 := same_put (o := HO.lst [.ref f1]) nl
      have g4 : upd H3 l (HO.lst [.ref f1]) l = some (.lst [.ref f1]) := upd_same
      have F4 := F1.ext (LamX.ExtN.of s4)
      have T4 := T3.ext s4
      generalize upd H3 l (HO.lst [.ref f1]) = H4 at *
      -- by name
      refine nxI ⟨_, rfl, .inl ⟨rfl, _, SqL.of g4⟩, T4, fun Hy y1 Ty => ?_⟩
      intro E' Q' hE hQ
      refine ⟨_, rfl, rfl, try_lot M.hP (anX ((E3.trans (LamX.ExtN.of s4)).trans y1)) lit Ty hE hQ fun f2 H5 y2 T5 F2 => ?_⟩
      have x5 := y1.trans y2
      have g5 := x5 _ _ g4 (fun ps z => by cases z)
      refine ⟨l, [.ref f1], .ref f2, rfl, rfl, g5, (by show 1 < sizeLine; decide), ?_⟩
      have F1' := (F4.ext x5).put (o := .lst ([.ref f1] ++ [.ref f2])) g5
      have F2' := F2.put (o := .lst ([.ref f1] ++ [.ref f2])) g5
      have X6 : LamX.ExtN H3 (upd H5 l (.lst ([.ref f1] ++ [.ref f2]))) := fun b o e n => by
        rw [upd_ne (ne_of_none e nl)]
        exact x5 _ _ (s4 _ _ e) n
      have g6 : upd H5 l (.lst ([.ref f1] ++ [.ref f2])) l = some (.lst [.ref f1, .ref f2]) := upd_same
      have T6 : LamX.Tabs M.TT (upd H5 l (.lst ([.ref f1] ++ [.ref f2]))) := tabs_put T5 g5
      generalize upd H5 l (.lst ([.ref f1] ++ [.ref f2])) = H6 at *
      have E6 := E3.trans X6
      clear hE hQ y1 y2 Ty x5 F1 F4 F2 T3 T4 T5 s4 g4 g5 X6 E3 nl
      -- dues
      refine nxI ⟨_, rfl, v, d, rfl, anX E6, lit, l60, fun pw H7 s7 np7 g7 => ?_⟩
      rw [wrV_wl] at g7
      have lw1 := wl_len (d := d)
      refine ⟨pw, rfl, ⟨_, SqL.of g7⟩, fun D nD => ?_⟩
      have s8 := same_put (o := HO.lst []) nD
      refine lc_list (K := K) (a := pw) (xs := (wl d).map ixV) (fun j H' => (∃ ys, H' D = some (.lst ys) ∧ ys.length ≤ j ∧ AnAll K H' ys (((wl d).take j).map ordL)) ∧ Same H7 H') ⟨⟨[], upd_same, Nat.le_refl _, .nil⟩, s8⟩ (fun j H' _ ⟨_, e⟩ => SqL.of (e _ _ g7)) ?_ ?_
      · rintro j z H8 hj ⟨⟨ys, hD, ly, ay⟩, e8⟩
        rw [List.getElem?_map] at hj
        obtain ⟨wz, hwz, rfl⟩ := Option.map_eq_some_iff.mp hj
        have jl := (List.getElem?_eq_some_iff.mp hwz).1
        refine ⟨rfl, _, rfl, (by show 2 ≤ sizeLine; decide), fun p np ne => ?_⟩
        have s9 := same_put (o := HO.lst [.str "pieces", ixV wz]) np
        refine ⟨ys, s9 _ _ hD, small1000 (by omega), ⟨ys ++ [.ref p], upd_same, by rw [List.length_append]; exact Nat.succ_le_succ ly, ?_⟩, fun b o e => ?_⟩
        · rw [List.take_add_one, hwz]
          exact ord_add hD ay np ne
        · rw [upd_ne (ne_of_none e nD)]
          exact s9 _ _ (e8 _ _ e)
      rintro H8 ⟨⟨ys, hD, ly, ay⟩, e8⟩
      rw [List.length_map, List.take_length] at ay
      have D8 : DuesAt K H8 (.ref D) (duesP d) := ⟨D, ys, rfl, hD, ay⟩
      have E8 := E6.trans (LamX.ExtN.of (s7.trans e8))
      have T8 := (T6.ext s7).ext e8
      have g8 := e8 _ _ (s7 _ _ g6)
      have F1' := F1'.ext (LamX.ExtN.of (s7.trans e8))
      have F2' := F2'.ext (LamX.ExtN.of (s7.trans e8))
      have duP := du_p hb
      clear s7 e8 T6 E6 s8 nD g7 np7 ly g6
      -- all
      refine nxI ⟨_, rfl, l, rfl, ⟨_, SqL.of g8⟩, fun D9 nD9 => ?_⟩
      have s9 := same_put (o := HO.lst []) nD9
      refine lc_list (K := K) (a := l) (xs := [.ref f1, .ref f2]) (fun j H' => H' D9 = some (.lst ((List.replicate j true).map V.bl)) ∧ Same H8 H') ⟨upd_same, s9⟩ (fun j H' _ ⟨_, e⟩ => SqL.of (e _ _ g8)) ?_ ?_
      · rintro j z H9 hj ⟨hD9, e9⟩
        have jl : j < 2 := (List.getElem?_eq_some_iff.mp hj).1
        obtain ⟨fz, rfl, Fz⟩ : ∃ fz, z = .ref fz ∧ Fnd K M.C H8 fz v (duesP d) := by
          match j, hj with
          | 0, hj => cases hj; exact ⟨f1, rfl, F1'⟩
          | 1, hj => cases hj; exact ⟨f2, rfl, F2'⟩
        refine ⟨rfl, _, rfl, _, rfl, ends_at (ends_ok (Fz.ext (LamX.ExtN.of e9)) (D8.same e9) duP fun H10 s10 => ?_)⟩
        refine ⟨_, s10 _ _ hD9, ?_, ?_, fun b o e => ?_⟩
        · rw [List.length_map, List.length_replicate]; exact small1000 (by omega)
        · rw [upd_same, List.replicate_succ', List.map_append]; rfl
        · rw [upd_ne (ne_of_none e nD9)]; exact s10 _ _ (e9 _ _ e)
      rintro H9 ⟨hD9, e9⟩
      refine ⟨D9, _, rfl, SqL.of hD9, ?_⟩
      have tr : (List.replicate [V.ref f1, V.ref f2].length true).all id = true := rfl
      rw [tr]
      refine ⟨_, rfl, iteF ?_⟩
      have T9 := T8.ext e9
      have E9 := E8.trans (LamX.ExtN.of e9)
      have hD9' := e9 _ _ hD
      have g9 := e9 _ _ g8
      have F1' := F1'.ext (LamX.ExtN.of e9)
      have F2' := F2'.ext (LamX.ExtN.of e9)
      clear T8 E8 g8 tr s9 hD9 nD9 D8
      -- right or wrong
      refine nxI ⟨_, rfl, (by show 0 ≤ sizeLine; decide), fun z nz => ?_⟩
      have s10 := same_put (o := HO.lst []) nz
      have z10 : upd H9 z (HO.lst []) z = some (.lst []) := upd_same
      have T10 := T9.ext s10
      have E10 := E9.trans (LamX.ExtN.of s10)
      have hD10 := s10 _ _ hD9'
      have g10 := s10 _ _ g9
      have F1' := F1'.ext (LamX.ExtN.of s10)
      have F2' := F2'.ext (LamX.ExtN.of s10)
      generalize upd H9 z (HO.lst []) = H10 at *
      refine ⟨D, z, ys, rfl, rfl, SqL.of hD10, SqL.of z10, _, rfl, ?_⟩
      have S10 := Sb.ext E10 T10
      cases er : pcsW d with
      | some w =>
        rw [show (wl d) = [w] by unfold wl; rw [er]] at ay
        have ne : ys.isEmpty = false := by cases ay; rfl
        rw [ne]
        exact iteF (nxI ⟨_, _, _, _, _, _, _, rfl, S10⟩)
      | none =>
        rw [show (wl d) = [] by unfold wl; rw [er]] at ay
        have ne : ys.isEmpty = true := by cases ay; rfl
        rw [ne]
        refine iteT ?_
        obtain ⟨cs, rfl, Lc, sm, few⟩ := bent_right hb er
        have an10 := anX E10
        rw [duesP_none er] at F1' F2'
        obtain ⟨x1, dx1, hf1, hx1⟩ := F1'.told
        obtain ⟨x2, dx2, hf2, hx2⟩ := F2'.told
        obtain ⟨a, xa, da, rfl, ed, hT, al⟩ := an10.isT rfl
        have ed := (PyData.tuple.inj ed).symm
        subst ed
        have la := dpAll_len al
        have l2 := pcs_len Lc.e
        have l10 : xa.length ≤ 10 := by omega
        obtain ⟨ln1, ln2, ln3, ln4⟩ := line_of l10
        refine ⟨_, rfl, l, _, 0, .ref f1, rfl, rfl, SqL.of g10, at_of (j := 0) rfl rfl, f1, _, 1, .ref x1, rfl, rfl, SqL.of hf1, at_of (j := 1) rfl rfl, ?_⟩
        have dp10 : Dp K H10 (.ref a) (.tuple (pcsD cs)) := an10.dp (flat_bent hb)
        have lotAt : ∀ {G : Hp} {x dx : Addr}, Same H10 G → G x = some (.ins M.C dx [("_pieces", V.ref a)]) → LotAt K M.C G (.ref x) cs := fun s h => ⟨_, _, a, rfl, h, dp_same s _ _ dp10⟩
        obtain ⟨we, w1, w2⟩ := wid_ok Lc sm few
        -- the line
        refine nxI ⟨_, rfl, a, _, rfl, .inr (SqT.of hT), _, rfl, ln4, _, _, rfl, rfl, ln2, _, _, rfl, rfl, ln3, ?_⟩
        rw [ln1]
        -- told by the lot
        refine nxI ⟨_, rfl, x1, dx1, _, rfl, hx1, x1, dx1, .ref a, rfl, hx1, ?_⟩
        refine ⟨_, rfl, x1, dx1, _, rfl, hx1, .ref x1, cs, rfl, lotAt (Same.refl _) hx1, Lc, sm, few, fun rw H11 s11 hw => ?_⟩
        have hx11 := s11 _ _ hx1
        refine ⟨_, rfl, x1, dx1, _, rfl, hx11, .ref x1, cs, rfl, lotAt s11 hx11, Lc.e, few, _, rfl, ?_⟩
        refine ⟨_, rfl, x1, dx1, _, rfl, hx11, ?_⟩
        refine ⟨(by show 4 ≤ sizeLine; decide), fun p1 np1 ne1 => ?_⟩
        have s12 := same_put (o := HO.lst [.ref a, .ref rw, .str (lotTx (pcsD cs).length), .bl true]) np1
        have g12 : upd H11 p1 (HO.lst [.ref a, .ref rw, .str (lotTx (pcsD cs).length), .bl true]) p1 = some (.lst [.ref a, .ref rw, .str (lotTx (pcsD cs).length), .bl true]) := upd_same
        generalize upd H11 p1 (HO.lst [.ref a, .ref rw, .str (lotTx (pcsD cs).length), .bl true]) = H12 at *
        have S12 := s11.trans s12
        have anw : An K H12 (.ref rw) (.tuple [.int (wid cs (0, 1)).1, .int (wid cs (0, 1)).2]) := .tup (s12 _ _ hw) (.cons (.int _) (.cons (.int _) .nil))
        have sh := sm_row (n := (pcsD cs).length) hb w1 w2 (by omega)
        refine ⟨p1, _, rfl, .lst g12 ne1 (.cons (an10.same S12) (.cons anw (.cons (.str _) (.cons (.bl true) .nil)))), sh.sh, sh.dp, sh.ln, ?_⟩
        refine ⟨_, rfl, _, rfl, .ref a, cs, rfl, dp_same S12 _ _ dp10, Lc, sm, few, fun rq H13 s13 hq => ?_⟩
        rw [we] at hq
        refine ⟨_, rfl, (by show 4 ≤ sizeLine; decide), fun p2 np2 ne2 => ?_⟩
        have s14 := same_put (o := HO.lst [.ref a, .ref rq, .str (lotTx xa.length), .bl true]) np2
        have g14 : upd H13 p2 (HO.lst [.ref a, .ref rq, .str (lotTx xa.length), .bl true]) p2 = some (.lst [.ref a, .ref rq, .str (lotTx xa.length), .bl true]) := upd_same
        generalize upd H13 p2 (HO.lst [.ref a, .ref rq, .str (lotTx xa.length), .bl true]) = H14 at *
        have S14 := S12.trans (s13.trans s14)
        rw [la] at g14
        refine ⟨p2, _, rfl, .lst g14 ne2 (.cons (an10.same S14) (.cons (.tup (s14 _ _ hq) (.cons (.int _) (.cons (.int _) .nil))) (.cons (.str _) (.cons (.bl true) .nil)))), sh.sh, sh.dp, sh.ln, rfl, _, rfl, ?_⟩
        rw [decide_eq_true rfl]
        refine iteF ?_
        -- another lot
        have hx14 := S14 _ _ hx1
        have hy14 := S14 _ _ hx2
        have T14 := S14 _ _ hT
        have al14 := al.same S14
        have g14 := S14 _ _ g10
        have hf14 := S14 _ _ hf1
        have hf24 := S14 _ _ hf2
        have lot14 : ∀ {G : Hp} {x dx : Addr}, Same H14 G → G x = some (.ins M.C dx [("_pieces", V.ref a)]) → LotAt K M.C G (.ref x) cs := fun s h => lotAt (S14.trans s) h
        have U14 := S10.same S14
        clear s11 s12 s13 s14 g12 anw S12 hx11 hw hq np1 np2 ne1 ne2
        refine nxI (seqK (fun σ' H' => ∃ (xm dm : Addr) (vm : V) (ms : List Cut), σ' = [some (.ref t), some (.int (0 + (i : Int))), some (.ref l), some (.ref D), some (.ref x1), some (.str (lotTx xa.length)), some (.ref xm), some (.ref a), none, none] ∧ Same H14 H' ∧ H' xm = some (.ins M.C dm [("_pieces", vm)]) ∧ LotAt K M.C H' (.ref xm) ms ∧ odd ms.length = false ∧ cs ≠ ms) (fun D' kD => ?_) ?_)
        · refine ⟨_, rfl, (by show 0 ≤ sizeLine; decide), fun p0 np0 => ?_⟩
          have s15 := same_put (o := HO.tup []) np0
          have g15 : upd H14 p0 (HO.tup []) p0 = some (.tup []) := upd_same
          generalize upd H14 p0 (HO.tup []) = H15 at *
          refine ⟨.tuple (pcsD cs), .tuple [], dp_same (S14.trans s15) _ _ dp10, .tup (SqT.of g15) .nil, pcs_shaped cs, by decide +kernel, _, rfl, ?_⟩
          by_cases nil : cs = []
          · subst nil
            refine iteF ?_
            refine ⟨(by show 2 ≤ sizeLine; decide), fun q1 nq1 => ?_⟩
            have s16 := same_put (o := HO.tup [V.int 0, V.int 1]) nq1
            have g16 : upd H15 q1 (HO.tup [V.int 0, V.int 1]) q1 = some (.tup [V.int 0, V.int 1]) := upd_same
            generalize upd H15 q1 (HO.tup [V.int 0, V.int 1]) = H16 at *
            refine ⟨(by show 2 ≤ sizeLine; decide), fun q2 nq2 => ?_⟩
            have s17 := same_put (o := HO.tup [V.int 1, V.int 1]) nq2
            have g17 : upd H16 q2 (HO.tup [V.int 1, V.int 1]) q2 = some (.tup [V.int 1, V.int 1]) := upd_same
            generalize upd H16 q2 (HO.tup [V.int 1, V.int 1]) = H17 at *
            refine ⟨(by show 4 ≤ sizeLine; decide), fun q3 nq3 => ?_⟩
            have s18 := same_put (o := HO.tup [V.ref q1, V.ref q2, V.bl true, V.bl false]) nq3
            have g18 : upd H17 q3 (HO.tup [V.ref q1, V.ref q2, V.bl true, V.bl false]) q3 = some (.tup [V.ref q1, V.ref q2, V.bl true, V.bl false]) := upd_same
            generalize upd H17 q3 (HO.tup [V.ref q1, V.ref q2, V.bl true, V.bl false]) = H18 at *
            refine ⟨(by show 1 ≤ sizeLine; decide), fun q4 nq4 => ?_⟩
            have s19 := same_put (o := HO.tup [V.ref q3]) nq4
            have g19 : upd H18 q4 (HO.tup [V.ref q3]) q4 = some (.tup [V.ref q3]) := upd_same
            generalize upd H18 q4 (HO.tup [V.ref q3]) = H19 at *
            have g16' := s19 _ _ (s18 _ _ (s17 _ _ g16))
            have g17' := s19 _ _ (s18 _ _ g17)
            have anm : An K H19 (.ref q4) (.tuple (pcsD wholeC)) := .tup g19 (.cons (.tup (s19 _ _ g18) (.cons (.tup g16' (.cons (.int _) (.cons (.int _) .nil))) (.cons (.tup g17' (.cons (.int _) (.cons (.int _) .nil))) (.cons (.bl _) (.cons (.bl _) .nil))))) .nil)
            refine make_lot (Q := fun u G => gName 6 u _ G D'.nx) anm (bent_lit whole_bent).1 whole_right fun xm dm H20 s20 hm => ?_
            exact kD _ _ ⟨xm, dm, _, wholeC, rfl, s15.trans (s16.trans (s17.trans (s18.trans (s19.trans s20)))), hm, ⟨_, _, q4, rfl, hm, dp_same s20 _ _ (anm.dp (flat_bent whole_bent))⟩, rfl, by decide⟩
          · have e1 : PyData.eqv (.tuple (pcsD cs)) (.tuple []) = false := by
              rw [show (PyData.tuple []) = .tuple (pcsD []) from rfl, pcs_eqv Lc.e rfl, decide_eq_false nil]
            rw [e1]
            refine iteT ?_
            have lx : 0 < xa.length := by
              have : cs.length ≠ 0 := fun z => nil (List.eq_nil_of_length_eq_zero z)
              omega
            have ix1 : HT.sIx xa.length 0 (some 1) = 1 := (HT.sIx_nat xa.length 0 1).trans (by omega)
            refine ⟨_, rfl, 1, rfl, a, xa, rfl, SqT.of (s15 _ _ T14), fun z => absurd (ix1.symm.trans z.1) (by decide), fun _ pm npm => ?_⟩
            have s16 := same_put (o := HO.tup (cutV xa (some 1) none)) npm
            have g16 : upd H15 pm (HO.tup (cutV xa (some 1) none)) pm = some (.tup (cutV xa (some 1) none)) := upd_same
            have ec : cutV xa (some 1) none = xa.drop 1 := by
              unfold cutV
              rw [ix1, HT.sIx_none]
              exact List.take_of_length_le (by rw [List.length_drop]; omega)
            generalize upd H15 pm (HO.tup (cutV xa (some 1) none)) = H16 at *
            rw [ec] at g16
            have anm : An K H16 (.ref pm) (.tuple ((pcsD cs).drop 1)) := .tup g16 (anAll_drop (al14.same (s15.trans s16)) 1)
            have bd := bent_drop hb
            refine make_lot (Q := fun u G => gName 6 u _ G D'.nx) anm (bent_lit bd).1 (pcs_tail er) fun xm dm H17 s17 hm => ?_
            have dpm := dp_same s17 _ _ (anm.dp (flat_bent bd))
            rw [pcs_drop Lc.e] at dpm
            exact kD _ _ ⟨xm, dm, _, cs.drop 2, rfl, s15.trans (s16.trans s17), hm, ⟨_, _, pm, rfl, hm, dpm⟩, odd_drop Lc.e, drop_ne nil⟩
        · rintro σ' H15 ⟨xm, dm, vm, ms, rfl, s15, hm, lm, om, ne⟩
          have S15 := U14.same s15
          refine ⟨_, rfl, _, rfl, l, _, 1, .ref f2, rfl, rfl, SqL.of (s15 _ _ g14), at_of (j := 1) rfl rfl, f2, _, 1, .ref x2, rfl, rfl, SqL.of (s15 _ _ hf24), at_of (j := 1) rfl rfl, x1, dx1, x2, _, rfl, rfl, s15 _ _ hx14, .inl ⟨_, _, s15 _ _ hy14⟩, .ref x1, .ref x2, cs, rfl, lot14 s15 (s15 _ _ hx14), Lc.e, .inl ⟨cs, lot14 s15 (s15 _ _ hy14), Lc.e, _, rfl, ?_⟩⟩
          rw [decide_eq_true rfl]
          refine iteF ⟨_, rfl, _, rfl, l, _, 1, .ref f2, rfl, rfl, SqL.of (s15 _ _ g14), at_of (j := 1) rfl rfl, f2, _, 1, .ref x2, rfl, rfl, SqL.of (s15 _ _ hf24), at_of (j := 1) rfl rfl, x1, dx1, x2, dx2, _, _, rfl, rfl, s15 _ _ hx14, s15 _ _ hy14, .ref x1, .ref x2, cs, rfl, lot14 s15 (s15 _ _ hx14), Lc.e, .inl ⟨cs, lot14 s15 (s15 _ _ hy14), Lc.e, _, rfl, _, rfl, ?_⟩⟩
          rw [decide_eq_true rfl]
          refine iteF ⟨_, rfl, _, rfl, x1, dx1, xm, _, rfl, rfl, s15 _ _ hx14, .inl ⟨_, _, hm⟩, .ref x1, .ref xm, cs, rfl, lot14 s15 (s15 _ _ hx14), Lc.e, .inl ⟨ms, lm, om, _, rfl, ?_⟩⟩
          rw [decide_eq_false ne]
          refine iteF ⟨_, rfl, _, rfl, x1, dx1, a, _, rfl, rfl, s15 _ _ hx14, .inr ⟨⟨_, s15 _ _ T14⟩, M.nF⟩, .ref x1, .ref a, cs, rfl, lot14 s15 (s15 _ _ hx14), Lc.e, .inr ⟨a, xa, rfl, s15 _ _ T14, _, rfl, ?_⟩⟩
          exact iteF (nxI ⟨_, _, _, _, _, _, _, rfl, S15⟩)
    · rintro σ H1 ⟨a1, a2, a3, a4, a5, a6, a7, rfl, S1⟩
      exact nxI (q _ S1)
end
end My
set_option Elab.async false
set_option linter.all false
set_option maxRecDepth 100000
set_option maxHeartbeats 8000000
set_option exponentiation.threshold 4000
namespace My
open PySem PySem.Spec PyProof.Rows L2 Gn Mt
/-! the law -/
abbrev sLaw : Stmt := top 61
abbrev NL : List Str := ["_law_script", "_law_whole", "_law_wrong_here", "_law_turn"]
theorem scLaw : FnScope NL ["_law_script"] (defScope sLaw) := ⟨rfl, rfl, rfl, by decide +kernel, rfl, by decide +kernel, by decide +kernel⟩
def qL : Str := (envOfC "law" (defScope sLaw) 0 0 .none).qual ++ "<lambda>"
theorem sqL_ext {K : PySem.W.Frag} {H H' : Hp} {a : Addr} {xs : List V} (h : SqL K H a xs) (e : LamX.ExtN H H') : SqL K H' a xs := by
  rcases h with (h | ⟨o, h⟩) | h
  · exact .inl (.inl (e _ _ h fun ps z => by cases z))
  · exact .inl (.inr ⟨o, e _ _ h fun ps z => by cases z⟩)
  · exact .inr h
/-- t + u -/
theorem cat_an {K : PySem.W.Frag} {H : Hp} {u v : V} {ds es : List PyData} {Q : VK} (h1 : An K H u (.tuple ds)) (h2 : An K H v (.tuple es)) (hz : ds.length + es.length ≤ 60) (k : ∀ c H', Same H H' → An K H' c (.tuple (ds ++ es)) → Q c H') : rCatA K u v H Q := by
  obtain ⟨a, xs, ds', rfl, e1, ha, al⟩ := h1.isT rfl
  cases PyData.tuple.inj e1
  obtain ⟨b, ys, es', rfl, e2, hb, bl⟩ := h2.isT rfl
  cases PyData.tuple.inj e2
  have l1 := dpAll_len al
  have l2 := dpAll_len bl
  refine ⟨a, b, xs, ys, rfl, rfl, SqT.of ha, SqT.of hb, Nat.le_of_lt (small1000 (by omega)), fun e => ?_, fun _ e => ?_, fun _ _ p hp => k _ _ (same_put hp) (.tup upd_same (anAll_app (al.same (same_put hp)) (bl.same (same_put hp))))⟩
  · subst e
    cases al
    exact k _ _ (Same.refl _) h2
  · subst e
    cases bl
    rw [List.append_nil] at k
    exact k _ _ (Same.refl _) h1
theorem anAll_take {K : PySem.W.Frag} {H : Hp} : ∀ {vs : List V} {ds : List PyData}, AnAll K H vs ds → ∀ n : Nat, AnAll K H (vs.take n) (ds.take n)
  | _, _, _, 0 => by rw [List.take_zero, List.take_zero]; exact .nil
  | _, _, .nil, _ + 1 => .nil
  | _, _, .cons h t, n + 1 => .cons h (anAll_take t n)
/-- t[i:j] -/
theorem sl_an {K : PySem.W.Frag} {H : Hp} {u : V} {ds es : List PyData} {lo hi : Option Int} {Q : VK} (h : An K H u (.tuple ds)) (e : (ds.drop (HT.sIx ds.length 0 lo)).take (HT.sIx ds.length ds.length hi - HT.sIx ds.length 0 lo) = es) (k : ∀ c H', Same H H' → An K H' c (.tuple es) → Q c H') : rSlA K u lo hi H Q := by
  obtain ⟨a, xs, ds', rfl, e1, ha, al⟩ := h.isT rfl
  cases PyData.tuple.inj e1
  have l1 := dpAll_len al
  refine ⟨a, xs, rfl, SqT.of ha, fun z => ?_, fun _ p hp => k _ _ (same_put hp) ?_⟩
  · rw [l1] at z
    rw [z.1, z.2, List.drop_zero, Nat.sub_zero, List.take_length] at e
    subst e
    exact k _ _ (Same.refl _) h
  · refine .tup upd_same ?_
    unfold cutV
    rw [← e, l1]
    exact anAll_take (anAll_drop (al.same (same_put hp)) _) _
section
variable {K : PySem.W.Frag} {H : Hp} {σ : L2.St} {te : TE} {R : VK} {d : PyData}
/-- what a term reads as -/
def As (K : PySem.W.Frag) (te : TE) (σ : L2.St) (H : Hp) (d : PyData) : Prop := ∀ R : VK, (∀ v H', Same H H' → An K H' v d → R v H') → te σ H R
theorem As.fm (h : Fm te σ H (isA K d)) : As K te σ H d := fun R k => h H (Same.refl H) R fun v H2 s a => k v H2 s a
theorem asgAs {r : TS} {g : V → L2.St → Hp → (L2.St → Hp → Prop) → Prop} {D : Ends} (h : As K te σ H d) (k : ∀ v H', Same H H' → An K H' v d → g v σ H' (r D)) : tSeq (tAsg te g) r D σ H := h _ k
/-- Lot(thing), thing right -/
theorem make_at {C CP : Addr} {G : L2.St → XK} (f : As K te σ H d) (lit : LitP d) (z : pcsW d = none) (k : ∀ v x dx H', Same H H' → An K H' v d → H' x = some (.ins C dx [("_pieces", v)]) → R (.ref x) H') : tMakeS C (spInitX K C CP) G (tCons te tNil) σ H R :=
  f _ fun v H1 s1 an => make_lot (Q := R) an lit z fun x dx H' s hx => k v x dx H' (s1.trans s) (an.same s) hx
end
theorem conc {cs0 : List Cut} (o : odd cs0.length = false) (hb : bentB (.tuple (pcsD cs0)) = true) (w : pcsW (.tuple (pcsD cs0)) = none) (r : PyData.eqv (.tuple (pcsD cs0)) (.tuple (pcsD cs0)) = true) : Lt cs0 ∧ SmlC cs0 ∧ cs0.length ≤ 20 := by
  obtain ⟨cs, e, L, s, f⟩ := bent_right hb w
  have h := pcs_eqv o L.e
  rw [← e, r] at h
  have h := of_decide_eq_true h.symm
  rw [h]
  exact ⟨L, s, f⟩
def lawC : List Cut := [⟨1, 3, true⟩, ⟨1, 2, false⟩, ⟨1, 2, true⟩, ⟨1, 1, false⟩]
theorem lawC_ok : Lt lawC ∧ SmlC lawC ∧ lawC.length ≤ 20 := conc rfl (by decide +kernel) (by decide +kernel) (by decide +kernel)
theorem nilC_ok : Lt [] ∧ SmlC [] ∧ ([] : List Cut).length ≤ 20 := conc (cs0 := []) rfl (by decide +kernel) (by decide +kernel) (by decide +kernel)
def spLaw (K : PySem.W.Frag) (T : List (Addr × Str)) : Sp := fun vs H Q _ => ∃ (a : Addr) (ns : List Int), vs = [.ref a] ∧ SqL K H a (ns.map V.int) ∧ ns.length ≤ 63 ∧ LamX.Tabs T H ∧ ∀ H', Q (.bl true) H'
/-- what the law itself asks of the module -/
structure Lc (P : Program) (w : World) (K : PySem.W.Frag) (mg : Str → Option Value) (base : Heap) (M : La P w K mg base) where
  min : mg "min" = none
  gt : Addr × FuncData
  gr : Addr × FuncData
  lt : Df K mg "_law_tin" sTin ["_law_script", "_law_turn"] gt.1 gt.2
  dg : Df K mg "_law_right" s__law_right ["_law_tin_here"] gr.1 gr.2
  cR : Addr
  PR : Addr
  eR : gr.2.code = .ref cR
  TR : LamX.TabB base mg cR PR
  mR : (PR, qR) ∈ M.TT
  oR : ∀ q ∈ M.TT, q.1 = PR → q.2 = qR
  PL : Addr
  mL : (PL, qL) ∈ M.TT
  oL : ∀ q ∈ M.TT, q.1 = PL → q.2 = qL
theorem lotAt_of {K : PySem.W.Frag} {H : Hp} {C x dx : Addr} {v : V} {cs : List Cut} (an : An K H v (.tuple (pcsD cs))) (hb : bentB (.tuple (pcsD cs)) = true) (hx : H x = some (.ins C dx [("_pieces", v)])) : LotAt K C H (.ref x) cs := by
  obtain ⟨a, xs, ds', rfl, e1, ha, al⟩ := an.isT rfl
  exact ⟨x, dx, a, rfl, hx, an.dp (flat_bent hb)⟩
theorem as_v {K : PySem.W.Frag} {σ : L2.St} {H : Hp} {i : Nat} {v : V} {d : PyData} (h : σ[i]? = some (some v)) (an : An K H v d) : As K (tVar i) σ H d := fun R k => ⟨v, h, k v H (Same.refl H) an⟩
theorem as_sl {K : PySem.W.Frag} {H : Hp} {σ : L2.St} {i : Nat} {v : V} {ds es : List PyData} {p q : TO} {lo hi : Option Int} (h : σ[i]? = some (some v)) (an : An K H v (.tuple ds)) (hp : ∀ (G : Hp) (R : Option Int → Hp → Prop), R lo G → p σ G R) (hq : ∀ (G : Hp) (R : Option Int → Hp → Prop), R hi G → q σ G R)
    (e : (ds.drop (HT.sIx ds.length 0 lo)).take (HT.sIx ds.length ds.length hi - HT.sIx ds.length 0 lo) = es) : As K (tSl (rSlA K) (tVar i) p q) σ H (.tuple es) := fun R k => ⟨v, h, hp _ _ (hq _ _ (sl_an an e k))⟩
section
variable {K : PySem.W.Frag} {H : Hp} {σ : L2.St} {te tr : TE} {R : VK} {Rb : Bool → Hp → Prop} {C CP : Addr} {G : L2.St → XK} {cs : List Cut}
theorem wid_at (f : As K te σ H (.tuple (pcsD cs))) (hb : bentB (.tuple (pcsD cs)) = true) (z : pcsW (.tuple (pcsD cs)) = none) (ok : Lt cs ∧ SmlC cs ∧ cs.length ≤ 20) (k : ∀ r H', Same H H' → H' r = some (.tup [.int (wid cs (0, 1)).1, .int (wid cs (0, 1)).2]) → R (.ref r) H') :
    tProp C (spWidth K C) [] E0 (tMakeS C (spInitX K C CP) G (tCons te tNil)) σ H R :=
  make_at f (bent_lit hb).1 z fun v x dx H' s an hx => ⟨x, dx, _, rfl, hx, .ref x, cs, rfl, lotAt_of an hb hx, ok.1, ok.2.1, ok.2.2, fun r H2 s2 h => k r H2 (s.trans s2) h⟩
theorem ne_wid {n m : Int} (f : As K te σ H (.tuple (pcsD cs))) (g : ∀ H1, As K tr σ H1 (.tuple [.int n, .int m])) (hb : bentB (.tuple (pcsD cs)) = true) (z : pcsW (.tuple (pcsD cs)) = none) (ok : Lt cs ∧ SmlC cs ∧ cs.length ≤ 20) (e : wid cs (0, 1) = (n, m))
    (sh : SeqAt.shaped (.tuple [.int n, .int m]) = true) (re : PyData.eqv (.tuple [.int n, .int m]) (.tuple [.int n, .int m]) = true) (k : ∀ H', Same H H' → Rb false H') : tTest (tOp (rNeD K) (tProp C (spWidth K C) [] E0 (tMakeS C (spInitX K C CP) G (tCons te tNil))) tr) σ H Rb :=
  wid_at f hb z ok fun r H1 s1 hr => g H1 _ fun v H2 s2 an => by
    rw [e] at hr
    refine ⟨.tuple [.int n, .int m], .tuple [.int n, .int m], .tup (SqT.of (s2 _ _ hr)) (.cons (.int _) (.cons (.int _) .nil)), an.dp (by simp only [flat, flat.flats, Bool.and_self]), sh, sh, ?_⟩
    rw [re]
    exact ⟨_, rfl, k _ (s1.trans s2)⟩
theorem ne_lots (f : As K te σ H (.tuple (pcsD cs))) (g : ∀ H1, Same H H1 → As K tr σ H1 (.tuple (pcsD cs))) (hb : bentB (.tuple (pcsD cs)) = true) (z : pcsW (.tuple (pcsD cs)) = none) (o : odd cs.length = false) (k : ∀ H', Same H H' → Rb false H') :
    tTest (tOp (rNeI C (spLEq K C)) (tMakeS C (spInitX K C CP) G (tCons te tNil)) (tMakeS C (spInitX K C CP) G (tCons tr tNil))) σ H Rb :=
  show tMakeS C (spInitX K C CP) G (tCons te tNil) σ H (fun x H1 => tMakeS C (spInitX K C CP) G (tCons tr tNil) σ H1 fun y H2 => rNeI C (spLEq K C) x y H2 fun v H3 => ∃ k, v = .bl k ∧ Rb k H3) from make_at f (bent_lit hb).1 z fun v x dx H1 s1 an hx => make_at (g H1 s1) (bent_lit hb).1 z fun u y dy H2 s2 an2 hy => by
    refine ⟨x, dx, y, dy, _, _, rfl, rfl, s2 _ _ hx, hy, .ref x, .ref y, cs, rfl, lotAt_of (an.same s2) hb (s2 _ _ hx), o, .inl ⟨cs, lotAt_of an2 hb hy, o, _, rfl, _, rfl, ?_⟩⟩
    rw [decide_eq_true rfl]
    exact k _ (s1.trans s2)
theorem try_at {mg : Str → Option Value} {B : Er mg} {T : List (Addr × Str)} {Q Q' : VK} {d : PyData} (h : Held K B CP 7) (f : As K te σ H d) (lit : LitP d) (hT : LamX.Tabs T H) (hE : ∀ C d H', RaisesAs K B Q C d H' → G σ C d H') (hQ : ∀ v G, TellsAs Q v G → Q' v G)
    (q : ∀ v, After K C T H Q v (duesP d)) : tMakeS C (spInitX K C CP) G (tCons te tNil) σ H Q' := f _ fun v H1 s1 an => try_lot h an lit (hT.ext s1) hE hQ fun f G x => q v f G ((LamX.ExtN.of s1).trans x)
theorem as_cat {t1 t2 : TE} {ds es : List PyData} (f : As K t1 σ H (.tuple ds)) (g : ∀ H1, Same H H1 → As K t2 σ H1 (.tuple es)) (hz : ds.length + es.length ≤ 60) : As K (tOp (rCatA K) t1 t2) σ H (.tuple (ds ++ es)) := fun R k =>
  f _ fun v H1 s1 a1 => g H1 s1 _ fun u H2 s2 a2 => cat_an (a1.same s2) a2 hz fun c H3 s3 a3 => k c H3 (s1.trans (s2.trans s3)) a3
end
theorem Fnd.word {K : PySem.W.Frag} {C : Addr} {H : Hp} {f : Addr} {vt : V} {j : Nat} (h : Fnd K C H f vt [ordL (some j)]) : H f = some (.lst [.str "pieces", .int (j : Nat)]) := by
  obtain ⟨wd, v, h, ⟨z, _⟩ | ⟨d, es, z, an, _⟩⟩ := h
  · cases z
  · have z := (List.cons.inj z).1
    unfold ordL at z
    have z := PyData.list.inj z
    have z1 := PyData.str.inj (List.cons.inj z).1
    have z2 := (List.cons.inj (List.cons.inj z).2).1
    subst z1
    have an := an H
    rw [← z2] at an
    cases an
    exact h
def lawL : PyData := .tuple [pcD ⟨1, 3, true⟩ ⟨1, 2, true⟩, pcD ⟨1, 2, false⟩ ⟨1, 1, false⟩, pcD ⟨1, 1, false⟩ ⟨1, 1, true⟩]
theorem lawL_b : bentB lawL = true := by decide +kernel
theorem lawL_w : pcsW lawL = some (some 1) := by decide +kernel
theorem lawC_b : bentB (.tuple (pcsD lawC)) = true := by decide +kernel
theorem lawC_w : pcsW (.tuple (pcsD lawC)) = none := by decide +kernel
theorem nilC_b : bentB (.tuple (pcsD [])) = true := by decide +kernel
theorem nilC_w : pcsW (.tuple (pcsD [])) = none := by decide +kernel
section
variable {K : PySem.W.Frag} {H : Hp} {σ : L2.St}
theorem as_W : As K (tTup (tCons (tTup (tCons (tTup (tCons (tC (.int 1)) (tCons (tC (.int 3)) tNil))) (tCons (tTup (tCons (tC (.int 1)) (tCons (tC (.int 2)) tNil))) (tCons (tC (.bl false)) (tCons (tC (.bl false)) tNil))))) (tCons (tTup (tCons (tTup (tCons (tC (.int 1)) (tCons (tC (.int 2)) tNil))) (tCons (tTup (tCons (tC (.int 1)) (tCons (tC (.int 1)) tNil))) (tCons (tC (.bl false)) (tCons (tC (.bl false)) tNil))))) tNil))) σ H (.tuple (pcsD lawC)) := As.fm (fa_tup (Nat.le_of_ble_eq_true rfl) (faA_cons (fa_tup (Nat.le_of_ble_eq_true rfl) (faA_cons (fa_tup (Nat.le_of_ble_eq_true rfl) (faA_cons (fa_c (.int 1)) (faA_cons (fa_c (.int 3)) faA_nil))) (faA_cons (fa_tup (Nat.le_of_ble_eq_true rfl) (faA_cons (fa_c (.int 1)) (faA_cons (fa_c (.int 2)) faA_nil))) (faA_cons (fa_c (.bl false)) (faA_cons (fa_c (.bl false)) faA_nil))))) (faA_cons (fa_tup (Nat.le_of_ble_eq_true rfl) (faA_cons (fa_tup (Nat.le_of_ble_eq_true rfl) (faA_cons (fa_c (.int 1)) (faA_cons (fa_c (.int 2)) faA_nil))) (faA_cons (fa_tup (Nat.le_of_ble_eq_true rfl) (faA_cons (fa_c (.int 1)) (faA_cons (fa_c (.int 1)) faA_nil))) (faA_cons (fa_c (.bl false)) (faA_cons (fa_c (.bl false)) faA_nil))))) faA_nil)))
theorem as_R : As K (tTup (tCons (tTup (tCons (tTup (tCons (tC (.int 1)) (tCons (tC (.int 2)) tNil))) (tCons (tTup (tCons (tC (.int 1)) (tCons (tC (.int 1)) tNil))) (tCons (tC (.bl true)) (tCons (tC (.bl false)) tNil))))) (tCons (tTup (tCons (tTup (tCons (tC (.int 1)) (tCons (tC (.int 1)) tNil))) (tCons (tTup (tCons (tC (.int 1)) (tCons (tC (.int 1)) tNil))) (tCons (tC (.bl true)) (tCons (tC (.bl true)) tNil))))) tNil))) σ H (.tuple [pcD ⟨1, 2, false⟩ ⟨1, 1, false⟩, pcD ⟨1, 1, false⟩ ⟨1, 1, true⟩]) := As.fm (fa_tup (Nat.le_of_ble_eq_true rfl) (faA_cons (fa_tup (Nat.le_of_ble_eq_true rfl) (faA_cons (fa_tup (Nat.le_of_ble_eq_true rfl) (faA_cons (fa_c (.int 1)) (faA_cons (fa_c (.int 2)) faA_nil))) (faA_cons (fa_tup (Nat.le_of_ble_eq_true rfl) (faA_cons (fa_c (.int 1)) (faA_cons (fa_c (.int 1)) faA_nil))) (faA_cons (fa_c (.bl true)) (faA_cons (fa_c (.bl false)) faA_nil))))) (faA_cons (fa_tup (Nat.le_of_ble_eq_true rfl) (faA_cons (fa_tup (Nat.le_of_ble_eq_true rfl) (faA_cons (fa_c (.int 1)) (faA_cons (fa_c (.int 1)) faA_nil))) (faA_cons (fa_tup (Nat.le_of_ble_eq_true rfl) (faA_cons (fa_c (.int 1)) (faA_cons (fa_c (.int 1)) faA_nil))) (faA_cons (fa_c (.bl true)) (faA_cons (fa_c (.bl true)) faA_nil))))) faA_nil)))
theorem as_L : As K (tTup (tCons (tTup (tCons (tTup (tCons (tC (.int 1)) (tCons (tC (.int 3)) tNil))) (tCons (tTup (tCons (tC (.int 1)) (tCons (tC (.int 2)) tNil))) (tCons (tC (.bl false)) (tCons (tC (.bl true)) tNil))))) tNil)) σ H (.tuple [pcD ⟨1, 3, true⟩ ⟨1, 2, true⟩]) := As.fm (fa_tup (Nat.le_of_ble_eq_true rfl) (faA_cons (fa_tup (Nat.le_of_ble_eq_true rfl) (faA_cons (fa_tup (Nat.le_of_ble_eq_true rfl) (faA_cons (fa_c (.int 1)) (faA_cons (fa_c (.int 3)) faA_nil))) (faA_cons (fa_tup (Nat.le_of_ble_eq_true rfl) (faA_cons (fa_c (.int 1)) (faA_cons (fa_c (.int 2)) faA_nil))) (faA_cons (fa_c (.bl false)) (faA_cons (fa_c (.bl true)) faA_nil))))) faA_nil))
theorem as_23 : As K (tTup (tCons (tC (.int 2)) (tCons (tC (.int 3)) tNil))) σ H (.tuple [.int 2, .int 3]) := As.fm (fa_tup (Nat.le_of_ble_eq_true rfl) (faA_cons (fa_c (.int 2)) (faA_cons (fa_c (.int 3)) faA_nil)))
theorem as_01 : As K (tTup (tCons (tC (.int 0)) (tCons (tC (.int 1)) tNil))) σ H (.tuple [.int 0, .int 1]) := As.fm (fa_tup (Nat.le_of_ble_eq_true rfl) (faA_cons (fa_c (.int 0)) (faA_cons (fa_c (.int 1)) faA_nil)))
theorem as_nil : As K (tTup tNil) σ H (.tuple (pcsD [])) := As.fm (fa_tup (Nat.le_of_ble_eq_true rfl) faA_nil)
end
section
variable {P : Program} {w : World} {K : PySem.W.Frag} {mg : Str → Option Value} {base : Heap}
theorem ok_law {f cL : Addr} {fd : FuncData} (F : Fun K "law" "law" sLaw f fd) (M : La P w K mg base) (N : Lc P w K mg base M) (ec : fd.code = .ref cL) (TB : LamX.TabB base mg cL N.PL) : FnG P w K mg base CX0 11 f fd ["_law_script"] (spLaw K M.TT) := by
  have LT : FnOk P w K mg base CX0 1 N.gt.1 N.gt.2 ["_law_script", "_law_turn"] (spTin K) := ok_tin N.lt.F M.bl
  have GT : FnG P w K mg base CX0 10 N.gr.1 N.gr.2 ["_law_tin_here"] (spRight M.TT) := ok_right N.dg.F M N.eR N.TR N.mR N.oR
  have GI : FnOk P w K mg base (L2N.CX P w) 6 M.fI M.fdI ["self", "pieces"] (spInitX K M.C M.CP) := ok_linitX M.T M.bp M.pd M.tP
  have GW : FnOk P w K mg base CX0 2 M.fW M.fdW ["self"] (spWidth K M.C) := ok_lwid M.FW M.T M.bp.c M.low
  have GE : FnOk P w K mg base CX0 1 M.fE M.fdE ["self", "other"] (spLEq K M.C) := ok_leq M.FE M.T M.LI M.bp.c
  obtain ⟨pW, hpW⟩ := M.pw
  have mR := N.mL
  have one := N.oL
  refine funGC F scLaw (fun vs H Q E h => ?_) (fun A outer s H vs Q E hg hr h => ?_)
  · obtain ⟨a, ns, rfl, _⟩ := h
    rfl
  · obtain ⟨a, ns, rfl, hS, hlen, hT, q⟩ := h
    have hu := hr.units
    have hr1 : Room 1 _ := hr.mono (by decide)
    have hr2 : Room 2 _ := hr.mono (by decide)
    have hr3 : Room 3 _ := hr.mono (by decide)
    have hr7 : Room (6 + 1) _ := hr.mono (by decide)
    have hr9 : Room (7 + 2) _ := hr.mono (by decide)
    refine ⟨_, pss_cons (ps_set (i := 1) scLaw.nd rfl (.inl rfl) (pe_tup (pa_cons (pe_tup (pa_cons (pe_tup (pa_cons pe_int (pa_cons pe_int pa_nil))) (pa_cons (pe_tup (pa_cons pe_int (pa_cons pe_int pa_nil))) (pa_cons pe_bl (pa_cons pe_bl pa_nil))))) (pa_cons (pe_tup (pa_cons (pe_tup (pa_cons pe_int (pa_cons pe_int pa_nil))) (pa_cons (pe_tup (pa_cons pe_int (pa_cons pe_int pa_nil))) (pa_cons pe_bl (pa_cons pe_bl pa_nil))))) pa_nil)))) (pss_cons (ps_set (i := 2) scLaw.nd rfl (.inr rfl) (pe_op op_catA (pe_slice sl_tupA (pv 1) po_none (po_some pe_int)) (pe_tup (pa_cons (pe_tup (pa_cons (pe_tup (pa_cons pe_int (pa_cons pe_int pa_nil))) (pa_cons (pe_tup (pa_cons pe_int (pa_cons pe_int pa_nil))) (pa_cons pe_bl (pa_cons pe_bl pa_nil))))) (pa_cons (pe_tup (pa_cons (pe_tup (pa_cons pe_int (pa_cons pe_int pa_nil))) (pa_cons (pe_tup (pa_cons pe_int (pa_cons pe_int pa_nil))) (pa_cons pe_bl (pa_cons pe_bl pa_nil))))) pa_nil))))) (pss_cons (ps_if (PW.pt (pw_or (pt_cmpR (op_neD hu) (pe_prop (pe_makeS M.T.mkL GI hr7 (by rfl) M.T.mgC M.T.bI (fun σ => L2N.passAt takesN0 σ) (pa_cons (pv 1) pa_nil)) M.T.cl hpW GW hr3 M.bW .nil pass0 rfl) (pe_tup (pa_cons pe_int (pa_cons pe_int pa_nil))) (nomark _)) (pw_or (pt_cmpR (op_neD hu) (pe_prop (pe_makeS M.T.mkL GI hr7 (by rfl) M.T.mgC M.T.bI (fun σ => L2N.passAt takesN0 σ) (pa_cons (pe_tup pa_nil) pa_nil)) M.T.cl hpW GW hr3 M.bW .nil pass0 rfl) (pe_tup (pa_cons pe_int (pa_cons pe_int pa_nil))) (nomark _)) (pw_or1 (pt_cmpR (op_neI GE M.nC M.bE hr2 pass0) (pe_makeS M.T.mkL GI hr7 (by rfl) M.T.mgC M.T.bI (fun σ => L2N.passAt takesN0 σ) (pa_cons (pe_slice sl_tupA (pv 2) po_none (po_some pe_int)) pa_nil)) (pe_makeS M.T.mkL GI hr7 (by rfl) M.T.mgC M.T.bI (fun σ => L2N.passAt takesN0 σ) (pa_cons (pe_tup pa_nil) pa_nil)) (nomark _)))))) (pss_one (ps_ret pe_bl)) pss_nil) (pss_cons (ps_if (pt_cmpR (op_neD hu) (pe_lamN (T := M.TT) (k := 7) (by rfl) M.lE.g M.lE.F M.lE.F.kp M.lE.b scLError rfl (.inl rfl) (error_gives M.er M.lC M.lF) TB ec mR one hr9 (LamX.lamS_by (by show LamX.lamSB (defScope sLaw) _ = true; decide +kernel)) rfl (fun _ _ _ _ _ => rfl) (fun A o s H E f c hr' => (pe_makeS M.T.mkL GI hr' (by rfl) M.T.mgC M.T.bI (fun σ => L2N.passAt lamN_takes σ) (pa_cons (pe_op (show OpR _ _ (rCatA K) from op_catA) (pe_tup (pa_cons (pe_tup (pa_cons (pe_tup (pa_cons pe_int (pa_cons pe_int pa_nil))) (pa_cons (pe_tup (pa_cons pe_int (pa_cons pe_int pa_nil))) (pa_cons pe_bl (pa_cons pe_bl pa_nil))))) pa_nil)) (pe_slice (show SlR _ (rSlA K) from sl_tupA) (pv 2) (po_some pe_int) po_none)) pa_nil)))) (pe_lst (pa_cons pe_str (pa_cons pe_int pa_nil))) (nomark _)) (pss_one (ps_ret pe_bl)) pss_nil) (pss_one (ps_ret (pe_callB (cr_all rfl) (by rfl) M.all (by decide +kernel) (pa_cons
        (pe_lc (te := tCall (spRight M.TT) [] E0 (tCons (tCall (spTin K) [] E0 (tCons (tVar 0) (tCons (tVar 3) tNil))) tNil)) (own := [("_law_turn", 3)]) (g := gName 3) (tt := tYes) rfl scLaw.nd
          (pi_range1 rfl M.range (pa_cons (pe_callB (call_max2 rfl) (by rfl) M.max (by decide +kernel) (pa_cons pe_int (pa_cons (pe_callB (call_min2 rfl) (by rfl) N.min (by decide +kernel) (pa_cons (pe_callB call_len_seq (by rfl) M.bl.len PySem.boot_len (pa_cons (pv 0) pa_nil)) (pa_cons pe_int pa_nil))) pa_nil))) pa_nil))
          (blkOk_by (N := NL) (sc := defScope sLaw) (by decide +kernel)) (fun _ _ _ _ _ => pg_name (i := 3) scLaw.nd rfl (.inl rfl)) (fun _ _ _ _ _ => pts_nil)
          (fun _ _ _ _ _ => pe_callG GT hg hr (by rfl) N.dg.g N.dg.F.kp N.dg.b .nil pass0 (pa_cons (pe_call LT hr1 (by rfl) N.lt.g N.lt.F.kp N.lt.b .nil pass0 (pa_cons (pv 0) (pa_cons (pv 3) pa_nil))) pa_nil))) pa_nil))))))), ?_⟩
    -- right ones
    refine asgAs (K := K) as_W fun v1 H1 s1 an1 => ?_
    refine ⟨_, rfl, 1, rfl, sl_an an1 (es := [pcD ⟨1, 3, true⟩ ⟨1, 2, false⟩]) rfl fun v2 H2 s2 an2 => ?_⟩
    refine as_R (K := K) _ fun v3 H3 s3 an3 => cat_an (an2.same s3) an3 (by decide) fun v4 H4 s4 an4 => ?_
    have an1 := an1.same (s2.trans (s3.trans s4))
    have S4 := s1.trans (s2.trans (s3.trans s4))
    clear s2 s3 s4 an2 an3
    refine nxI ?_
    refine seqIfB false (fun R k => ?_) (fun z => by cases z) (fun _ H5 s5 => ?_)
    · refine orS false false (fun S k => ne_wid (as_v rfl an1) (fun _ => as_23) lawC_b lawC_w lawC_ok (by decide +kernel) (by decide +kernel) (by decide +kernel) k) (fun H5 s5 S k => ?_) k
      refine orS false false (fun S k => ne_wid (as_nil) (fun _ => as_01) nilC_b nilC_w nilC_ok (by decide +kernel) (by decide +kernel) (by decide +kernel) k) (fun H6 s6 S k => ?_) k
      exact ne_lots (cs := []) (as_sl rfl (an4.same (s5.trans s6)) (fun G R h => h) (fun G R h => ⟨0, rfl, h⟩) rfl) (fun H1 s => as_nil) nilC_b nilC_w rfl k
    have an4 := an4.same s5
    have S5 := S4.trans s5
    clear s5 S4 an1
    -- a wrong one, tried
    refine ⟨fun p hp => (hT p hp).ext S5, fun Hx x1 Tx => ?_⟩
    intro E' Q' hE hQ
    refine try_at (d := lawL) M.hP (as_cat (ds := [pcD ⟨1, 3, true⟩ ⟨1, 2, true⟩]) (es := [pcD ⟨1, 2, false⟩ ⟨1, 1, false⟩, pcD ⟨1, 1, false⟩ ⟨1, 1, true⟩]) as_L (fun H1 s => as_sl rfl ((an_ext x1 an4).same s) (fun G R h => ⟨1, rfl, h⟩) (fun G R h => h) rfl) (by decide)) (bent_lit lawL_b).1 Tx hE hQ fun v f1 H6 x2 T6 F1 => ?_
    rw [duesP_some lawL_w] at F1
    have hf := F1.word
    refine ⟨(by show 2 ≤ sizeLine; decide), fun p np => ?_⟩
    have s7 := same_put (o := HO.lst [V.str "pieces", V.int 1]) np
    refine ⟨.list [.str "pieces", .int 1], .list [.str "pieces", .int 1], .lst (SqL.of (s7 _ _ hf)) (.cons (.str _) (.cons (.int _) .nil)), .lst (SqL.of upd_same) (.cons (.str _) (.cons (.int _) .nil)), by decide +kernel, by decide +kernel, _, rfl, ?_⟩
    rw [show PyData.eqv (.list [.str "pieces", .int 1]) (.list [.str "pieces", .int 1]) = true by decide +kernel]
    have hS := sqL_ext hS ((LamX.ExtN.of S5).trans ((x1.trans x2).trans (LamX.ExtN.of s7)))
    have hT := T6.ext s7
    generalize upd H6 p (HO.lst [V.str "pieces", V.int 1]) = H7 at *
    clear hE hQ Tx F1 hf np
    -- all of the turns
    refine iteF (nxI ?_)
    refine ⟨_, rfl, a, _, rfl, .inl hS, _, _, rfl, _, _, rfl, ?_⟩
    have hN : ∀ L : Int, 0 ≤ (if (if (6 : Int) < L then 6 else L) > 2 then (if (6 : Int) < L then 6 else L) else 2) ∧ (if (if (6 : Int) < L then 6 else L) > 2 then (if (6 : Int) < L then 6 else L) else 2) ≤ 6 := fun L => by
      split <;> split <;> omega
    have hN' := hN (((ns.map V.int).length : Nat) : Int)
    generalize (if (if (6 : Int) < (((ns.map V.int).length : Nat) : Int) then 6 else (((ns.map V.int).length : Nat) : Int)) > 2 then (if (6 : Int) < (((ns.map V.int).length : Nat) : Int) then 6 else (((ns.map V.int).length : Nat) : Int)) else 2) = N6 at hN' ⊢
    refine ⟨N6, rfl, by omega, by omega, fun D hD => ?_⟩
    have s0 := same_put (o := HO.lst []) hD
    refine lc_range (lo := 0) (n := N6.toNat) (fun i H2 => H2 D = some (.lst ((List.replicate i true).map V.bl)) ∧ LamX.ExtN H7 H2 ∧ LamX.Tabs M.TT H2) ⟨upd_same, LamX.ExtN.of s0, fun p hp => (hT p hp).ext s0⟩ ?_ ?_
    · rintro i H2 hi ⟨g1, g2, g3⟩
      rw [Int.zero_add]
      refine ⟨rfl, _, rfl, _, rfl, a, ns, _, rfl, sqL_ext hS g2, by omega, by omega, fun p H3 s3 hp T => ⟨p, rfl, T, fun q hq => (g3 q hq).ext s3, fun H4 S4 => ?_⟩⟩
      have nDp : D ≠ p := ne_of_none g1 hp
      have dl := S4.keep _ _ (s3 _ _ g1) nDp (fun ps z => by cases z)
      refine ⟨_, dl, ?_, ?_, fun b z e n => ?_, tabs_put S4.tab dl⟩
      · rw [List.length_map, List.length_replicate]
        exact small1000 (by omega)
      · rw [upd_same, List.replicate_succ', List.map_append]; rfl
      · rw [upd_ne (ne_of_none e hD)]
        have z2 := g2 _ _ e n
        exact S4.keep _ _ (s3 _ _ z2) (ne_of_none z2 hp) n
    · rintro H2 ⟨g1, g2, g3⟩
      refine ⟨D, _, rfl, SqL.of g1, ?_⟩
      have tr : (List.replicate N6.toNat true).all id = true := by
        rw [List.all_eq_true]
        intro b hb
        exact (List.mem_replicate.mp hb).2
      rw [tr]
      exact q H2
end
end My
set_option Elab.async false
set_option linter.all false
set_option maxRecDepth 100000
set_option maxHeartbeats 4000000
/-! what a head by facts says of a class with an own __eq__ and __repr__ -/
namespace Gn
open PySem PySem.Spec PyProof.Rows L2
theorem neB_ok {K : PySem.W.Frag} {C f : Addr} (h : neB K C f = true) (hf : PySem.W.isFn K (.ref f) = true) : NeC K C f := by
  refine ⟨?_, hf⟩
  unfold neB at h
  split at h
  · rename_i m dd cd sl lk
    obtain ⟨h1, ha⟩ := He.ba h
    cases of_decide_eq_true h1
    clear h h1
    split at ha
    · rename_i C' o k0 k1 k2 k3 n k5 em es
      obtain ⟨h2, hb⟩ := He.ba ha
      obtain ⟨h3, hc⟩ := He.ba hb
      obtain ⟨h4, hd⟩ := He.ba hc
      obtain ⟨h5, he⟩ := He.ba hd
      obtain ⟨h6, h7⟩ := He.ba he
      cases of_decide_eq_true h2
      cases of_decide_eq_true h3
      clear ha hb hc hd he h2 h3
      obtain ⟨nm, bs, mro, ns, qn, hd, sn, sub, ab, col, del⟩ := cd
      dsimp only at em h4 h5 h6 h7
      have h4 : del = false := by cases del; rfl; cases h4
      subst em h4
      have esl : sl = #[k0, k1, k2, k3, some (.builtin n), k5] := by
        obtain ⟨l⟩ := sl
        dsimp only at es
        rw [es]
      subst esl
      exact ⟨nm, qn, ns, bs, hd, sn, sub, ab, col, dd, k0, k1, k2, k3, k5, n, lk, h5, He.eqO_ok h6, He.eqO_ok h7⟩
    · cases ha
  · cases h
structure EqcOk (K : PySem.W.Frag) (C : Addr) : Prop where
  ca : PySem.W.findIn K (.ref C) "__class__" = some (some (.builtin "object.__class__"))
  cm : PySem.W.mroIn K C (.type "object") = some true
  yes : PySem.W.kitOne K (.ref C) (.ref C) = some true
  no : PySem.W.kitOne K (.type "tuple") (.ref C) = some false
  eS : PySem.W.findIn K (.ref C) "__eq__" = some (some (.ref (He.ma K C "__eq__")))
  eF : PySem.W.isFn K (.ref (He.ma K C "__eq__")) = true
  nF : PySem.W.notFirst K C (.type "tuple") = true
  nC : NeC K C (He.ma K C "__eq__")
  rS : PySem.W.findIn K (.ref C) "__repr__" = some (some (.ref (He.ma K C "__repr__")))
  rF : PySem.W.isFn K (.ref (He.ma K C "__repr__")) = true
  nb : PySem.W.findIn K (.ref C) "__bool__" = some none
  nl : PySem.W.findIn K (.ref C) "__len__" = some none
theorem eqc_ok {K : PySem.W.Frag} {x : Str} (h : (Fb.eqc x).ok K = true) : EqcOk K (He.ga K x) := by
  obtain ⟨h1, h⟩ := He.ba (show eqcB K (He.ga K x) = true from h)
  obtain ⟨h2, h⟩ := He.ba h
  obtain ⟨h3, h⟩ := He.ba h
  obtain ⟨h4, h⟩ := He.ba h
  obtain ⟨h5, h⟩ := He.ba h
  obtain ⟨h6, h⟩ := He.ba h
  obtain ⟨h7, h⟩ := He.ba h
  obtain ⟨h8, h⟩ := He.ba h
  obtain ⟨h9, h⟩ := He.ba h
  obtain ⟨h10, h⟩ := He.ba h
  obtain ⟨h11, h12⟩ := He.ba h
  exact ⟨He.eqO_ok h1, of_decide_eq_true h2, of_decide_eq_true h3, of_decide_eq_true h4, He.eqO_ok h5, h6, h7, neB_ok h8 h6, He.eqO_ok h9, h10, He.eqO_ok h11, He.eqO_ok h12⟩
end Gn
set_option Elab.async false
set_option linter.all false
set_option maxRecDepth 100000
set_option maxHeartbeats 8000000
namespace My
open PySem PySem.Spec PyProof.Rows L2 Gn Mt
def inn : Stmt → Stmt
  | .ClassDef _ _ _ (s :: _) _ _ _ _ _ _ _ => s
  | s => s
/-- what the written part says of a class, its __init__ at f -/
structure CK (K : PySem.W.Frag) (nm : Str) (fl : List Str) (C R f : Addr) (fd : FuncData) (st : Stmt) (qi : Str) : Prop where
  g : PySem.W.nsIn K mainGlobals nm = some (some (.ref C))
  own : OwC K C
  ini : PySem.W.findIn K (.ref C) "__init__" = some (some (.ref f))
  ty : PySem.W.typeIn K (.ref f) = some (.type "function")
  xf : XfC K C
  ex : ExcC K C
  no : ∀ n ∈ fl, PySem.W.findIn K (.ref C) n = some none
  F : Fun K "__init__" qi st f fd
/-- what all of them share -/
structure Glob (K : PySem.W.Frag) : Prop where
  hn : PySem.W.specialIn K (.builtin "object.__class__") "__get__" = some (some (.builtin "getset_descriptor.__get__"))
  ht : PySem.W.takesIn K (.builtin "object.__class__") = some true
structure Kit (K : PySem.W.Frag) (R0 R1 R2 C : Addr) (b0 b1 b2 : Bool) : Prop where
  o0 : PySem.W.kitOne K (.ref C) (.ref R0) = some b0
  o1 : PySem.W.kitOne K (.ref C) (.ref R1) = some b1
  o2 : PySem.W.kitOne K (.ref C) (.ref R2) = some b2
  t0 : PySem.W.kitOne K (.ref C) (.type "ValueError") = some b0
  t1 : PySem.W.kitOne K (.ref C) (.type "LookupError") = some b1
  t2 : PySem.W.kitOne K (.ref C) (.type "ArithmeticError") = some b2
section
variable {P : Program} {w : World} {K : PySem.W.Frag} {mg : Str → Option Value} {base : Heap}
theorem prop_mk {C p g : Addr} {f : Str} {od : Option Addr} {sl : Array (Option Value)} {vs : Array Value} {rest : List Value} (a : PySem.W.findIn K (.ref C) f = some (some (.ref p))) (ge : PySem.W.specialIn K (.ref p) "__get__" = some (some (.builtin "property.__get__"))) (tk : PySem.W.takesIn K (.ref p) = some true)
    (l : K.lookup p = some ⟨.type "property", od, .fields vs, sl⟩) (e : vs.toList = .ref g :: rest) : PropOf K C f p g := by
  refine ⟨a, ge, tk, rest, ?_⟩
  unfold PySem.W.recIn
  simp only [l, e]
  rfl
/-- the last cut as the text writes it -/
theorem cut_written {a b : Addr} {oa ob : Option Addr} {sa sb : Array (Option Value)} {ia ib : Array Value} {na nb : Nat} {t0 t1 t2 : Tok} (la : K.lookup a = some ⟨.type "tuple", oa, .seq ia na, sa⟩) (ea : ia.toList = [.ref b, .int 0 t0]) (lb : K.lookup b = some ⟨.type "tuple", ob, .seq ib nb, sb⟩) (eb : ib.toList = [.int 1 t1, .int 1 t2]) (H : Hp) : Dp K H (.ref a) (cutD last) := by
  have za : ia.size ≤ sizeLine := by
    rw [← Array.length_toList, ea]
    exact (by decide : 2 ≤ sizeLine)
  have zb : ib.size ≤ sizeLine := by
    rw [← Array.length_toList, eb]
    exact (by decide : 2 ≤ sizeLine)
  refine .tup (xs := [.ref b, .int 0]) (.inr ⟨_, ia, na, la, rfl, rfl, za, ?_⟩) (.cons (.tup (xs := [.int 1, .int 1]) (.inr ⟨_, ib, nb, lb, rfl, rfl, zb, ?_⟩) (.cons (.int 1) (.cons (.int 1) .nil))) (.cons (.int 0) .nil))
  · rw [ea]
    exact .cons rfl (.cons ⟨t0, rfl⟩ .nil)
  · rw [eb]
    exact .cons ⟨t1, rfl⟩ (.cons ⟨t2, rfl⟩ .nil)
theorem cl7 {C R f : Addr} {fd : FuncData} {h : Heap} (X : K.In h) (G : h.Ns mainGlobals mg) (T : CK K "InvalidPieces" ["index"] C R f fd (inn (top 10)) "InvalidPieces.__init__") : OwE P w K mg base "InvalidPieces" ["index"] C f fd := by
  have S : FnScope ["self", "index"] ["self", "index"] (defScope (inn (top 10))) := ⟨rfl, rfl, rfl, by decide +kernel, rfl, by decide +kernel, by decide +kernel⟩
  exact ⟨T.own, T.ini, T.ty, T.xf, T.ex, T.no, PySem.W.mg_of X G T.g, ini1 T.F S rfl (Or.inl rfl) (Or.inl rfl) (by decide) (by decide), T.F.binds fun _ _ _ _ _ _ us hl => match us, hl with | [_, _], _ => rfl⟩
theorem ma_of {t c0 c1 c2 : Value} {b0 b1 b2 : Bool} (e0 : PySem.W.exmOne K t c0 = some b0) (e1 : PySem.W.exmOne K t c1 = some b1) (e2 : PySem.W.exmOne K t c2 = some b2) : PySem.W.exmAny K t [c0, c1, c2] = some (b0 || (b1 || (b2 || false))) := by
  simp only [PySem.W.exmAny, e0, e1, e2]
theorem is2 {α : Type} {x a b : α} (h : x ∈ [a, b]) : x = a ∨ x = b := by simpa using h
end
theorem funOfX {K : PySem.W.Frag} {x qual : Str} {st : Stmt} {f : Addr} {fd : FuncData} (F : FunD K x qual (defArgs st) (defBody st) (defScope st) [] [] f fd) : Fun K x qual st f fd := by
  obtain ⟨oc, od, dV, kV, doc, pm, an, cdv, ct, osl, e, lk, hcd, hD, _⟩ := F.ex
  rcases hD with ⟨_, rfl⟩ | ⟨e', _⟩
  · exact ⟨⟨oc, od, kV, doc, pm, an, cdv, ct, osl, e, lk, hcd⟩, F.kp⟩
  · exact absurd rfl e'
theorem walkGX {l : PySem.W.OpenLaw} {n k : Nat} {q : Program} {loose : List Str} {XP : (Str → Option Value) → Heap → Prop} {YP : World → Heap → Prop} {d : DefRec} {CX : World → CXT} {x : Str}
    (hn : l.most = some n) (hn2 : n ≤ sizeLine) (hdf : d.params.defaults = []) (hr : Room k callerA)
    (F : ∀ (w : World) (mg : Str → Option Value) (fa : Addr) (h : Heap), YP w h → h.Ns mainGlobals mg → mg d.name = some (.ref fa) → ∃ K : PySem.W.Frag, K.In h ∧ LawAtG l w K (CX w) k n x mg fa h)
    (hCX : ∀ (w : World) (H : Hp) (s : Shared) (e : Value) (s' : Shared), CX w [] H s (fun _ _ _ => False) e s' → False) : PySem.W.WalkO q loose XP YP l.row.toRowW d [] (fun f vs => PySem.call f vs) :=
  Att.attach_call hn hdf fun w s₀ s₁ mg mb fa o pm cd doc a vs ns G Y ho hd hcd hmg hobj hints hlen hg => by
    obtain ⟨K, KX, fd, cs, sp, T, hb, hsp, hF⟩ := F w mg fa _ Y G.T.g hmg
    exact lawGT KX G.T.g G.T.b G.T.builtins G.T.nolimit hg (fun p m => (T p m).1) (fun p m => (T p m).2.1) (fun p m => (T p m).2.2) G.T.bmain hobj hints (Nat.le_trans hlen hn2) hr hF hb (fun H h1 h2 => hsp H a ns hlen h1 h2) fun H e s' => hCX w H s₁ e s'
theorem all_mkX {l : PySem.W.OpenLaw} {w : World} {K : PySem.W.Frag} {h : Heap} {mg : Str → Option Value} {fa : Addr} (X : K.In h) (G : h.Ns mainGlobals mg) (hfa : mg "law" = some (.ref fa)) (c : SaysZ fasX fnsX tfX fbsX prsX w h K)
    : LawAtG l w K CX0 11 63 "_law_script" mg fa h := by
  have cd := c.d
  obtain ⟨fd0, G0⟩ := cd.def_ 0 (d := ddX0) rfl
  obtain ⟨F0, C0⟩ : Fun K "is_integer" "is_integer" (top 19) (He.ga K "is_integer") fd0 ∧ fd0.code = .ref (He.cT K ("is_integer", none)).1 := funZ (p := ("is_integer", none)) G0
  have g0 := He.glo_ok X G (cd.fact 0 (f := .glo "is_integer") rfl)
  have d0 : Df K mg "is_integer" (top 19) ["given"] (He.ga K "is_integer") fd0 := ⟨F0, g0, F0.binds fun _ _ _ _ _ _ us hl => match us, hl with | [_], _ => rfl⟩
  obtain ⟨fd1, G1⟩ := cd.def_ 1 (d := ddX1) rfl
  obtain ⟨F1, C1⟩ : Fun K "is_fraction" "is_fraction" (top 20) (He.ga K "is_fraction") fd1 ∧ fd1.code = .ref (He.cT K ("is_fraction", none)).1 := funZ (p := ("is_fraction", none)) G1
  have g1 := He.glo_ok X G (cd.fact 1 (f := .glo "is_fraction") rfl)
  have d1 : Df K mg "is_fraction" (top 20) ["given"] (He.ga K "is_fraction") fd1 := ⟨F1, g1, F1.binds fun _ _ _ _ _ _ us hl => match us, hl with | [_], _ => rfl⟩
  obtain ⟨fd2, G2⟩ := cd.def_ 2 (d := ddX2) rfl
  obtain ⟨F2, C2⟩ : Fun K "is_part" "is_part" (top 21) (He.ga K "is_part") fd2 ∧ fd2.code = .ref (He.cT K ("is_part", none)).1 := funZ (p := ("is_part", none)) G2
  have g2 := He.glo_ok X G (cd.fact 2 (f := .glo "is_part") rfl)
  have d2 : Df K mg "is_part" (top 21) ["given"] (He.ga K "is_part") fd2 := ⟨F2, g2, F2.binds fun _ _ _ _ _ _ us hl => match us, hl with | [_], _ => rfl⟩
  obtain ⟨fd3, G3⟩ := cd.def_ 3 (d := ddX3) rfl
  obtain ⟨F3, C3⟩ : Fun K "is_less" "is_less" (top 22) (He.ga K "is_less") fd3 ∧ fd3.code = .ref (He.cT K ("is_less", none)).1 := funZ (p := ("is_less", none)) G3
  have g3 := He.glo_ok X G (cd.fact 3 (f := .glo "is_less") rfl)
  have d3 : Df K mg "is_less" (top 22) ["one", "other"] (He.ga K "is_less") fd3 := ⟨F3, g3, F3.binds fun _ _ _ _ _ _ us hl => match us, hl with | [_, _], _ => rfl⟩
  obtain ⟨fd4, G4⟩ := cd.def_ 4 (d := ddX4) rfl
  obtain ⟨F4, C4⟩ : Fun K "lowest" "lowest" (top 24) (He.ga K "lowest") fd4 ∧ fd4.code = .ref (He.cT K ("lowest", none)).1 := funZ (p := ("lowest", none)) G4
  have g4 := He.glo_ok X G (cd.fact 4 (f := .glo "lowest") rfl)
  have d4 : Df K mg "lowest" (top 24) ["top", "bottom"] (He.ga K "lowest") fd4 := ⟨F4, g4, F4.binds fun _ _ _ _ _ _ us hl => match us, hl with | [_, _], _ => rfl⟩
  obtain ⟨fd5, G5⟩ := cd.def_ 5 (d := ddX5) rfl
  obtain ⟨F5, C5⟩ : Fun K "_first_wrong" "_first_wrong" (top 31) (He.ga K "_first_wrong") fd5 ∧ fd5.code = .ref (He.cT K ("_first_wrong", none)).1 := funZ (p := ("_first_wrong", none)) G5
  have g5 := He.glo_ok X G (cd.fact 5 (f := .glo "_first_wrong") rfl)
  have d5 : Df K mg "_first_wrong" (top 31) ["pieces"] (He.ga K "_first_wrong") fd5 := ⟨F5, g5, F5.binds fun _ _ _ _ _ _ us hl => match us, hl with | [_], _ => rfl⟩
  obtain ⟨fd6, G6⟩ := cd.def_ 6 (d := ddX6) rfl
  obtain ⟨F6, C6⟩ : Fun K "_is_piece" "_is_piece" (top 32) (He.ga K "_is_piece") fd6 ∧ fd6.code = .ref (He.cT K ("_is_piece", none)).1 := funZ (p := ("_is_piece", none)) G6
  have g6 := He.glo_ok X G (cd.fact 6 (f := .glo "_is_piece") rfl)
  have d6 : Df K mg "_is_piece" (top 32) ["given"] (He.ga K "_is_piece") fd6 := ⟨F6, g6, F6.binds fun _ _ _ _ _ _ us hl => match us, hl with | [_], _ => rfl⟩
  obtain ⟨fd7, G7⟩ := cd.def_ 7 (d := ddX7) rfl
  obtain ⟨F7, C7⟩ : Fun K "_cuts_at" "_cuts_at" (top 33) (He.ga K "_cuts_at") fd7 ∧ fd7.code = .ref (He.cT K ("_cuts_at", none)).1 := funZ (p := ("_cuts_at", none)) G7
  have g7 := He.glo_ok X G (cd.fact 7 (f := .glo "_cuts_at") rfl)
  have d7 : Df K mg "_cuts_at" (top 33) ["piece"] (He.ga K "_cuts_at") fd7 := ⟨F7, g7, F7.binds fun _ _ _ _ _ _ us hl => match us, hl with | [_], _ => rfl⟩
  obtain ⟨fd8, G8⟩ := cd.def_ 8 (d := ddX8) rfl
  obtain ⟨F8, C8⟩ : Fun K "_is_ahead" "_is_ahead" (top 34) (He.ga K "_is_ahead") fd8 ∧ fd8.code = .ref (He.cT K ("_is_ahead", none)).1 := funZ (p := ("_is_ahead", none)) G8
  have g8 := He.glo_ok X G (cd.fact 8 (f := .glo "_is_ahead") rfl)
  have d8 : Df K mg "_is_ahead" (top 34) ["cut", "other"] (He.ga K "_is_ahead") fd8 := ⟨F8, g8, F8.binds fun _ _ _ _ _ _ us hl => match us, hl with | [_, _], _ => rfl⟩
  obtain ⟨fd9, G9⟩ := cd.def_ 9 (d := ddX9) rfl
  obtain ⟨F9, C9⟩ : Fun K "_law_tin" "_law_tin" (top 43) (He.ga K "_law_tin") fd9 ∧ fd9.code = .ref (He.cT K ("_law_tin", none)).1 := funZ (p := ("_law_tin", none)) G9
  have g9 := He.glo_ok X G (cd.fact 9 (f := .glo "_law_tin") rfl)
  have d9 : Df K mg "_law_tin" (top 43) ["_law_script", "_law_turn"] (He.ga K "_law_tin") fd9 := ⟨F9, g9, F9.binds fun _ _ _ _ _ _ us hl => match us, hl with | [_, _], _ => rfl⟩
  obtain ⟨fd10, G10⟩ := cd.def_ 10 (d := ddX10) rfl
  obtain ⟨F10, C10⟩ : Fun K "_law_sip" "_law_sip" (top 44) (He.ga K "_law_sip") fd10 ∧ fd10.code = .ref (He.cT K ("_law_sip", none)).1 := funZ (p := ("_law_sip", none)) G10
  have g10 := He.glo_ok X G (cd.fact 10 (f := .glo "_law_sip") rfl)
  have d10 : Df K mg "_law_sip" (top 44) ["_law_tin_here", "_law_top"] (He.ga K "_law_sip") fd10 := ⟨F10, g10, F10.binds fun _ _ _ _ _ _ us hl => match us, hl with | [_, _], _ => rfl⟩
  obtain ⟨fd11, G11⟩ := cd.def_ 11 (d := ddX11) rfl
  obtain ⟨F11, C11⟩ : Fun K "_law_pick" "_law_pick" (top 45) (He.ga K "_law_pick") fd11 ∧ fd11.code = .ref (He.cT K ("_law_pick", none)).1 := funZ (p := ("_law_pick", none)) G11
  have g11 := He.glo_ok X G (cd.fact 11 (f := .glo "_law_pick") rfl)
  have d11 : Df K mg "_law_pick" (top 45) ["_law_tin_here", "_law_menu"] (He.ga K "_law_pick") fd11 := ⟨F11, g11, F11.binds fun _ _ _ _ _ _ us hl => match us, hl with | [_, _], _ => rfl⟩
  obtain ⟨fd12, G12⟩ := cd.def_ 12 (d := ddX12) rfl
  obtain ⟨F12, C12⟩ : Fun K "_law_gcd" "_law_gcd" (top 46) (He.ga K "_law_gcd") fd12 ∧ fd12.code = .ref (He.cT K ("_law_gcd", none)).1 := funZ (p := ("_law_gcd", none)) G12
  have g12 := He.glo_ok X G (cd.fact 12 (f := .glo "_law_gcd") rfl)
  have d12 : Df K mg "_law_gcd" (top 46) ["_law_one", "_law_two"] (He.ga K "_law_gcd") fd12 := ⟨F12, g12, F12.binds fun _ _ _ _ _ _ us hl => match us, hl with | [_, _], _ => rfl⟩
  obtain ⟨fd13, G13⟩ := cd.def_ 13 (d := ddX13) rfl
  obtain ⟨F13, C13⟩ : Fun K "_law_low" "_law_low" (top 47) (He.ga K "_law_low") fd13 ∧ fd13.code = .ref (He.cT K ("_law_low", none)).1 := funZ (p := ("_law_low", none)) G13
  have g13 := He.glo_ok X G (cd.fact 13 (f := .glo "_law_low") rfl)
  have d13 : Df K mg "_law_low" (top 47) ["_law_top", "_law_bottom"] (He.ga K "_law_low") fd13 := ⟨F13, g13, F13.binds fun _ _ _ _ _ _ us hl => match us, hl with | [_, _], _ => rfl⟩
  obtain ⟨fd14, G14⟩ := cd.def_ 14 (d := ddX14) rfl
  obtain ⟨F14, C14⟩ : Fun K "_law_under" "_law_under" (top 48) (He.ga K "_law_under") fd14 ∧ fd14.code = .ref (He.cT K ("_law_under", none)).1 := funZ (p := ("_law_under", none)) G14
  have g14 := He.glo_ok X G (cd.fact 14 (f := .glo "_law_under") rfl)
  have d14 : Df K mg "_law_under" (top 48) ["_law_one", "_law_two"] (He.ga K "_law_under") fd14 := ⟨F14, g14, F14.binds fun _ _ _ _ _ _ us hl => match us, hl with | [_, _], _ => rfl⟩
  obtain ⟨fd15, G15⟩ := cd.def_ 15 (d := ddX15) rfl
  obtain ⟨F15, C15⟩ : Fun K "_law_pieces" "_law_pieces" (top 49) (He.ga K "_law_pieces") fd15 ∧ fd15.code = .ref (He.cT K ("_law_pieces", none)).1 := funZ (p := ("_law_pieces", none)) G15
  have g15 := He.glo_ok X G (cd.fact 15 (f := .glo "_law_pieces") rfl)
  have d15 : Df K mg "_law_pieces" (top 49) ["_law_tin_here", "_law_many"] (He.ga K "_law_pieces") fd15 := ⟨F15, g15, F15.binds fun _ _ _ _ _ _ us hl => match us, hl with | [_, _], _ => rfl⟩
  obtain ⟨fd16, G16⟩ := cd.def_ 16 (d := ddX16) rfl
  obtain ⟨F16, C16⟩ : Fun K "_law_is_number" "_law_is_number" (top 50) (He.ga K "_law_is_number") fd16 ∧ fd16.code = .ref (He.cT K ("_law_is_number", none)).1 := funZ (p := ("_law_is_number", none)) G16
  have g16 := He.glo_ok X G (cd.fact 16 (f := .glo "_law_is_number") rfl)
  have d16 : Df K mg "_law_is_number" (top 50) ["_law_thing", "_law_low_here", "_law_high"] (He.ga K "_law_is_number") fd16 := ⟨F16, g16, F16.binds fun _ _ _ _ _ _ us hl => match us, hl with | [_, _, _], _ => rfl⟩
  obtain ⟨fd17, G17⟩ := cd.def_ 17 (d := ddX17) rfl
  obtain ⟨F17, C17⟩ : Fun K "_law_is_part" "_law_is_part" (top 51) (He.ga K "_law_is_part") fd17 ∧ fd17.code = .ref (He.cT K ("_law_is_part", none)).1 := funZ (p := ("_law_is_part", none)) G17
  have g17 := He.glo_ok X G (cd.fact 17 (f := .glo "_law_is_part") rfl)
  have d17 : Df K mg "_law_is_part" (top 51) ["_law_thing"] (He.ga K "_law_is_part") fd17 := ⟨F17, g17, F17.binds fun _ _ _ _ _ _ us hl => match us, hl with | [_], _ => rfl⟩
  obtain ⟨fd18, G18⟩ := cd.def_ 18 (d := ddX18) rfl
  obtain ⟨F18, C18⟩ : Fun K "_law_error" "_law_error" (top 52) (He.ga K "_law_error") fd18 ∧ fd18.code = .ref (He.cT K ("_law_error", none)).1 := funZ (p := ("_law_error", none)) G18
  have g18 := He.glo_ok X G (cd.fact 18 (f := .glo "_law_error") rfl)
  have d18 : Df K mg "_law_error" (top 52) ["_law_act"] (He.ga K "_law_error") fd18 := ⟨F18, g18, F18.binds fun _ _ _ _ _ _ us hl => match us, hl with | [_], _ => rfl⟩
  obtain ⟨fd19, G19⟩ := cd.def_ 19 (d := ddX19) rfl
  obtain ⟨F19, C19⟩ : Fun K "_law_class" "_law_class" (top 53) (He.ga K "_law_class") fd19 ∧ fd19.code = .ref (He.cT K ("_law_class", none)).1 := funZ (p := ("_law_class", none)) G19
  have g19 := He.glo_ok X G (cd.fact 19 (f := .glo "_law_class") rfl)
  have d19 : Df K mg "_law_class" (top 53) ["_law_e"] (He.ga K "_law_class") fd19 := ⟨F19, g19, F19.binds fun _ _ _ _ _ _ us hl => match us, hl with | [_], _ => rfl⟩
  obtain ⟨fd20, G20⟩ := cd.def_ 20 (d := ddX20) rfl
  obtain ⟨F20, C20⟩ : Fun K "_law_field" "_law_field" (top 54) (He.ga K "_law_field") fd20 ∧ fd20.code = .ref (He.cT K ("_law_field", none)).1 := funZ (p := ("_law_field", none)) G20
  have g20 := He.glo_ok X G (cd.fact 20 (f := .glo "_law_field") rfl)
  have d20 : Df K mg "_law_field" (top 54) ["_law_e"] (He.ga K "_law_field") fd20 := ⟨F20, g20, F20.binds fun _ _ _ _ _ _ us hl => match us, hl with | [_], _ => rfl⟩
  obtain ⟨fd21, G21⟩ := cd.def_ 21 (d := ddX21) rfl
  obtain ⟨F21, C21⟩ : Fun K "_law_ends_right" "_law_ends_right" (top 55) (He.ga K "_law_ends_right") fd21 ∧ fd21.code = .ref (He.cT K ("_law_ends_right", none)).1 := funZ (p := ("_law_ends_right", none)) G21
  have g21 := He.glo_ok X G (cd.fact 21 (f := .glo "_law_ends_right") rfl)
  have d21 : Df K mg "_law_ends_right" (top 55) ["_law_found", "_law_dues"] (He.ga K "_law_ends_right") fd21 := ⟨F21, g21, F21.binds fun _ _ _ _ _ _ us hl => match us, hl with | [_, _], _ => rfl⟩
  obtain ⟨fd22, G22⟩ := cd.def_ 22 (d := ddX22) rfl
  obtain ⟨F22, C22⟩ : Fun K "_law_is_piece" "_law_is_piece" (top 56) (He.ga K "_law_is_piece") fd22 ∧ fd22.code = .ref (He.cT K ("_law_is_piece", none)).1 := funZ (p := ("_law_is_piece", none)) G22
  have g22 := He.glo_ok X G (cd.fact 22 (f := .glo "_law_is_piece") rfl)
  have d22 : Df K mg "_law_is_piece" (top 56) ["_law_thing"] (He.ga K "_law_is_piece") fd22 := ⟨F22, g22, F22.binds fun _ _ _ _ _ _ us hl => match us, hl with | [_], _ => rfl⟩
  obtain ⟨fd23, G23⟩ := cd.def_ 23 (d := ddX23) rfl
  obtain ⟨F23, C23⟩ : Fun K "_law_wrong" "_law_wrong" (top 57) (He.ga K "_law_wrong") fd23 ∧ fd23.code = .ref (He.cT K ("_law_wrong", none)).1 := funZ (p := ("_law_wrong", none)) G23
  have g23 := He.glo_ok X G (cd.fact 23 (f := .glo "_law_wrong") rfl)
  have d23 : Df K mg "_law_wrong" (top 57) ["_law_thing"] (He.ga K "_law_wrong") fd23 := ⟨F23, g23, F23.binds fun _ _ _ _ _ _ us hl => match us, hl with | [_], _ => rfl⟩
  obtain ⟨fd24, G24⟩ := cd.def_ 24 (d := ddX24) rfl
  obtain ⟨F24, C24⟩ : Fun K "_law_bent" "_law_bent" (top 58) (He.ga K "_law_bent") fd24 ∧ fd24.code = .ref (He.cT K ("_law_bent", none)).1 := funZ (p := ("_law_bent", none)) G24
  have g24 := He.glo_ok X G (cd.fact 24 (f := .glo "_law_bent") rfl)
  have d24 : Df K mg "_law_bent" (top 58) ["_law_tin_here", "_law_right_here"] (He.ga K "_law_bent") fd24 := ⟨F24, g24, F24.binds fun _ _ _ _ _ _ us hl => match us, hl with | [_, _], _ => rfl⟩
  obtain ⟨fd25, G25⟩ := cd.def_ 25 (d := ddX25) rfl
  obtain ⟨F25, C25⟩ : Fun K "_law_width" "_law_width" (top 59) (He.ga K "_law_width") fd25 ∧ fd25.code = .ref (He.cT K ("_law_width", none)).1 := funZ (p := ("_law_width", none)) G25
  have g25 := He.glo_ok X G (cd.fact 25 (f := .glo "_law_width") rfl)
  have d25 : Df K mg "_law_width" (top 59) ["_law_rows_here"] (He.ga K "_law_width") fd25 := ⟨F25, g25, F25.binds fun _ _ _ _ _ _ us hl => match us, hl with | [_], _ => rfl⟩
  obtain ⟨fd26, G26⟩ := cd.def_ 26 (d := ddX26) rfl
  obtain ⟨F26, C26⟩ : Fun K "_law_right" "_law_right" (top 60) (He.ga K "_law_right") fd26 ∧ fd26.code = .ref (He.cT K ("_law_right", none)).1 := funZ (p := ("_law_right", none)) G26
  have g26 := He.glo_ok X G (cd.fact 26 (f := .glo "_law_right") rfl)
  have d26 : Df K mg "_law_right" (top 60) ["_law_tin_here"] (He.ga K "_law_right") fd26 := ⟨F26, g26, F26.binds fun _ _ _ _ _ _ us hl => match us, hl with | [_], _ => rfl⟩
  obtain ⟨fd27, G27⟩ := cd.def_ 27 (d := ddX27) rfl
  obtain ⟨F27, C27⟩ : Fun K "law" "law" (top 61) (He.ga K "law") fd27 ∧ fd27.code = .ref (He.cT K ("law", none)).1 := funZ (p := ("law", none)) G27
  have g27 := He.glo_ok X G (cd.fact 27 (f := .glo "law") rfl)
  have n0 := He.free_ok X G (cd.fact 44 (f := .free "len") rfl)
  have n1 := He.free_ok X G (cd.fact 45 (f := .free "int") rfl)
  have n2 := He.free_ok X G (cd.fact 46 (f := .free "abs") rfl)
  have n3 := He.free_ok X G (cd.fact 47 (f := .free "isinstance") rfl)
  have n4 := He.free_ok X G (cd.fact 48 (f := .free "bool") rfl)
  have n5 := He.free_ok X G (cd.fact 49 (f := .free "tuple") rfl)
  have n6 := He.free_ok X G (cd.fact 50 (f := .free "range") rfl)
  have n7 := He.free_ok X G (cd.fact 51 (f := .free "min") rfl)
  have n8 := He.free_ok X G (cd.fact 52 (f := .free "max") rfl)
  have n9 := He.free_ok X G (cd.fact 53 (f := .free "all") rfl)
  have n10 := He.free_ok X G (cd.fact 54 (f := .free "sorted") rfl)
  have n11 := He.free_ok X G (cd.fact 55 (f := .free "set") rfl)
  have n12 := He.free_ok X G (cd.fact 56 (f := .free "repr") rfl)
  have n13 := He.free_ok X G (cd.fact 57 (f := .free "list") rfl)
  have n14 := He.free_ok X G (cd.fact 58 (f := .free "str") rfl)
  have n15 := He.free_ok X G (cd.fact 59 (f := .free "enumerate") rfl)
  have n16 := He.free_ok X G (cd.fact 60 (f := .free "zip") rfl)
  have n17 := He.free_ok X G (cd.fact 61 (f := .free "ValueError") rfl)
  have n18 := He.free_ok X G (cd.fact 62 (f := .free "LookupError") rfl)
  have n19 := He.free_ok X G (cd.fact 63 (f := .free "ArithmeticError") rfl)
  have b_gcd := bi_ok X G (c.fx 1 (f := .bi "gcd" "math.gcd") rfl)
  have gb := (c.fx 0 (f := .glob) rfl)
  obtain ⟨gb1, gb2⟩ := glob_ok gb
  have e0 := He.glo_ok X G (cd.fact 31 (f := .glo "InvalidText") rfl)
  have e1 := He.glo_ok X G (cd.fact 32 (f := .glo "InvalidNumber") rfl)
  have e2 := He.glo_ok X G (cd.fact 33 (f := .glo "InvalidStep") rfl)
  have e3 := He.glo_ok X G (cd.fact 34 (f := .glo "InvalidArc") rfl)
  have e4 := He.glo_ok X G (cd.fact 35 (f := .glo "InvalidSighting") rfl)
  have e5 := He.glo_ok X G (cd.fact 36 (f := .glo "InvalidSightings") rfl)
  have e6 := He.glo_ok X G (cd.fact 37 (f := .glo "NotALot") rfl)
  have e7 := He.glo_ok X G (cd.fact 38 (f := .glo "InvalidPieces") rfl)
  have e8 := He.glo_ok X G (cd.fact 39 (f := .glo "InvalidOrder") rfl)
  have e9 := He.glo_ok X G (cd.fact 40 (f := .glo "InvalidIndex") rfl)
  have e10 := He.glo_ok X G (cd.fact 41 (f := .glo "NoStep") rfl)
  have e11 := He.glo_ok X G (cd.fact 42 (f := .glo "TooMany") rfl)
  have e12 := He.glo_ok X G (cd.fact 43 (f := .glo "Broken") rfl)
  have r0 := He.glo_ok X G (cd.fact 28 (f := .glo "NotRight") rfl)
  have r1 := He.glo_ok X G (cd.fact 29 (f := .glo "NotKnown") rfl)
  have r2 := He.glo_ok X G (cd.fact 30 (f := .glo "NotPossible") rfl)
  obtain ⟨fi0, H0⟩ := cd.def_ 28 (d := ddX28) rfl
  obtain ⟨I0, J0⟩ : Fun K "__init__" "Lot.__init__" (inClass (top 29) 0) (He.ma K (He.ga K "Lot") "__init__") fi0 ∧ fi0.code = .ref (He.cT K ("Lot", some "__init__")).1 := funZ (p := ("Lot", some "__init__")) H0
  obtain ⟨fi1, H1⟩ := cd.def_ 29 (d := ddX29) rfl
  obtain ⟨I1, J1⟩ : Fun K "__init__" "InvalidPieces.__init__" (inn (top 10)) (He.ma K (He.ga K "InvalidPieces") "__init__") fi1 ∧ fi1.code = .ref (He.cT K ("InvalidPieces", some "__init__")).1 := funZ (p := ("InvalidPieces", some "__init__")) H1
  obtain ⟨fm0, Hm0⟩ := cd.def_ 30 (d := ddX30) rfl
  obtain ⟨Im0, Jm0⟩ : Fun K "__eq__" "Lot.__eq__" (inClass (top 29) 5) (He.ma K (He.ga K "Lot") "__eq__") fm0 ∧ fm0.code = .ref (He.cT K ("Lot", some "__eq__")).1 := funZ (p := ("Lot", some "__eq__")) Hm0
  obtain ⟨fm1, Hm1⟩ := cd.def_ 31 (d := ddX31) rfl
  obtain ⟨Im1, Jm1⟩ : Fun K "__repr__" "Lot.__repr__" (inClass (top 29) 7) (He.ma K (He.ga K "Lot") "__repr__") fm1 ∧ fm1.code = .ref (He.cT K ("Lot", some "__repr__")).1 := funZ (p := ("Lot", some "__repr__")) Hm1
  obtain ⟨oC7, oX7, oE7, oI7, oT7⟩ := own_ok gb (show ownC K (He.ga K "InvalidPieces") (He.ga K "NotRight") = true from (c.fx 2 (f := .own "InvalidPieces" "NotRight") rfl))
  have T7 : CK K "InvalidPieces" ["index"] (He.ga K "InvalidPieces") (He.ga K "NotRight") (He.ma K (He.ga K "InvalidPieces") "__init__") fi1 (inn (top 10)) "InvalidPieces.__init__" := ⟨He.eqO_ok (show He.eqO (PySem.W.nsIn K mainGlobals "InvalidPieces") _ = true from (cd.fact 38 (f := .glo "InvalidPieces") rfl)), oC7, oI7, oT7, oX7, oE7, List.forall_mem_singleton.mpr (He.noat_ok (cd.fact 71 (f := .noat "InvalidPieces" "index") rfl)), I1⟩
  let er : Er mg := { c := fun i => match i with | 0 => (He.ga K "InvalidText") | 1 => (He.ga K "InvalidNumber") | 2 => (He.ga K "InvalidStep") | 3 => (He.ga K "InvalidArc") | 4 => (He.ga K "InvalidSighting") | 5 => (He.ga K "InvalidSightings") | 6 => (He.ga K "NotALot") | 7 => (He.ga K "InvalidPieces") | 8 => (He.ga K "InvalidOrder") | 9 => (He.ga K "InvalidIndex") | 10 => (He.ga K "NoStep") | 11 => (He.ga K "TooMany") | _ => (He.ga K "Broken"), R0 := (He.ga K "NotRight"), R1 := (He.ga K "NotKnown"), R2 := (He.ga K "NotPossible"), g := fun i hi => match i, hi with | 0, _ => e0 | 1, _ => e1 | 2, _ => e2 | 3, _ => e3 | 4, _ => e4 | 5, _ => e5 | 6, _ => e6 | 7, _ => e7 | 8, _ => e8 | 9, _ => e9 | 10, _ => e10 | 11, _ => e11 | 12, _ => e12 | i + 13, z => absurd z (by omega), g0 := r0, g1 := r1, g2 := r2, v0 := n17, v1 := n18, v2 := n19, isi := n3, len := n0 }
  have one7 : ∀ i, i < 13 → PySem.W.kitOne K (.ref (He.ga K "InvalidPieces")) (.ref (er.c i)) = some (decide (i = 7)) := fun i hi => match i, hi with | 0, _ => kit_ok (c.fx 3 (f := .kit "InvalidPieces" "InvalidText" false) rfl) | 1, _ => kit_ok (c.fx 4 (f := .kit "InvalidPieces" "InvalidNumber" false) rfl) | 2, _ => kit_ok (c.fx 5 (f := .kit "InvalidPieces" "InvalidStep" false) rfl) | 3, _ => kit_ok (c.fx 6 (f := .kit "InvalidPieces" "InvalidArc" false) rfl) | 4, _ => kit_ok (c.fx 7 (f := .kit "InvalidPieces" "InvalidSighting" false) rfl) | 5, _ => kit_ok (c.fx 8 (f := .kit "InvalidPieces" "InvalidSightings" false) rfl) | 6, _ => kit_ok (c.fx 9 (f := .kit "InvalidPieces" "NotALot" false) rfl) | 7, _ => kit_ok (c.fx 10 (f := .kit "InvalidPieces" "InvalidPieces" true) rfl) | 8, _ => kit_ok (c.fx 11 (f := .kit "InvalidPieces" "InvalidOrder" false) rfl) | 9, _ => kit_ok (c.fx 12 (f := .kit "InvalidPieces" "InvalidIndex" false) rfl) | 10, _ => kit_ok (c.fx 13 (f := .kit "InvalidPieces" "NoStep" false) rfl) | 11, _ => kit_ok (c.fx 14 (f := .kit "InvalidPieces" "TooMany" false) rfl) | 12, _ => kit_ok (c.fx 15 (f := .kit "InvalidPieces" "Broken" false) rfl) | i + 13, z => absurd z (by omega)
  have held7 : Held K er (He.ga K "InvalidPieces") 7 := { ex := T7.ex, xf := T7.xf, lt := by decide, one := one7, no := fun n e => by cases e; exact T7.no _ (by simp), bs := ⟨true, false, false, rfl, kit_ok (c.fx 16 (f := .kit "InvalidPieces" "NotRight" true) rfl), kit_ok (c.fx 17 (f := .kit "InvalidPieces" "NotKnown" false) rfl), kit_ok (c.fx 18 (f := .kit "InvalidPieces" "NotPossible" false) rfl), kitT_ok (c.fx 19 (f := .kitT "InvalidPieces" "ValueError" true) rfl), kitT_ok (c.fx 20 (f := .kitT "InvalidPieces" "LookupError" false) rfl), kitT_ok (c.fx 21 (f := .kitT "InvalidPieces" "ArithmeticError" false) rfl)⟩, ma := ma_of (He.exm_ok (cd.fact 64 (f := .exm "InvalidPieces" "NotRight" true) rfl)) (He.exm_ok (cd.fact 65 (f := .exm "InvalidPieces" "NotKnown" false) rfl)) (He.exm_ok (cd.fact 66 (f := .exm "InvalidPieces" "NotPossible" false) rfl)) }
  have npp := ne_ok (c.fx 24 (f := .ne ("_law_right", none) ("law", none)) rfl)
  obtain rfl : fa = He.ga K "law" := by
    have z := hfa.symm.trans g27
    cases z
    rfl
  refine ⟨fd27, [(He.cT K ("_law_right", none)), (He.cT K ("law", none))], spLaw K [((He.cT K ("_law_right", none)).2, qR), ((He.cT K ("law", none)).2, qL)], fun p hp => ?_, fun s v => FunD.bindsA (ps := ["_law_script"]) G27 (fun _ _ _ _ _ _ us hl => match us, hl with | [_], _ => rfl) s [v] rfl, fun H a ns hl ht hS => ⟨a, ns, rfl, hS, hl, fun p hp => ?_, fun _ => rfl⟩, fun base _ _ TB => ?_⟩
  · rcases is2 hp with rfl | rfl
    · exact c.tab X (p := ("_law_right", none)) List.mem_cons_self
    · exact c.tab X (p := ("law", none)) (List.mem_cons_of_mem _ List.mem_cons_self)
  · rcases is2 hp with rfl | rfl
    · exact LamX.TabS.nil (ht (He.cT K ("_law_right", none)) List.mem_cons_self)
    · exact LamX.TabS.nil (ht (He.cT K ("law", none)) (List.mem_cons_of_mem _ List.mem_cons_self))
  have bl : Bl mg := ⟨n0, n1, n2⟩
  have bc : Bc mg := ⟨n3, n1, n4, n5, n0, b_gcd⟩
  obtain ⟨cb, oca, ocb, sca, scb, ica, icb, nca, ncb, t0, t1, t2, lca, eca, lcb, ecb⟩ := cutB_ok (show cutB K (He.ga K "_LAST_CUT") = true from (c.fx 22 (f := .cut "_LAST_CUT") rfl))
  have bp : Bp K mg := ⟨bc, n15, n16, _, (He.glo_ok X G (cd.fact 72 (f := .glo "_LAST_CUT") rfl)), fun H => cut_written lca eca lcb ecb H⟩
  obtain ⟨pe0, pf0, pq0⟩ := c.prop 0 (p := prX0) rfl
  obtain ⟨oP0, odP0, kvP0, dcP0, pmP0, aP0, cdP0, ctP0, sP0, lP0, cP0, kP0⟩ := PrD.fn pe0 pf0
  obtain ⟨pr0, opr0, vpr0, spr0, rpr0, aq0, gP0, tP0, lpr0, epr0⟩ := PrD.pr pq0
  have FP0 : Fun K "pieces" "Lot.pieces" s_lpieces (prX0.at_ K) _ := fun_mk (st := s_lpieces) lP0 cP0 kP0
  obtain ⟨pe1, pf1, pq1⟩ := c.prop 1 (p := prX1) rfl
  obtain ⟨oP1, odP1, kvP1, dcP1, pmP1, aP1, cdP1, ctP1, sP1, lP1, cP1, kP1⟩ := PrD.fn pe1 pf1
  obtain ⟨pr1, opr1, vpr1, spr1, rpr1, aq1, gP1, tP1, lpr1, epr1⟩ := PrD.pr pq1
  have FP1 : Fun K "width" "Lot.width" s_lwidth (prX1.at_ K) _ := fun_mk (st := s_lwidth) lP1 cP1 kP1
  have T : LotC l.prog w K mg (He.ga K "Lot") (He.ma K (He.ga K "Lot") "__init__") (prX0.at_ K) fi0 _ := ⟨He.cls_ok (cd.fact 68 (f := .cls "Lot") rfl), He.noat_ok (cd.fact 70 (f := .noat "Lot" "_pieces") rfl), He.glo_ok X G (cd.fact 67 (f := .glo "Lot") rfl), He.mkr_ok (cd.fact 69 (f := .mkr "Lot") rfl), I0, I0.binds fun _ _ _ _ _ _ us hl => match us, hl with | [_, _], _ => rfl, ⟨pr0, prop_mk aq0 gP0 tP0 lpr0 epr0⟩, FP0, FP0.binds fun _ _ _ _ _ _ us hl => match us, hl with | [_], _ => rfl⟩
  have qc := eqc_ok (c.fx 23 (f := .eqc "Lot") rfl)
  let pd : Pd K mg := { f_is_fraction := ⟨_, _⟩, d_is_fraction := d1, f_is_part := ⟨_, _⟩, d_is_part := d2, f_is_less := ⟨_, _⟩, d_is_less := d3, f__first_wrong := ⟨_, _⟩, d__first_wrong := d5, f__is_piece := ⟨_, _⟩, d__is_piece := d6, f__cuts_at := ⟨_, _⟩, d__cuts_at := d7, f__is_ahead := ⟨_, _⟩, d__is_ahead := d8, f_int := ⟨_, _⟩, d_int := d0 }
  let lgK : Lg K mg := { bl := bl, num := ⟨_, _⟩, d_num := d16, gcd := ⟨_, _⟩, d_gcd := d12, part := ⟨_, _⟩, d_part := d17, und := ⟨_, _⟩, d_und := d14 }
  let la : La l.prog w K mg base := { C := _, fI := _, fP := _, fW := _, fE := _, fR := _, fdI := _, fdP := _, fdW := _, fdE := _, fdR := _, T := T, kw := kwnOf1 I0 fun _ _ _ _ _ _ _ _ => rfl, LI := ⟨qc.ca, gb1, gb2, qc.cm, qc.yes, qc.no⟩, bp := bp, pd := pd, CP := _, eP := ⟨_, _⟩, tP := cl7 X G T7, er := er, hP := held7, pw := ⟨pr1, prop_mk aq1 gP1 tP1 lpr1 epr1⟩, FW := FP1, bW := FP1.binds fun _ _ _ _ _ _ us hl => match us, hl with | [_], _ => rfl, FE := Im0, bE := Im0.binds fun _ _ _ _ _ _ us hl => match us, hl with | [_, _], _ => rfl, eS := qc.eS, eF := qc.eF, nF := qc.nF, nC := qc.nC, FR := Im1, bR := Im1.binds fun _ _ _ _ _ _ us hl => match us, hl with | [_], _ => rfl, rS := qc.rS, rF := qc.rF, nb := qc.nb, nl := qc.nl, bl := bl, rp := n12, all := n9, range := n6, list := n13, max := n8, str := n14, sorted := n10, set := n11, lgK := lgK, f_ls := ⟨_, _⟩, ls := d10, f_lk := ⟨_, _⟩, lk := d11, f_lg := ⟨_, _⟩, lg := d12, f_ll := ⟨_, _⟩, ll := d13, f_lp := ⟨_, _⟩, lp := d15, f_lE := ⟨_, _⟩, lE := d18, f_lC := ⟨_, _⟩, lC := d19, f_lF := ⟨_, _⟩, lF := d20, f_lX := ⟨_, _⟩, lX := d21, f_li := ⟨_, _⟩, li := d22, f_lw := ⟨_, _⟩, lw := d23, f_lb := ⟨_, _⟩, lb := d24, f_lq := ⟨_, _⟩, lq := d25, f_low := ⟨_, _⟩, low := d4, TT := [((He.cT K ("_law_right", none)).2, qR), ((He.cT K ("law", none)).2, qL)] }
  let lc : Lc l.prog w K mg base la := { min := n7, gt := ⟨_, _⟩, lt := d9, gr := ⟨_, _⟩, dg := d26, cR := (He.cT K ("_law_right", none)).1, PR := (He.cT K ("_law_right", none)).2, eR := C26, TR := TB (He.cT K ("_law_right", none)) List.mem_cons_self, mR := List.mem_cons_self, oR := fun q hq e => by rcases is2 hq with rfl | rfl; rfl; exact absurd e.symm npp, PL := (He.cT K ("law", none)).2, mL := (List.mem_cons_of_mem _ List.mem_cons_self), oL := fun q hq e => by rcases is2 hq with rfl | rfl; exact absurd e npp; rfl }
  exact ok_law F27 la lc C27 (TB (He.cT K ("law", none)) (List.mem_cons_of_mem _ List.mem_cons_self))
end My
open PySem PySem.W PyProof.Rows
set_option maxRecDepth 100000 in
set_option maxHeartbeats 0 in
theorem PySem.Challenge.cw_rimorders_k09_lots_made_and_refused_holds : PySem.Challenge.rw_rimorders_k09_lots_made_and_refused.Holds := by
  w_on; o_law
  refine HandSHeadRun.head_imp (r := OpenLaw.row PySem.Challenge.rw_rimorders_k09_lots_made_and_refused) (q := My.qvX) (H := My.hkX) (ob := My.obX) (M := 9000) (loose := My.namesX) (d := HandSHeadRun.topDef (OpenLaw.row PySem.Challenge.rw_rimorders_k09_lots_made_and_refused).prog 61) (kwd := []) My.obX_eq My.runX
    (by kernel_rfl) (by kernel_rfl) (by kernel_rfl) (by rfl) (by first | assumption | decide +kernel) (by decide +kernel) ⟨rfl, rfl, rfl, rfl, rfl, by decide +kernel⟩ ?hw ?hc
  case hw => w_witness2
  case hc =>
    refine My.walkGX (l := PySem.Challenge.rw_rimorders_k09_lots_made_and_refused) (n := 63) (k := 11) (x := "_law_script") (CX := fun _ => L2.CX0) rfl (by decide) (by kernel_rfl) ⟨rfl, by decide, by decide⟩ ?F (fun _ _ _ _ _ z => z)
    intro w mg fa h Y G hmg0
    obtain ⟨K, KX, c⟩ := Y
    have hmg : mg ("law" : PySem.Str) = some (.ref fa) := by
      have e : (HandSHeadRun.topDef (OpenLaw.row PySem.Challenge.rw_rimorders_k09_lots_made_and_refused).prog 61).name = ("law" : PySem.Str) := by kernel_rfl
      rw [← e]
      exact hmg0
    exact ⟨K, KX, My.all_mkX KX G hmg c⟩
