import PyProof.Rows.All
import Wide.All
import OpenK.AllK
import Wide.FinOn
import HandS.ForMost
import HandS.ForExc
import HandS.Strs
import HandS.SetFor
import HandS.SetKeys
import HandS.TupAny
import HandS.Style
import HandS.Gcd
import HandS.Wide
import HandS.IsInst
import HandS.Conv
import HandS.Flow
import PyProof.ReprRoads
import HandS.More
import PyProof.ReprLen
import HandS.ExcInit
import HandS.ExcField
import HandS.ExcIs
import KE.KExcInit
import HandS.MakeKw
import KE.KTryMore
import HandS.HotCalls
import KE.KUnpack
import HandS.Lambda
import HandS.Words
import HandS.EndTab
import KE.KNest
import HandS.Defaults
import HandS.HeadHook1
import HandS.HeadHook2
import HandS.HeadHook3
import HandS.HeadHook4
import HandS.Head0
import HandS.Head1
import HandS.Head2
import HandS.Head3
import HandS.HeadEnd
import HandS.SortInts
import KE.GoesEnum
import KE.KMathGC
import HandS.SetBool
import HandS.Zip
import HandS.Property
import HandS.Walk
import HandS.Set
import HandS.Star
import HandS.DictComp
import HandS.List
import HandS.Iter
import HandS.Deep
import PySem.Challenge.RW_rimorders_k20_orders_refused
set_option Elab.async false
set_option linter.all false
set_option maxRecDepth 100000
set_option maxHeartbeats 4000000
/-! general rules of mine: repr of data, set of a list of ints, t[:0:-1] -/
namespace Gn
open PySem PySem.Spec PyProof.Rows L2
section
variable {X : Cx}
/-! repr of lists and tuples -/
mutual
theorem dp_nodict {K : PySem.W.Frag} {H : Hp} : ∀ (d : PyData) (v : V), Dp K H v d → d.hasDict = false
  | .none, _, _ => by simp only [PyData.hasDict]
  | .bool _, _, _ => by simp only [PyData.hasDict]
  | .int _, _, _ => by simp only [PyData.hasDict]
  | .str _, _, _ => by simp only [PyData.hasDict]
  | .list ds, _, h => by
    cases h with
    | lst _ ha => simp only [PyData.hasDict]; exact dps_nodict ds _ ha
  | .tuple ds, _, h => by
    cases h with
    | tup _ ha => simp only [PyData.hasDict]; exact dps_nodict ds _ ha
  | .dict _, _, h => by cases h
theorem dps_nodict {K : PySem.W.Frag} {H : Hp} : ∀ (ds : List PyData) (vs : List V), DpAll K H vs ds → PyData.hasDictAll ds = false
  | [], _, _ => by simp only [PyData.hasDictAll]
  | d :: ds, _, h => by
    cases h with
    | cons h1 h2 => simp only [PyData.hasDictAll, dp_nodict d _ h1, dps_nodict ds _ h2, Bool.or_self]
end
/-- repr(x), x a list or a tuple of data -/
def rRepr (K : PySem.W.Frag) : List V → Hp → VK → Prop := fun xs H Q => ∃ a d, xs = [V.ref a] ∧ Dp K H (.ref a) d ∧ d.showable = true ∧ d.depth < 60 ∧ d.shown.length ≤ sizeLine ∧ Q (.str d.shown) H
theorem cr_repr (hg : X.A.guards = some []) (hu : X.A.units + 64 < cLine) : CallR X (.builtin "repr") (rRepr X.K) := by
  intro pins s σ H xs us Q I r h
  obtain ⟨a, d, rfl, hd, hs, hdp, hz, q⟩ := h
  rw [Vals.ref1 r]
  obtain ⟨as, rd⟩ := Dp.reads I d _ _ hd rfl
  exact repr_of_reads' rd hs (PySem.PyData.noDict_hsm (dp_nodict d _ hd)) hg (by omega) (fun _ _ e => e) (fun h' u tk k => ⟨.str d.shown, H, I.kept (t' := tk) k, ⟨u, rfl⟩, q⟩) hz
end
end Gn
set_option Elab.async false
set_option linter.all false
set_option maxRecDepth 100000
set_option maxHeartbeats 4000000
namespace Gn
open PySem PySem.Spec PyProof.Rows L2
/-- the empty set object as the machine lays it -/
abbrev eSet (w : World) : Obj := { cls := .type "set", dict := none, data := .set #[] 0 (.fresh 0 0 (!w.params.followText "set-order")) }
section
variable {P : Program} {w : World} {A : Around} {E : Value → Shared → Prop} {s : Shared}
/-- what the init leaves: a set of the ints ns at S, no older object changed -/
abbrev Filled (w : World) (ns : List Int) (s0 : Shared) (S : Addr) (s2 : Shared) : Prop := ∃ (h' : Heap) (tk c : Nat), s2 = { s0 with heap := h', toks := tk } ∧ SetR w h' S (fun j => decide (j ∈ ns)) c ∧ c ≤ ns.length ∧ ∀ b o, s0.heap.get? b = some o → h'.get? b = some o
set_option maxHeartbeats 6000000 in
/-- set(l), l a list of ints -/
theorem set_of_ints {l : Addr} {its : Array Value} (ns : List Int) {Q : Value → Shared → Prop} (hh : A.handled = none) (hl : s.heap.IsList l its) (hi : IntsAre its.toList ns) (hb : ns.length + 1 < scanBound)
    (h : ∀ s2, Filled w ns s s.heap.objs.size s2 → Q (.ref s.heap.objs.size) s2) : wpAny (model P w) A (call (.type "set") [.ref l]) Q E s := by
  have hN : its.size = ns.length := by have q := IntsAre.length hi; rw [Array.length_toList] at q; exact q
  obtain ⟨c, tl, hmro⟩ := F.called_set.mro; have hmade := F.called_set.made; have hsub := F.called_set.sub
  refine wpAny_call (codeAny_of_tree ?_); show wpAny _ _ (callAny (.type "set") _) _ _ _
  refine wpAny_pure ⟨Code.quiet_builtin _ (by decide +kernel), codeAny_builtin F.entry_type_call ?_⟩; rw [Around.under_plain (weight_type_call_type "set" [.ref l] []) rfl]
  have h1 := F.called_set.notType; have h2 := F.called_set.canCreate; have hct := F.typeCall_set_1 (.ref l)
  repeat (any_goals (first | assumption | wp_step))
  refine codeAny_mono (code_set_led1 (.ref l) (E := E) (Q₁ := fun v z => v = .ref s.heap.objs.size ∧ z = { s with heap := s.heap.push (eSet w) }) ⟨rfl, rfl⟩) fun r z hr => ?_
  cases r with
  | error e => exact hr
  | ok fl =>
    cases fl with
    | ret obj =>
      obtain ⟨rfl, rfl⟩ := hr
      have hS : (s.heap.push (eSet w)).get? s.heap.objs.size = some (eSet w) := Heap.get?_push_size _ rfl
      have hT : Shared.TypeIs { s with heap := s.heap.push (eSet w) } (.ref s.heap.objs.size) "set" := ⟨_, hS, rfl⟩
      have hli := F.called_set.init.lookup; have hbi := F.called_set.init.bind (.ref s.heap.objs.size)
      repeat (any_goals (first | assumption | wp_step))
      refine codeAny_mono (codeAny_call_builtin (R := wants (fun r z => r = .none ∧ Filled w ns s s.heap.objs.size z) E) F.called_set.init.plain F.entry_set_init (check_set_init_1 hT ?_)) fun r2 z2 hr2 => ?_
      · obtain ⟨⟨lc, ld, lx, ls⟩, hol, hcl, nl, hdl⟩ := hl
        simp only at hcl hdl
        subst hcl; subst hdl
        have hol' : (s.heap.push (eSet w)).get? l = some { cls := .type "list", dict := ld, data := .seq its nl, slots := ls } := Heap.get?_push_of_some _ hol
        have hsls := F.sub_list_set; have hslf := F.sub_list_frozenset; have hne : (Value.type "list" == Value.type "dict") = false := by decide
        have hl1 : (s.heap.push (eSet w)).IsList l its := ⟨_, hol', rfl, nl, rfl⟩
        unfold Builtin.«set.__init__» noKeywords Builtin.Frozenset.updateFrom
        generalize hPI : pyIter = PI
        wp_walk
        subst hPI
        refine wpAny_pyIter_list hl1 (wpAny_bind (wpAny_runValue ?_))
        have hlS : l < s.heap.objs.size := Heap.lt_size hol
        have h3 : A.in1.in1.in1.handled = none := by simp [hh]
        have z1 : (s.heap.push (eSet w)).objs.size = s.heap.objs.size + 1 := Heap.size_push ..
        have nI : l ≠ (s.heap.push (eSet w)).objs.size := by rw [z1]; exact Nat.ne_of_lt (Nat.lt_succ_of_lt hlS)
        have nF : s.heap.objs.size ∉ [(s.heap.push (eSet w)).objs.size, l] := by
          rw [z1]; intro q; rcases List.mem_cons.mp q with q | q
          · exact Nat.succ_ne_self _ q.symm
          · exact Nat.ne_of_gt hlS (List.mem_singleton.mp q)
        have hval : ∀ (i : Nat) (v : Value), its[i]? = some v → ∃ k t, ns[i]? = some k ∧ v = .int k t := fun i v hv => by
          have hil : i < ns.length := by rw [← hN]; exact (Array.getElem?_eq_some_iff.mp hv).1
          obtain ⟨t, e⟩ := IntsAre.int_at hi i v (by rw [Array.getElem?_toList]; exact hv)
          exact ⟨ns[i], t, List.getElem?_eq_getElem hil, by rw [e, List.getD_eq_getElem?_getD, List.getElem?_eq_getElem hil] <;> rfl⟩
        refine set_update_ints ((Walks.list h3 _ l nI its).toS) s.heap.objs.size nF ns hN hb hval (its.size - 0) 0 _ (by omega) (Nat.zero_le _) ⟨⟨_, Heap.get?_push_size _ rfl, rfl, rfl⟩, (hl1.push _)⟩ ⟨0, Nat.le_refl 0, setR_new_at (Heap.get?_push_of_some _ hS)⟩ ?_
        intro z' c' hm hc' hS'
        obtain ⟨h', g2, d', tk', os'⟩ := z'
        obtain rfl : g2 = s.gens := hm.gens
        obtain rfl : d' = s.drawn := hm.drawn
        obtain rfl : os' = s.os := hm.os
        show wpAny _ _ _ _ _ _
        refine wpAny_pure ?_; show wpAny _ _ (ret Value.none) _ _ _; rw [hN] at hc'
        refine wpAny_pure ⟨rfl, h', tk', c', rfl, hS', hc', fun b o e => ?_⟩
        have hb0 : b < s.heap.objs.size := Heap.lt_size e
        refine hm.heap b o (fun q => ?_) (Heap.get?_push_of_some _ (Heap.get?_push_of_some _ e))
        rcases List.mem_cons.mp q with q | q
        · exact Nat.ne_of_lt hb0 q
        · exact Nat.ne_of_lt (Nat.lt_succ_of_lt hb0) ((List.mem_singleton.mp q).trans z1)
      · cases r2 with
        | error e => exact hr2
        | ok fl2 =>
          cases fl2 with
          | ret r =>
            obtain ⟨rfl, h', tk, c', rfl, hS', hc', hk'⟩ := hr2
            repeat (any_goals (first | assumption | wp_step))
            exact h _ ⟨_, _, _, rfl, hS', hc', hk'⟩
          | _ => exact hr2.elim
    | _ => exact hr.elim
end
section
variable {X : Cx}
/-- set(l) of a list of fewer than 64 ints -/
def rSetI (K : PySem.W.Frag) (w : World) : List V → Hp → VK → Prop := fun xs H Q => ∃ (l : Addr) (ns : List Int), xs = [.ref l] ∧ SqL K H l (ns.map V.int) ∧ ns.length < 64 ∧ ∀ p c, H p = none → c ≤ ns.length → Q (.ref p) (upd H p (SetO w p (fun j => decide (j ∈ ns)) c))
theorem cr_setI (hc : X.calm = true) : CallR X (.type "set") (rSetI X.K X.w) := by
  intro pins s σ H xs us Q I r h
  obtain ⟨l, ns, rfl, hl, hf, q⟩ := h
  rw [Vals.ref1 r]
  obtain ⟨its, rv, pl, hz⟩ := I.list hl
  refine set_of_ints ns (I.ok.hd hc) pl.isList (by simpa using intsAre_of rv) (by unfold scanBound; omega) fun s2 hs => ?_
  obtain ⟨h', tk, c, rfl, hS, hcn, k⟩ := hs
  exact ⟨.ref s.heap.objs.size, _, I.laid (t' := tk) k (Nat.le_refl _) (setO_new hS), rfl, q _ c (I.hok.fresh (Nat.le_refl _)) hcn⟩
end
end Gn
set_option Elab.async false
set_option linter.all false
set_option maxRecDepth 100000
set_option maxHeartbeats 4000000
namespace Gn
open PySem PySem.Spec PyProof.Rows L2
/-! t[:0:-1], t a tuple -/
theorem back_adjust (n : Nat) : Builtin.Slice.slicePlaces (Builtin.Slice.sliceAdjust none (some 0) (-1) (n : Int)).1 (Builtin.Slice.sliceAdjust none (some 0) (-1) (n : Int)).2 (-1) = n - 1 ∧ (Builtin.Slice.sliceAdjust none (some 0) (-1) (n : Int)).1 = (n : Int) - 1 := by
  have a : (Builtin.Slice.sliceAdjust none (some 0) (-1) (n : Int)) = ((n : Int) - 1, min 0 ((n : Int) - 1)) := by
    simp only [Builtin.Slice.sliceAdjust, show ((-1 : Int) < 0) = True by decide, show ((0 : Int) < 0) = False by decide, if_true, if_false]
  rw [a]
  refine ⟨?_, rfl⟩
  unfold Builtin.Slice.slicePlaces
  simp only [show ((-1 : Int) > 0) = False by decide, if_false, show (-(-1) : Int) = 1 by decide, Int.ediv_one]
  split <;> omega
theorem back_pick (xs : Array Value) : ((List.range (xs.size - 1)).filterMap fun (m : Nat) => xs[(((xs.size : Nat) : Int) - 1 + (m : Int) * (-1)).toNat]?).toArray = (xs.toList.drop 1).reverse.toArray := by
  congr 1
  have g : ∀ k, k ≤ xs.size - 1 → ((List.range k).filterMap fun (m : Nat) => xs[(((xs.size : Nat) : Int) - 1 + (m : Int) * (-1)).toNat]?) = ((xs.toList.drop 1).reverse).take k := by
    intro k
    induction k with
    | zero => intro _; rfl
    | succ k ih =>
      intro hk
      have i1 : (((xs.size : Nat) : Int) - 1 + (k : Int) * (-1)).toNat = xs.size - 1 - k := by omega
      have i2 : xs.size - 1 - k < xs.size := by omega
      have hl : k < (xs.toList.drop 1).reverse.length := by rw [List.length_reverse, List.length_drop, Array.length_toList]; omega
      rw [List.range_succ, List.filterMap_append, ih (by omega), List.take_add_one, List.getElem?_eq_getElem hl]
      congr 1
      simp only [List.filterMap_cons, List.filterMap_nil, i1, Array.getElem?_eq_getElem i2, Option.toList]
      congr 1
      rw [List.getElem_reverse, List.getElem_drop]
      simp only [List.length_drop, Array.length_toList, Array.getElem_toList]
      congr 1
      omega
  rw [g _ (Nat.le_refl _)]
  refine List.take_of_length_le ?_
  rw [List.length_reverse, List.length_drop, Array.length_toList]
  exact Nat.le_refl _
section
variable {prog : Program} {w : World} {A : Around} {E : Value → Shared → Prop} {s : Shared}
theorem back_item {t sl : Addr} {its : Array Value} {vl vu vs : Value} {Q : Value → Shared → Prop} (ht : IsTup s.heap t its) (hs : s.heap.IsSliceOf sl vl vu vs) (pl : IsPart vl none) (pu : IsPart vu (some 0)) (ps : IsPart vs (some (-1)))
    (h : Q (.ref s.heap.objs.size) { s with heap := s.heap.push { cls := .type "tuple", data := .seq (its.toList.drop 1).reverse.toArray } }) (hz : its.size ≤ sizeLine) : wpAny (model prog w) A (getItem (.ref t) (.ref sl)) Q E s := by
  have hfit : sizeOk (.seq (its.toList.drop 1).reverse.toArray) := by
    show ((its.toList.drop 1).reverse).toArray.size ≤ sizeLine
    rw [List.size_toArray, List.length_reverse, List.length_drop, Array.length_toList]; omega
  obtain ⟨os, hos, hcs, hds⟩ := id hs
  unfold getItem
  try with_reducible refine wpAny_holding ?_
  first | refine wpAny_bind (wpAny_pure ?_) | skip
  refine wpAny_bind (wpAny_sequenceKey ht.typeIs (by decide) (wpAny_bind (wpAny_callSpecial?_slot (name := Str.ofString "__getitem__") ht.typeIs PyProof.Rows.slot_tuple_getitem (wpAny_call_entry PyProof.Rows.slot_tuple_getitem ht.typeIs PyProof.Rows.entry_tuple_getitem ?_ (PyProof.Rows.args_tuple_getitem _ _)))))
  show wpAny _ _ (Builtin.Tuple.tupleItemsOf (.ref t) >>= _) _ _ s
  refine wpAny_bind (PyProof.Rows.tupleItemsOf_ ht (wpAny_bind (wpAny_typeOf (show s.TypeIs (.ref sl) "slice" from ⟨os, hos, hcs⟩) ?_)))
  rw [if_pos (by decide)]
  refine wpAny_bind ?_
  unfold Builtin.Slice.sliceApplied Builtin.Slice.sliceFields
  refine wpAny_bind (wpAny_bind (wpAny_field hos hds (x := vl) rfl (wpAny_bind (wpAny_field hos hds (x := vu) rfl (wpAny_bind (wpAny_field hos hds (x := vs) rfl (wpAny_pure (wpAny_bind (HT.slicePart_ ps ?_)))))))))
  show wpAny _ _ (if ((-1 : Int) == 0) = true then _ else _) _ _ s
  rw [if_neg (by decide)]
  refine wpAny_bind (HT.slicePart_ pl (wpAny_bind (HT.slicePart_ pu (wpAny_bind (wpAny_pure ?_)))))
  have e1 := (back_adjust its.size).1
  have e2 := (back_adjust its.size).2
  show wpAny _ _ (pure ((Builtin.Slice.sliceAdjust none (some 0) (-1) (its.size : Int)).1, (-1 : Int), Builtin.Slice.slicePlaces (Builtin.Slice.sliceAdjust none (some 0) (-1) (its.size : Int)).1 (Builtin.Slice.sliceAdjust none (some 0) (-1) (its.size : Int)).2 (-1))) _ _ s
  rw [e1, e2]
  refine wpAny_pure ?_
  have no : ¬ ((((its.size : Nat) : Int) - 1 == 0 && (-1 : Int) == 1 && (its.size - 1) == its.size) = true) := by
    rw [show ((-1 : Int) == 1) = false by decide]; simp
  show wpAny _ _ (if ((((its.size : Nat) : Int) - 1 == 0 && (-1 : Int) == 1 && (its.size - 1) == its.size) = true) then _ else _) _ _ s
  rw [if_neg no, back_pick]
  first
    | exact wpAny_bind (m := Builtin.Tuple.tupleExact _) (wpAny_newObj_type (wpAny_pure ⟨_, rfl, wpAny_pure h⟩) hfit)
    | exact wpAny_bind (wpAny_bind (m := Builtin.Tuple.tupleExact _) (wpAny_newObj_type (wpAny_pure ⟨_, rfl, wpAny_pure h⟩) hfit))
    | exact wpAny_bind (wpAny_bind (m := Builtin.Tuple.tupleExact _) (wpAny_newObj_type (wpAny_pure (wpAny_pure ⟨_, rfl, wpAny_pure h⟩)) hfit))
end
def tBack (K : PySem.W.Frag) (te : TE) : TE := fun σ H Q => te σ H fun x H1 => ∃ a xs, x = .ref a ∧ SqT K H1 a xs ∧ ∀ p, H1 p = none → Q (.ref p) (upd H1 p (.tup (xs.drop 1).reverse))
section
variable {X : Cx}
theorem pe_back {e : Expr} {te : TE} {k k0 : Nat} {p0 p1 p2 p3 pos : Pos} (he : PE X e te) : PE X (.Subscript e (.Slice none (some (.Constant (.int 0) k0 p0)) (some (.UnaryOp .USub (.Constant (.int 1) k p1) p2)) p3) pos) (tBack X.K te) := by
  refine ⟨fun pins s σ H Q I h => ?_⟩
  refine Subscript_ (thn (he.run pins s σ H _ I h) fun v s1 ⟨x, H1, I1, r1, q1⟩ => ?_)
  obtain ⟨a, xs, ex, hx, q⟩ := q1
  subst ex
  cases r1
  have hup : PO X (some (.Constant (.int 0) k0 p0)) (tPart (tC (.int 0))) := po_some pe_int
  have hst : PO X (some (.UnaryOp .USub (.Constant (.int 1) k p1) p2)) (tPart (tUn (rU fun i => .int (-i)) (tC (.int 1)))) := po_some (pe_un un_neg pe_int)
  refine wpAny_Slice (thn (po_none.run pins s1 σ H1 (fun o H2 => o = none ∧ H2 = H1) I1 ⟨rfl, rfl⟩) fun vl s2 ⟨l, H2, I2, pl, el, e2⟩ => ?_)
  subst el e2
  refine thn (hup.run pins s2 σ H2 (fun o H3 => o = some 0 ∧ H3 = H2) I2 ⟨0, rfl, rfl, rfl⟩) fun vu s3 ⟨u, H3, I3, pu, eu, e3⟩ => ?_
  subst eu e3
  refine thn (hst.run pins s3 σ H3 (fun o H4 => o = some (-1) ∧ H4 = H3) I3 ⟨1, rfl, -1, rfl, rfl, rfl⟩) fun vs s4 ⟨o, H4, I4, ps, eo, e4⟩ => ?_
  subst eo e4
  have I5 : Inv X pins σ H4 { s4 with heap := s4.heap.push { cls := .type "slice", data := .fields #[vl, vu, vs] } } := I4.kept (t' := s4.toks) fun b ob q => Heap.get?_push_of_some _ q
  obtain ⟨its, r, ht, hz⟩ := I5.tuple hx
  have hlen := r.length
  show wpAny (model X.prog X.w) X.A (subscriptTail e (.Slice none (some (.Constant (.int 0) k0 p0)) (some (.UnaryOp .USub (.Constant (.int 1) k p1) p2)) p3) (.ref a) (.ref s4.heap.objs.size)) (EP X pins σ Q) X.xe { s4 with heap := s4.heap.push { cls := .type "slice", data := .fields #[vl, vu, vs] } }
  refine tail_any (ops := [.ref a, .ref s4.heap.objs.size]) ht.typeIs (PyProof.Rows.slot_tuple_getitem.lookup) ?_ (by with_unfolding_all rfl)
  refine back_item ht (Heap.IsSliceOf.new _ vl vu vs) pl pu ps ?_ (by rw [List.size_toArray]; omega)
  refine ⟨.ref _, _, I5.laid (t' := s4.toks) (o := .tup (xs.drop 1).reverse) (fun b ob q => Heap.get?_push_of_some _ q) (Nat.le_refl _) ?_, rfl, q _ (I5.hok.fresh (Nat.le_refl _))⟩
  exact ⟨by rw [List.length_reverse, List.length_drop]; omega, _, (Vals.drop 1 r).reverse, ⟨_, Heap.get?_push_size _ rfl, rfl, _, rfl⟩⟩
end
end Gn
set_option Elab.async false
set_option linter.all false
set_option maxRecDepth 100000
set_option maxHeartbeats 4000000
namespace Gn
open PySem PySem.Spec PyProof.Rows L2
/-- a def's promise where no repr runs around (the guards are known to be none) -/
structure FnG (P : Program) (w : World) (K : PySem.W.Frag) (mg : Str → Option Value) (base : Heap) (CX : CXT) (k : Nat) (f : Addr) (fd : FuncData) (ps : List Str) (sp : Sp) : Prop where
  len : ∀ vs H Q E, sp vs H Q E → vs.length = ps.length
  run : ∀ (A : Around) (outer : List Env) (s : Shared) (H : Hp) (args : Args) (us : List Value) (vs : List V) (Q : VK) (E : XK), A.guards = some [] → Room k A → Env0 P w K mg base A outer s H → BindsTo s fd args (ps.zip us) → Vals vs us → sp vs H Q E →
    codeAny (model P w) A (.call (.ref f) args) (CR CX outer P w H s Q E) s
section
variable {P : Program} {w : World} {K : PySem.W.Frag} {mg : Str → Option Value} {base : Heap}
theorem FnG.of {CX : CXT} {k : Nat} {f : Addr} {fd : FuncData} {ps : List Str} {sp : Sp} (F : FnOk P w K mg base CX k f fd ps sp) : FnG P w K mg base CX k f fd ps sp := ⟨F.len, fun A o s H a us vs Q E _ => F.run A o s H a us vs Q E⟩
theorem funG {CX : CXT} {x qual : Str} {st : Stmt} {f : Addr} {fd : FuncData} {N ps : List Str} {k : Nat} {sp : Sp} (F : Fun K x qual st f fd) (S : FnScope N ps (defScope st)) (len : ∀ vs H Q E, sp vs H Q E → vs.length = ps.length)
    (hbody : ∀ (cdv : Value) (A : Around) (outer : List Env) (s : Shared) (H : Hp) (vs : List V) (Q : VK) (E : XK), (A.deeper (envOfC qual (defScope st) s.heap.objs.size f cdv)).guards = some [] → Room k (A.deeper (envOfC qual (defScope st) s.heap.objs.size f cdv)) → sp vs H Q E →
      ∃ t, PSs (cxOf CX P w K mg base N qual (defScope st) f cdv A outer s H E) (defBody st) t ∧ t { nx := fun _ H' => Q .non H', rt := Q } (start N vs) H) : FnG P w K mg base CX (k + 1) f fd ps sp := by
  obtain ⟨oc, od, kV, doc, pm, an, cdv, ct, osl, rfl, lk, hcd⟩ := F.ex
  refine ⟨len, fun A outer s H args us vs Q E hg hr e0 hb r hsp => ?_⟩
  have KX : K.In s.heap := e0.mod.kin.keeps fun b o e => (e0.bs b o e).1
  have hkind : ∀ y ∈ ps.zip us, (defScope st).names.lookup y.1 = some .local ∨ ((defScope st).names.lookup y.1 = some .cell ∧ ((cellsFrom (s.heap.objs.size + 1) (defScope st).names []).lookup y.1).isSome = true) := fun y hy =>
    (S.par y.1 (List.of_mem_zip hy).1).elim .inl fun q => .inr ⟨q, PySem.W.cellsFrom_some _ _ _ (.inl q)⟩
  refine codeAny_call_function hr.depth (KX _ _ lk) rfl S.co S.gen rfl (PySem.W.codeRec_of KX hcd) (hb _ _ _ _ (wpAny_newFunctionEnv_cells S.kind hkind fun env he s1 x => ?_))
  subst he
  refine ⟨(e0.mod.nolimit.keeps fun b o e => (e0.bs b o e).1).keeps x.toInCall.keep, codeAny_func ?_⟩
  obtain ⟨t, ht, hq⟩ := hbody cdv A outer s H vs Q E hg (hr.deeper _) hsp
  have I : Inv (cxOf CX P w K mg base N qual (defScope st) f cdv A outer s H E) [] (start N vs) H s1 := inv_start S hr.hd e0 (len _ _ _ _ hsp) r x
  refine wpAny_mono (ht.run [] s1 (start N vs) H _ I hq) (fun fl s' hs => ?_) fun _ _ hs => hs
  cases fl with
  | ret u => obtain ⟨v, σ', H', J, rv, q⟩ := hs; exact ⟨v, H', J.os, J.bare, J.base, J.hok, rv, q⟩
  | next => obtain ⟨σ', H', J, q⟩ := hs; exact ⟨V.non, H', J.os, J.bare, J.base, J.hok, rfl, q⟩
  | brk => obtain ⟨_, _, _, q⟩ := hs; exact False.elim q
  | cont => obtain ⟨_, _, _, q⟩ := hs; exact False.elim q
/-- as Fun.ok: nothing leaves the def -/
theorem funG0 {x qual : Str} {st : Stmt} {f : Addr} {fd : FuncData} {N ps : List Str} {k : Nat} {sp : Sp} (F : Fun K x qual st f fd) (S : FnScope N ps (defScope st)) (len : ∀ vs H Q E, sp vs H Q E → vs.length = ps.length)
    (hbody : ∀ (cdv : Value) (A : Around) (outer : List Env) (s : Shared) (H : Hp) (vs : List V) (Q : VK) (E : XK), (A.deeper (envOfC qual (defScope st) s.heap.objs.size f cdv)).guards = some [] → Room k (A.deeper (envOfC qual (defScope st) s.heap.objs.size f cdv)) → sp vs H Q E →
      ∃ t, PSs (cxOf CX0 P w K mg base N qual (defScope st) f cdv A outer s H E).nox (defBody st) t ∧ t { nx := fun _ H' => Q .non H', rt := Q } (start N vs) H) : FnG P w K mg base CX0 (k + 1) f fd ps sp :=
  funG F S len fun cdv A outer s H vs Q E hg hr hsp => by
    obtain ⟨t, h, q⟩ := hbody cdv A outer s H vs Q E hg hr hsp
    exact ⟨t, h.nox, q⟩
end
section
variable {X : Cx} {CX : CXT} {k : Nat} {f : Addr} {fd : FuncData} {ps ks : List Str} {sp : Sp} {dvs : List V} {ds : List Value} {E : XK} {x : Str} {p pos : Pos} {e : Expr} {es : List Expr} {kws : List Keyword} {t tk : TA}
theorem back_of {pins : List (Addr × Obj)} {σ : L2.St} {H : Hp} {s s' : Shared} {Q : VK} (hx : Passes CX X E) (I : Inv X pins σ H s) {r : Result} (h : CR CX X.stack X.prog X.w H s Q E r s') :
    match r with | .ok (.ret u) => EP X pins σ Q u s' | .ok _ => False | .error e => X.xe e s' := by
  cases r with
  | error e => exact hx pins σ H s e s' I h
  | ok fl => cases fl with
    | ret u => exact I.after h
    | next => exact h
    | brk => exact h
    | cont => exact h
theorem run_fnG {pins : List (Addr × Obj)} {σ : L2.St} {H : Hp} {s : Shared} {Q : VK} {us : List Value} {vs : List V} (F : FnG X.prog X.w X.K X.mg X.base CX k f fd ps sp) (hg : X.A.guards = some []) (hr : Room k X.A) (hb : Binds X.K fd ps ds) (hd : Vals dvs ds) (hx : Passes CX X E)
    (I : Inv X pins σ H s) (r : Vals vs us) (h : sp (vs ++ dvs) H Q E) : wpAny (model X.prog X.w) X.A (call (.ref f) us) (EP X pins σ Q) X.xe s := by
  have r2 : Vals (vs ++ dvs) (us ++ ds) := r.append hd
  refine wpAny_call (codeAny_mono (F.run X.A X.stack s H ⟨us, []⟩ (us ++ ds) (vs ++ dvs) Q E hg hr I.env0 (hb s us I.kIn (by rw [← r2.length]; exact F.len _ _ _ _ h)) r2 h) fun r s' hq => ?_)
  have z := back_of hx I hq
  cases r with
  | error e => exact z
  | ok fl => cases fl with
    | ret u => exact z
    | next => exact z.elim
    | brk => exact z.elim
    | cont => exact z.elim
theorem pe_callG (F : FnG X.prog X.w X.K X.mg X.base CX k f fd ps sp) (hgu : X.A.guards = some []) (hr : Room k X.A) (hg : Gl X x) (hm : X.mg x = some (.ref f)) (hk : PySem.W.keepIn X.K (.ref f) = true) (hb : Binds X.K fd ps ds) (hd : Vals dvs ds) (hx : Passes CX X E)
    (ha : PA X (e :: es) t) (hdb : (x == ("__debug__" : Str)) = false := by decide) (he : starEach (e :: es) X.env = (false, eval e X.env) :: starEach es X.env := by rfl) (hpl : (backTo pos (starEach es X.env)).any (·.1) = false := by rfl) :
    PE X (.Call (.Name x p) (e :: es) [] pos) (tCall sp dvs E t) := ⟨fun pins s σ H Q I h =>
  wpAny_Call_Name_kw (ld_glob I hg hm (PySem.W.callWith_K (h₀ := X.base) I.ok.mod.kin hk (thn (ha.run pos pins s σ H _ I h) fun us s1 ⟨vs, H1, I1, r, q⟩ => ⟨I1.kIn, run_fnG F hgu hr hb hd hx I1 r q⟩) he hpl) hdb)⟩
end
/-! the end of a law -/
section
variable {P : Program} {w : World} {K : PySem.W.Frag} {mg mb : Str → Option Value}
theorem lawG {CX : CXT} {k : Nat} {fa a : Addr} {fd : FuncData} {x : Str} {sp : Sp} {s₁ : Shared} {vs : List Value} {ns : List Int}
    (KX : K.In s₁.heap) (hns : s₁.heap.Ns mainGlobals mg) (hb : s₁.heap.Ns builtinsNs mb) (hbb : ∀ x : Str, x ≠ "__name__" → mb x = bootBuiltins x) (hlim : s₁.heap.NoLimit) (hg : s₁.gens = #[])
    (ha : s₁.heap.get? a = some { cls := .type "list", data := .seq vs.toArray }) (hi : IntsAre vs ns) (hl : ns.length ≤ sizeLine) (hr : Room k callerA)
    (F : ∀ base : Heap, K.In base → base.Ns mainGlobals mg → FnG P w K mg base CX k fa fd [x] sp) (hbind : ∀ (s : Shared) (u : Value), BindsTo s fd ⟨[u], []⟩ [(x, u)])
    (hsp : ∀ H : Hp, Only H → SqL K H a (ns.map V.int) → sp [.ref a] H (fun v _ => v = .bl true) fun _ _ _ => False) (hCX : ∀ H e s', CX [] H s₁ (fun _ _ _ => False) e s' → False) :
    codeAny (model P w) callerA (.call (.ref fa) ⟨[.ref a], []⟩) (fun r s' => r = .ok (.ret (.bool true)) ∧ OldK s₁.heap s'.heap ∧ s'.os = s₁.os ∧ AllBare s'.gens) s₁ := by
  have rv := vals_ints hi
  have main : ∀ H : Hp, Only H → SqL K H a (ns.map V.int) → HOk P w H s₁.heap → (∀ b, H b ≠ none → b = a ∧ K.lookup a = none) →
      codeAny (model P w) callerA (.call (.ref fa) ⟨[.ref a], []⟩) (fun r s' => r = .ok (.ret (.bool true)) ∧ OldK s₁.heap s'.heap ∧ s'.os = s₁.os ∧ AllBare s'.gens) s₁ := by
    intro H hO hS hok hA
    have untr : ∀ {b : Addr}, b ≠ a ∨ K.lookup a ≠ none → H b = none := fun {b} h => by
      cases q : H b with
      | none => rfl
      | some u => have z := hA b (by rw [q]; simp); exact (h.elim (fun n => n z.1) fun n => n z.2).elim
    have ns_of : ∀ {b : Addr} {m : Str → Option Value}, s₁.heap.Ns b m → (hidT s₁.heap H).Ns b m := fun {b m} ⟨o, es, ep, e, d, r⟩ => ⟨o, es, ep, hidT_get e (untr (.inl fun z => by
      subst z
      rw [ha] at e
      cases e
      exact absurd (show Data.seq vs.toArray _ = Data.dict es ep from d) (fun z => by cases z))), d, r⟩
    have kb : K.In (hidT s₁.heap H) := fun b o e => hidT_get (KX b o e) (by
      by_cases z : b = a
      · exact untr (.inr fun y => by subst z; rw [y] at e; cases e)
      · exact untr (.inl z))
    have md : Mod K mg (hidT s₁.heap H) := ⟨kb, ns_of hns, ⟨mb, ns_of hb, hbb⟩, let ⟨mc, h1, h2⟩ := hlim; ⟨mc, ns_of h1, h2⟩⟩
    have e0 : Env0 P w K mg (hidT s₁.heap H) callerA [] s₁ H := ⟨rfl, md, fun b o e => of_hidT e, Nat.le_of_eq (hidT_size _ _), trivial, fun b hb => absurd (show b ∈ ([] : List Addr) from hb) (by simp), hok, .of_eq hg⟩
    refine codeAny_mono ((F _ kb (ns_of hns)).run callerA [] s₁ H ⟨[.ref a], []⟩ [.ref a] [.ref a] _ _ rfl hr e0 (hbind s₁ (.ref a)) (.cons rfl .nil) (hsp H hO hS)) fun r s' h => ?_
    cases r with
    | error e => exact (hCX H e s' h).elim
    | ok fl => cases fl with
      | next => exact False.elim h
      | brk => exact False.elim h
      | cont => exact False.elim h
      | ret u =>
        obtain ⟨v, H', os, bare, un, hok', r', q⟩ := h
        obtain rfl : v = .bl true := q
        obtain rfl : u = Value.bool true := r'
        refine ⟨rfl, OldK.of_keep fun b o e => ?_, os, bare⟩
        rcases hO b with z | ⟨ob, xs, z⟩
        · exact un.keep b o e z (fun y => nomatch y) (fun y => nomatch y)
        · obtain ⟨e1, _⟩ := hok b _ z
          obtain ⟨e2, _⟩ := hok' b _ (un.frzs b ob _ z)
          exact e2.trans (e1.symm.trans e)
  cases hk : K.lookup a with
  | some o =>
    have e := KX a o hk
    rw [ha] at e
    cases e
    exact main (fun _ => none) (fun _ => .inl rfl) (.inr ⟨_, vs.toArray, _, hk, rfl, rfl, rfl, by rw [List.size_toArray, hi.length]; exact hl, by simpa using rv⟩) (fun b u z => by cases (show (none : Option HO) = some u from z)) fun b z => absurd rfl z
  | none =>
    have at_ : ∀ {b : Addr} {u : HO}, (if b = a then some (HO.frz { cls := .type "list", data := .seq vs.toArray } (.lst (ns.map V.int))) else none) = some u → b = a ∧ u = .frz { cls := .type "list", data := .seq vs.toArray } (.lst (ns.map V.int)) := fun {b u} z => by
      by_cases y : b = a
      · rw [if_pos y] at z; exact ⟨y, (Option.some.inj z).symm⟩
      · rw [if_neg y] at z; cases z
    refine main (fun b => if b = a then some (.frz { cls := .type "list", data := .seq vs.toArray } (.lst (ns.map V.int))) else none) (fun b => ?_) (.inl (.inr ⟨{ cls := .type "list", data := .seq vs.toArray }, if_pos rfl⟩)) (fun b u z => ?_) fun b z => ⟨?_, hk⟩
    · by_cases y : b = a
      · exact .inr ⟨_, _, if_pos y⟩
      · exact .inl (if_neg y)
    · obtain ⟨rfl, rfl⟩ := at_ z
      exact ⟨ha, by rw [List.length_map]; exact hl, vs, _, rv, ha⟩
    · by_cases y : b = a
      · exact y
      · exact absurd (if_neg y) z
theorem walkG {l : PySem.W.OpenLaw} {n k : Nat} {q : Program} {loose : List Str} {XP : (Str → Option Value) → Heap → Prop} {YP : World → Heap → Prop} {d : DefRec} {K : Params → PySem.W.Frag} {CX : World → CXT} {sp : World → Sp} {x : Str}
    (hn : l.most = some n) (hn2 : n ≤ sizeLine) (hdf : d.params.defaults = []) (hr : Room k callerA) (hY : ∀ (w : World) (h : Heap), YP w h → (K w.params).In h)
    (F : ∀ (w : World) (mg : Str → Option Value) (fa : Addr) (h : Heap), (K w.params).In h → h.Ns mainGlobals mg → mg d.name = some (.ref fa) →
      ∃ fd : FuncData, (∀ (s : Shared) (u : Value), BindsTo s fd ⟨[u], []⟩ [(x, u)]) ∧ ∀ base : Heap, (K w.params).In base → base.Ns mainGlobals mg → FnG l.prog w (K w.params) mg base (CX w) k fa fd [x] (sp w))
    (hsp : ∀ (w : World) (H : Hp) (a : Addr) (ns : List Int), ns.length ≤ n → Only H → SqL (K w.params) H a (ns.map V.int) → sp w [.ref a] H (fun v _ => v = .bl true) fun _ _ _ => False)
    (hCX : ∀ (w : World) (H : Hp) (s : Shared) (e : Value) (s' : Shared), CX w [] H s (fun _ _ _ => False) e s' → False) : PySem.W.WalkO q loose XP YP l.row.toRowW d [] (fun f vs => PySem.call f vs) :=
  Att.attach_call hn hdf fun w s₀ s₁ mg mb fa o pm cd doc a vs ns G Y ho hd hcd hmg hobj hints hlen hg => by
    obtain ⟨fd, hb, hF⟩ := F w mg fa _ (hY w _ Y) G.T.g hmg
    exact lawG (hY w _ Y) G.T.g G.T.b G.T.builtins G.T.nolimit hg hobj hints (Nat.le_trans hlen hn2) hr hF hb (fun H hO hS => hsp w H a ns hlen hO hS) fun H e s' => hCX w H s₁ e s'
end
end Gn
set_option Elab.async false
set_option linter.all false
set_option maxRecDepth 100000
set_option maxHeartbeats 4000000
namespace Gn
open PySem PySem.Spec PyProof.Rows L2
section
variable {X : Cx} {CX : CXT} {k : Nat} {f : Addr} {fd : FuncData} {ps ks : List Str} {sp : Sp} {E : XK} {x : Str} {p pos : Pos} {kws : List Keyword} {tk : TA} {g : List Value → List Value → List Value} {gV : List V → List V → List V}
/-- f(k = v, ..): keywords alone -/
theorem pe_callK0 (F : FnOk X.prog X.w X.K X.mg X.base CX k f fd ps sp) (hr : Room k X.A) (hg : Gl X x) (hm : X.mg x = some (.ref f)) (hk : PySem.W.keepIn X.K (.ref f) = true) (hb : KBinds X.K fd ps ks g gV) (hx : Passes CX X E) (hkw : PK X kws tk)
    (hall : (backToKw pos (keywordEach kws X.env)).all (·.1.isSome) = true := by rfl) (hks : (backToKw pos (keywordEach kws X.env)).filterMap (·.1) = ks := by rfl) (hdb : (x == ("__debug__" : Str)) = false := by decide)
    (hpl : ((backTo pos (starEach [] X.env)).any (·.1) || (backToKw pos (keywordEach kws X.env)).any (·.1.isNone)) = false := by rfl) : PE X (.Call (.Name x p) [] kws pos) (tCallK sp gV E tNil tk) := ⟨fun pins s σ H Q I h =>
  wpAny_Call_Name_kw (ld_glob I hg hm (PySem.W.callWith_KW0 (h₀ := X.base) I.ok.mod.kin hk hall (thn (hkw.run pos pins s σ H _ I h) fun ws s2 ⟨zs, H2, I2, rz, q2⟩ => ⟨I2.kIn, by
    rw [hks]
    exact run_fnk (us := []) (vs := []) F hr hb hx I2 .nil rz q2⟩) hpl) hdb)⟩
end
/-! keywords in the parameters' order, and two the other way round -/
def kw1 {α : Type} : List α → List α → List α
  | [], [a] => [a]
  | _, _ => []
def kw2 {α : Type} : List α → List α → List α
  | [], [a, b] => [a, b]
  | _, _ => []
def kw2s {α : Type} : List α → List α → List α
  | [], [a, b] => [b, a]
  | _, _ => []
section
variable {K : PySem.W.Frag} {fd : FuncData} {ps ks : List Str}
theorem kb1 {p : Str} (h : ∀ a : Value, bindArgs fd ⟨[], [(p, a)]⟩ = pure [(p, a)]) : KBinds K fd [p] [p] kw1 kw1 :=
  ⟨fun s us ws _ hl => match us, ws, hl with
    | [], [a], _ => .of_eq (h a)
    | [], [], z => (nomatch z)
    | [], _ :: _ :: _, z => (nomatch z)
    | _ :: _, _, z => (nomatch z), fun {vs us zs ws} r rz => by
    cases r with
    | nil => cases rz with
      | nil => exact .nil
      | cons a b => cases b with
        | nil => exact .cons a .nil
        | cons _ _ => exact .nil
    | cons _ _ => exact .nil⟩
theorem kb2 {p q : Str} (h : ∀ a b : Value, bindArgs fd ⟨[], [(p, a), (q, b)]⟩ = pure [(p, a), (q, b)]) : KBinds K fd [p, q] [p, q] kw2 kw2 :=
  ⟨fun s us ws _ hl => match us, ws, hl with
    | [], [a, b], _ => .of_eq (h a b)
    | [], [], z => (nomatch z)
    | [], [_], z => (nomatch z)
    | [], _ :: _ :: _ :: _, z => (nomatch z)
    | _ :: _, _, z => (nomatch z), fun {vs us zs ws} r rz => by
    cases r with
    | nil => cases rz with
      | nil => exact .nil
      | cons a b => cases b with
        | nil => exact .nil
        | cons c d => cases d with
          | nil => exact .cons a (.cons c .nil)
          | cons _ _ => exact .nil
    | cons _ _ => exact .nil⟩
theorem kb2s {p q : Str} (h : ∀ a b : Value, bindArgs fd ⟨[], [(q, b), (p, a)]⟩ = pure [(p, a), (q, b)]) : KBinds K fd [p, q] [q, p] kw2s kw2s :=
  ⟨fun s us ws _ hl => match us, ws, hl with
    | [], [b, a], _ => .of_eq (h a b)
    | [], [], z => (nomatch z)
    | [], [_], z => (nomatch z)
    | [], _ :: _ :: _ :: _, z => (nomatch z)
    | _ :: _, _, z => (nomatch z), fun {vs us zs ws} r rz => by
    cases r with
    | nil => cases rz with
      | nil => exact .nil
      | cons a b => cases b with
        | nil => exact .nil
        | cons c d => cases d with
          | nil => exact .cons c (.cons a .nil)
          | cons _ _ => exact .nil
    | cons _ _ => exact .nil⟩
end
end Gn
namespace Gn
open PySem PySem.Spec PyProof.Rows L2
/-- a conditional expression whose two ways change nothing -/
theorem tif {c : Bool} {ta tb : TE} {σ : L2.St} {H : Hp} {Q : VK} (v1 v2 : V) (h1 : c = true → ∀ R : VK, R v1 H → ta σ H R) (h2 : c = false → ∀ R : VK, R v2 H → tb σ H R) (k : ∀ v, (c = true → v = v1) → (c = false → v = v2) → Q v H) : if c = true then ta σ H Q else tb σ H Q := by
  cases c with
  | true => exact iteT (h1 rfl Q (k v1 (fun _ => rfl) (fun z => nomatch z)))
  | false => exact iteF (h2 rfl Q (k v2 (fun z => nomatch z) (fun _ => rfl)))
theorem cut_mem {xs : List V} {lo hi : Option Int} {x : V} (h : x ∈ cutV xs lo hi) : x ∈ xs := by
  unfold cutV at h
  exact List.mem_of_mem_drop (List.mem_of_mem_take h)
theorem int_at {ns : List Int} {x : V} (h : x ∈ ns.map V.int) : ∃ z, x = V.int z := by
  obtain ⟨z, _, e⟩ := List.mem_map.mp h
  exact ⟨z, e.symm⟩
theorem same_put {H : Hp} {p : Addr} {o : HO} (h : H p = none) : Same H (upd H p o) := fun b x e => by
  rw [upd_ne (ne_of_none e h)]
  exact e
theorem fmod_ge {a b : Int} (h : 0 < b) : 0 ≤ a.fmod b := by
  rw [Int.fmod_eq_emod_of_nonneg _ (by omega)]; exact Int.emod_nonneg _ (by omega)
theorem fmod_lt {a b : Int} (h : 0 < b) : a.fmod b < b := by
  rw [Int.fmod_eq_emod_of_nonneg _ (by omega)]; exact Int.emod_lt_of_pos _ h
end Gn
set_option Elab.async false
set_option linter.all false
set_option maxRecDepth 100000
set_option maxHeartbeats 4000000
namespace Gn
open PySem PySem.Spec PyProof.Rows L2
/-- tuple(xs) of a list: a new tuple -/
def rTupL (K : PySem.W.Frag) : List V → Hp → VK → Prop := fun xs H Q => ∃ p ys, xs = [V.ref p] ∧ SqL K H p ys ∧ ∀ l, H l = none → Q (.ref l) (upd H l (.tup ys))
theorem cr_tupL {X : Cx} : CallR X (.type "tuple") (rTupL X.K) := by
  intro pins s σ H xs us Q I r h
  obtain ⟨p, ys, e, h1, h2⟩ := h
  exact call_tuple_of pins s σ H xs us Q I r ⟨p, ys, e, .inl ⟨h1, h2⟩⟩
end Gn
set_option Elab.async false
set_option linter.all false
set_option maxRecDepth 100000
set_option maxHeartbeats 4000000
namespace Gn
open PySem PySem.Spec PyProof.Rows L2
/-- small data: may be shown, may be compared; its text has at most c signs, its depth is at most e -/
structure Sm (c e : Nat) (d : PyData) : Prop where
  sh : d.showable = true
  ln : d.shown.length ≤ c
  dp : d.depth ≤ e
  cl : d.canLay0 = true
theorem sum_le {c : Nat} : ∀ {ts : List Str}, (∀ t ∈ ts, t.length ≤ c) → (ts.map (·.length)).sum ≤ ts.length * c
  | [], _ => by simp
  | t :: ts, h => by
    have h1 := h t List.mem_cons_self
    have h2 := sum_le fun x hx => h x (List.mem_cons_of_mem t hx)
    rw [List.map_cons, List.sum_cons, List.length_cons, Nat.succ_mul]
    omega
theorem Sm.all {c e : Nat} : ∀ {ds : List PyData}, (∀ d ∈ ds, Sm c e d) → PyData.showableAll ds = true ∧ (∀ t ∈ PyData.shownAll ds, t.length ≤ c) ∧ (PyData.shownAll ds).length = ds.length ∧ PyData.depthAll ds ≤ e ∧ PyData.canLayAll0 ds = true
  | [], _ => ⟨rfl, (fun t h => by simp [PyData.shownAll] at h), rfl, Nat.zero_le _, rfl⟩
  | d :: ds, h => by
    have a := h d List.mem_cons_self
    obtain ⟨b1, b2, b3, b4, b5⟩ := Sm.all fun x hx => h x (List.mem_cons_of_mem d hx)
    refine ⟨by simp only [PyData.showableAll, a.sh, b1, Bool.and_self], fun t ht => ?_, by simp only [PyData.shownAll, List.length_cons, b3], by simp only [PyData.depthAll]; exact Nat.max_le.mpr ⟨a.dp, b4⟩, by simp only [PyData.canLayAll0, a.cl, b5, Bool.and_self]⟩
    simp only [PyData.shownAll] at ht
    rcases List.mem_cons.mp ht with rfl | ht
    · exact a.ln
    · exact b2 t ht
theorem Sm.tup {c e n : Nat} {ds : List PyData} (h : ∀ d ∈ ds, Sm c e d) (hn : ds.length ≤ n) : Sm (n * (c + 2) + 3) (e + 1) (.tuple ds) := by
  obtain ⟨b1, b2, b3, b4, b5⟩ := Sm.all h
  refine ⟨by simpa only [PyData.showable] using b1, ?_, by simp only [PyData.depth]; omega, by simpa only [PyData.canLay0] using b5⟩
  simp only [PyData.shown]
  have z := tupleText_len_le (PyData.shownAll ds)
  have y := sum_le b2
  rw [b3] at z y
  have w := Nat.mul_le_mul_right (c + 2) hn
  rw [Nat.mul_add] at w
  omega
theorem Sm.lst {c e n : Nat} {ds : List PyData} (h : ∀ d ∈ ds, Sm c e d) (hn : ds.length ≤ n) : Sm (n * (c + 2) + 3) (e + 1) (.list ds) := by
  obtain ⟨b1, b2, b3, b4, b5⟩ := Sm.all h
  refine ⟨by simpa only [PyData.showable] using b1, ?_, by simp only [PyData.depth]; omega, by simpa only [PyData.canLay0] using b5⟩
  simp only [PyData.shown]
  have z := listText_len_le (PyData.shownAll ds)
  have y := sum_le b2
  rw [b3] at z y
  have w := Nat.mul_le_mul_right (c + 2) hn
  rw [Nat.mul_add] at w
  omega
theorem Sm.int {i : Int} (h : i.natAbs < 2 ^ 1000) : Sm 1921 0 (.int i) := by
  have hl : i.natAbs.log2 < 1920 := Nat.lt_trans (PySem.Flt.log2_lt_of (by decide) h) (by decide)
  exact ⟨by simp only [PyData.showable, hl, decide_true], by simp only [PyData.shown]; exact int_text_len_1921 hl, by simp only [PyData.depth]; exact Nat.le_refl 0, rfl⟩
theorem Sm.shaped {c e : Nat} {d : PyData} (h : Sm c e d) (he : e ≤ 64) : SeqAt.shaped d = true := by
  unfold SeqAt.shaped
  rw [h.cl, decide_eq_true (Nat.le_trans h.dp he)]; rfl
theorem Sm.ints {n : Nat} {ns : List Int} (h : ∀ i ∈ ns, i.natAbs < 2 ^ 1000) (hn : ns.length ≤ n) : Sm (n * 1923 + 3) 1 (.tuple (ns.map PyData.int)) :=
  Sm.tup (c := 1921) (e := 0) (fun d hd => by
    obtain ⟨i, hi, rfl⟩ := List.mem_map.mp hd
    exact Sm.int (h i hi)) (by rw [List.length_map]; exact hn)
end Gn
set_option Elab.async false
set_option linter.all false
set_option maxRecDepth 100000
set_option maxHeartbeats 4000000
namespace Gn
open PySem PySem.Spec PyProof.Rows L2
/-- a conditional expression whose two ways give the same data -/
theorem tIf_dp {tt : TT} {ta tb : TE} {σ : L2.St} {H : Hp} {Q : VK} {K : PySem.W.Frag} {d : PyData} (c : Bool) (ht : ∀ R : Bool → Hp → Prop, R c H → tt σ H R)
    (h1 : c = true → ∀ R : VK, (∀ v H', Same H H' → Dp K H' v d → R v H') → ta σ H R) (h2 : c = false → ∀ R : VK, (∀ v H', Same H H' → Dp K H' v d → R v H') → tb σ H R)
    (k : ∀ v H', Same H H' → Dp K H' v d → Q v H') : tIf tt ta tb σ H Q := by
  refine ht _ ?_
  cases c with
  | true => exact iteT (h1 rfl Q k)
  | false => exact iteF (h2 rfl Q k)
/-- t[lo:hi], whether it is all of t or not -/
theorem slA_of {K : PySem.W.Frag} {a : Addr} {xs : List V} {lo hi : Option Int} {H : Hp} {Q : VK} (h : SqT K H a xs) (k : ∀ b H', Same H H' → SqT K H' b (cutV xs lo hi) → Q (.ref b) H') : rSlA K (.ref a) lo hi H Q := by
  refine ⟨a, xs, rfl, h, fun hw => k a H (Same.refl H) ?_, fun _ p hp => k p _ (same_put hp) (SqT.of upd_same)⟩
  have e : cutV xs lo hi = xs := by
    unfold cutV
    rw [hw.1, hw.2, List.drop_zero, Nat.sub_zero, List.take_length]
  rw [e]; exact h
/-- t + u, whether one of them is empty or not -/
theorem catA_of {K : PySem.W.Frag} {a b : Addr} {xs ys : List V} {H : Hp} {Q : VK} (h1 : SqT K H a xs) (h2 : SqT K H b ys) (hz : xs.length + ys.length ≤ sizeLine) (k : ∀ c H', Same H H' → SqT K H' c (xs ++ ys) → Q (.ref c) H') : rCatA K (.ref a) (.ref b) H Q := by
  refine ⟨a, b, xs, ys, rfl, rfl, h1, h2, hz, fun e => k b H (Same.refl H) ?_, fun _ e => k a H (Same.refl H) ?_, fun _ _ p hp => k p _ (same_put hp) (SqT.of upd_same)⟩
  · rw [e]; exact h2
  · rw [e, List.append_nil]; exact h1
theorem cut_one (xs : List V) : cutV xs none (some 1) = xs.take 1 := by
  unfold cutV
  rw [show HT.sIx xs.length 0 none = 0 from HT.sIx_none .., show HT.sIx xs.length xs.length (some 1) = min 1 xs.length from HT.sIx_nat xs.length xs.length 1, List.drop_zero, Nat.sub_zero]
  cases xs with
  | nil => rfl
  | cons x r => rw [show min 1 (x :: r).length = 1 by rw [List.length_cons]; omega]
/-- keywords of a def of the text -/
theorem kwOf1 {K : PySem.W.Frag} {x qual : Str} {st : Stmt} {f : Addr} {fd : FuncData} {p : Str} (F : Fun K x qual st f fd)
    (h : ∀ (kV doc pm : Value) (an : Option Addr) (cdv ct a : Value), bindArgs (PySem.W.fnOf x qual (defArgs st) (defBody st) (defScope st) .none kV doc pm an cdv ct) ⟨[], [(p, a)]⟩ = pure [(p, a)]) : KBinds K fd [p] [p] kw1 kw1 := by
  obtain ⟨oc, od, kV, doc, pm, an, cdv, ct, osl, rfl, lk, hcd⟩ := F.ex
  exact kb1 fun a => h kV doc pm an cdv ct a
theorem kwOf2 {K : PySem.W.Frag} {x qual : Str} {st : Stmt} {f : Addr} {fd : FuncData} {p q : Str} (F : Fun K x qual st f fd)
    (h : ∀ (kV doc pm : Value) (an : Option Addr) (cdv ct a b : Value), bindArgs (PySem.W.fnOf x qual (defArgs st) (defBody st) (defScope st) .none kV doc pm an cdv ct) ⟨[], [(p, a), (q, b)]⟩ = pure [(p, a), (q, b)]) : KBinds K fd [p, q] [p, q] kw2 kw2 := by
  obtain ⟨oc, od, kV, doc, pm, an, cdv, ct, osl, rfl, lk, hcd⟩ := F.ex
  exact kb2 fun a b => h kV doc pm an cdv ct a b
theorem kwOf2s {K : PySem.W.Frag} {x qual : Str} {st : Stmt} {f : Addr} {fd : FuncData} {p q : Str} (F : Fun K x qual st f fd)
    (h : ∀ (kV doc pm : Value) (an : Option Addr) (cdv ct a b : Value), bindArgs (PySem.W.fnOf x qual (defArgs st) (defBody st) (defScope st) .none kV doc pm an cdv ct) ⟨[], [(q, b), (p, a)]⟩ = pure [(p, a), (q, b)]) : KBinds K fd [p, q] [q, p] kw2s kw2s := by
  obtain ⟨oc, od, kV, doc, pm, an, cdv, ct, osl, rfl, lk, hcd⟩ := F.ex
  exact kb2s fun a b => h kV doc pm an cdv ct a b
end Gn
set_option Elab.async false
set_option linter.all false
set_option maxRecDepth 100000
set_option maxHeartbeats 4000000
namespace Gn
open PySem PySem.Spec PyProof.Rows L2
/-- for x in reversed(xs): what holds behind i turns -/
theorem for_rv {K : PySem.W.Frag} {a : Addr} {xs : List V} {g : TG} {tb : TS} {D : Ends} {σ : L2.St} {H : Hp} (Pv : Nat → L2.St → Hp → Prop) (h0 : Pv 0 σ H) (hl : ∀ i σ H, i ≤ xs.length → Pv i σ H → SqL K H a xs)
    (hs : ∀ i x σ H, i < xs.length → xs[xs.length - 1 - i]? = some x → Pv i σ H → g x σ H fun σ2 H2 => tb { D with nx := Pv (i + 1), ct := Pv (i + 1), bk := D.nx } σ2 H2) (hd : ∀ σ H, Pv xs.length σ H → D.nx σ H) :
    ∃ W : Nat → Nat → L2.St → Hp → Prop, (∃ m, W 0 m σ H) ∧ ∀ i m σ H, W i m σ H →
      ((Itv K a xs.length).stop i H ∧ D.nx σ H) ∨ ((Itv K a xs.length).go i H ∧ ∃ N : L2.St → Hp → Prop, (∀ σ' H', N σ' H' → ∃ m', m' < m ∧ W (i + 1) m' σ' H') ∧ ∀ x H', (Itv K a xs.length).yld i H x H' → g x σ H' fun σ2 H2 => tb { D with nx := N, ct := N, bk := D.nx } σ2 H2) := by
  refine ⟨fun i m σ H => m = xs.length - i ∧ i ≤ xs.length ∧ Pv i σ H, ⟨xs.length, by simp, Nat.zero_le _, h0⟩, fun i m σ H ⟨em, hi, p⟩ => ?_⟩
  subst em
  have q := hl i σ H hi p
  rcases Nat.lt_or_ge i xs.length with c | c
  · have c2 : xs.length - 1 - i < xs.length := by omega
    refine .inr ⟨⟨c, xs, xs[xs.length - 1 - i], q, List.getElem?_eq_getElem c2⟩, Pv (i + 1), fun σ' H' p' => ⟨xs.length - (i + 1), by omega, rfl, c, p'⟩, fun x H' y => ?_⟩
    obtain ⟨rfl, y⟩ := y
    exact hs i x σ _ c (y xs q) p
  · obtain rfl : i = xs.length := by omega
    exact .inl ⟨Nat.le_refl _, hd σ H p⟩
end Gn
namespace Gn
open PySem PySem.Spec PyProof.Rows L2
/-- a test and a second one, their answers as one -/
theorem and_join {c : Bool} {t : TT} {σ : L2.St} {H : Hp} {Q : Bool → Hp → Prop} (e : Bool) (h1 : c = true → ∀ R : Bool → Hp → Prop, R e H → t σ H R) (h2 : c = false → e = false) (k : Q e H) : if c = true then t σ H Q else Q false H := by
  cases c with
  | true => exact iteT (h1 rfl Q k)
  | false => rw [h2 rfl] at k; exact iteF k
end Gn
set_option Elab.async false
set_option linter.all false
set_option maxRecDepth 100000
set_option maxHeartbeats 4000000
/-! own exceptions over any built-in base: kept as values -/
namespace Gn
open PySem PySem.Spec PyProof.Rows L2
/-- own classes, then a tail -/
inductive Past (t : List Value) : List Value → Prop
  | base : Past t t
  | own {c : Addr} {r : List Value} : Past t r → Past t (.ref c :: r)
section
variable {t l : List Value}
theorem Past.has (h : Past t l) (n : String) : l.contains (.type n) = t.contains (.type n) := by
  induction h with
  | base => rfl
  | own _ ih =>
    rw [List.contains_cons, ih]
    rfl
theorem Past.pass (h : Past t l) {u : Value} {x : Str} (ht : refuseLoop u x t = pure ()) : refuseLoop u x l = pure () := by
  induction h with
  | base => exact ht
  | own _ ih => exact (refuseLoop_ref u x _ _).trans ih
end
/-- what is built in of a base class -/
structure Bas (B nw it : String) (t : List Value) : Prop where
  ex : ExcBaseFacts B nw it t
  st : StoreFacts B t "object.__setattr__" "object"
theorem basV : Bas "ValueError" "ValueError.__new__" "ValueError.__init__" [.type "ValueError", .type "Exception", .type "BaseException", .type "object"] := ⟨F.excBase_ValueError, F.store_ValueError⟩
theorem basL : Bas "LookupError" "LookupError.__new__" "LookupError.__init__" [.type "LookupError", .type "Exception", .type "BaseException", .type "object"] := ⟨F.excBase_LookupError, F.store_LookupError⟩
theorem basA : Bas "ArithmeticError" "ArithmeticError.__new__" "ArithmeticError.__init__" [.type "ArithmeticError", .type "Exception", .type "BaseException", .type "object"] := ⟨F.excBase_ArithmeticError, F.store_ArithmeticError⟩
/-- what the written part says of an own class over such a base -/
structure OwC (K : PySem.W.Frag) (C : Addr) : Prop where
  cls : ∃ (nm q : Str) (N : Addr) (bs bm : List Value) (sn : List Str) (sub : List Value) (ab : Bool) (col : Option Bool) (dd : Option Addr) (k0 k1 k2 k3 k5 : Option Value) (B nw it : String) (tl : List Value),
    K.lookup C = some (excClassObj nm q C N bs bm true sn sub ab col dd k0 k1 k2 k3 k5 nw) ∧ Past tl bm ∧ Bas B nw it tl
  sa : PySem.W.findIn K (.ref C) "__setattr__" = some (some (.builtin "object.__setattr__"))
  exC : PySem.W.subIn K (.ref C) (.type "BaseException") = some true
  tyC : PySem.W.typeIn K (.ref C) = some (.type "type")
  kC : PySem.W.keepIn K (.ref C) = true
section
open Builtin Builtin.ObjectAttr
variable {P : Program} {w : World} {A : Around} {R : Result → Shared → Prop} {hp : Heap} {g : Array GenState} {d : Drawn} {t : Nat} {os : OsState} {K : PySem.W.Frag}
  {f : Str} {tk : Tok} {v : Value} {x C dx : Addr} {fv : Array Value} {cd : ClassData} {m0 : Str → Option Value} {nl : List Str} {tl : List Value} {B nw it : String}
theorem hasO (T : Bas B nw it tl) : tl.contains (.type "object") = true := T.st.hasOwner
/-- x.f = v, x without a dict -/
theorem own_put (T : Bas B nw it tl) (KX : K.In hp) (ox : hp.get? x = some { cls := .ref C, data := .fields fv }) (oc : PySem.W.clsIn K C = some cd)
    (om : Past tl cd.mro) (od : cd.hasDict = true) (on : PySem.W.findIn K (.ref C) f = some none)
    (fin : ∀ h' k' dx, (∀ b o, b ≠ x → hp.get? b = some o → h'.get? b = some o) → hp.objs.size ≤ dx → dx ≠ x →
      h'.get? x = some { cls := .ref C, dict := some dx, data := .fields fv } → h'.Ns1 dx (fun y => if y = f then some v else none) → R (.ok (.ret .none)) ⟨h', g, d, k', os⟩) :
    codeAny (model P w) A (.call (.builtin "object.__setattr__") ⟨[.ref x, .str f tk, v], []⟩) R ⟨hp, g, d, t, os⟩ := by
  have J : PySem.W.InstAt hp x { cls := .ref C, data := .fields fv } C none := ⟨ox, rfl, rfl, trivial⟩
  have S0 := F.store_object
  have hob : cd.mro.contains (.type "object") = true := (om.has "object").trans (hasO T)
  have nem : cd.mro.isEmpty = false := by
    cases e : cd.mro with
    | nil =>
      rw [e] at hob
      cases hob
    | cons _ _ => rfl
  have xs : x ≠ hp.objs.size := Nat.ne_of_lt (Heap.lt_size ox)
  have isO : PySem.W.Looks (model P w) hp (isInstance (.ref x) (.type "object")) true := J.type.andThen (PySem.W.looks_mroIn KX (by
    unfold PySem.W.mroIn
    rw [oc, Option.bind_some, if_neg (by rw [nem]; decide), hob]))
  refine codeAny_call_builtin S0.slot.plain S0.entry (@PySem.W.check_slot (model P w) _ _ ⟨hp, g, d, t, os⟩ "object.__setattr__" "object" "__setattr__"
    (.ref x) [.str f tk, v] [] _ S0.kind S0.split isO (S0.args (.ref x) (.str f tk) v) ?_)
  have l1 : PySem.W.Looks (model P w) hp (mroOf (.ref C)) cd.mro := (PySem.W.looks_clsIn KX oc).andThen .now
  have l2 : PySem.W.Looks (model P w) hp (storeTaker? none) none := .now
  have l3 : PySem.W.Looks (model P w) hp (classData C) cd := PySem.W.looks_clsIn KX oc
  rw [PySem.W.osa_eq, refuse_eq]
  refine wpAny_bind (wpAny_bind (J.type.at (wpAny_bind (l1.at ?_))))
  rw [om.pass (T.st.passes _)]
  refine wpAny_pure (wpAny_bind (J.type.at (wpAny_bind ((PySem.W.looks_findIn KX on).at (wpAny_bind (l2.at ?_))))))
  show wpAny _ _ (storeInOwnDict (.ref x) (.ref C) (.str f tk) f v false) _ _ _
  obtain ⟨c1, c2, c3, c4, c5, c6, c7, c8, c9, c10, c11⟩ := cd
  dsimp only at od
  subst od
  unfold storeInOwnDict ownDictForStores
  repeat (first
    | with_reducible refine PySem.HandSPX.store_in_new ?_ ?_
    | with_reducible refine wpAny_loadPart_at ox ?_
    | with_reducible refine l3.at ?_
    | wp_step)
  · exact ⟨_, #[], _, (Heap.get?_update_ne _ _ _ _ xs.symm).trans (Heap.get?_push_at rfl rfl), rfl, fun e z => absurd z (by simp), fun _ => rfl⟩
  · intro h' k' hn hs
    have ox1 : (hp.push { cls := .type "dict", data := .dict #[] }).get? x = some { cls := .ref C, data := .fields fv } := Heap.get?_push_of_some _ ox
    refine fin h' k' hp.objs.size (fun b o hb q => ?_) (Nat.le_refl _) xs.symm ?_ hn
    · exact (hs.2 b (Nat.ne_of_lt (Heap.lt_size q))).trans ((Heap.get?_update_ne _ _ _ _ hb).trans (Heap.get?_push_of_some _ q))
    · exact (hs.2 x xs).trans (Heap.get?_update_self _ ox1 rfl)
/-- x.f = v, x with its dict -/
theorem own_put2 (T : Bas B nw it tl) (KX : K.In hp) (ox : hp.get? x = some { cls := .ref C, dict := some dx, data := .fields fv }) (hns : hp.Ns1 dx m0) (hw : Within m0 nl) (hz : nl.length ≤ 1000)
    (oc : PySem.W.clsIn K C = some cd) (om : Past tl cd.mro) (od : cd.hasDict = true) (on : PySem.W.findIn K (.ref C) f = some none)
    (fin : ∀ h' k', (∀ b o, b ≠ dx → hp.get? b = some o → h'.get? b = some o) → h'.Ns1 dx (fun y => if y = f then some v else m0 y) → R (.ok (.ret .none)) ⟨h', g, d, k', os⟩) :
    codeAny (model P w) A (.call (.builtin "object.__setattr__") ⟨[.ref x, .str f tk, v], []⟩) R ⟨hp, g, d, t, os⟩ := by
  obtain ⟨oD, _, _, qD, _, _⟩ := hns.count hw
  have J : PySem.W.InstAt hp x { cls := .ref C, dict := some dx, data := .fields fv } C (some oD) := ⟨ox, rfl, rfl, qD⟩
  have S0 := F.store_object
  have hob : cd.mro.contains (.type "object") = true := (om.has "object").trans (hasO T)
  have nem : cd.mro.isEmpty = false := by
    cases e : cd.mro with
    | nil =>
      rw [e] at hob
      cases hob
    | cons _ _ => rfl
  have isO : PySem.W.Looks (model P w) hp (isInstance (.ref x) (.type "object")) true := J.type.andThen (PySem.W.looks_mroIn KX (by
    unfold PySem.W.mroIn
    rw [oc, Option.bind_some, if_neg (by rw [nem]; decide), hob]))
  refine codeAny_call_builtin S0.slot.plain S0.entry (@PySem.W.check_slot (model P w) _ _ ⟨hp, g, d, t, os⟩ "object.__setattr__" "object" "__setattr__"
    (.ref x) [.str f tk, v] [] _ S0.kind S0.split isO (S0.args (.ref x) (.str f tk) v) ?_)
  have l1 : PySem.W.Looks (model P w) hp (mroOf (.ref C)) cd.mro := (PySem.W.looks_clsIn KX oc).andThen .now
  have l2 : PySem.W.Looks (model P w) hp (storeTaker? none) none := .now
  have l3 : PySem.W.Looks (model P w) hp (classData C) cd := PySem.W.looks_clsIn KX oc
  rw [PySem.W.osa_eq, refuse_eq]
  refine wpAny_bind (wpAny_bind (J.type.at (wpAny_bind (l1.at ?_))))
  rw [om.pass (T.st.passes _)]
  refine wpAny_pure (wpAny_bind (J.type.at (wpAny_bind ((PySem.W.looks_findIn KX on).at (wpAny_bind (l2.at ?_))))))
  show wpAny _ _ (storeInOwnDict (.ref x) (.ref C) (.str f tk) f v false) _ _ _
  obtain ⟨c1, c2, c3, c4, c5, c6, c7, c8, c9, c10, c11⟩ := cd
  dsimp only at od
  subst od
  unfold storeInOwnDict ownDictForStores
  repeat (first
    | with_reducible refine PySem.OEX.store_in_old hns hw hz ?_
    | with_reducible refine wpAny_loadPart_at ox ?_
    | with_reducible refine l3.at ?_
    | wp_step)
  intro h' k' hn hs
  exact fin h' k' (fun b o hb q => (hs.2 b hb).trans q) hn
end
end Gn
set_option Elab.async false
set_option linter.all false
set_option maxRecDepth 100000
set_option maxHeartbeats 4000000
namespace Gn
open PySem PySem.Spec PyProof.Rows L2
section
variable {X : Cx} {pins : List (Addr × Obj)} {σ : L2.St} {H : Hp} {s : Shared} {a C dx : Addr} {f : Str} {y : V} {u : Value} {fs : List (Str × V)} {Q : Unit → Shared → Prop} {E : Value → Shared → Prop} {A : Around}
theorem put_new (T : OwC X.K C) (I : Inv X pins σ H s) (ea : H a = some (exo a C none)) (on : PySem.W.findIn X.K (.ref C) f = some none) (ry : RelV y u)
    (fin : ∀ dx s', H dx = none → dx ≠ a → Inv X pins σ (upd (upd H dx (exd dx [(f, y)])) a (exo a C (some dx))) s' → Q () s') : wpAny (model X.prog X.w) A (setAttr (.ref a) f u) Q E s := by
  obtain ⟨nm, q, N, bs, bm, sn, sub, ab, col, dd, k0, k1, k2, k3, k5, B, nw, it, tl, lk, pt, TB⟩ := T.cls
  have oc : PySem.W.clsIn X.K C = some { name := nm, bases := bs, mro := .ref C :: bm, ns := N, qualname := q, hasDict := true, slotNames := sn, subclasses := sub, abstract := ab, collection := col, hasDel := false } := by
    unfold PySem.W.clsIn
    rw [lk] <;> rfl
  obtain ⟨t1, ho⟩ := exo_at I.hok ea
  obtain ⟨hp, g, d, t, os⟩ := s
  refine PySem.W.set_plain I.kIn (ox := { cls := .ref C, dict := none, data := .fields #[.ref t1, .none, .none, .none, .bool false, .none] }) (od := none) ⟨ho, rfl, rfl, trivial⟩ T.sa ?_
  refine own_put TB I.kIn ho oc (.own pt) rfl on fun h' t' dx kp dn dne hx hn => ?_
  have fd : H dx = none := I.hok.fresh dn
  have old : ∀ {b : Addr} {o : Obj}, hp.get? b = some o → b ≠ dx := fun {b o} z => Nat.ne_of_lt (Nat.lt_of_lt_of_le (Heap.lt_size z) dn)
  have noa : ∀ {b : Addr}, H b = none → b ≠ a := fun {b} n z => by
    rw [z, ea] at n
    cases n
  have U : Un X.fs [] H (upd (upd H dx (exd dx [(f, y)])) a (exo a C (some dx))) hp h' := {
    keep := fun b o z n _ _ => kp b o (noa n) z
    slot := fun b o z n _ _ => ⟨o.slots, kp b o (noa n) z⟩
    free := fun b o z n _ => by
      rw [upd_ne (noa n), upd_ne (old z)]
      exact n
    there := fun b o z _ => by
      by_cases hb : b = a
      · exact ⟨_, by rw [hb]; exact hx⟩
      · exact ⟨o, kp b o hb z⟩
    tups := fun b xs z => by
      rw [upd_ne (at_ne ea z exo_tup), upd_ne (ne_of_none z fd)]
      exact z
    frzs := fun b o v z => by
      rw [upd_ne (at_ne ea z exo_frz), upd_ne (ne_of_none z fd)]
      exact z
    tbls := fun b ps z => ⟨#[], by
      rw [upd_ne (at_ne ea z exo_tbl), upd_ne (ne_of_none z fd), z]
      simp⟩ }
  refine fin dx _ fd dne (I.un (t' := t') U fun b o z => ?_)
  by_cases ba : b = a
  · subst ba
    rw [upd_same] at z
    cases z
    exact exo_ok hx
  · rw [upd_ne ba] at z
    by_cases bd : b = dx
    · subst bd
      rw [upd_same] at z
      cases z
      exact exd_ok hn (relO_put (fs := []) ry fun g => True.intro)
    · rw [upd_ne bd] at z
      refine (I.hok b o z).stay (fun c v hc q => kp c v ?_ q) (fun c hc => ?_) fun c xs hc => ?_
      · rcases hc with hc | hc
        · rw [hc]
          exact ba
        · exact at_ne ea hc exo_own
      · rw [upd_ne (at_ne ea hc exo_own), upd_ne (ne_of_none hc fd)]
        exact hc
      · rw [upd_ne (at_ne ea hc exo_tup), upd_ne (ne_of_none hc fd)]
        exact hc
theorem put_old (T : OwC X.K C) (I : Inv X pins σ H s) (ea : H a = some (exo a C (some dx))) (ed : H dx = some (exd dx fs)) (hl : fs.length ≤ 900) (on : PySem.W.findIn X.K (.ref C) f = some none) (ry : RelV y u)
    (fin : ∀ s', Inv X pins σ (upd H dx (exd dx ((f, y) :: fs))) s' → Q () s') : wpAny (model X.prog X.w) A (setAttr (.ref a) f u) Q E s := by
  obtain ⟨nm, q, N, bs, bm, sn, sub, ab, col, dd, k0, k1, k2, k3, k5, B, nw, it, tl, lk, pt, TB⟩ := T.cls
  have oc : PySem.W.clsIn X.K C = some { name := nm, bases := bs, mro := .ref C :: bm, ns := N, qualname := q, hasDict := true, slotNames := sn, subclasses := sub, abstract := ab, collection := col, hasDel := false } := by
    unfold PySem.W.clsIn
    rw [lk] <;> rfl
  obtain ⟨t1, ho⟩ := exo_at I.hok ea
  obtain ⟨mA, hns, rel⟩ := exd_at I.hok ed
  have hw := within_of rel
  obtain ⟨hp, g, d, t, os⟩ := s
  obtain ⟨oD, _, _, qD, _, _⟩ := hns.count hw
  refine PySem.W.set_plain I.kIn (ox := { cls := .ref C, dict := some dx, data := .fields #[.ref t1, .none, .none, .none, .bool false, .none] }) (od := some oD) ⟨ho, rfl, rfl, qD⟩ T.sa ?_
  have small : (fs.map (·.1)).length ≤ 1000 := by
    rw [List.length_map]
    omega
  refine own_put2 TB I.kIn ho hns hw small oc (.own pt) rfl on fun h' t' kp hn => ?_
  have hd : ∃ o, h'.get? dx = some o := by
    obtain ⟨o, _, _, z, _⟩ := hn
    exact ⟨o, z⟩
  exact fin _ (I.write (t' := t') (x := dx) (e := dx) (o := exd dx ((f, y) :: fs)) (by rw [ed]; exact True.intro) (.inl rfl) kp hd (exd_ok hn (relO_put ry rel)))
end
/-- self.f = e -/
def tPut (K : PySem.W.Frag) (f : Str) (to te : TE) : TS := fun D σ H => te σ H fun y H1 => to σ H1 fun x H2 => ∃ a C : Addr, x = .ref a ∧ OwC K C ∧ PySem.W.findIn K (.ref C) f = some none ∧
  ((H2 a = some (exo a C none) ∧ ∀ d, H2 d = none → d ≠ a → D.nx σ (upd (upd H2 d (exd d [(f, y)])) a (exo a C (some d)))) ∨
    ∃ (d : Addr) (fs : List (Str × V)), H2 a = some (exo a C (some d)) ∧ H2 d = some (exd d fs) ∧ fs.length ≤ 900 ∧ D.nx σ (upd H2 d (exd d ((f, y) :: fs))))
/-- C(e, ..) kept -/
def tOwn (C : Addr) (sp : Sp) (dvs : List V) (ta : TA) : TE := fun σ H Q => ta σ H fun vs H1 => vs.length ≤ 1000 ∧ ∀ a, H1 a = none →
  sp (.ref a :: (vs ++ dvs)) (upd H1 a (exo a C none)) (fun v H2 => v = .non ∧ Q (.ref a) H2) (fun _ _ _ => False)
section
variable {X : Cx} {o e : Expr} {es : List Expr} {to te : TE} {ta : TA} {f : Str} {p p' pos : Pos}
theorem ps_put (ho : PE X o to) (he : PE X e te) (hs : swapsWith e (some (.Attribute o f p')) pos.line X.env = pure false := by rfl) : PS X (.Assign [.Attribute o f p'] e pos) (tPut X.K f to te) := by
  refine ⟨fun pins s σ H D I h => ?_⟩
  refine plainObj_wpAny_Assign_Attribute (thn (he.run pins s σ H _ I h) fun v s1 ⟨y, H1, I1, r1, q1⟩ => ?_) hs
  refine thn (ho.run pins s1 σ H1 _ I1 q1) fun u s2 ⟨x, H2, I2, r2, a, C, ex, T, on, q⟩ => ?_
  subst ex
  obtain rfl : u = Value.ref a := r2
  rcases q with ⟨ea, q⟩ | ⟨dx, fs, ea, ed, hl, q⟩
  · exact put_new T I2 ea on r1 fun dx s' n ne J => ⟨σ, _, J, q dx n ne⟩
  · exact put_old T I2 ea ed hl on r1 fun s' J => ⟨σ, _, J, q⟩
theorem own_made {CX : CXT} {C fI : Addr} {k : Nat} {fd : FuncData} {ps : List Str} {sp : Sp} {ds us : List Value} {dvs vs : List V} {pins : List (Addr × Obj)} {σ : L2.St} {H1 : Hp} {s1 : Shared} {Q : VK} (T : OwC X.K C)
    (iC : PySem.W.findIn X.K (.ref C) "__init__" = some (some (.ref fI))) (tI : PySem.W.typeIn X.K (.ref fI) = some (.type "function")) (F1 : FnOk X.prog X.w X.K X.mg X.base CX k fI fd ps sp) (hr : Room (k + 1) X.A) (hb : Binds X.K fd ps ds) (hd : Vals dvs ds)
    (hx : Passes CX X (fun _ _ _ => False)) (I1 : Inv X pins σ H1 s1) (r1 : Vals vs us) (q1 : ∀ a, H1 a = none → sp (.ref a :: (vs ++ dvs)) (upd H1 a (exo a C none)) (fun v H2 => v = .non ∧ Q (.ref a) H2) (fun _ _ _ => False)) (hz : vs.length ≤ 1000) :
    wpAny (model X.prog X.w) X.A (call (.ref C) us) (EP X pins σ Q) X.xe s1 := by
  obtain ⟨nm, q, N, bs, bm, sn, sub, ab, col, dd, k0, k1, k2, k3, k5, B, nw, it, tl, lk, pt, TB⟩ := T.cls
  obtain ⟨hp, g, dr, tk, os⟩ := s1
  have up : hp.objs.size ≤ hp.objs.size + 1 := Nat.le_succ _
  have hn : H1 (hp.objs.size + 1) = none := I1.hok.fresh up
  have hq := q1 (hp.objs.size + 1) hn
  have kk : ∀ b o, hp.get? b = some o → ((hp.push (PySem.W.kdv_tup us)).push (PySem.HandSPX.excO C hp.objs.size)).get? b = some o := fun b o z =>
    Heap.get?_push_of_some _ (Heap.get?_push_of_some _ z)
  have got : ((hp.push (PySem.W.kdv_tup us)).push (PySem.HandSPX.excO C hp.objs.size)).get? (hp.objs.size + 1) = some (PySem.HandSPX.excO C hp.objs.size) := by heap_get
  have I2 := I1.laid (t' := tk) (a := hp.objs.size + 1) (o := exo (hp.objs.size + 1) C none) kk up (exo_ok got)
  have r2 : Vals (V.ref (hp.objs.size + 1) :: (vs ++ dvs)) (Value.ref (hp.objs.size + 1) :: (us ++ ds)) := .cons rfl (r1.append hd)
  have hl : (Value.ref (hp.objs.size + 1) :: us ++ ds).length = ps.length := by
    have z := r2.length
    rw [F1.len _ _ _ _ hq] at z
    exact z.symm
  have few : us.length ≤ sizeLine := by
    rw [← Paired.length r1, sizeLine_eq]
    omega
  refine wpAny_call (PySem.HandSPX.call_own TB.ex (fun n => pt.has n) (I1.kIn _ _ lk) (PySem.W.looks_findIn I1.kIn iC) (fun me => PySem.W.bind_fn I1.kIn me tI) few (codeAny_mono
    (F1.run _ X.stack _ _ ⟨Value.ref (hp.objs.size + 1) :: us, []⟩ (Value.ref (hp.objs.size + 1) :: (us ++ ds)) _ _ (fun _ _ _ => False) (hr.make C us []) (I2.env0.make C us []) (hb _ (Value.ref (hp.objs.size + 1) :: us) I2.kIn hl) r2 hq) fun r s' z => ?_))
  cases r with
  | error er => exact hx pins σ _ _ er s' I2 z
  | ok fl =>
    cases fl with
    | ret u =>
      obtain ⟨v, H2, os2, bare2, un2, hok2, rv, ev, q2⟩ := z
      subst ev
      obtain ⟨h2, g2, d2, t2, os'⟩ := s'
      exact ⟨rv, .ref (hp.objs.size + 1), H2, I1.call' (ch := []) os2 ((Un.laid kk up hn).trans un2) hok2 bare2 (fun b y => absurd y (by simp)), rfl, q2⟩
    | next => exact False.elim z
    | brk => exact False.elim z
    | cont => exact False.elim z
theorem pe_own {CX : CXT} {x : Str} {C fI : Addr} {k : Nat} {fd : FuncData} {ps : List Str} {sp : Sp} {ds : List Value} {dvs : List V} (T : OwC X.K C) (iC : PySem.W.findIn X.K (.ref C) "__init__" = some (some (.ref fI)))
    (tI : PySem.W.typeIn X.K (.ref fI) = some (.type "function")) (F1 : FnOk X.prog X.w X.K X.mg X.base CX k fI fd ps sp) (hr : Room (k + 1) X.A) (hb : Binds X.K fd ps ds) (hd : Vals dvs ds) (hx : Passes CX X (fun _ _ _ => False)) (hg : Gl X x)
    (hm : X.mg x = some (.ref C)) (ha : PA X (e :: es) ta) (hdb : (x == ("__debug__" : Str)) = false := by decide) (he : starEach (e :: es) X.env = (false, eval e X.env) :: starEach es X.env := by rfl) (hpl : (backTo pos (starEach es X.env)).any (·.1) = false := by rfl) :
    PE X (.Call (.Name x p) (e :: es) [] pos) (tOwn C sp dvs ta) := ⟨fun pins s σ H Q I h =>
  wpAny_Call_Name_kw (ld_glob I hg hm (PySem.W.callWith_K (h₀ := X.base) I.ok.mod.kin T.kC (thn (ha.run pos pins s σ H _ I h) fun us s1 ⟨vs, H1, I1, r1, hz, q1⟩ => ⟨I1.kIn, own_made T iC tI F1 hr hb hd hx I1 r1 q1 hz⟩) he hpl) hdb)⟩
theorem pe_own0 {CX : CXT} {x : Str} {C fI : Addr} {k : Nat} {fd : FuncData} {ps : List Str} {sp : Sp} {ds : List Value} {dvs : List V} (T : OwC X.K C) (iC : PySem.W.findIn X.K (.ref C) "__init__" = some (some (.ref fI)))
    (tI : PySem.W.typeIn X.K (.ref fI) = some (.type "function")) (F1 : FnOk X.prog X.w X.K X.mg X.base CX k fI fd ps sp) (hr : Room (k + 1) X.A) (hb : Binds X.K fd ps ds) (hd : Vals dvs ds) (hx : Passes CX X (fun _ _ _ => False)) (hg : Gl X x)
    (hm : X.mg x = some (.ref C)) (hdb : (x == ("__debug__" : Str)) = false := by decide) : PE X (.Call (.Name x p) [] [] pos) (tOwn C sp dvs tNil) := ⟨fun pins s σ H Q I h =>
  wpAny_Call_Name_kw (ld_glob I hg hm (PySem.W.callWith_K0 I.kIn T.kC (own_made (us := []) (vs := []) T iC tI F1 hr hb hd hx I .nil h.2 h.1)) hdb)⟩
end
end Gn
set_option Elab.async false
set_option linter.all false
set_option maxRecDepth 100000
set_option maxHeartbeats 4000000
namespace Gn
open PySem PySem.Spec PyProof.Rows L2
section
variable {X : Cx} {e : Expr} {es : List Expr} {ta : TA} {p pos : Pos}
/-- the exception without a dict is let go -/
theorem bare_gone {pins : List (Addr × Obj)} {σ : L2.St} {H1 H2 : Hp} {Q : XK} {hp hp2 h2 : Heap} {g1 g2 : Array GenState} {d1 d2 : Drawn} {t1 t2 : Nat} {os1 os2 : OsState} {a C : Addr} (T : Raises X (.ref C)) (I1 : Inv X pins σ H1 ⟨hp, g1, d1, t1, os1⟩)
    (ha : hp.objs.size ≤ a) (kp : ∀ b o, hp.get? b = some o → hp2.get? b = some o) (un : Un (frs X.stack) [] (upd H1 a (exo a C none)) H2 hp2 h2) (hok : HOk X.prog X.w H2 h2) (ho : os2 = os1) (hb : AllBare g2)
    (ea : H2 a = some (exo a C none)) (q : Q (.ref C) none (del H2 a)) : MkP X pins σ Q (.ref a) ⟨h2, g2, d2, t2, os2⟩ := by
  obtain ⟨t0, hoe⟩ := exo_at hok ea
  have hn : H1 a = none := I1.hok.fresh ha
  obtain ⟨G, y1, y2⟩ := restrict h2 fun b => decide (b ≠ a)
  have gk : ∀ b, b ≠ a → G.get? b = h2.get? b := fun b z => y1 b (decide_eq_true z)
  have ge : G.get? a = none := y2 a (by simp)
  have old : ∀ {b : Addr} {o : Obj}, hp.get? b = some o → b ≠ a := fun {b o} z => Nat.ne_of_lt (Nat.lt_of_lt_of_le (Heap.lt_size z) ha)
  have fr : ∀ {b : Addr}, b ≠ a → H1 b = none → upd H1 a (exo a C none) b = none := fun {b} z n => (upd_ne z).trans n
  have U : Un (frs X.stack) [] H1 (del H2 a) hp G := {
    keep := fun b o z n hf hx => (gk b (old z)).trans (un.keep b o (kp b o z) (fr (old z) n) hf hx)
    slot := fun b o z n hf hx => by
      rw [gk b (old z)]
      exact un.slot b o (kp b o z) (fr (old z) n) hf hx
    free := fun b o z n hx => (del_ne (old z)).trans (un.free b o (kp b o z) (fr (old z) n) hx)
    there := fun b o z hx => by
      rw [gk b (old z)]
      exact un.there b o (kp b o z) hx
    tups := fun b xs z => (del_ne (ne_of_none z hn)).trans (un.tups b xs ((upd_ne (ne_of_none z hn)).trans z))
    frzs := fun b o v z => (del_ne (ne_of_none z hn)).trans (un.frzs b o v ((upd_ne (ne_of_none z hn)).trans z))
    tbls := fun b ps z => by
      rw [del_ne (ne_of_none z hn)]
      exact un.tbls b ps ((upd_ne (ne_of_none z hn)).trans z) }
  have hok3 : HOk X.prog X.w (del H2 a) G := fun b o z => by
    have ba : b ≠ a := fun e => by
      rw [e, del_same] at z
      cases z
    rw [del_ne ba] at z
    have noa : ∀ {c : Addr}, H2 c = some (.own b) → c ≠ a := fun {c} hc => at_ne ea hc exo_own
    refine (hok b o z).stay (fun c v hc y => ?_) (fun c hc => (del_ne (noa hc)).trans hc) fun c xs hc => (del_ne (at_ne ea hc exo_tup)).trans hc
    have ca : c ≠ a := by
      rcases hc with hc | hc
      · rw [hc]
        exact ba
      · exact noa hc
    exact (gk c ca).trans y
  have J : Inv X pins σ (del H2 a) ⟨G, g2, d2, t2, os2⟩ := I1.call' (ch := []) ho U hok3 hb (fun b z => absurd z (by simp))
  refine ⟨a, _, _, ⟨G, g2, d2, t2, os2⟩, _, .ref C, none, rfl, J, fun b o z => ?_, ge, hoe, ⟨rfl, rfl⟩, rfl, rfl, del_same, rfl, hb, T, q⟩
  by_cases ba : b = a
  · rw [ba, ge] at z
    cases z
  · exact (gk b ba).symm.trans z
/-- C(e, ..) raised -/
def tThr (C : Addr) (sp : Sp) (dvs : List V) (ta : TA) : L2.St → Hp → XK → Prop := fun σ H Q => ta σ H fun vs H1 => vs.length ≤ 1000 ∧ ∀ a, H1 a = none →
  sp (.ref a :: (vs ++ dvs)) (upd H1 a (exo a C none)) (fun v H2 => v = .non ∧
    ((∃ (d : Addr) (fs : List (Str × V)), H2 a = some (exo a C (some d)) ∧ H2 d = some (exd d fs) ∧ H1 d = none ∧ Q (.ref C) (some d) (upd (del H2 a) d (.xd fs))) ∨ (H2 a = some (exo a C none) ∧ Q (.ref C) none (del H2 a)))) (fun _ _ _ => False)
theorem own_thrown {CX : CXT} {C fI : Addr} {k : Nat} {fd : FuncData} {ps : List Str} {sp : Sp} {ds us : List Value} {dvs vs : List V} {pins : List (Addr × Obj)} {σ : L2.St} {H1 : Hp} {s1 : Shared} {Q : XK} (T : OwC X.K C)
    (iC : PySem.W.findIn X.K (.ref C) "__init__" = some (some (.ref fI))) (tI : PySem.W.typeIn X.K (.ref fI) = some (.type "function")) (F1 : FnOk X.prog X.w X.K X.mg X.base CX k fI fd ps sp) (hr : Room (k + 1) X.A) (hb : Binds X.K fd ps ds) (hd : Vals dvs ds)
    (hx : Passes CX X (fun _ _ _ => False)) (I1 : Inv X pins σ H1 s1) (r1 : Vals vs us) (hz : vs.length ≤ 1000)
    (q1 : ∀ a, H1 a = none → sp (.ref a :: (vs ++ dvs)) (upd H1 a (exo a C none)) (fun v H2 => v = .non ∧
      ((∃ (d : Addr) (fs : List (Str × V)), H2 a = some (exo a C (some d)) ∧ H2 d = some (exd d fs) ∧ H1 d = none ∧ Q (.ref C) (some d) (upd (del H2 a) d (.xd fs))) ∨ (H2 a = some (exo a C none) ∧ Q (.ref C) none (del H2 a)))) (fun _ _ _ => False)) :
    wpAny (model X.prog X.w) X.A (call (.ref C) us) (MkP X pins σ Q) X.xe s1 := by
  obtain ⟨nm, q, N, bs, bm, sn, sub, ab, col, dd, k0, k1, k2, k3, k5, B, nw, it, tl, lk, pt, TB⟩ := T.cls
  obtain ⟨hp, g, dr, tk, os⟩ := s1
  have up : hp.objs.size ≤ hp.objs.size + 1 := Nat.le_succ _
  have hn : H1 (hp.objs.size + 1) = none := I1.hok.fresh up
  have hq := q1 (hp.objs.size + 1) hn
  have kk : ∀ b o, hp.get? b = some o → ((hp.push (PySem.W.kdv_tup us)).push (PySem.HandSPX.excO C hp.objs.size)).get? b = some o := fun b o z =>
    Heap.get?_push_of_some _ (Heap.get?_push_of_some _ z)
  have got : ((hp.push (PySem.W.kdv_tup us)).push (PySem.HandSPX.excO C hp.objs.size)).get? (hp.objs.size + 1) = some (PySem.HandSPX.excO C hp.objs.size) := by heap_get
  have I2 := I1.laid (t' := tk) (a := hp.objs.size + 1) (o := exo (hp.objs.size + 1) C none) kk up (exo_ok got)
  have r2 : Vals (V.ref (hp.objs.size + 1) :: (vs ++ dvs)) (Value.ref (hp.objs.size + 1) :: (us ++ ds)) := .cons rfl (r1.append hd)
  have hl : (Value.ref (hp.objs.size + 1) :: us ++ ds).length = ps.length := by
    have z := r2.length
    rw [F1.len _ _ _ _ hq] at z
    exact z.symm
  have few : us.length ≤ sizeLine := by
    rw [← Paired.length r1, sizeLine_eq]
    omega
  refine wpAny_call (PySem.HandSPX.call_own TB.ex (fun n => pt.has n) (I1.kIn _ _ lk) (PySem.W.looks_findIn I1.kIn iC) (fun me => PySem.W.bind_fn I1.kIn me tI) few (codeAny_mono
    (F1.run _ X.stack _ _ ⟨Value.ref (hp.objs.size + 1) :: us, []⟩ (Value.ref (hp.objs.size + 1) :: (us ++ ds)) _ _ (fun _ _ _ => False) (hr.make C us []) (I2.env0.make C us []) (hb _ (Value.ref (hp.objs.size + 1) :: us) I2.kIn hl) r2 hq) fun r s' z => ?_))
  cases r with
  | error er => exact hx pins σ _ _ er s' I2 z
  | ok fl =>
    cases fl with
    | ret u =>
      obtain ⟨v, H2, os2, bare2, un2, hok2, rv, ev, z2⟩ := z
      subst ev
      obtain ⟨h2, g2, d2, t2, os'⟩ := s'
      rcases z2 with ⟨dq, fs, ea, ed, hd1, q2⟩ | ⟨ea, q2⟩
      · exact ⟨rv, mk_end (raises_own T.exC T.tyC) I1 up kk un2 hok2 os2 bare2 ea ed hd1 q2⟩
      · exact ⟨rv, bare_gone (raises_own T.exC T.tyC) I1 up kk un2 hok2 os2 bare2 ea q2⟩
    | next => exact False.elim z
    | brk => exact False.elim z
    | cont => exact False.elim z
/-- raise C(e, ..) -/
theorem pmk_exo {CX : CXT} {x : Str} {C fI : Addr} {k : Nat} {fd : FuncData} {ps : List Str} {sp : Sp} {ds : List Value} {dvs : List V} (T : OwC X.K C) (iC : PySem.W.findIn X.K (.ref C) "__init__" = some (some (.ref fI)))
    (tI : PySem.W.typeIn X.K (.ref fI) = some (.type "function")) (F1 : FnOk X.prog X.w X.K X.mg X.base CX k fI fd ps sp) (hr : Room (k + 1) X.A) (hb : Binds X.K fd ps ds) (hd : Vals dvs ds) (hx : Passes CX X (fun _ _ _ => False)) (hg : Gl X x)
    (hm : X.mg x = some (.ref C)) (ha : PA X (e :: es) ta) (hdb : (x == ("__debug__" : Str)) = false := by decide) (he : starEach (e :: es) X.env = (false, eval e X.env) :: starEach es X.env := by rfl) (hpl : (backTo pos (starEach es X.env)).any (·.1) = false := by rfl) :
    PMk X (.Call (.Name x p) (e :: es) [] pos) (tThr C sp dvs ta) := fun pins s σ H Q I h =>
  wpAny_Call_Name_kw (ld_glob I hg hm (PySem.W.callWith_K (h₀ := X.base) I.ok.mod.kin T.kC (thn (ha.run pos pins s σ H _ I h) fun us s1 ⟨vs, H1, I1, r1, hz, q1⟩ => ⟨I1.kIn, own_thrown T iC tI F1 hr hb hd hx I1 r1 hz q1⟩) he hpl) hdb)
/-- raise C() -/
theorem pmk_exo0 {CX : CXT} {x : Str} {C fI : Addr} {k : Nat} {fd : FuncData} {ps : List Str} {sp : Sp} {ds : List Value} {dvs : List V} (T : OwC X.K C) (iC : PySem.W.findIn X.K (.ref C) "__init__" = some (some (.ref fI)))
    (tI : PySem.W.typeIn X.K (.ref fI) = some (.type "function")) (F1 : FnOk X.prog X.w X.K X.mg X.base CX k fI fd ps sp) (hr : Room (k + 1) X.A) (hb : Binds X.K fd ps ds) (hd : Vals dvs ds) (hx : Passes CX X (fun _ _ _ => False)) (hg : Gl X x)
    (hm : X.mg x = some (.ref C)) (hdb : (x == ("__debug__" : Str)) = false := by decide) : PMk X (.Call (.Name x p) [] [] pos) (tThr C sp dvs tNil) := fun pins s σ H Q I h =>
  wpAny_Call_Name_kw (ld_glob I hg hm (PySem.W.callWith_K0 I.kIn T.kC (own_thrown (us := []) (vs := []) T iC tI F1 hr hb hd hx I .nil h.1 h.2)) hdb)
end
/-! ### such a value: its fields, and of which classes it is -/
/-- e.f -/
def tFld (K : PySem.W.Frag) (f : Str) (te : TE) : TE := fun σ H Q => te σ H fun x H1 => ∃ (a C d : Addr) (fs : List (Str × V)) (v : V), x = .ref a ∧ H1 a = some (exo a C (some d)) ∧ H1 d = some (exd d fs) ∧ XfC K C ∧ PySem.W.findIn K (.ref C) f = some none ∧ fs.lookup f = some v ∧ Q v H1
theorem inst_at {X : Cx} {pins : List (Addr × Obj)} {σ : L2.St} {H : Hp} {s : Shared} {a C d : Addr} (I : Inv X pins σ H s) (ea : H a = some (exo a C (some d))) {fs : List (Str × V)} (ed : H d = some (exd d fs)) :
    ∃ (ox od : Obj), PySem.W.InstAt s.heap a ox C (some od) ∧ ∀ n, ∃ o, PySem.W.lookIn n od = some o ∧ RelO (fs.lookup n) o := by
  obtain ⟨t1, ho⟩ := exo_at I.hok ea
  obtain ⟨mA, hns, rel⟩ := exd_at I.hok ed
  obtain ⟨od, hd, hl⟩ := lookIn_ns hns
  exact ⟨_, od, ⟨ho, rfl, rfl, hd⟩, fun n => ⟨_, hl n, rel n⟩⟩
theorem pe_fld {X : Cx} {e : Expr} {te : TE} {pos : Pos} {f : Str} (he : PE X e te) (hb : attributeBase e f X.env (eval e X.env) = eval e X.env := by rfl) : PE X (.Attribute e f pos) (tFld X.K f te) := by
  refine ⟨fun pins s σ H Q I h => ?_⟩
  refine attr_of hb (thn (he.run pins s σ H _ I h) fun u s1 ⟨x, H1, I1, rx, a, C, d, fs, v, ex, ea, ed, T, on, lf, q⟩ => ?_)
  subst ex
  obtain rfl : u = Value.ref a := rx
  obtain ⟨ox, od, J, rel⟩ := inst_at I1 ea ed
  obtain ⟨o1, l1, r1⟩ := rel f
  obtain ⟨y, hy, ry⟩ := RelO.some_of (v := v) (o := o1) (by rw [← lf]; exact r1)
  subst hy
  exact HandSPX.exc_get I1.kIn J T.ga T.gg T.exC (PySem.W.findObj_own T.hdC on rfl l1) (handed_of ry) ⟨v, H1, I1.tok _, ry, q⟩
end Gn
set_option Elab.async false
set_option linter.all false
set_option maxRecDepth 100000
set_option maxHeartbeats 4000000
/-! isinstance of such a value, with a dict or none -/
namespace PySem.W
open PySem PySem.Spec PySem.Calls PyProof.Rows
section
variable {P : Program} {w : World} {A : Around} {E : Value → Shared → Prop} {s : Shared} {K : Frag} {x D : Addr} {ox : Obj} {od : Option Obj}
theorem gn_found {C : Addr} {n : Str} {a g : Value} (hc : (clsIn K C).isSome = true) (ha : findIn K (.ref C) n = some (some a)) (hg : specialIn K a "__get__" = some (some g)) (ht : takesIn K a = some true) : findObj K C od n = some (.bind g a) := by
  obtain ⟨cd, hc⟩ := Option.isSome_iff_exists.mp hc
  unfold findObj
  simp [hc, ha, hg, ht]
theorem gn_class {Q : Option Value → Shared → Prop} (C : L2.ExcC K D) (X : K.In s.heap) (I : InstAt s.heap x ox D od) (h : Q (some (.ref D)) { s with toks := s.toks + 1 }) : wpAny (model P w) A (getAttr? (.ref x) "__class__") Q E s := by
  obtain ⟨hga, hgt, hsub, hdct, ha, hn, htk, hm⟩ := C
  have fd : findObj K D od "__class__" = some (.bind (.builtin "getset_descriptor.__get__") (.builtin "object.__class__")) :=
    gn_found (by
      obtain ⟨cd, z, _⟩ := any_some hdct
      rw [z]
      rfl) ha hn htk
  obtain ⟨hp, g, d, t, os⟩ := s
  have T0 := I.type (M := model P w)
  have T1 := looks_findIn (M := model P w) X hga
  have T2 := looks_findIn (M := model P w) X hgt
  have T3 := looks_find (M := model P w) X I fd
  have isB : Looks (model P w) hp (isInstance (.ref x) (.type "BaseException")) true := T0.andThen (looks_subIn X hsub)
  have n0 : (false && onTheHeap (Value.builtin "BaseException.__getattribute__")) = false := rfl
  have n2 : (Value.builtin "BaseException.__getattribute__" == Value.builtin "object.__getattribute__") = false := by decide +kernel
  have n1 : (onTheHeap (Value.ref D) && Value.builtin "BaseException.__getattribute__" == Value.builtin "object.__getattribute__") = false := by
    rw [n2]
    rfl
  unfold getAttr? getAttrBy? getAttrBy
  refine wpAny_bind (wpAny_mkText (wpAny_bind (wpAny_attempt (wpAny_holding (wpAny_bind (T0.at (wpAny_bind (T1.at ?_))))))))
  show wpAny _ _ (if (onTheHeap (Value.ref D) && Value.builtin "BaseException.__getattribute__" == Value.builtin "object.__getattribute__") = true then _ else _) _ _ _
  rw [n1, if_neg Bool.false_ne_true]
  unfold getAttrByItsOwn hookBefore
  refine wpAny_bind ?_
  rw [if_pos (show onTheHeap (Value.ref D) = true from rfl)]
  refine T2.at ?_
  refine wpAny_bind (wpAny_attempt (wpAny_holding ?_))
  unfold callGetattribute
  rw [n0, if_neg Bool.false_ne_true]
  unfold boundAndCalled
  rw [PySem.F.excAttr_ValueError.ga.bind (.ref x)]
  refine wpAny_bind (wpAny_pure ?_)
  show wpAny _ _ (call (.builtin "BaseException.__getattribute__") [.ref x, .str "__class__" t]) _ _ _
  refine wpAny_call (codeAny_call_builtin PySem.F.excAttr_ValueError.ga.plain PySem.F.entry_bexc_ga ?_)
  refine @check_slot (model P w) _ _ ⟨hp, g, d, t + 1, os⟩ "BaseException.__getattribute__" "BaseException" "__getattribute__" (.ref x)
    [.str "__class__" t] [] _ (by decide +kernel) (by decide +kernel) isB (PySem.F.args_bexc_ga (.ref x) (.str "__class__" t)) ?_
  unfold Builtin.«object.__getattribute__»
  refine wpAny_bind (wpAny_of_eq (a := ((Value.ref x : Value), [Value.str "__class__" t])) (by first
    | rfl
    | (simp only [slotArgs]; rfl)) ?_)
  refine wpAny_bind (wpAny_pure (wpAny_bind (T0.at (wpAny_bind (T3.at ?_)))))
  show wpAny _ _ (holding [Value.builtin "object.__class__"] (call (.builtin "getset_descriptor.__get__") [.builtin "object.__class__", .ref x, .ref D]) >>= ret) _ _ _
  refine wpAny_bind (wpAny_holding (wpAny_call (class_get (s := ⟨hp, g, d, t + 1, os⟩) (ox := ox) (od := od) X I hm ?_)))
  refine wpAny_pure ?_
  show wpAny _ _ (handedOut (.ref D)) _ _ _
  rw [handedOut_of (v := .ref D) rfl]
  first
    | exact wpAny_pure (wpAny_pure h)
    | exact wpAny_pure h
    | exact wpAny_pure (wpAny_bind (wpAny_pure (wpAny_pure h)))
theorem gn_kit (C : L2.ExcC K D) : KitX K (.ref x) (.ref D) (fun h => ∃ ox od, InstAt h x ox D od) where
  ty := fun _ _ _ ⟨_, _, I⟩ => I.type
  it := fun _ _ X _ => by
    obtain ⟨cdD, z, _⟩ := any_some C.hd
    unfold clsIn at z
    split at z
    · rename_i c' d' cd' sl' ho
      intro A' Q' E' s' k q
      unfold isType loadHead
      exact wpAny_bind (wpAny_loadPart (k _ _ (X _ _ ho)) (wpAny_pure q))
    · cases z
  ne := fun h tp dd its n sl X htp => by
    obtain ⟨cdD, z, _⟩ := any_some C.hd
    refine Bool.eq_false_iff.mpr fun q => ?_
    have e : D = tp := Value.ref.inj (beq_iff_eq.mp q)
    subst e
    unfold clsIn at z
    split at z
    · rename_i c' d' cd' sl' ho
      have y := (X _ _ ho).symm.trans htp
      cases y
    · cases z
  ca := fun X ⟨_, _, I⟩ k => gn_class C X I k
end
end PySem.W
namespace Gn
open PySem PySem.Spec PyProof.Rows L2
theorem inst_any {X : Cx} {pins : List (Addr × Obj)} {σ : L2.St} {H : Hp} {s : Shared} {a C : Addr} {d : Option Addr} (I : Inv X pins σ H s) (ea : H a = some (exo a C d)) (hd : ∀ y, d = some y → ∃ fs, H y = some (exd y fs)) :
    ∃ ox od, PySem.W.InstAt s.heap a ox C od := by
  cases d with
  | none =>
    obtain ⟨t1, ho⟩ := exo_at I.hok ea
    exact ⟨_, none, ho, rfl, rfl, trivial⟩
  | some y =>
    obtain ⟨fs, ed⟩ := hd y rfl
    obtain ⟨ox, od, J, _⟩ := inst_at I ea ed
    exact ⟨ox, _, J⟩
/-- isinstance(e, c), e an own exception that is kept -/
def rIsO (K : PySem.W.Frag) : List V → Hp → VK → Prop := fun xs H Q => ∃ (a D : Addr) (d : Option Addr) (c : V) (cv : Value) (b : Bool), xs = [.ref a, c] ∧ ExcC K D ∧ H a = some (exo a D d) ∧ (∀ y, d = some y → ∃ fs, H y = some (exd y fs)) ∧
  (∀ u, RelV c u → u = cv) ∧ PySem.W.kitOne K (.ref D) cv = some b ∧ Q (.bl b) H
theorem cr_isO {X : Cx} : CallR X (.builtin "isinstance") (rIsO X.K) := by
  intro pins s σ H xs us Q I r h
  obtain ⟨a, D, d, c, cv, b, rfl, C, ea, hd, hcv, e, q⟩ := h
  cases r with
  | cons rx rr =>
    cases rr with
    | cons rt rr =>
      cases rr
      cases rx
      have ec := hcv _ rt
      subst ec
      exact PySem.W.kia_one (PySem.W.gn_kit C) I.kIn (inst_any I ea hd) e (fun z => nomatch z) fun tk => ⟨.bl b, H, I.kept (t' := tk) fun _ _ z => z, rfl, q⟩
/-- isinstance(e, c), e the exception that the suite holds, with a dict or none -/
def rIsH (K : PySem.W.Frag) (D a : Addr) (d : Option Addr) : List V → Hp → VK → Prop := fun xs H Q => ∃ (c : V) (cv : Value) (b : Bool), xs = [.ref a, c] ∧ (∀ y, d = some y → ∃ fs, H y = some (.xd fs)) ∧ (∀ u, RelV c u → u = cv) ∧ PySem.W.kitOne K (.ref D) cv = some b ∧ Q (.bl b) H
theorem cr_isH {X : Cx} {a D : Addr} {d : Option Addr} {oe : Obj} {pn : List (Addr × Obj)} (C : ExcC X.K D) (hz : Zc (.ref D) d oe) (hf : ∃ vs, oe.data = .fields vs) : CallR (X.suite a ((a, oe) :: pn)) (.builtin "isinstance") (rIsH X.K D a d) := by
  intro pins s σ H xs us Q I r h
  obtain ⟨c, cv, b, rfl, hd, hcv, e, q⟩ := h
  cases r with
  | cons rx rr =>
    cases rr with
    | cons rt rr =>
      cases rr
      cases rx
      have ec := hcv _ rt
      subst ec
      obtain ⟨at0, _⟩ := I.pin (a, oe) (List.mem_append.mpr (.inl List.mem_cons_self))
      obtain ⟨vs, hv⟩ := hf
      have J : ∃ ox od, PySem.W.InstAt s.heap a ox D od := by
        obtain ⟨oc, dd, oda, osl⟩ := oe
        obtain ⟨h1, h2⟩ := hz
        dsimp only at h1 h2 hv
        subst h1 h2 hv
        cases dd with
        | none => exact ⟨_, none, at0, rfl, rfl, trivial⟩
        | some y =>
          obtain ⟨fs, ed⟩ := hd y rfl
          obtain ⟨mA, hns, _⟩ := (show ObjOk X.prog X.w H s.heap y (.xd fs) from I.hok y _ ed)
          obtain ⟨od, ho, _⟩ := lookIn_ns hns
          exact ⟨_, some od, at0, rfl, rfl, ho⟩
      exact PySem.W.kia_one (PySem.W.gn_kit C) I.kIn J e (fun z => nomatch z) fun tk => ⟨.bl b, H, I.kept (t' := tk) fun _ _ z => z, rfl, q⟩
end Gn
set_option Elab.async false
set_option linter.all false
set_option maxRecDepth 100000
set_option maxHeartbeats 4000000
/-! the same made by keywords -/
namespace Gn
open PySem PySem.Spec PyProof.Rows L2
section
variable {M : Model} {A : Around} {E : Value → Shared → Prop} {h : Heap} {g : Array GenState} {d : Drawn} {t : Nat} {os : OsState}
variable {nm q : Str} {C N : Addr} {bs bm tl : List Value} {hd : Bool} {sn : List Str} {sub : List Value} {ab : Bool} {col : Option Bool} {dd : Option Addr} {k0 k1 k2 k3 k5 : Option Value} {B nw it : String} {rest : List Value} {kw : List (Str × Value)}
theorem kw_new_check (T : ExcBaseFacts B nw it tl) (pt : ∀ n : String, bm.contains (.type n) = tl.contains (.type n)) {Q : Unit → Shared → Prop}
    (lk : h.get? C = some (excClassObj nm q C N bs bm hd sn sub ab col dd k0 k1 k2 k3 k5 nw)) (fin : Q () ⟨h, g, d, t, os⟩) : wpAny M A (checkBuiltinCall nw ⟨.ref C :: rest, kw⟩) Q E ⟨h, g, d, t, os⟩ := by
  have inB : (Value.ref C :: bm).contains (.type B) = true := by
    rw [List.contains_cons, pt, T.hasB, Bool.or_true]
  have ns := T.noStar
  simp only [checkBuiltinCall, T.newKind, T.newSplit, T.newRow]
  repeat (first
    | refine wpAny_loadPart_at lk ?_
    | (refine wpAny_isSubtype_exc lk ?_; rw [inB])
    | refine wpAny_staticBase_exc lk ?_
    | refine wpAny_madeBy_exc lk ?_
    | simp only [bne_self_eq_false, Bool.false_eq_true, if_false]
    | wp_step)
  exact fin
end
section
variable {P : Program} {w : World} {A : Around} {E : Value → Shared → Prop} {R : Result → Shared → Prop} {h : Heap} {g : Array GenState} {d : Drawn} {t : Nat} {os : OsState}
variable {nm q : Str} {C N : Addr} {bs bm tl : List Value} {hd : Bool} {sn : List Str} {sub : List Value} {ab : Bool} {col : Option Bool} {dd : Option Addr} {k0 k1 k2 k3 k5 : Option Value} {B nw it : String} {rest : List Value} {kw : List (Str × Value)} {fI : Addr}
theorem kw_new (T : ExcBaseFacts B nw it tl) (pt : ∀ n : String, bm.contains (.type n) = tl.contains (.type n)) (lk : h.get? C = some (excClassObj nm q C N bs bm hd sn sub ab col dd k0 k1 k2 k3 k5 nw))
    (fin : R (.ok (.ret (.ref (h.objs.size + 1)))) ⟨(h.push (PySem.W.kdv_tup rest)).push (PySem.HandSPX.excO C h.objs.size), g, d, t, os⟩) (few : rest.length ≤ sizeLine) : codeAny (model P w) A (.builtin nw ⟨.ref C :: rest, kw⟩) R ⟨h, g, d, t, os⟩ := by
  have y0 := T.ends
  have y1 : (Value.ref C :: bm).contains (.type B) = true := by
    rw [List.contains_cons, pt, T.hasB, Bool.or_true]
  have y2 : (Value.ref C :: bm).contains (.type "AttributeError") = false := by
    rw [List.contains_cons, pt, T.noAttr]
    rfl
  have y3 : (Value.ref C :: bm).contains (.type "NameError") = false := by
    rw [List.contains_cons, pt, T.noName]
    rfl
  refine codeAny_builtinAt T.entry ?_
  unfold Builtin.«BaseException.__new__»
  refine PySem.wpAt_bind ?_
  show PySem.wpAt _ _ _ (stack >>= _) _ _ _
  refine PySem.wpAt_bind (PySem.wpAt_stack fun p below => PySem.wpAt_of_wpAny ?_)
  wp_walk
  refine PySem.wpAt_of_wpAny ?_
  rw [T.owner]
  repeat (first
    | with_reducible refine wpAny_madeHere_exc T.canon lk ?_
    | with_reducible refine wpAny_loadPart_at lk ?_
    | (with_reducible refine wpAny_isSubtype_exc lk ?_; first | rw [y1] | rw [y2] | rw [y3])
    | wp_step)
  show R _ _
  rw [Heap.size_push]
  exact fin
theorem kw_type_call (T : ExcBaseFacts B nw it tl) (pt : ∀ n : String, bm.contains (.type n) = tl.contains (.type n)) {Q : Fin → Shared → Prop} (lk : h.get? C = some (excClassObj nm q C N bs bm hd sn sub ab col dd k0 k1 k2 k3 k5 nw))
    (li : PySem.W.Looks (model P w) h (typeLookup (.ref C) "__init__") (some (.ref fI))) (lb : ∀ me, PySem.W.Looks (model P w) h (bindSpecial (.ref fI) me) (.ref fI, [me])) (few : rest.length ≤ sizeLine)
    (fin : codeAny (model P w) A (.call (.ref fI) ⟨.ref (h.objs.size + 1) :: rest, kw⟩) (fun r s' => match r with | .ok (.ret v) => v = .none ∧ Q (.done (.ret (.ref (h.objs.size + 1)))) s' | .ok _ => False | .error e => E e s')
      ⟨(h.push (PySem.W.kdv_tup rest)).push (PySem.HandSPX.excO C h.objs.size), g, d, t, os⟩) : wpAny (model P w) A (Builtin.«type.__call__» ⟨.ref C :: rest, kw⟩) Q E ⟨h, g, d, t, os⟩ := by
  repeat (first
    | with_reducible refine wpAny_loadPart_at lk ?_
    | with_reducible refine wpAny_madeBy_exc lk ?_
    | wp_step)
  refine codeAny_call_builtin_code (Code.quiet_builtin _ T.quiet) (kw_new_check T pt lk ?_)
  refine kw_new T pt lk ?_ few
  show wpAny _ _ _ _ _ _
  have kp : ∀ b o, h.get? b = some o → ((h.push (PySem.W.kdv_tup rest)).push (PySem.HandSPX.excO C h.objs.size)).get? b = some o := fun b o z =>
    Heap.get?_push_of_some _ (Heap.get?_push_of_some _ z)
  have lk1 := kp _ _ lk
  have at1 : ((h.push (PySem.W.kdv_tup rest)).push (PySem.HandSPX.excO C h.objs.size)).get? (h.objs.size + 1) = some (PySem.HandSPX.excO C h.objs.size) := by heap_get
  have inC : (Value.ref C :: bm).contains (.ref C) = true := by simp
  have i1 := li.keeps kp
  have b1 := (lb (.ref (h.objs.size + 1))).keeps kp
  unfold isInstance
  repeat (first
    | with_reducible refine wpAny_loadPart_at at1 ?_
    | (with_reducible refine wpAny_isSubtype_exc lk1 ?_; rw [inC])
    | wp_step)
  show wpAny _ _ (typeLookup (.ref C) _) _ _ _
  refine i1.at ?_
  refine wpAny_holding (wpAny_bind (b1.at ?_))
  refine wpAny_bind (wpAny_call (codeAny_mono fin fun r s' z => ?_))
  rcases r with e | (v | _ | _ | _)
  · exact z
  all_goals first
    | exact False.elim z
    | skip
  obtain ⟨rfl, z⟩ := z
  first
    | exact wpAny_pure (wpAny_pure z)
    | (wp_walk; exact z)
theorem kw_call (T : ExcBaseFacts B nw it tl) (pt : ∀ n : String, bm.contains (.type n) = tl.contains (.type n)) (lk : h.get? C = some (excClassObj nm q C N bs bm hd sn sub ab col dd k0 k1 k2 k3 k5 nw))
    (li : PySem.W.Looks (model P w) h (typeLookup (.ref C) "__init__") (some (.ref fI))) (lb : ∀ me, PySem.W.Looks (model P w) h (bindSpecial (.ref fI) me) (.ref fI, [me])) (few : rest.length ≤ sizeLine)
    (fin : codeAny (model P w) (A.under (.builtin "type.__call__" ⟨.ref C :: rest, kw⟩)) (.call (.ref fI) ⟨.ref (h.objs.size + 1) :: rest, kw⟩) (PySem.W.InitBack (h.objs.size + 1) R) ⟨(h.push (PySem.W.kdv_tup rest)).push (PySem.HandSPX.excO C h.objs.size), g, d, t, os⟩) :
    codeAny (model P w) A (.call (.ref C) ⟨rest, kw⟩) R ⟨h, g, d, t, os⟩ := by
  have f1 := tc_lookup
  have f2 := tc_bind (.ref C)
  have ty : (⟨h, g, d, t, os⟩ : Shared).TypeIs (.ref C) "type" := ⟨_, lk, rfl⟩
  have isT : PySem.W.Looks (model P w) h (isInstance (.ref C) (.type "type")) true := by
    intro A' Q' E' s' k q
    have lk2 := k _ _ lk
    have f3 := tc_sub
    unfold isInstance
    obtain ⟨h', g', d', t', os'⟩ := s'
    repeat (first
      | assumption
      | with_reducible refine wpAny_loadPart_at lk2 ?_
      | wp_step)
  refine codeAny_of_tree ?_
  show wpAny _ _ (callAny (.ref C) _) _ _ _
  repeat (any_goals (first
    | assumption
    | with_reducible refine wpAny_loadPart_at lk ?_
    | wp_step))
  refine ⟨rfl, ?_⟩
  refine codeAny_call_builtin_at (Code.quiet_builtin _ (by decide +kernel)) entry_typeCall (@PySem.W.check_slot (model P w) _ _ _ "type.__call__" "type" "__call__" (.ref C) rest kw _ tc_kind tc_split isT (PySem.W.tc_args _ _ _) (kw_type_call T pt lk li lb few ?_))
  refine codeAny_mono fin fun r s' z => ?_
  rcases r with e | (v | _ | _ | _) <;> exact z
end
end Gn
set_option Elab.async false
set_option linter.all false
set_option maxRecDepth 100000
set_option maxHeartbeats 4000000
namespace Gn
open PySem PySem.Spec PyProof.Rows L2
/-- C(k = e, ..) kept -/
def tOwnK (C : Addr) (m : Nat) (sp : Sp) (gV : List V → List V → List V) (tk : TA) : TE := fun σ H Q => tk σ H fun zs H1 => zs.length = m ∧ ∀ a, H1 a = none →
  sp (gV [.ref a] zs) (upd H1 a (exo a C none)) (fun v H2 => v = .non ∧ Q (.ref a) H2) (fun _ _ _ => False)
section
variable {X : Cx} {tk : TA} {kws : List Keyword} {p pos : Pos}
theorem own_madeK {CX : CXT} {C fI : Addr} {k : Nat} {fd : FuncData} {ps ks : List Str} {sp : Sp} {ws : List Value} {zs : List V} {g : List Value → List Value → List Value} {gV : List V → List V → List V} {pins : List (Addr × Obj)} {σ : L2.St} {H1 : Hp} {s1 : Shared} {Q : VK} (T : OwC X.K C)
    (iC : PySem.W.findIn X.K (.ref C) "__init__" = some (some (.ref fI))) (tI : PySem.W.typeIn X.K (.ref fI) = some (.type "function")) (F1 : FnOk X.prog X.w X.K X.mg X.base CX k fI fd ps sp) (hr : Room (k + 1) X.A) (hb : KBn X.K fd ps 1 ks g gV)
    (hx : Passes CX X (fun _ _ _ => False)) (I1 : Inv X pins σ H1 s1) (rz : Vals zs ws) (lz : zs.length = ks.length) (q1 : ∀ a, H1 a = none → sp (gV [.ref a] zs) (upd H1 a (exo a C none)) (fun v H2 => v = .non ∧ Q (.ref a) H2) (fun _ _ _ => False)) :
    wpAny (model X.prog X.w) X.A (call (.ref C) [] (ks.zip ws)) (EP X pins σ Q) X.xe s1 := by
  obtain ⟨nm, q, N, bs, bm, sn, sub, ab, col, dd, k0, k1, k2, k3, k5, B, nw, it, tl, lk, pt, TB⟩ := T.cls
  obtain ⟨hp, gg, dr, tok, os⟩ := s1
  have up : hp.objs.size ≤ hp.objs.size + 1 := Nat.le_succ _
  have hn : H1 (hp.objs.size + 1) = none := I1.hok.fresh up
  have hq := q1 (hp.objs.size + 1) hn
  have kk : ∀ b o, hp.get? b = some o → ((hp.push (PySem.W.kdv_tup [])).push (PySem.HandSPX.excO C hp.objs.size)).get? b = some o := fun b o z =>
    Heap.get?_push_of_some _ (Heap.get?_push_of_some _ z)
  have got : ((hp.push (PySem.W.kdv_tup [])).push (PySem.HandSPX.excO C hp.objs.size)).get? (hp.objs.size + 1) = some (PySem.HandSPX.excO C hp.objs.size) := by heap_get
  have I2 := I1.laid (t' := tok) (a := hp.objs.size + 1) (o := exo (hp.objs.size + 1) C none) kk up (exo_ok got)
  have rs : Vals [V.ref (hp.objs.size + 1)] [Value.ref (hp.objs.size + 1)] := .cons rfl .nil
  have r2 := hb.rel rs rz
  have l2 : ws.length = ks.length := rz.length.symm.trans lz
  refine wpAny_call (kw_call TB.ex (fun n => pt.has n) (I1.kIn _ _ lk) (PySem.W.looks_findIn I1.kIn iC) (fun me => PySem.W.bind_fn I1.kIn me tI) (by rw [sizeLine_eq]; decide) (codeAny_mono
    (F1.run _ X.stack _ _ ⟨[Value.ref (hp.objs.size + 1)], ks.zip ws⟩ (g [Value.ref (hp.objs.size + 1)] ws) _ _ (fun _ _ _ => False) (hr.make C [] (ks.zip ws)) (I2.env0.make C [] (ks.zip ws)) (hb.to _ [Value.ref (hp.objs.size + 1)] ws I2.kIn rfl l2) r2 hq) fun r s' z => ?_))
  cases r with
  | error er => exact hx pins σ _ _ er s' I2 z
  | ok fl =>
    cases fl with
    | ret u =>
      obtain ⟨v, H2, os2, bare2, un2, hok2, rv, ev, q2⟩ := z
      subst ev
      obtain ⟨h2, g2, d2, t2, os'⟩ := s'
      exact ⟨rv, .ref (hp.objs.size + 1), H2, I1.call' (ch := []) os2 ((Un.laid kk up hn).trans un2) hok2 bare2 (fun b y => absurd y (by simp)), rfl, q2⟩
    | next => exact False.elim z
    | brk => exact False.elim z
    | cont => exact False.elim z
theorem pe_ownK {CX : CXT} {x : Str} {C fI : Addr} {k : Nat} {fd : FuncData} {ps ks : List Str} {sp : Sp} {g : List Value → List Value → List Value} {gV : List V → List V → List V} (T : OwC X.K C) (iC : PySem.W.findIn X.K (.ref C) "__init__" = some (some (.ref fI)))
    (tI : PySem.W.typeIn X.K (.ref fI) = some (.type "function")) (F1 : FnOk X.prog X.w X.K X.mg X.base CX k fI fd ps sp) (hr : Room (k + 1) X.A) (hb : KBn X.K fd ps 1 ks g gV) (hx : Passes CX X (fun _ _ _ => False)) (hg : Gl X x)
    (hm : X.mg x = some (.ref C)) (hkw : PK X kws tk) (hall : (backToKw pos (keywordEach kws X.env)).all (·.1.isSome) = true := by rfl) (hks : (backToKw pos (keywordEach kws X.env)).filterMap (·.1) = ks := by rfl) (hdb : (x == ("__debug__" : Str)) = false := by decide)
    (hpl : ((backTo pos (starEach [] X.env)).any (·.1) || (backToKw pos (keywordEach kws X.env)).any (·.1.isNone)) = false := by rfl) :
    PE X (.Call (.Name x p) [] kws pos) (tOwnK C ks.length sp gV tk) := ⟨fun pins s σ H Q I h =>
  wpAny_Call_Name_kw (ld_glob I hg hm (PySem.W.callWith_KW0 (h₀ := X.base) I.ok.mod.kin T.kC hall (thn (hkw.run pos pins s σ H _ I h) fun ws s2 ⟨zs, H2, I2, rz, lz, q2⟩ => ⟨I2.kIn, by
    rw [hks]
    exact own_madeK T iC tI F1 hr hb hx I2 rz lz q2⟩) hpl) hdb)⟩
end
/-! one keyword, and two the other way round, behind the object itself -/
def kq1 {α : Type} : List α → List α → List α
  | [s], [a] => [s, a]
  | _, _ => []
def kq2s {α : Type} : List α → List α → List α
  | [s], [a, b] => [s, b, a]
  | _, _ => []
section
variable {K : PySem.W.Frag} {fd : FuncData}
theorem kn1 {p0 p : Str} (h : ∀ s a : Value, bindArgs fd ⟨[s], [(p, a)]⟩ = pure [(p0, s), (p, a)]) : KBn K fd [p0, p] 1 [p] kq1 kq1 :=
  ⟨fun s us ws _ l1 l2 => match us, ws, l1, l2 with
    | [x], [a], _, _ => .of_eq (h x a), fun {vs us zs ws} r rz => by
    cases r with
    | nil => exact .nil
    | cons a b => cases b with
      | nil => cases rz with
        | nil => exact .nil
        | cons c d => cases d with
          | nil => exact .cons a (.cons c .nil)
          | cons _ _ => exact .nil
      | cons _ _ => exact .nil⟩
theorem kn2s {p0 p q : Str} (h : ∀ s a b : Value, bindArgs fd ⟨[s], [(q, b), (p, a)]⟩ = pure [(p0, s), (p, a), (q, b)]) : KBn K fd [p0, p, q] 1 [q, p] kq2s kq2s :=
  ⟨fun s us ws _ l1 l2 => match us, ws, l1, l2 with
    | [x], [b, a], _, _ => .of_eq (h x a b), fun {vs us zs ws} r rz => by
    cases r with
    | nil => exact .nil
    | cons a b => cases b with
      | nil => cases rz with
        | nil => exact .nil
        | cons c d => cases d with
          | nil => exact .nil
          | cons e f => cases f with
            | nil => exact .cons a (.cons e (.cons c .nil))
            | cons _ _ => exact .nil
      | cons _ _ => exact .nil⟩
end
end Gn
set_option Elab.async false
set_option linter.all false
set_option maxRecDepth 100000
set_option maxHeartbeats 4000000
/-! own exceptions whose __init__ keeps what is passed -/
namespace Gn
open PySem PySem.Spec PyProof.Rows L2
/-- at a: an exception of the class at C that has these fields -/
def Kept (H : Hp) (a C : Addr) (fs : List (Str × V)) : Prop := (fs = [] ∧ H a = some (exo a C none)) ∨ ∃ d, H a = some (exo a C (some d)) ∧ H d = some (exd d fs)
theorem Kept.same {H H' : Hp} {a C : Addr} {fs : List (Str × V)} (h : Kept H a C fs) (e : Same H H') : Kept H' a C fs := by
  rcases h with ⟨z, h⟩ | ⟨d, h1, h2⟩
  · exact .inl ⟨z, e _ _ h⟩
  · exact .inr ⟨d, e _ _ h1, e _ _ h2⟩
/-- the same, its dict new -/
def NewE (H H' : Hp) (a C : Addr) (fs : List (Str × V)) : Prop := (fs = [] ∧ H' a = some (exo a C none)) ∨ ∃ d, H d = none ∧ H' a = some (exo a C (some d)) ∧ H' d = some (exd d fs)
theorem NewE.kept {H H' : Hp} {a C : Addr} {fs : List (Str × V)} (h : NewE H H' a C fs) : Kept H' a C fs := by
  rcases h with h | ⟨d, _, h⟩
  · exact .inl h
  · exact .inr ⟨d, h⟩
/-- all but a is as it was -/
def But (H H' : Hp) (a : Addr) : Prop := ∀ b o, b ≠ a → H b = some o → H' b = some o
def spIni (K : PySem.W.Frag) (fl : List Str) : Sp := fun vs H Q _ => ∃ (a C : Addr) (xs : List V), vs = .ref a :: xs ∧ xs.length = fl.length ∧ OwC K C ∧ (∀ f ∈ fl, PySem.W.findIn K (.ref C) f = some none) ∧ H a = some (exo a C none) ∧
  ∀ H', But H H' a → NewE H H' a C (fl.zip xs).reverse → Q .non H'
section
variable {P : Program} {w : World} {K : PySem.W.Frag} {mg : Str → Option Value} {base : Heap} {f : Addr} {fd : FuncData} {qual : Str} {st : Stmt}
theorem but_put {H : Hp} {a d : Addr} {o o' : HO} (hd : H d = none) : But H (upd (upd H d o) a o') a := fun b u hb z => by
  rw [upd_ne hb, upd_ne (ne_of_none z hd)]
  exact z
theorem ini0 {pos : Pos} (F : Fun K "__init__" qual st f fd) (S : FnScope ["self"] ["self"] (defScope st)) (hb : defBody st = [.Pass pos]) : FnOk P w K mg base CX0 1 f fd ["self"] (spIni K []) := by
  refine F.ok S (fun vs H Q E h => ?_) (fun cdv A outer s H vs Q E hr h => ?_)
  · obtain ⟨a, C, xs, rfl, l, _⟩ := h
    cases xs with
    | nil => rfl
    | cons _ _ => cases l
  · obtain ⟨a, C, xs, rfl, l, _, _, ea, q⟩ := h
    rw [hb]
    match xs, l with
    | [], _ => exact ⟨_, pss_one ps_pass, q H (fun b o _ z => z) (.inl ⟨rfl, ea⟩)⟩
theorem ini1 {n : Str} {p1 p2 p3 pos : Pos} (F : Fun K "__init__" qual st f fd) (S : FnScope ["self", n] ["self", n] (defScope st)) (hb : defBody st = [.Assign [.Attribute (.Name "self" p1) n p2] (.Name n p3) pos])
    (v0 : Vis (defScope st) "self") (v1 : Vis (defScope st) n) (d1 : (n == ("__debug__" : Str)) = false) (c1 : (n == ("__classdict__" : Str)) = false) :
    FnOk P w K mg base CX0 1 f fd ["self", n] (spIni K [n]) := by
  refine F.ok S (fun vs H Q E h => ?_) (fun cdv A outer s H vs Q E hr h => ?_)
  · obtain ⟨a, C, xs, rfl, l, _⟩ := h
    rw [List.length_cons, l]
    rfl
  · obtain ⟨a, C, xs, rfl, l, T, no, ea, q⟩ := h
    rw [hb]
    match xs, l with
    | [x], _ =>
      refine ⟨_, pss_one (ps_put (pv 0 rfl v0) (pv 1 rfl v1 d1 c1)), ?_⟩
      exact ⟨_, rfl, _, rfl, a, C, rfl, T, no n (List.mem_singleton.mpr rfl), .inl ⟨ea, fun d hd ne => q _ (but_put hd) (.inr ⟨d, hd, upd_same, by rw [upd_ne ne, upd_same]; rfl⟩)⟩⟩
theorem ini2 {n m : Str} {p1 p2 p3 p4 p5 p6 pos pos' : Pos} (F : Fun K "__init__" qual st f fd) (S : FnScope ["self", n, m] ["self", n, m] (defScope st))
    (hb : defBody st = [.Assign [.Attribute (.Name "self" p1) n p2] (.Name n p3) pos, .Assign [.Attribute (.Name "self" p4) m p5] (.Name m p6) pos'])
    (v0 : Vis (defScope st) "self") (v1 : Vis (defScope st) n) (d1 : (n == ("__debug__" : Str)) = false) (c1 : (n == ("__classdict__" : Str)) = false) (v2 : Vis (defScope st) m) (d2 : (m == ("__debug__" : Str)) = false) (c2 : (m == ("__classdict__" : Str)) = false) :
    FnOk P w K mg base CX0 1 f fd ["self", n, m] (spIni K [n, m]) := by
  refine F.ok S (fun vs H Q E h => ?_) (fun cdv A outer s H vs Q E hr h => ?_)
  · obtain ⟨a, C, xs, rfl, l, _⟩ := h
    rw [List.length_cons, l]
    rfl
  · obtain ⟨a, C, xs, rfl, l, T, no, ea, q⟩ := h
    rw [hb]
    match xs, l with
    | [x, y], _ =>
      refine ⟨_, pss_cons (ps_put (pv 0 rfl v0) (pv 1 rfl v1 d1 c1)) (pss_one (ps_put (pv 0 rfl v0) (pv 2 rfl v2 d2 c2))), ?_⟩
      refine ⟨_, rfl, _, rfl, a, C, rfl, T, no n (by simp), .inl ⟨ea, fun d hd ne => ?_⟩⟩
      refine ⟨_, rfl, _, rfl, a, C, rfl, T, no m (by simp), .inr ⟨d, _, upd_same, by rw [upd_ne ne, upd_same], by show 1 ≤ 900; decide, ?_⟩⟩
      refine q _ (fun b o hb z => ?_) (.inr ⟨d, hd, by rw [upd_ne (Ne.symm ne), upd_same], upd_same⟩)
      rw [upd_ne (ne_of_none z hd), upd_ne hb, upd_ne (ne_of_none z hd)]
      exact z
end
/-- such a class of the text: its name, the fields in the order of its parameters -/
structure OwE (P : Program) (w : World) (K : PySem.W.Frag) (mg : Str → Option Value) (base : Heap) (nm : Str) (fl : List Str) (C f : Addr) (fd : FuncData) : Prop where
  own : OwC K C
  ini : PySem.W.findIn K (.ref C) "__init__" = some (some (.ref f))
  ty : PySem.W.typeIn K (.ref f) = some (.type "function")
  xf : XfC K C
  ex : ExcC K C
  no : ∀ n ∈ fl, PySem.W.findIn K (.ref C) n = some none
  g : mg nm = some (.ref C)
  run : FnOk P w K mg base CX0 1 f fd ("self" :: fl) (spIni K fl)
  b : Binds K fd ("self" :: fl) []
def tMk (C : Addr) (fl : List Str) (ta : TA) : TE := fun σ H Q => ta σ H fun vs H1 => vs.length = fl.length ∧ ∀ a H2, Same H1 H2 → Kept H2 a C (fl.zip vs).reverse → Q (.ref a) H2
def tMkK (C : Addr) (fl : List Str) (gV : List V → List V) (n : Nat) (ta : TA) : TE := fun σ H Q => ta σ H fun zs H1 => zs.length = n ∧ ∀ a H2, Same H1 H2 → Kept H2 a C (fl.zip (gV zs)).reverse → Q (.ref a) H2
theorem PE.imp {X : Cx} {e : Expr} {t t' : TE} (h : PE X e t) (k : ∀ σ H Q, t' σ H Q → t σ H Q) : PE X e t' := ⟨fun pins s σ H Q I z => h.run pins s σ H Q I (k σ H Q z)⟩
theorem same_but {H H2 : Hp} {a : Addr} {o : HO} (ha : H a = none) (h : But (upd H a o) H2 a) : Same H H2 := fun b u z => h b u (ne_of_none z ha) (by rw [upd_ne (ne_of_none z ha)]; exact z)
section
variable {X : Cx} {nm : Str} {fl : List Str} {C f : Addr} {fd : FuncData} {e : Expr} {es : List Expr} {ta : TA} {p pos : Pos}
theorem pe_mk (T : OwE X.prog X.w X.K X.mg X.base nm fl C f fd) (hl : fl.length ≤ 1000) (hr : Room 2 X.A) (hg : Gl X nm) (hx : Passes CX0 X (fun _ _ _ => False)) (ha : PA X (e :: es) ta) (hdb : (nm == ("__debug__" : Str)) = false := by decide)
    (he : starEach (e :: es) X.env = (false, eval e X.env) :: starEach es X.env := by rfl) (hpl : (backTo pos (starEach es X.env)).any (·.1) = false := by rfl) : PE X (.Call (.Name nm p) (e :: es) [] pos) (tMk C fl ta) :=
  ⟨fun pins s σ H Q I h => wpAny_Call_Name_kw (ld_glob I hg T.g (PySem.W.callWith_K (h₀ := X.base) I.ok.mod.kin T.own.kC (thn (ha.run pos pins s σ H _ I h) fun us s1 ⟨vs, H1, I1, r1, l, k⟩ => ⟨I1.kIn,
    own_made (dvs := []) T.own T.ini T.ty T.run hr T.b .nil hx I1 r1 (fun a n => ⟨a, C, vs, by rw [List.append_nil], l, T.own, T.no, upd_same, fun H2 bt kt => ⟨rfl, k a H2 (same_but n bt) kt.kept⟩⟩) (by omega)⟩) he hpl) hdb)⟩
theorem pe_mk0 (T : OwE X.prog X.w X.K X.mg X.base nm [] C f fd) (hr : Room 2 X.A) (hg : Gl X nm) (hx : Passes CX0 X (fun _ _ _ => False)) (hdb : (nm == ("__debug__" : Str)) = false := by decide) :
    PE X (.Call (.Name nm p) [] [] pos) (tMk C [] tNil) :=
  ⟨fun pins s σ H Q I h => wpAny_Call_Name_kw (ld_glob I hg T.g (PySem.W.callWith_K0 I.kIn T.own.kC
    (own_made (us := []) (vs := []) (dvs := []) T.own T.ini T.ty T.run hr T.b .nil hx I .nil (fun a n => ⟨a, C, [], rfl, rfl, T.own, T.no, upd_same, fun H2 bt kt => ⟨rfl, h.2 a H2 (same_but n bt) kt.kept⟩⟩) (by decide))) hdb)⟩
theorem pe_mkK {kws : List Keyword} {tk : TA} {ks : List Str} {g : List Value → List Value → List Value} {gV : List V → List V → List V} (T : OwE X.prog X.w X.K X.mg X.base nm fl C f fd) (hb : KBn X.K fd ("self" :: fl) 1 ks g gV) (hr : Room 2 X.A) (hg : Gl X nm)
    (hgV : ∀ (s : V) (zs : List V), zs.length = ks.length → ∃ ys, gV [s] zs = s :: ys ∧ ys.length = fl.length ∧ ∀ s', gV [s'] zs = s' :: ys) (hx : Passes CX0 X (fun _ _ _ => False)) (hkw : PK X kws tk)
    (hall : (backToKw pos (keywordEach kws X.env)).all (·.1.isSome) = true := by rfl) (hks : (backToKw pos (keywordEach kws X.env)).filterMap (·.1) = ks := by rfl) (hdb : (nm == ("__debug__" : Str)) = false := by decide)
    (hpl : ((backTo pos (starEach [] X.env)).any (·.1) || (backToKw pos (keywordEach kws X.env)).any (·.1.isNone)) = false := by rfl) :
    PE X (.Call (.Name nm p) [] kws pos) (tMkK C fl (fun zs => (gV [.non] zs).tail) ks.length tk) :=
  ⟨fun pins s σ H Q I h => wpAny_Call_Name_kw (ld_glob I hg T.g (PySem.W.callWith_KW0 (h₀ := X.base) I.ok.mod.kin T.own.kC hall (thn (hkw.run pos pins s σ H _ I h) fun ws s2 ⟨zs, H2, I2, rz, lz, q2⟩ => ⟨I2.kIn, by
    rw [hks]
    obtain ⟨ys, e0, l0, e1⟩ := hgV .non zs lz
    exact own_madeK T.own T.ini T.ty T.run hr hb hx I2 rz lz fun a n => ⟨a, C, ys, e1 _, l0, T.own, T.no, upd_same, fun H3 bt kt => ⟨rfl, q2 a H3 (same_but n bt) (by show Kept H3 a C (fl.zip (gV [V.non] zs).tail).reverse; rw [e0]; exact kt.kept)⟩⟩⟩) hpl) hdb)⟩
/-- the rest of what is asked of such a value -/
theorem Kept.at {H : Hp} {a C : Addr} {fs : List (Str × V)} (h : Kept H a C fs) : ∃ d, H a = some (exo a C d) ∧ ∀ y, d = some y → ∃ fs, H y = some (exd y fs) := by
  rcases h with ⟨_, h⟩ | ⟨d, h1, h2⟩
  · exact ⟨none, h, fun y z => nomatch z⟩
  · exact ⟨some d, h1, fun y z => by cases z; exact ⟨_, h2⟩⟩
end
/-- such a one raised: what a handler gets -/
theorem thr_of {K : PySem.W.Frag} {C : Addr} {n : Str} {i : Nat} {x : V} {σ : L2.St} {H : Hp} {Q : XK} (T : OwC K C) (no : PySem.W.findIn K (.ref C) n = some none) (hs : σ[i]? = some (some x))
    (k : ∀ d H', Same H H' → H d = none → H' d = some (.xd [(n, x)]) → Q (.ref C) (some d) H') : tThr C (spIni K [n]) [] (tCons (tVar i) tNil) σ H Q := by
  refine ⟨x, hs, Nat.le_of_ble_eq_true rfl, fun a ha => ⟨a, C, [x], rfl, rfl, T, fun f hf => by rw [List.mem_singleton.mp hf]; exact no, upd_same, fun H2 bt kt => ⟨rfl, .inl ?_⟩⟩⟩
  rcases kt with ⟨z, _⟩ | ⟨d, hd, h1, h2⟩
  · cases z
  · have da : d ≠ a := fun z => by
      rw [z, upd_same] at hd
      cases hd
    have hd1 : H d = none := by
      rw [upd_ne da] at hd
      exact hd
    refine ⟨d, _, h1, h2, hd1, k d _ (fun b o z => ?_) hd1 upd_same⟩
    rw [upd_ne (ne_of_none z hd1), del_ne (ne_of_none z ha)]
    exact bt b o (ne_of_none z ha) (by rw [upd_ne (ne_of_none z ha)]; exact z)
end Gn
set_option Elab.async false
set_option linter.all false
set_option maxRecDepth 100000
set_option maxHeartbeats 4000000
/-! a handler for three classes, whose exception has a name -/
namespace L2
open PySem PySem.Spec PyProof.Rows
/-- what such a handler wants where its body raises -/
def wTri (K : PySem.W.Frag) (cs : List Value) (j : Nat) (su : Addr → Value → Option Addr → TS) (Wo : WX) (D : Ends) : WX := fun C d τ G =>
  ∃ hit, PySem.W.exmAny K C cs = some hit ∧
    (hit = true → ∀ x, G x = none → su x C d { rt := D.rt, nx := fun τ' G' => D.nx (τ'.set j none) G', ct := fun τ' G' => D.ct (τ'.set j none) G', bk := fun τ' G' => D.bk (τ'.set j none) G' } (τ.set j (some (.ref x))) G) ∧
    (hit = false → Wo C d τ G)
def triO (u v z : Value) : Obj := { cls := .type "tuple", data := .seq [u, v, z].toArray }
section
variable {X : Cx} {pins : List (Addr × Obj)} {τ : St} {G : Hp} {t0 t1 : Shared}
theorem ev_named {Q E : Value → Shared → Prop} {x : Str} {c : Value} {ps : Pos} (J : Inv X pins τ G t1) (nm : Names X x c) (z : Q c t1) : wpAny (model X.prog X.w) X.A (eval (.Name x ps) X.env) Q E t1 := by
  obtain ⟨g, nd, m⟩ := nm
  rcases m with e | ⟨e, b, o⟩
  · exact ld_glob J g e z nd
  · exact ld_blt J g e b z o nd
theorem ev_tri {Q E : Value → Shared → Prop} {x y z : Str} {u v r : Value} {p1 p2 p3 pt : Pos} {kk : Nat} (J : Inv X pins τ G t1) (n1 : Names X x u) (n2 : Names X y v) (n3 : Names X z r)
    (q : Q (.ref t1.heap.objs.size) { t1 with heap := t1.heap.push (triO u v r) }) : wpAny (model X.prog X.w) X.A (eval (.Tuple [.Name x p1, .Name y p2, .Name z p3] kk pt) X.env) Q E t1 :=
  wpAny_Tuple (wpAny_items_cons (ev_named J n1 (wpAny_items_cons (ev_named J n2 (wpAny_items_cons (ev_named J n3 (wpAny_items_nil ⟨by size_fits, q⟩)))))))
/-- the handler's side: x flies, as it was told, and all else stands -/
structure Down (X : Cx) (pins : List (Addr × Obj)) (τ : St) (G : Hp) (t0 t1 : Shared) (B : Heap) (x : Addr) (C : Value) (d : Option Addr) : Prop where
  was : Inv X pins τ G t0
  nb : ∀ b o, t0.heap.get? b = some o → b ∉ frs X.stack → B.get? b = some o
  up : t0.heap.UpToSlots t1.heap
  fly : HandSPX.FlyingZ B (X.env :: X.outer) x (Zc C d) t1.heap
  new : G x = none
  os : t1.os = t0.os
  ag : AllBare t1.gens
variable {B : Heap} {x : Addr} {C : Value} {d : Option Addr}
theorem Down.inv (S : Down X pins τ G t0 t1 B x C d) : Inv X pins τ G t1 := S.was.landed S.nb S.fly.1 S.up S.os S.ag
theorem Down.on (S : Down X pins τ G t0 t1 B x C d) {h : Heap} (f : HandSPX.FlyingZ B (X.env :: X.outer) x (Zc C d) h) (u : t1.heap.UpToSlots h) : Down X pins τ G t0 { t1 with heap := h } B x C d :=
  ⟨S.was, S.nb, S.up.trans u, f, S.new, S.os, S.ag⟩
theorem Down.more (S : Down X pins τ G t0 t1 B x C d) (o : Obj) : Down X pins τ G t0 { t1 with heap := t1.heap.push o } B x C d := by
  have k : ∀ b u, t1.heap.get? b = some u → (t1.heap.push o).get? b = some u := fun _ _ z => Heap.get?_push_of_some _ z
  refine S.on ?_ (Heap.UpToSlots.of_keeps k)
  obtain ⟨a1, a2, a3, oe, w, T, oT, r, g1, g2, g3, g4, g5, g6, g7, g8⟩ := S.fly
  exact ⟨fun b u z => k b u (a1 b u z), a2, a3.of_keeps fun b u z _ => ⟨u, k b u z, rfl⟩, oe, w, T, oT, r, k _ _ g1, g2, g3, g4, g5, g6, k _ _ g7, g8⟩
theorem Down.suite (S : Down X pins τ G t0 t1 B x C d) (es : X.stack = X.env :: X.outer) (ef : X.env.frame = some X.env.locals) :
    ∃ oe, t1.heap.get? x = some oe ∧ Zc C d oe ∧ (∃ w, oe.data = .fields w) ∧ Inv (X.suite x ((x, oe) :: (X.pn ++ pins))) [] τ G t1 := by
  obtain ⟨oe, w, g, z, dt⟩ := S.fly.there
  have off : x ∉ frs (X.env :: X.outer) := fun m => by
    obtain ⟨_, o', e, nf⟩ := S.fly.2.2.1.mem m
    cases g.symm.trans e
    exact nf _ dt
  refine ⟨oe, g, z, ⟨w, dt⟩, S.inv.suite g dt S.new (fun e => off ?_) fun m => off ?_⟩
  · exact List.mem_filterMap.mpr ⟨X.env, by simp, by rw [ef, e]⟩
  · obtain ⟨v, m1, m2⟩ := List.mem_filterMap.mp m
    exact List.mem_filterMap.mpr ⟨v, List.mem_cons.mpr (.inr m1), m2⟩
end
section
variable {X : Cx} {y1 y2 y3 n : Str} {u1 u2 u3 : Value} {j : Nat} {bd su : List Stmt} {s₀ : Stmt} {q1 q2 q3 qt qh qq : Pos} {kk : Nat} {tb : WX → TS} {ts : Addr → Value → Option Addr → TS} {Wo : WX}
theorem ps_try_tri (es : X.stack = X.env :: X.outer) (ef : X.env.frame = some X.env.locals) (nd : X.N.Nodup) (at_ : X.N[j]? = some n) (lo : X.env.kindOf n = some .local) (m1 : Names X y1 u1) (m2 : Names X y2 u2) (m3 : Names X y3 u3) (tk : Takes X Wo)
    (B : ∀ (W : WX) (pn : List (Addr × Obj)) (xe : Value → Shared → Prop), Takes (X.tr pn xe) W → PassesOwn (model X.prog X.w) X.A X.env xe → PSs (X.tr pn xe) bd (tb W))
    (S : ∀ (x : Addr) (oe : Obj) (C : Value) (d : Option Addr) (pn : List (Addr × Obj)), Zc C d oe → (∃ w, oe.data = .fields w) → PSs (X.suite x ((x, oe) :: pn)) (s₀ :: su) (ts x C d)) :
    PS X (.Try bd [.ExceptHandler (some (.Tuple [.Name y1 q1, .Name y2 q2, .Name y3 q3] kk qt)) (some n) (s₀ :: su) qh] [] [] qq) (fun D τ G => tb (wTri X.K [u1, u2, u3] j ts Wo D) D τ G) := by
  constructor
  intro pins t τ G D J want
  have ok := J.ok
  have frames : X.A.frames = some (X.env :: X.outer) := ok.frames.trans (by rw [es])
  let hs := [ExceptHandler.ExceptHandler (some (.Tuple [.Name y1 q1, .Name y2 q2, .Name y3 q3] kk qt)) (some n) (s₀ :: su) qh]
  let after : Value → Shared → Prop := fun e t1 => wpAny (model X.prog X.w) X.A (noteFrame e X.env) (fun _ t2 => wpAny (model X.prog X.w) X.A (setFlight e none) (fun _ t3 => wpAny (model X.prog X.w) X.A (handleBy e X.env hs) (SP X pins D) X.xe t3) X.xe t2) X.xe t1
  have look : Takes (X.tr (X.pn ++ pins) after) (wTri X.K [u1, u2, u3] j ts Wo D) := by
    rintro e t1 ⟨x, H0, sI, pi, τ1, G1, C, d, rfl, J1, nb, up, sky, new, os, ag, hit, hm, yes, no⟩
    show wpAny (model X.prog X.w) X.A (noteFrame (.ref x) X.env) _ _ _
    rw [show X.stack = X.env :: X.outer from es] at sky
    refine Sky.land Zc.steady frames ef sky fun h fl u => ?_
    have D1 : Down X pins τ1 G1 sI { t1 with heap := h } H0 x C d := ⟨J1.ofTry ok, nb, up.trans u, fl, new, os, ag⟩
    obtain ⟨oe, ge, gz, gd, I1⟩ := D1.suite es ef
    refine wpAny_handleBy_cons (codeAny_handlers_test (ev_tri I1 m1 m2 m3 ?_)) (by intro z; cases z)
    have D2 := D1.more (triO u1 u2 u3)
    have there : (h.push (triO u1 u2 u3)).get? x = some oe := Heap.get?_push_of_some _ ge
    have LT : PySem.W.Looks (model X.prog X.w) (h.push (triO u1 u2 u3)) (typeOf (.ref x)) C := fun A Q E s k z => wpAny_typeOf_ref (k _ _ there) (by rw [gz.1]; exact z)
    refine (PySem.W.exm_tup3 D2.inv.kIn LT (Heap.get?_push_size h rfl) hm).here ?_
    cases hit
    · show wpAny _ X.A (handleBy (.ref x) X.env []) _ _ _
      refine wpAny_handleBy_nil ?_
      obtain ⟨_, _, _, o2, w, T, _, _, g1, _, g3, g4, _⟩ := id D2.fly
      have away : wpAny (model X.prog X.w) X.A (setFlight (.ref x) X.env.frame) (fun _ t5 => wpAny (model X.prog X.w) X.A (throw (.ref x) : Sem Flow) (SP X pins D) X.xe t5) X.xe { t1 with heap := h.push (triO u1 u2 u3) } := by
        rw [ef]
        exact HandSPX.setFlight_upZ D2.fly fun h' held u' => wpAny_throw (tk _ _ ⟨x, H0, sI, pins, τ1, G1, C, d, rfl, D2.was, nb, D2.up.trans u', .inr (.inr (by rw [es]; exact held)), new, os, ag, no rfl⟩)
      unfold PySem.passOn
      refine wpAny_bind (wpAny_field g1 g3 g4 ?_)
      rw [if_neg (by simp : ¬ ((Value.ref T == Value.none) = true))]
      first
        | exact wpAny_bind (wpAny_pure (wpAny_bind away))
        | exact wpAny_bind away
    · refine codeAny_handlers_suite_as (HandSPX.lands_againZ D2.fly fun h' fl' u' => ?_)
      obtain ⟨o3, _, z3, d3, I3⟩ := (D2.on fl' u').suite es ef
      refine store_ok (X := X.suite x ((x, o3) :: (X.pn ++ pins))) (v := .ref x) I3 nd at_ (.inl lo) rfl (fun t5 I5 => ?_) (.inr lo)
      have off : ∀ {τ6 : St} {G6 : Hp} {t6 : Shared} {Q : Shared → Prop}, Inv (X.suite x ((x, o3) :: (X.pn ++ pins))) [] τ6 G6 t6 → (∀ t7, Inv X pins (τ6.set j none) G6 t7 → Q t7) →
          wpAny (model X.prog X.w) X.A (do bindName X.env n .none; unbindBehindTheSuite X.env n qh) (fun _ t7 => Q t7) X.xe t6 := fun I6 go => gone_ok (I6.unsuite ok) nd at_ lo go
      refine wpAny_mono ((S x o3 C d (X.pn ++ pins) z3 d3).run [] t5 _ G1 _ I5 (yes rfl x new)) (fun fl t6 out => ?_) fun _ _ z => z.elim
      cases fl <;> first
        | (obtain ⟨τ6, G6, I6, w6⟩ := out; exact off I6 fun t7 I7 => ⟨_, _, I7, w6⟩)
        | (obtain ⟨v6, τ6, G6, I6, e6, w6⟩ := out; exact off I6 fun t7 I7 => ⟨_, _, _, I7, e6, w6⟩)
  refine wpAny_Try_except (wpAny_mono ((B _ _ after look PassesOwn.looking).run [] t τ G D (J.toTry _) want) (fun fl t1 out => ?_) fun _ _ z => z)
  cases fl <;> first
    | (obtain ⟨τ1, G1, I1, w1⟩ := out; exact wpAny_execs_nil ⟨τ1, G1, I1.ofTry ok, w1⟩)
    | (obtain ⟨τ1, G1, I1, w1⟩ := out; exact ⟨τ1, G1, I1.ofTry ok, w1⟩)
    | (obtain ⟨v1, τ1, G1, I1, e1, w1⟩ := out; exact ⟨v1, τ1, G1, I1.ofTry ok, e1, w1⟩)
end
end L2
set_option Elab.async false
set_option linter.all false
set_option maxRecDepth 100000
set_option maxHeartbeats 4000000
/-! within a handler: a walk over a list comes to its end; a comprehension over a list -/
namespace HotX
open PySem PySem.Spec PyProof.Rows
section
variable {prog : Program} {w : World} {A : Around} {E : Value → Shared → Prop} {s : Shared}
theorem list_ends {j l y : Addr} {i : Nat} {vs : Array Value} {Q : Option Value → Shared → Prop} (hot : HotAt A y s.heap) (ne : y ≠ j) (J : s.heap.IsListIter j l i) (L : s.heap.IsList l vs) (out : vs[i]? = none)
    (q : ∀ h, (∀ b o, b ≠ j → s.heap.get? b = some o → h.get? b = some o) → Q none { s with heap := h }) : wpAny (model prog w) A (pyNext (.ref j)) Q E s := by
  obtain ⟨o, ho, hc, hd⟩ := id J
  obtain ⟨ol, hol, _, nl, hdl⟩ := L
  obtain ⟨hh, oy, ys, h1, d1, c1⟩ := hot
  unfold pyNext
  refine wpAny_bind (wpAny_attempt (wpAny_callSpecial?_slot (name := Str.ofString "__next__") J.typeIs slot_listiter_next (wpAny_call_entry slot_listiter_next J.typeIs entry_listiter_next ?_ (args_listiter_next _))))
  change wpAny _ _ (field (.ref j) 0 >>= _) _ _ s
  refine wpAny_bind (wpAny_field ho hd (x := .ref l) rfl ?_)
  show wpAny _ _ (ite ((Value.ref l == Value.none) = true) _ _) _ _ _
  rw [if_neg (fun z => nomatch z : ¬ ((Value.ref l == Value.none) = true))]
  change wpAny _ _ (field (.ref j) 1 >>= _) _ _ s
  refine wpAny_bind (wpAny_field ho hd (x := .int i 0) rfl ?_)
  change wpAny _ _ (seqItems? (.ref l) >>= _) _ _ s
  refine wpAny_bind (wpAny_seqItems hol hdl ?_)
  simp only [Int.toNat_natCast, out]
  refine wpAny_bind (wpAny_rule (wpAny_bind (wpAny_setField ho hd (by simp) ?_)))
  change wpAny _ _ (newExc (.type "StopIteration") [] >>= _) _ _ _
  refine wpAny_bind ?_
  simp only [newExc, newTuple]
  have k1 : ∀ b u, b ≠ j → s.heap.get? b = some u → (s.heap.update j (Obj.mapFields (·.setIfInBounds 0 Value.none))).get? b = some u := fun b u n e => (Heap.get?_update_other _ _ n.symm).trans e
  refine wpAny_bind (wpAny_newObj_type ?_ (by size_fits))
  refine wpAny_bind (m := firstArgMember _ _) (wpAny_of_eq (a := Value.none) (by first | rfl | (simp only [firstArgMember]; rfl)) ?_)
  refine wpAny_newObj_type ?_ (by size_fits)
  have top := Heap.get?_push_of_some { cls := .type "tuple", data := .seq ([] : List Value).toArray } (k1 y oy ne h1)
  refine raiseNew_hot ⟨hh, oy, ys, Heap.get?_push_of_some _ top, d1, c1⟩ (Nat.ne_of_lt (Heap.lt_size top)) (Heap.get?_push_size _ rfl) rfl (by first | (simp; done) | (simp; omega)) ?_
  refine wpAny_bind (wpAny_isInstance (T := "StopIteration") (b := true) ⟨_, Heap.get?_update_self _ (Heap.get?_push_size _ rfl) rfl, rfl⟩ isSubtype_stop (wpAny_pure (q _ fun b u n e => ?_)))
  have z := Heap.get?_push_of_some { cls := .type "tuple", data := .seq ([] : List Value).toArray } (k1 b u n e)
  rw [Heap.get?_update_other _ _ (Nat.ne_of_gt (Heap.lt_size z))]
  exact Heap.get?_push_of_some _ z
/-- all items of a list, taken one by one -/
theorem list_items {l y : Addr} {vs : Array Value} {Q : List Value → Shared → Prop} (hot : HotAt A y s.heap) (L : s.heap.IsList l vs) (q : ∀ h, Heap.ExtBut s.heap.objs.size s.heap h → Q vs.toList { s with heap := h }) :
    wpAny (model prog w) A (unpackItems (.ref l) vs.size none) Q E s := by
  have lj : l ≠ s.heap.objs.size := by
    obtain ⟨o, e, _⟩ := L
    exact Nat.ne_of_lt (Heap.lt_size e)
  obtain ⟨hh, oy, ys, h1, d1, c1⟩ := hot
  have yj : y ≠ s.heap.objs.size := Nat.ne_of_lt (Heap.lt_size h1)
  unfold unpackItems
  refine wpAny_bind ?_
  unfold notIterableAtAll
  refine wpAny_bind (wpAny_specialOf L.typeIs slot_list_iter.lookup (wpAny_pure ?_))
  simp only [Bool.false_eq_true, if_false]
  refine wpAny_bind (wpAny_holding (wpAny_pyIter_list L (wpAny_bind (wpAny_holding (PySem.W.kun_draw lj vs.size 0 _ _ ⟨_, Heap.get?_push_size _ rfl, rfl, rfl⟩ (L.push _) (by omega) fun h2 i2 s2 => ?_)))))
  have all : List.take vs.size (List.drop 0 vs.toList) = vs.toList := by
    rw [List.drop_zero]
    exact List.take_of_length_le (by simp)
  rw [all, if_neg (by simp)]
  have k2 : ∀ b o, b ≠ s.heap.objs.size → s.heap.get? b = some o → h2.get? b = some o := fun b o n e => s2.extBut b o n (Heap.get?_push_of_some _ e)
  refine wpAny_bind (wpAny_holding (list_ends ⟨hh, oy, ys, k2 _ _ yj h1, d1, c1⟩ yj i2 ((L.push _).extBut s2.extBut lj) (by simp) fun h3 k3 => ?_))
  simp only [Option.isSome_none, Bool.false_eq_true, if_false]
  exact wpAny_pure (q h3 fun b o n e => k3 b o n (k2 b o n e))
end
end HotX
namespace L2
open PySem PySem.Spec PyProof.Rows HotX L2H
section
variable {X : Cx} {pins : List (Addr × Obj)} {τ : St} {G : Hp} {t : Shared} {Q : VK} {elt tg src : Expr} {ifs : List Expr} {sc : Scope} {own : List (Str × Nat)} {pa pb : Pos} {ti te : TE} {g : TG} {tt : TT} {use : Option (Value → Sem Unit)} {Qf : Value → Shared → Prop}
/-- what is handled stood there when the context was entered -/
structure Seen (Y : Cx) (p : Addr × Obj) : Prop where
  hot : Hot1 Y.A p
  get : Y.s_0.heap.get? p.1 = some p.2
  free : Y.H_0 p.1 = none
  nofs : p.1 ∉ Y.fs
  noex : p.1 ∉ Y.ex
theorem Seen.at {Y : Cx} {p : Addr × Obj} {pins : List (Addr × Obj)} {τ : St} {G : Hp} {t : Shared} (S : Seen Y p) (I : Inv Y pins τ G t) : HotAt Y.A p.1 t.heap := by
  obtain ⟨h, v, d, c⟩ := S.hot
  exact ⟨h, p.2, v, I.base.keep p.1 p.2 S.get S.free S.nofs S.noex, d, c⟩
/-- a, b = a list of two, and so on -/
theorem pg_lstH {Y : Cx} {p : Addr × Obj} {es : List Expr} {k : Nat} {u : TGs} {n : Nat} {pos : Pos} (S : Seen Y p) (h : PGs Y es u) (hn : (assignEach es Y.env).length = n := by rfl) (ns : (assignEach es Y.env).findIdx? (·.1) = none := by rfl) : PG Y (.Tuple es k pos) (gLst Y.K n u) := by
  constructor
  rintro pins t τ G v w0 Q I r ⟨a, xs, rfl, hq, hl, want⟩
  cases r
  obtain ⟨its, rv, pl, hz⟩ := I.list hq
  rw [PyProof.Rows.assign_Tuple]
  refine wpAny_bind (wpAny_standAt ?_)
  unfold unpack
  rw [show (assignEach es Y.env).length = its.toArray.size by simp [hn, ← hl, rv.length], ns]
  refine wpAny_bind (wpAny_holding (list_items (S.at I) pl.isList fun h' hx => ?_))
  exact h.run pins _ τ G xs _ Q (I.kept (t' := t.toks) fun b o e => hx b o (Nat.ne_of_lt (Heap.lt_size e)) e) (by simpa using rv) want
/-- a comprehension over a list, within a handler: what is wished is as tLc has it -/
theorem lc_hot {p : Addr × Obj} (hot : Hot1 X.A p) (pm : p ∈ X.pn) (nd : X.N.Nodup) (I : Inv X pins τ G t) (hi : PE X src ti) (ok : BlkOk X.N X.env.scope sc own)
    (hg : ∀ (s : Shared) (H : Hp) (C : Addr) (cl : List (Str × Addr)) (fp : List Addr), Seen (X.blk s H sc (compEnvC sc cl C X.env) fp) p → PG (X.blk s H sc (compEnvC sc cl C X.env) fp) tg g)
    (ht : ∀ (s : Shared) (H : Hp) (C : Addr) (cl : List (Str × Addr)) (fp : List Addr), Seen (X.blk s H sc (compEnvC sc cl C X.env) fp) p → PTs (X.blk s H sc (compEnvC sc cl C X.env) fp) ifs tt)
    (he : ∀ (s : Shared) (H : Hp) (C : Addr) (cl : List (Str × Addr)) (fp : List Addr), Seen (X.blk s H sc (compEnvC sc cl C X.env) fp) p → PE (X.blk s H sc (compEnvC sc cl C X.env) fp) elt te)
    (fo : ∀ x, foldedSetIterable src X.env x = pure x) (want : tLc (iList X.K ti) g tt te (own.map (·.2)) τ G Q)
    (out : ∀ D C t' m G', Inv X pins τ G' t' → Q (.ref D) G' → t'.heap.Ns C m → FpOk X pins G' C → compPost (model X.prog X.w) X.A X.xe use Qf (.ref D) C (.ok .next) t') :
    wpAny (model X.prog X.w) X.A (comprehension (.ListComp elt [⟨tg, src, ifs, 0⟩] sc pa) sc X.env pb (newList []) false (eval src X.env) use) Qf X.xe t := by
  have cap : ∀ y ∈ sc.names, y.2 = .free → ∃ c, X.env.cells.lookup y.1 = some c := fun y m e => I.ok.has _ (ok.free y m e)
  refine wpAny_comprehension_free (use := use) rfl fo (closure_ok cap) ok.kind (fun y m e => by rw [ok.uniq y m, e]) (thn (hi.run pins t τ G _ I want) fun v t1 q1 => ?_)
  obtain ⟨x, G1, I1, r1, l, rfl, ⟨xs, hl⟩, q1⟩ := q1
  obtain rfl : v = Value.ref l := r1
  obtain ⟨_, _, pl, _⟩ := I1.list hl
  refine wpAny_pyIter_list pl.isList ?_
  -- the walk j, the new list D
  obtain ⟨j, ej⟩ : ∃ j, j = t1.heap.objs.size := ⟨_, rfl⟩
  rw [← ej]
  obtain ⟨t2, e2⟩ : ∃ t2 : Shared, t2 = { t1 with heap := t1.heap.push { cls := .type "list_iterator", data := .fields #[.ref l, .int 0 0] } } := ⟨_, rfl⟩
  rw [← e2]
  have I2 : Inv X pins τ G1 t2 := by rw [e2]; exact I1.kept (t' := t1.toks) fun b o e => Heap.get?_push_of_some _ e
  have at2 : t2.heap.IsListIter j l 0 := by rw [e2, ej]; exact ⟨_, Heap.get?_push_size _ rfl, rfl, rfl⟩
  have ok2 : FpOk X pins G1 j := by rw [ej]; exact I1.fpOk (Nat.le_refl _) (I1.hok.fresh (Nat.le_refl _))
  refine wpAny_newObj_type (newEnv_comp ?_) (by show 0 ≤ sizeLine; decide)
  obtain ⟨D, eD⟩ : ∃ D, D = t2.heap.objs.size := ⟨_, rfl⟩
  rw [← eD]
  have nD : G1 D = none := I2.hok.fresh (by rw [eD]; exact Nat.le_refl _)
  have jD : j < D := by rw [eD]; obtain ⟨o, e, _⟩ := at2; exact Heap.lt_size e
  obtain ⟨W, ⟨m0, w0⟩, turn⟩ := q1 D nD
  obtain ⟨t3, e3⟩ : ∃ t3 : Shared, t3 = { t2 with heap := t2.heap.push { cls := .type "list", data := .seq ([] : List Value).toArray } } := ⟨_, rfl⟩
  obtain ⟨G3, eG⟩ : ∃ G3, G3 = upd G1 D (.lst []) := ⟨_, rfl⟩
  rw [← eG] at w0
  have I3 : Inv X pins τ G3 t3 := by
    rw [e3, eG]
    exact I2.laid (t' := t2.toks) (fun b o e => Heap.get?_push_of_some _ e) (by rw [eD]; exact Nat.le_refl _) ⟨Nat.zero_le _, [], 0, .nil, by rw [eD]; exact Heap.get?_push_size _ rfl⟩
  have at3 : t3.heap.IsListIter j l 0 := by rw [e3]; exact at2.at fun o e => Heap.get?_push_of_some _ e
  have j3 : G3 j = none := by rw [eG, upd_ne (Nat.ne_of_lt jD)]; exact ok2.1
  have ok3 : FpOk X pins G3 j := ⟨j3, ok2.2⟩
  have lt3 : j < t3.heap.objs.size := by obtain ⟨o, e, _⟩ := at3; exact Heap.lt_size e
  -- the thing that is handled, seen from within
  obtain ⟨ph, pv, pd, pc⟩ := id hot
  obtain ⟨pg3, pn3, pL, pF, _⟩ := I3.pin p (List.mem_append_left _ pm)
  have pS : p.1 ∉ frs X.stack := fun m => (List.mem_cons.mp (I3.stkSub p.1 m)).elim pL pF
  have pj : p.1 ≠ j := ok3.2.2.2.2.2 p (List.mem_append_left _ pm)
  have B := block_start I3 ok nd (fp := [j]) fun b m => by
    obtain rfl := List.mem_singleton.mp m
    exact ⟨ok3, lt3⟩
  have seen : Seen (X.blk t3 G3 sc (compEnvC sc (cellsFrom (t3.heap.objs.size + 1) sc.names (cloFrom X.env.cells sc.names [])) t3.heap.objs.size X.env) [j]) p := ⟨hot, pg3, pn3, pS, by simpa using pj⟩
  have g' := hg t3 G3 t3.heap.objs.size (cellsFrom (t3.heap.objs.size + 1) sc.names (cloFrom X.env.cells sc.names [])) [j] seen
  have t' := ht t3 G3 t3.heap.objs.size (cellsFrom (t3.heap.objs.size + 1) sc.names (cloFrom X.env.cells sc.names [])) [j] seen
  have e' := he t3 G3 t3.heap.objs.size (cellsFrom (t3.heap.objs.size + 1) sc.names (cloFrom X.env.cells sc.names [])) [j] seen
  rw [← e3]
  show codeAny _ _ (.compStart (.ListComp elt [⟨tg, src, ifs, 0⟩] sc pa) 0 (.ref j) (.ref D) (compEnvC sc (cellsFrom (t3.heap.objs.size + 1) sc.names (cloFrom X.env.cells sc.names [])) t3.heap.objs.size X.env)) (compPost (model X.prog X.w) X.A X.xe use Qf (.ref D) t3.heap.objs.size) { t3 with heap := pushCells (t3.heap.push { cls := .type "dict", data := .dict #[] }) sc.names }
  obtain ⟨ce, ec⟩ : ∃ ce, ce = compEnvC sc (cellsFrom (t3.heap.objs.size + 1) sc.names (cloFrom X.env.cells sc.names [])) t3.heap.objs.size X.env := ⟨_, rfl⟩
  have cl : ce.locals = t3.heap.objs.size := by rw [ec]; rfl
  rw [← ec] at B g' t' e' ⊢
  obtain ⟨t4, e4⟩ : ∃ t4 : Shared, t4 = { t3 with heap := pushCells (t3.heap.push { cls := .type "dict", data := .dict #[] }) sc.names } := ⟨_, rfl⟩
  rw [← e4] at B ⊢
  have at4 : t4.heap.IsListIter j l 0 := by rw [e4]; exact at3.at fun o e => pushCells_keeps _ _ _ _ (Heap.get?_push_of_some _ e)
  have fpB : ∀ {τ' : St} {G' : Hp} {s' : Shared}, Inv (X.blk t3 G3 sc ce [j]) [] τ' G' s' → G' j = none → FpOk (X.blk t3 G3 sc ce [j]) [] G' j := fun I' n =>
    ⟨n, (I'.ok.exf j (by simp)).1, I'.ok.exfs j (by simp), .inl (by simp), fun x c e => (I'.ok.exf j (by simp)).2 x c e, fun p hp => nomatch (show p ∈ ([] : List (Addr × Obj)) ++ [] from hp)⟩
  refine codeAny_compStart_list ?loop (wpAny_pyIter_listiter at4 ?loop)
  refine compLoop_any (fun n s' => ∃ i G', Inv (X.blk t3 G3 sc ce [j]) [] (wipe τ (own.map (·.2))) G' s' ∧ s'.heap.IsListIter j l i ∧ G' j = none ∧ W i n G') ?_ m0 ⟨0, G3, B, at4, j3, w0⟩
  rintro n s5 ⟨i, G5, I5, at5, n5, w5⟩
  have F5 := fpB I5 n5
  rcases turn i n G5 w5 with ⟨⟨ys, hy, le⟩, qq⟩ | ⟨⟨ys, y, hy, hyi⟩, Nx, again, step⟩
  · obtain ⟨its, rv, py, _⟩ := I5.list hy
    have p5 : s5.heap.get? p.1 = some p.2 := I5.base.keep p.1 p.2 pg3 pn3 pS (by simpa using pj)
    refine list_ends (A := X.A) ⟨ph, p.2, pv, p5, pd, pc⟩ pj at5 py.isList (by have := rv.length; simp; omega) fun h k => ?_
    have I6 : Inv (X.blk t3 G3 sc ce [j]) [] (wipe τ (own.map (·.2))) G5 { s5 with heap := h } := I5.turned (t' := s5.toks) k F5.1 F5.2.1 F5.2.2.2.1 F5.2.2.2.2.1 F5.2.2.2.2.2
    obtain ⟨m, hm, _⟩ := I6.loc
    have hm : ({ s5 with heap := h } : Shared).heap.Ns ce.locals m := hm
    have nC : G5 ce.locals = none := I6.free
    rw [cl] at hm nC
    have I7 : Inv X pins τ G5 { s5 with heap := h } := I3.call' (ch := [j]) I6.os I6.base I6.hok I6.bare fun b hb => by
      obtain rfl := List.mem_singleton.mp hb
      exact ⟨ok3.2.2.2.1, ok3.2.1, ok3.2.2.2.2.1, ok3.2.2.2.2.2⟩
    exact out D _ _ m G5 I7 qq hm (I3.fpOk (Nat.le_refl _) nC)
  · obtain ⟨its, rv, py, _⟩ := I5.list hy
    obtain ⟨u, hu, ru⟩ := rv.get hyi
    refine wpAny_pyNext_list_item at5 py.isList (x := u) (by simpa using hu) fun h at6 sb => ?_
    have I6 : Inv (X.blk t3 G3 sc ce [j]) [] (wipe τ (own.map (·.2))) G5 { s5 with heap := h } := I5.turned (t' := s5.toks) (fun b o n e => (sb.2 b n).trans e) F5.1 F5.2.1 F5.2.2.2.1 F5.2.2.2.2.1 F5.2.2.2.2.2
    obtain ⟨oj, gj, cj, dj⟩ := id at6
    refine go_of (s := { s5 with heap := h }) gj cj dj (by decide) ?_
    have I6' : Inv (X.blk t3 G3 sc ce [j]) ([] ++ [(j, oj)]) (wipe τ (own.map (·.2))) G5 { s5 with heap := h } := I6.pins_of fun q hq => by
      obtain rfl : q = (j, oj) := by simpa using hq
      exact ⟨gj, n5, F5.2.1, F5.2.2.1, fun v z => by rw [dj] at z; cases z⟩
    refine thnF (g'.run _ _ _ G5 y u _ I6' ru (step y G5 ⟨rfl, fun zs hz => by rw [I5.list_inj hz hy]; exact hyi⟩)) fun _ s8 ⟨τ8, G8, I8, w8, q8⟩ => ?_
    refine thnF (t'.run _ s8 τ8 G8 _ I8 q8) fun b s9 ⟨G9, I9, q9⟩ => ?_
    have fin : ∀ {s' : Shared} {G' : Hp}, Inv (X.blk t3 G3 sc ce [j]) ([] ++ [(j, oj)]) τ8 G' s' → Nx G' → ∃ m, m < n ∧ ∃ i G', Inv (X.blk t3 G3 sc ce [j]) [] (wipe τ (own.map (·.2))) G' s' ∧ s'.heap.IsListIter j l i ∧ G' j = none ∧ W i m G' := fun {s' G'} J nx => by
      obtain ⟨m', lm, w'⟩ := again G' nx
      have pj' := J.pin (j, oj) (by simp)
      refine ⟨m', lm, i + 1, G', (J.unpinned (pins := [])).weak (by rw [← w8, wipe_length]) (fun k v e => ?_), ⟨oj, pj'.1, cj, dj⟩, pj'.2.1, w'⟩
      rw [← w8] at e
      exact (wipe_some e).1
    cases b
    · simp only [Bool.false_eq_true, if_false] at q9 ⊢
      exact fin I9 q9
    · simp only [if_true] at q9 ⊢
      exact thnF (e'.run _ s9 τ8 G9 _ I9 q9) fun z s10 ⟨yv, G10, I10, r10, acc, d10, z10, nx⟩ => app_ok (X := X.blk t3 G3 sc ce [j]) I10 d10 z10 r10 fun s11 I11 => fin I11 nx
end
end L2
set_option Elab.async false
set_option linter.all false
set_option maxRecDepth 100000
set_option maxHeartbeats 4000000
/-! own exceptions raised, and caught by one of three classes: their context is known to be None, so that the handler may call -/
namespace Gn
open PySem PySem.Spec PyProof.Rows L2
section
variable {X : Cx} {e : Expr} {es : List Expr} {ta : TA} {p pos : Pos}
/-- the exception without a dict is let go -/
theorem bare_goneN {pins : List (Addr × Obj)} {σ : L2.St} {H1 H2 : Hp} {Q : XK} {hp hp2 h2 : Heap} {g1 g2 : Array GenState} {d1 d2 : Drawn} {t1 t2 : Nat} {os1 os2 : OsState} {a C : Addr} (T : Raises X (.ref C)) (I1 : Inv X pins σ H1 ⟨hp, g1, d1, t1, os1⟩)
    (ha : hp.objs.size ≤ a) (kp : ∀ b o, hp.get? b = some o → hp2.get? b = some o) (un : Un (frs X.stack) [] (upd H1 a (exo a C none)) H2 hp2 h2) (hok : HOk X.prog X.w H2 h2) (ho : os2 = os1) (hb : AllBare g2)
    (ea : H2 a = some (exo a C none)) (q : Q (.ref C) none (del H2 a)) : L2N.MkP X pins σ Q (.ref a) ⟨h2, g2, d2, t2, os2⟩ := by
  obtain ⟨t0, hoe⟩ := exo_at hok ea
  have hn : H1 a = none := I1.hok.fresh ha
  obtain ⟨G, y1, y2⟩ := restrict h2 fun b => decide (b ≠ a)
  have gk : ∀ b, b ≠ a → G.get? b = h2.get? b := fun b z => y1 b (decide_eq_true z)
  have ge : G.get? a = none := y2 a (by simp)
  have old : ∀ {b : Addr} {o : Obj}, hp.get? b = some o → b ≠ a := fun {b o} z => Nat.ne_of_lt (Nat.lt_of_lt_of_le (Heap.lt_size z) ha)
  have fr : ∀ {b : Addr}, b ≠ a → H1 b = none → upd H1 a (exo a C none) b = none := fun {b} z n => (upd_ne z).trans n
  have U : Un (frs X.stack) [] H1 (del H2 a) hp G := {
    keep := fun b o z n hf hx => (gk b (old z)).trans (un.keep b o (kp b o z) (fr (old z) n) hf hx)
    slot := fun b o z n hf hx => by
      rw [gk b (old z)]
      exact un.slot b o (kp b o z) (fr (old z) n) hf hx
    free := fun b o z n hx => (del_ne (old z)).trans (un.free b o (kp b o z) (fr (old z) n) hx)
    there := fun b o z hx => by
      rw [gk b (old z)]
      exact un.there b o (kp b o z) hx
    tups := fun b xs z => (del_ne (ne_of_none z hn)).trans (un.tups b xs ((upd_ne (ne_of_none z hn)).trans z))
    frzs := fun b o v z => (del_ne (ne_of_none z hn)).trans (un.frzs b o v ((upd_ne (ne_of_none z hn)).trans z))
    tbls := fun b ps z => by
      rw [del_ne (ne_of_none z hn)]
      exact un.tbls b ps ((upd_ne (ne_of_none z hn)).trans z) }
  have hok3 : HOk X.prog X.w (del H2 a) G := fun b o z => by
    have ba : b ≠ a := fun e => by
      rw [e, del_same] at z
      cases z
    rw [del_ne ba] at z
    have noa : ∀ {c : Addr}, H2 c = some (.own b) → c ≠ a := fun {c} hc => at_ne ea hc exo_own
    refine (hok b o z).stay (fun c v hc y => ?_) (fun c hc => (del_ne (noa hc)).trans hc) fun c xs hc => (del_ne (at_ne ea hc exo_tup)).trans hc
    have ca : c ≠ a := by
      rcases hc with hc | hc
      · rw [hc]
        exact ba
      · exact noa hc
    exact (gk c ca).trans y
  have J : Inv X pins σ (del H2 a) ⟨G, g2, d2, t2, os2⟩ := I1.call' (ch := []) ho U hok3 hb (fun b z => absurd z (by simp))
  refine ⟨a, _, _, ⟨G, g2, d2, t2, os2⟩, _, .ref C, none, rfl, J, fun b o z => ?_, ge, hoe, ⟨rfl, rfl, fun vs z => by cases z; rfl⟩, rfl, rfl, del_same, rfl, hb, T, q⟩
  by_cases ba : b = a
  · rw [ba, ge] at z
    cases z
  · exact (gk b ba).symm.trans z
theorem own_thrownN {CX : CXT} {C fI : Addr} {k : Nat} {fd : FuncData} {ps : List Str} {sp : Sp} {ds us : List Value} {dvs vs : List V} {pins : List (Addr × Obj)} {σ : L2.St} {H1 : Hp} {s1 : Shared} {Q : XK} (T : OwC X.K C)
    (iC : PySem.W.findIn X.K (.ref C) "__init__" = some (some (.ref fI))) (tI : PySem.W.typeIn X.K (.ref fI) = some (.type "function")) (F1 : FnOk X.prog X.w X.K X.mg X.base CX k fI fd ps sp) (hr : Room (k + 1) X.A) (hb : Binds X.K fd ps ds) (hd : Vals dvs ds)
    (hx : Passes CX X (fun _ _ _ => False)) (I1 : Inv X pins σ H1 s1) (r1 : Vals vs us) (hz : vs.length ≤ 1000)
    (q1 : ∀ a, H1 a = none → sp (.ref a :: (vs ++ dvs)) (upd H1 a (exo a C none)) (fun v H2 => v = .non ∧
      ((∃ (d : Addr) (fs : List (Str × V)), H2 a = some (exo a C (some d)) ∧ H2 d = some (exd d fs) ∧ H1 d = none ∧ Q (.ref C) (some d) (upd (del H2 a) d (.xd fs))) ∨ (H2 a = some (exo a C none) ∧ Q (.ref C) none (del H2 a)))) (fun _ _ _ => False)) :
    wpAny (model X.prog X.w) X.A (call (.ref C) us) (L2N.MkP X pins σ Q) X.xe s1 := by
  obtain ⟨nm, q, N, bs, bm, sn, sub, ab, col, dd, k0, k1, k2, k3, k5, B, nw, it, tl, lk, pt, TB⟩ := T.cls
  obtain ⟨hp, g, dr, tk, os⟩ := s1
  have up : hp.objs.size ≤ hp.objs.size + 1 := Nat.le_succ _
  have hn : H1 (hp.objs.size + 1) = none := I1.hok.fresh up
  have hq := q1 (hp.objs.size + 1) hn
  have kk : ∀ b o, hp.get? b = some o → ((hp.push (PySem.W.kdv_tup us)).push (PySem.HandSPX.excO C hp.objs.size)).get? b = some o := fun b o z =>
    Heap.get?_push_of_some _ (Heap.get?_push_of_some _ z)
  have got : ((hp.push (PySem.W.kdv_tup us)).push (PySem.HandSPX.excO C hp.objs.size)).get? (hp.objs.size + 1) = some (PySem.HandSPX.excO C hp.objs.size) := by heap_get
  have I2 := I1.laid (t' := tk) (a := hp.objs.size + 1) (o := exo (hp.objs.size + 1) C none) kk up (exo_ok got)
  have r2 : Vals (V.ref (hp.objs.size + 1) :: (vs ++ dvs)) (Value.ref (hp.objs.size + 1) :: (us ++ ds)) := .cons rfl (r1.append hd)
  have hl : (Value.ref (hp.objs.size + 1) :: us ++ ds).length = ps.length := by
    have z := r2.length
    rw [F1.len _ _ _ _ hq] at z
    exact z.symm
  have few : us.length ≤ sizeLine := by
    rw [← Paired.length r1, sizeLine_eq]
    omega
  refine wpAny_call (PySem.HandSPX.call_own TB.ex (fun n => pt.has n) (I1.kIn _ _ lk) (PySem.W.looks_findIn I1.kIn iC) (fun me => PySem.W.bind_fn I1.kIn me tI) few (codeAny_mono
    (F1.run _ X.stack _ _ ⟨Value.ref (hp.objs.size + 1) :: us, []⟩ (Value.ref (hp.objs.size + 1) :: (us ++ ds)) _ _ (fun _ _ _ => False) (hr.make C us []) (I2.env0.make C us []) (hb _ (Value.ref (hp.objs.size + 1) :: us) I2.kIn hl) r2 hq) fun r s' z => ?_))
  cases r with
  | error er => exact hx pins σ _ _ er s' I2 z
  | ok fl =>
    cases fl with
    | ret u =>
      obtain ⟨v, H2, os2, bare2, un2, hok2, rv, ev, z2⟩ := z
      subst ev
      obtain ⟨h2, g2, d2, t2, os'⟩ := s'
      rcases z2 with ⟨dq, fs, ea, ed, hd1, q2⟩ | ⟨ea, q2⟩
      · exact ⟨rv, by
          obtain ⟨t0, G, J, kG, ge, hoe, na⟩ := mk_end0 (d2 := d2) (t2 := t2) I1 up kk un2 hok2 os2 bare2 ea ed hd1
          exact ⟨_, _, _, ⟨G, g2, d2, t2, os'⟩, _, .ref C, some dq, rfl, J, kG, ge, hoe, ⟨rfl, rfl, fun vs z => by cases z; rfl⟩, rfl, rfl, na, rfl, bare2, raises_own T.exC T.tyC, q2⟩⟩
      · exact ⟨rv, bare_goneN (raises_own T.exC T.tyC) I1 up kk un2 hok2 os2 bare2 ea q2⟩
    | next => exact False.elim z
    | brk => exact False.elim z
    | cont => exact False.elim z
/-- raise C(e, ..) -/
theorem pmk_exoN {CX : CXT} {x : Str} {C fI : Addr} {k : Nat} {fd : FuncData} {ps : List Str} {sp : Sp} {ds : List Value} {dvs : List V} (T : OwC X.K C) (iC : PySem.W.findIn X.K (.ref C) "__init__" = some (some (.ref fI)))
    (tI : PySem.W.typeIn X.K (.ref fI) = some (.type "function")) (F1 : FnOk X.prog X.w X.K X.mg X.base CX k fI fd ps sp) (hr : Room (k + 1) X.A) (hb : Binds X.K fd ps ds) (hd : Vals dvs ds) (hx : Passes CX X (fun _ _ _ => False)) (hg : Gl X x)
    (hm : X.mg x = some (.ref C)) (ha : PA X (e :: es) ta) (hdb : (x == ("__debug__" : Str)) = false := by decide) (he : starEach (e :: es) X.env = (false, eval e X.env) :: starEach es X.env := by rfl) (hpl : (backTo pos (starEach es X.env)).any (·.1) = false := by rfl) :
    L2N.PMk X (.Call (.Name x p) (e :: es) [] pos) (tThr C sp dvs ta) := fun pins s σ H Q I h =>
  wpAny_Call_Name_kw (ld_glob I hg hm (PySem.W.callWith_K (h₀ := X.base) I.ok.mod.kin T.kC (thn (ha.run pos pins s σ H _ I h) fun us s1 ⟨vs, H1, I1, r1, hz, q1⟩ => ⟨I1.kIn, own_thrownN T iC tI F1 hr hb hd hx I1 r1 hz q1⟩) he hpl) hdb)
/-- raise C() -/
theorem pmk_exoN0 {CX : CXT} {x : Str} {C fI : Addr} {k : Nat} {fd : FuncData} {ps : List Str} {sp : Sp} {ds : List Value} {dvs : List V} (T : OwC X.K C) (iC : PySem.W.findIn X.K (.ref C) "__init__" = some (some (.ref fI)))
    (tI : PySem.W.typeIn X.K (.ref fI) = some (.type "function")) (F1 : FnOk X.prog X.w X.K X.mg X.base CX k fI fd ps sp) (hr : Room (k + 1) X.A) (hb : Binds X.K fd ps ds) (hd : Vals dvs ds) (hx : Passes CX X (fun _ _ _ => False)) (hg : Gl X x)
    (hm : X.mg x = some (.ref C)) (hdb : (x == ("__debug__" : Str)) = false := by decide) : L2N.PMk X (.Call (.Name x p) [] [] pos) (tThr C sp dvs tNil) := fun pins s σ H Q I h =>
  wpAny_Call_Name_kw (ld_glob I hg hm (PySem.W.callWith_K0 I.kIn T.kC (own_thrownN (us := []) (vs := []) T iC tI F1 hr hb hd hx I .nil h.1 h.2)) hdb)
end
end Gn
namespace L2
open PySem PySem.Spec PyProof.Rows
section
variable {X : Cx} {pins : List (Addr × Obj)} {τ : St} {G : Hp} {t0 t1 : Shared}
/-- the handler's side: x flies, as it was told, and all else stands -/
structure DownN (X : Cx) (pins : List (Addr × Obj)) (τ : St) (G : Hp) (t0 t1 : Shared) (B : Heap) (x : Addr) (C : Value) (d : Option Addr) : Prop where
  was : Inv X pins τ G t0
  nb : ∀ b o, t0.heap.get? b = some o → b ∉ frs X.stack → B.get? b = some o
  up : t0.heap.UpToSlots t1.heap
  fly : HandSPX.FlyingZ B (X.env :: X.outer) x (L2N.Zn C d) t1.heap
  new : G x = none
  os : t1.os = t0.os
  ag : AllBare t1.gens
variable {B : Heap} {x : Addr} {C : Value} {d : Option Addr}
theorem DownN.inv (S : DownN X pins τ G t0 t1 B x C d) : Inv X pins τ G t1 := S.was.landed S.nb S.fly.1 S.up S.os S.ag
theorem DownN.on (S : DownN X pins τ G t0 t1 B x C d) {h : Heap} (f : HandSPX.FlyingZ B (X.env :: X.outer) x (L2N.Zn C d) h) (u : t1.heap.UpToSlots h) : DownN X pins τ G t0 { t1 with heap := h } B x C d :=
  ⟨S.was, S.nb, S.up.trans u, f, S.new, S.os, S.ag⟩
theorem DownN.more (S : DownN X pins τ G t0 t1 B x C d) (o : Obj) : DownN X pins τ G t0 { t1 with heap := t1.heap.push o } B x C d := by
  have k : ∀ b u, t1.heap.get? b = some u → (t1.heap.push o).get? b = some u := fun _ _ z => Heap.get?_push_of_some _ z
  refine S.on ?_ (Heap.UpToSlots.of_keeps k)
  obtain ⟨a1, a2, a3, oe, w, T, oT, r, g1, g2, g3, g4, g5, g6, g7, g8⟩ := S.fly
  exact ⟨fun b u z => k b u (a1 b u z), a2, a3.of_keeps fun b u z _ => ⟨u, k b u z, rfl⟩, oe, w, T, oT, r, k _ _ g1, g2, g3, g4, g5, g6, k _ _ g7, g8⟩
theorem DownN.suite (S : DownN X pins τ G t0 t1 B x C d) (es : X.stack = X.env :: X.outer) (ef : X.env.frame = some X.env.locals) :
    ∃ oe, t1.heap.get? x = some oe ∧ L2N.Zn C d oe ∧ (∃ w, oe.data = .fields w) ∧ Inv (X.suite x ((x, oe) :: (X.pn ++ pins))) [] τ G t1 := by
  obtain ⟨oe, w, g, z, dt⟩ := S.fly.there
  have off : x ∉ frs (X.env :: X.outer) := fun m => by
    obtain ⟨_, o', e, nf⟩ := S.fly.2.2.1.mem m
    cases g.symm.trans e
    exact nf _ dt
  refine ⟨oe, g, z, ⟨w, dt⟩, S.inv.suite g dt S.new (fun e => off ?_) fun m => off ?_⟩
  · exact List.mem_filterMap.mpr ⟨X.env, by simp, by rw [ef, e]⟩
  · obtain ⟨v, m1, m2⟩ := List.mem_filterMap.mp m
    exact List.mem_filterMap.mpr ⟨v, List.mem_cons.mpr (.inr m1), m2⟩
end
section
variable {X : Cx} {y1 y2 y3 n : Str} {u1 u2 u3 : Value} {j : Nat} {bd su : List Stmt} {s₀ : Stmt} {q1 q2 q3 qt qh qq : Pos} {kk : Nat} {tb : WX → TS} {ts : Addr → Value → Option Addr → TS} {Wo : WX}
theorem ps_try_triN (es : X.stack = X.env :: X.outer) (ef : X.env.frame = some X.env.locals) (nd : X.N.Nodup) (at_ : X.N[j]? = some n) (lo : X.env.kindOf n = some .local) (m1 : Names X y1 u1) (m2 : Names X y2 u2) (m3 : Names X y3 u3) (tk : L2N.Takes X Wo)
    (B : ∀ (W : WX) (pn : List (Addr × Obj)) (xe : Value → Shared → Prop), L2N.Takes (X.tr pn xe) W → PassesOwn (model X.prog X.w) X.A X.env xe → PSs (X.tr pn xe) bd (tb W))
    (S : ∀ (x : Addr) (oe : Obj) (C : Value) (d : Option Addr) (pn : List (Addr × Obj)), L2N.Zn C d oe → (∃ w, oe.data = .fields w) → PSs (X.suite x ((x, oe) :: pn)) (s₀ :: su) (ts x C d)) :
    PS X (.Try bd [.ExceptHandler (some (.Tuple [.Name y1 q1, .Name y2 q2, .Name y3 q3] kk qt)) (some n) (s₀ :: su) qh] [] [] qq) (fun D τ G => tb (wTri X.K [u1, u2, u3] j ts Wo D) D τ G) := by
  constructor
  intro pins t τ G D J want
  have ok := J.ok
  have frames : X.A.frames = some (X.env :: X.outer) := ok.frames.trans (by rw [es])
  let hs := [ExceptHandler.ExceptHandler (some (.Tuple [.Name y1 q1, .Name y2 q2, .Name y3 q3] kk qt)) (some n) (s₀ :: su) qh]
  let after : Value → Shared → Prop := fun e t1 => wpAny (model X.prog X.w) X.A (noteFrame e X.env) (fun _ t2 => wpAny (model X.prog X.w) X.A (setFlight e none) (fun _ t3 => wpAny (model X.prog X.w) X.A (handleBy e X.env hs) (SP X pins D) X.xe t3) X.xe t2) X.xe t1
  have look : L2N.Takes (X.tr (X.pn ++ pins) after) (wTri X.K [u1, u2, u3] j ts Wo D) := by
    rintro e t1 ⟨x, H0, sI, pi, τ1, G1, C, d, rfl, J1, nb, up, sky, new, os, ag, hit, hm, yes, no⟩
    show wpAny (model X.prog X.w) X.A (noteFrame (.ref x) X.env) _ _ _
    rw [show X.stack = X.env :: X.outer from es] at sky
    refine L2N.Sky.land L2N.Zn.steady frames ef sky fun h fl u => ?_
    have D1 : DownN X pins τ1 G1 sI { t1 with heap := h } H0 x C d := ⟨J1.ofTry ok, nb, up.trans u, fl, new, os, ag⟩
    obtain ⟨oe, ge, gz, gd, I1⟩ := D1.suite es ef
    refine wpAny_handleBy_cons (codeAny_handlers_test (ev_tri I1 m1 m2 m3 ?_)) (by intro z; cases z)
    have D2 := D1.more (triO u1 u2 u3)
    have there : (h.push (triO u1 u2 u3)).get? x = some oe := Heap.get?_push_of_some _ ge
    have LT : PySem.W.Looks (model X.prog X.w) (h.push (triO u1 u2 u3)) (typeOf (.ref x)) C := fun A Q E s k z => wpAny_typeOf_ref (k _ _ there) (by rw [gz.1]; exact z)
    refine (PySem.W.exm_tup3 D2.inv.kIn LT (Heap.get?_push_size h rfl) hm).here ?_
    cases hit
    · show wpAny _ X.A (handleBy (.ref x) X.env []) _ _ _
      refine wpAny_handleBy_nil ?_
      obtain ⟨_, _, _, o2, w, T, _, _, g1, _, g3, g4, _⟩ := id D2.fly
      have away : wpAny (model X.prog X.w) X.A (setFlight (.ref x) X.env.frame) (fun _ t5 => wpAny (model X.prog X.w) X.A (throw (.ref x) : Sem Flow) (SP X pins D) X.xe t5) X.xe { t1 with heap := h.push (triO u1 u2 u3) } := by
        rw [ef]
        exact HandSPX.setFlight_upZ D2.fly fun h' held u' => wpAny_throw (tk _ _ ⟨x, H0, sI, pins, τ1, G1, C, d, rfl, D2.was, nb, D2.up.trans u', .inr (.inr (by rw [es]; exact held)), new, os, ag, no rfl⟩)
      unfold PySem.passOn
      refine wpAny_bind (wpAny_field g1 g3 g4 ?_)
      rw [if_neg (by simp : ¬ ((Value.ref T == Value.none) = true))]
      first
        | exact wpAny_bind (wpAny_pure (wpAny_bind away))
        | exact wpAny_bind away
    · refine codeAny_handlers_suite_as (HandSPX.lands_againZ D2.fly fun h' fl' u' => ?_)
      obtain ⟨o3, _, z3, d3, I3⟩ := (D2.on fl' u').suite es ef
      refine store_ok (X := X.suite x ((x, o3) :: (X.pn ++ pins))) (v := .ref x) I3 nd at_ (.inl lo) rfl (fun t5 I5 => ?_) (.inr lo)
      have off : ∀ {τ6 : St} {G6 : Hp} {t6 : Shared} {Q : Shared → Prop}, Inv (X.suite x ((x, o3) :: (X.pn ++ pins))) [] τ6 G6 t6 → (∀ t7, Inv X pins (τ6.set j none) G6 t7 → Q t7) →
          wpAny (model X.prog X.w) X.A (do bindName X.env n .none; unbindBehindTheSuite X.env n qh) (fun _ t7 => Q t7) X.xe t6 := fun I6 go => gone_ok (I6.unsuite ok) nd at_ lo go
      refine wpAny_mono ((S x o3 C d (X.pn ++ pins) z3 d3).run [] t5 _ G1 _ I5 (yes rfl x new)) (fun fl t6 out => ?_) fun _ _ z => z.elim
      cases fl <;> first
        | (obtain ⟨τ6, G6, I6, w6⟩ := out; exact off I6 fun t7 I7 => ⟨_, _, I7, w6⟩)
        | (obtain ⟨v6, τ6, G6, I6, e6, w6⟩ := out; exact off I6 fun t7 I7 => ⟨_, _, _, I7, e6, w6⟩)
  refine wpAny_Try_except (wpAny_mono ((B _ _ after look PassesOwn.looking).run [] t τ G D (J.toTry _) want) (fun fl t1 out => ?_) fun _ _ z => z)
  cases fl <;> first
    | (obtain ⟨τ1, G1, I1, w1⟩ := out; exact wpAny_execs_nil ⟨τ1, G1, I1.ofTry ok, w1⟩)
    | (obtain ⟨τ1, G1, I1, w1⟩ := out; exact ⟨τ1, G1, I1.ofTry ok, w1⟩)
    | (obtain ⟨v1, τ1, G1, I1, e1, w1⟩ := out; exact ⟨v1, τ1, G1, I1.ofTry ok, e1, w1⟩)
end
/-- such a handler is hot -/
theorem hot_suite {X : Cx} {x : Addr} {oe : Obj} {C : Value} {d : Option Addr} {pn : List (Addr × Obj)} (z : L2N.Zn C d oe) (h : ∃ w, oe.data = .fields w) : L2H.HotC (X.suite x ((x, oe) :: pn)) := by
  obtain ⟨w, hw⟩ := h
  exact ⟨(x, oe), ⟨rfl, w, hw, z.2.2 w hw⟩, by simp⟩
end L2
set_option Elab.async false
set_option linter.all false
set_option maxRecDepth 100000
set_option maxHeartbeats 4000000
/-! what a handler asks of the exception that it holds, by itself or in a def that it calls -/
namespace Gn
open PySem PySem.Spec PyProof.Rows L2 L2H
/-! ### a list of truths: how often one stands in it -/
def isB (b : Bool) : Value → Bool
  | .bool c => c == b
  | _ => false
theorem isB_at {b : Bool} {A : Around} {s : Shared} : ∀ {us : List Value} {bs : List Bool}, Vals (bs.map V.bl) us → ∀ y ∈ us, SeqAt.EqAt A s y (.bool b) (isB b y)
  | [], _, _, y, m => nomatch m
  | u :: us, [], r, y, m => nomatch r
  | u :: us, c :: bs, .cons r1 r2, y, m => by
    obtain rfl : u = Value.bool c := r1
    rcases List.mem_cons.mp m with e | m
    · rw [e]; exact SeqAt.EqAt.bool_bool c b
    · exact isB_at r2 y m
theorem isB_count {b : Bool} : ∀ {us : List Value} {bs : List Bool}, Vals (bs.map V.bl) us → us.countP (isB b) = bs.count b
  | [], [], _ => rfl
  | [], _ :: _, r => nomatch r
  | u :: us, [], r => nomatch r
  | u :: us, c :: bs, .cons r1 r2 => by
    obtain rfl : u = Value.bool c := r1
    rw [List.countP_cons, List.count_cons, isB_count r2]; rfl
def rCntB (K : PySem.W.Frag) : V → List V → Hp → VK → Prop := fun x xs H Q => ∃ (p : Addr) (bs : List Bool) (b : Bool), x = .ref p ∧ xs = [.bl b] ∧ SqL K H p (bs.map V.bl) ∧ Q (.int (bs.count b : Nat)) H
theorem mt_countB {X : Cx} : MtR X "list.count" (rCntB X.K) := by
  intro pins s σ H x xs v us Q I rx rxs h
  obtain ⟨p, bs, b, rfl, rfl, hs, q⟩ := h
  cases rx
  obtain ⟨u, rfl, ru⟩ := rxs.one
  obtain rfl : u = Value.bool b := ru
  obtain ⟨its, rv, ⟨⟨cls, dd, data, sl⟩, n, ho, hc, hdn, hd⟩, _⟩ := I.list hs
  dsimp only at hc hd
  subst hc hd
  refine call_meets PySem.F.slot_list_count ⟨_, ho, rfl⟩ PySem.F.entry_list_count (PySem.F.args_list_count_2 _ _) (SeqAt.list_countAt p its.toArray n dd sl (.bool b) (isB b)) ⟨ho, fun y hy => isB_at rv y (by simpa using hy), ⟨.int (bs.count b : Nat), H, I.tok _, ⟨s.toks, ?_⟩, q⟩⟩
  rw [show its.toArray.toList = its from rfl, isB_count rv]
/-! ### the exception that is held: of which classes it is, what it has -/
section
variable {X : Cx} {a : Addr} {cls : Value} {d : Option Addr} {oe : Obj}
theorem held_inst {pins : List (Addr × Obj)} {σ : L2.St} {H : Hp} {s : Shared} {D : Addr} (m : (a, oe) ∈ X.pn) (hz : Zc (.ref D) d oe) (hf : ∃ vs, oe.data = .fields vs) (I : Inv X pins σ H s) (hd : ∀ y, d = some y → ∃ fs, H y = some (.xd fs)) : ∃ ox od, PySem.W.InstAt s.heap a ox D od := by
  obtain ⟨at0, _⟩ := I.pin (a, oe) (List.mem_append.mpr (.inl m))
  obtain ⟨vs, hv⟩ := hf
  obtain ⟨oc, dd, oda, osl⟩ := oe
  obtain ⟨h1, h2⟩ := hz
  dsimp only at h1 h2 hv
  subst h1 h2 hv
  cases dd with
  | none => exact ⟨_, none, at0, rfl, rfl, trivial⟩
  | some y =>
    obtain ⟨fs, ed⟩ := hd y rfl
    obtain ⟨mA, hns, _⟩ := (show ObjOk X.prog X.w H s.heap y (.xd fs) from I.hok y _ ed)
    obtain ⟨od, ho, _⟩ := lookIn_ns hns
    exact ⟨_, some od, at0, rfl, rfl, ho⟩
/-- isinstance(e, c) -/
def rIsP (K : PySem.W.Frag) (cls : Value) (a : Addr) (d : Option Addr) : List V → Hp → VK → Prop := fun xs H Q => ∃ (D : Addr) (c : V) (cv : Value) (b : Bool), cls = .ref D ∧ ExcC K D ∧ xs = [.ref a, c] ∧ (∀ y, d = some y → ∃ fs, H y = some (.xd fs)) ∧ (∀ u, RelV c u → u = cv) ∧ PySem.W.kitOne K (.ref D) cv = some b ∧ Q (.bl b) H
theorem cr_isP (m : (a, oe) ∈ X.pn) (hz : Zc cls d oe) (hf : ∃ vs, oe.data = .fields vs) : CallR X (.builtin "isinstance") (rIsP X.K cls a d) := by
  intro pins s σ H xs us Q I r h
  obtain ⟨D, c, cv, b, rfl, C, rfl, hd, hcv, e, q⟩ := h
  obtain ⟨u1, u2, rfl, r1, r2⟩ := vals2 r
  obtain rfl := hcv _ r2
  cases r1
  exact PySem.W.kia_one (PySem.W.gn_kit C) I.kIn (held_inst m hz hf I hd) e (fun z => nomatch z) fun tk => ⟨.bl b, H, I.tok tk, rfl, q⟩
/-- isinstance(e, (A, B, ..)) -/
def rIsPT (K : PySem.W.Frag) (cls : Value) (a : Addr) (d : Option Addr) : List V → Hp → VK → Prop := fun xs H Q => ∃ (D tp : Addr) (cs : List V) (us : List Value) (b : Bool), cls = .ref D ∧ ExcC K D ∧ xs = [.ref a, .ref tp] ∧ H tp = some (.tup cs) ∧ Paired ClsV cs us ∧ (∀ y, d = some y → ∃ fs, H y = some (.xd fs)) ∧ PySem.W.kitAny K (.ref D) us = some b ∧ Q (.bl b) H
theorem cr_isPT (m : (a, oe) ∈ X.pn) (hz : Zc cls d oe) (hf : ∃ vs, oe.data = .fields vs) : CallR X (.builtin "isinstance") (rIsPT X.K cls a d) := by
  intro pins s σ H xs us Q I r h
  obtain ⟨D, tp, cs, ws, b, rfl, C, rfl, hT, k, hd, e, q⟩ := h
  obtain ⟨u1, u2, rfl, r1, r2⟩ := vals2 r
  cases r1
  cases r2
  obtain ⟨oc, its, rv, o, h1, h2, n, h3⟩ := (show ObjOk X.prog X.w H s.heap tp (.tup cs) from I.hok tp _ hT)
  obtain rfl := ClsV.all k rv
  obtain ⟨ocl, od, dt, sl⟩ := o
  dsimp only at h2 h3
  subst h2 h3
  exact PySem.W.kia_tup (PySem.W.gn_kit C) I.kIn (held_inst m hz hf I hd) h1 e (fun z => nomatch z) fun tk => ⟨.bl b, H, I.tok tk, rfl, q⟩
/-- e.f -/
def tXfP (K : PySem.W.Frag) (a : Addr) (cls : Value) (d : Option Addr) (f : Str) (te : TE) : TE := fun σ H Q => te σ H fun x H1 => ∃ (D dd : Addr) (fs : List (Str × V)) (v : V), x = .ref a ∧ cls = .ref D ∧ XfC K D ∧ PySem.W.findIn K (.ref D) f = some none ∧ d = some dd ∧ H1 dd = some (.xd fs) ∧ fs.lookup f = some v ∧ Q v H1
theorem pe_xfP {e : Expr} {te : TE} {pos : Pos} {f : Str} (m : (a, oe) ∈ X.pn) (hz : Zc cls d oe) (hf : ∃ vs, oe.data = .fields vs) (he : PE X e te) (hb : attributeBase e f X.env (eval e X.env) = eval e X.env := by rfl) : PE X (.Attribute e f pos) (tXfP X.K a cls d f te) := by
  constructor
  intro pins s σ H Q I h
  refine attr_of hb (thn (he.run pins s σ H _ I h) fun u s1 ⟨x, H1, I1, rx, D, dd, fs, v, ex, ec, T, no, ed, ea, l, q⟩ => ?_)
  subst ex ec ed
  obtain rfl : u = Value.ref a := rx
  obtain ⟨at0, _⟩ := I1.pin (a, oe) (List.mem_append.mpr (.inl m))
  obtain ⟨vs, hv⟩ := hf
  obtain ⟨mA, hns, rel⟩ := (show ObjOk X.prog X.w H1 s1.heap dd (.xd fs) from I1.hok dd _ ea)
  obtain ⟨od, ho, hl⟩ := lookIn_ns hns
  obtain ⟨y, hy, ry⟩ := RelO.some_of (v := v) (o := mA f) (by rw [← l]; exact rel f)
  have J : PySem.W.InstAt s1.heap a oe D (some od) := ⟨at0, hz.1, by unfold PySem.W.notCls; rw [hv] <;> rfl, by rw [hz.2]; exact ho⟩
  exact HandSPX.exc_get I1.kIn J T.ga T.gg T.exC (PySem.W.findObj_own T.hdC no rfl (by rw [hl, hy])) (handed_of ry) ⟨v, H1, I1.tok _, ry, q⟩
end
/-! ### a def that is called with the exception that is held: its promise knows it -/
structure FnP (P : Program) (w : World) (K : PySem.W.Frag) (mg : Str → Option Value) (base : Heap) (CX : CXT) (k : Nat) (f : Addr) (fd : FuncData) (ps : List Str) (sp : Addr × Obj → Sp) : Prop where
  len : ∀ p vs H Q E, sp p vs H Q E → vs.length = ps.length
  run : ∀ (A : Around) (outer : List Env) (s : Shared) (H : Hp) (args : Args) (us : List Value) (vs : List V) (Q : VK) (E : XK) (p : Addr × Obj), RoomH k A → Hot1 A p → PinOk outer H s p → Env0 P w K mg base A outer s H → BindsTo s fd args (ps.zip us) → Vals vs us → sp p vs H Q E →
    codeAny (model P w) A (.call (.ref f) args) (CR CX outer P w H s Q E) s
section
variable {P : Program} {w : World} {K : PySem.W.Frag} {mg : Str → Option Value} {base : Heap}
theorem funP {CX : CXT} {x qual : Str} {st : Stmt} {f : Addr} {fd : FuncData} {N ps : List Str} {k : Nat} {sp : Addr × Obj → Sp} (F : Fun K x qual st f fd) (S : FnScope N ps (defScope st)) (len : ∀ p vs H Q E, sp p vs H Q E → vs.length = ps.length)
    (hbody : ∀ (cdv : Value) (A : Around) (outer : List Env) (s : Shared) (H : Hp) (vs : List V) (Q : VK) (E : XK) (p : Addr × Obj), Hot1 A p → RoomH k (A.deeper (envOfC qual (defScope st) s.heap.objs.size f cdv)) → sp p vs H Q E →
      ∃ t, PSs (cxH CX P w K mg base N qual (defScope st) f cdv A outer s H E p) (defBody st) t ∧ t { nx := fun _ H' => Q .non H', rt := Q } (start N vs) H) : FnP P w K mg base CX (k + 1) f fd ps sp := by
  obtain ⟨oc, od, kV, doc, pm, an, cdv, ct, osl, rfl, lk, hcd⟩ := F.ex
  refine ⟨len, fun A outer s H args us vs Q E p hr hot pin e0 hb r hsp => ?_⟩
  have KX : K.In s.heap := e0.mod.kin.keeps fun b o e => (e0.bs b o e).1
  have hkind : ∀ y ∈ ps.zip us, (defScope st).names.lookup y.1 = some .local ∨ ((defScope st).names.lookup y.1 = some .cell ∧ ((cellsFrom (s.heap.objs.size + 1) (defScope st).names []).lookup y.1).isSome = true) := fun y hy =>
    (S.par y.1 (List.of_mem_zip hy).1).elim .inl fun q => .inr ⟨q, PySem.W.cellsFrom_some _ _ _ (.inl q)⟩
  refine codeAny_call_function hr.depth (KX _ _ lk) rfl S.co S.gen rfl (PySem.W.codeRec_of KX hcd) (hb _ _ _ _ (wpAny_newFunctionEnv_cells S.kind hkind fun env he s1 x => ?_))
  subst he
  refine ⟨(e0.mod.nolimit.keeps fun b o e => (e0.bs b o e).1).keeps x.toInCall.keep, codeAny_func ?_⟩
  obtain ⟨t, ht, hq⟩ := hbody cdv A outer s H vs Q E p hot (hr.deeper _) hsp
  have I : Inv (cxH CX P w K mg base N qual (defScope st) f cdv A outer s H E p) [] (start N vs) H s1 := inv_startH S pin e0 (len _ _ _ _ _ hsp) r x
  refine wpAny_mono (ht.run [] s1 (start N vs) H _ I hq) (fun fl s' hs => ?_) fun _ _ hs => hs
  cases fl with
  | ret u => obtain ⟨v, σ', H', J, rv, q⟩ := hs; exact ⟨v, H', J.os, J.bare, J.base, J.hok, rv, q⟩
  | next => obtain ⟨σ', H', J, q⟩ := hs; exact ⟨V.non, H', J.os, J.bare, J.base, J.hok, rfl, q⟩
  | brk => obtain ⟨_, _, _, q⟩ := hs; exact False.elim q
  | cont => obtain ⟨_, _, _, q⟩ := hs; exact False.elim q
end
section
variable {X : Cx} {CX : CXT} {k : Nat} {f : Addr} {fd : FuncData} {ps : List Str} {sp : Addr × Obj → Sp} {E : XK} {x : Str} {p pos : Pos} {e : Expr} {es : List Expr} {t : TA} {q : Addr × Obj}
theorem pe_callP (F : FnP X.prog X.w X.K X.mg X.base CX k f fd ps sp) (hr : RoomH k X.A) (m : q ∈ X.pn) (hot : Hot1 X.A q) (hg : Gl X x) (hm : X.mg x = some (.ref f)) (hk : PySem.W.keepIn X.K (.ref f) = true) (hb : Binds X.K fd ps []) (hx : Passes CX X E)
    (ha : PA X (e :: es) t) (hdb : (x == ("__debug__" : Str)) = false := by decide) (he : starEach (e :: es) X.env = (false, eval e X.env) :: starEach es X.env := by rfl) (hpl : (backTo pos (starEach es X.env)).any (·.1) = false := by rfl) :
    PE X (.Call (.Name x p) (e :: es) [] pos) (tCall (sp q) [] E t) := by
  constructor
  intro pins s σ H Q I h
  refine wpAny_Call_Name_kw (ld_glob I hg hm (PySem.W.callWith_K (h₀ := X.base) I.ok.mod.kin hk (thn (ha.run pos pins s σ H _ I h) fun us s1 ⟨vs, H1, I1, r, z⟩ => ⟨I1.kIn, ?_⟩) he hpl) hdb)
  have z : sp q (vs ++ []) H1 Q E := z
  rw [List.append_nil] at z
  have b := hb s1 us I1.kIn (by rw [List.append_nil, ← r.length]; exact F.len _ _ _ _ _ z)
  rw [List.append_nil] at b
  obtain ⟨p1, p2, p3, p4, p5⟩ := I1.pin q (List.mem_append.mpr (.inl m))
  refine wpAny_call (codeAny_mono (F.run X.A X.stack s1 H1 ⟨us, []⟩ us vs Q E q hr hot ⟨p1, p2, fun hm => (List.mem_cons.mp (I1.stkSub q.1 hm)).elim p3 p4, p5⟩ I1.env0 b r z) fun r s' hq => ?_)
  have y := back_of hx I1 hq
  cases r with
  | error e => exact y
  | ok fl => cases fl with
    | ret u => exact y
    | next => exact y.elim
    | brk => exact y.elim
    | cont => exact y.elim
end
end Gn
set_option Elab.async false
set_option linter.all false
set_option maxRecDepth 100000
set_option maxHeartbeats 4000000
/-! y = [..] within a handler -/
namespace L2
open PySem PySem.Spec PyProof.Rows HotX L2H
section
variable {X : Cx} {i : Nat} {y : Str} {elt tg src : Expr} {ifs : List Expr} {sc : Scope} {own : List (Str × Nat)} {py pa ps : Pos} {ti te : TE} {g : TG} {tt : TT}
theorem ps_setLcH {p : Addr × Obj} (hot : Hot1 X.A p) (pm : p ∈ X.pn) (nd : X.N.Nodup) (hy : X.N[i]? = some y) (lo : X.env.scope.names.lookup y = some .local) (sw : swapsWith (.ListComp elt [⟨tg, src, ifs, 0⟩] sc pa) (some (.Name y py)) ps.line X.env = pure true) (hi : PE X src ti) (ok : BlkOk X.N X.env.scope sc own)
    (hg : ∀ (s : Shared) (H : Hp) (C : Addr) (cl : List (Str × Addr)) (fp : List Addr), Seen (X.blk s H sc (compEnvC sc cl C X.env) fp) p → PG (X.blk s H sc (compEnvC sc cl C X.env) fp) tg g)
    (ht : ∀ (s : Shared) (H : Hp) (C : Addr) (cl : List (Str × Addr)) (fp : List Addr), Seen (X.blk s H sc (compEnvC sc cl C X.env) fp) p → PTs (X.blk s H sc (compEnvC sc cl C X.env) fp) ifs tt)
    (he : ∀ (s : Shared) (H : Hp) (C : Addr) (cl : List (Str × Addr)) (fp : List Addr), Seen (X.blk s H sc (compEnvC sc cl C X.env) fp) p → PE (X.blk s H sc (compEnvC sc cl C X.env) fp) elt te)
    (fo : ∀ x, foldedSetIterable src X.env x = pure x := by intro _; rfl) : PS X (.Assign [.Name y py] (.ListComp elt [⟨tg, src, ifs, 0⟩] sc pa) ps) (tAsg (tLc (iList X.K ti) g tt te (own.map (·.2))) (gName i)) := by
  constructor
  intro pins t τ G D J want
  have want : tLc (iList X.K ti) g tt te (own.map (·.2)) τ G (fun x G1 => gName i x τ G1 D.nx) := want
  rw [exec_Assign_Name_used _ _ _ _ sw]
  refine wpAny_bind (wpAny_standAt (wpAny_bind ?_))
  change wpAny _ X.A (comprehension (.ListComp elt [⟨tg, src, ifs, 0⟩] sc pa) sc X.env (firstIterPos [⟨tg, src, ifs, 0⟩] pa) (newList []) false (eval src X.env) (some (assign (.Name y py) X.env)) >>= _) _ _ t
  refine wpAny_bind (thn (lc_hot (Qf := fun _ u => SP X pins D .next u) hot pm nd J hi ok hg ht he fo want fun L C u m G' J' q hn fr => ?_) fun _ u z => wpAny_pure (wpAny_pure z))
  change wpAny _ _ (assign (.Name y py) X.env (.ref L)) _ _ _
  refine wpAny_assign_Name (store_ok2 (v := V.ref L) J' nd hy (.inl lo) rfl (fun u2 J2 ⟨b, sb, hb⟩ => ?_) (.inr lo))
  have off : C ≠ b := hb.elim (fun z => z ▸ fr.2.1) fun z e => fr.2.2.2.2.1 y b z e.symm
  exact ⟨m, hn.sameBut sb off, fun h3 sb3 => ⟨_, G', J2.turned (t' := u2.toks) (fun c o n e => (sb3.2 c n).trans e) fr.1 fr.2.1 fr.2.2.2.1 fr.2.2.2.2.1 fr.2.2.2.2.2, q⟩⟩
end
end L2
set_option Elab.async false
set_option linter.all false
set_option maxRecDepth 100000
set_option maxHeartbeats 4000000
/-! a lambda handed to a def that tries it: what it raises has a known context -/
namespace Gn
open PySem PySem.Spec PyProof.Rows L2
section
variable {P : Program} {w : World} {K : PySem.W.Frag} {mg : Str → Option Value} {base : Heap}
/-- a def that may raise -/
theorem okN {x qual : Str} {st : Stmt} {f : Addr} {fd : FuncData} {N ps : List Str} {k : Nat} {sp : Sp} (F : Fun K x qual st f fd) (S : FnScope N ps (defScope st)) (len : ∀ vs H Q E, sp vs H Q E → vs.length = ps.length)
    (body : ∀ (cdv : Value) (A : Around) (outer : List Env) (s : Shared) (H : Hp) (vs : List V) (Q : VK) (E : XK), Room k (A.deeper (envOfC qual (defScope st) s.heap.objs.size f cdv)) → sp vs H Q E →
      ∃ t, PSs (cxOf (L2N.CX P w) P w K mg base N qual (defScope st) f cdv A outer s H E) (defBody st) t ∧ t { nx := fun _ G => Q .non G, rt := Q } (start N vs) H) : FnOk P w K mg base (L2N.CX P w) (k + 1) f fd ps sp := by
  obtain ⟨_, _, _, _, _, _, cdv, _, _, rfl, lk, hcd⟩ := F.ex
  exact fn_of lk hcd S len fun A o s H vs Q E => body cdv A o s H vs Q E
end
/-- the lambda's body, entered at s -/
abbrev lamN (X : Cx) (A : Around) (outer : List Env) (s : Shared) (H : Hp) (E : XK) (sc : Scope) (f c : Addr) : Cx :=
  (LamX.lamCx X A outer s H E sc f c).wish fun e t => wpAny (model X.prog X.w) (A.deeper (LamX.lamEnv X sc s.heap.objs.size f c)) (leaving (LamX.lamEnv X sc s.heap.objs.size f c) e) (fun _ t' => L2N.CX X.prog X.w outer H s E e t') (fun e' t' => L2N.CX X.prog X.w outer H s E e' t') t
section
variable {X : Cx} {pins : List (Addr × Obj)} {σ : L2.St} {H : Hp} {s : Shared}
/-- what leaves the body -/
theorem lamN_takes {A : Around} {outer : List Env} {E : XK} {sc : Scope} {f c : Addr} : L2N.Takes (lamN X A outer s H E sc f c) fun C d _ G => E C d G :=
  L2N.takes_of (E₁ := fun e' t' => L2N.CX X.prog X.w outer H s E e' t') rfl rfl rfl rfl
/-- a(), in the def that got the lambda -/
theorem pe_actN {CXg : CXT} {Eg : XK} {Ng : List Str} {qg : Str} {sg sc : Scope} {g f c : Addr} {cdg pm ctv : Value} {pr : Arguments} {bo : Expr} {k i : Nat} {a : Str} {pn : List (Addr × Obj)} {xe : Value → Shared → Prop} {W : WX} {tb : XK → TE} {p1 p2 : Pos}
    (I : Inv X pins σ H s) (L : LamX.LamS X.env.scope sc) (gf : s.heap.get? f = some (PySem.W.kla_obj "<lambda>" (X.env.qual ++ "<lambda>") pr bo sc (cloFrom X.env.cells sc.names []) pm c ctv)) (nf : H f = none) (off : f ∉ frs X.stack)
    (bi : bindArgs (PySem.W.kla_fn "<lambda>" (X.env.qual ++ "<lambda>") pr bo sc (cloFrom X.env.cells sc.names []) pm (.ref c) ctv) ⟨[], []⟩ = pure [])
    (tk : L2N.Takes ((cxOf CXg X.prog X.w X.K X.mg X.base Ng qg sg g cdg X.A X.stack s H Eg).tr pn xe) W) (hr : Room (k + 1) (X.A.deeper (envOfC qg sg s.heap.objs.size g cdg)))
    (body : ∀ (A : Around) (outer : List Env) (s : Shared) (H : Hp) (E : XK), Room k (A.deeper (LamX.lamEnv X sc s.heap.objs.size f c)) → PE (lamN X A outer s H E sc f c) bo (tb E))
    (at_ : Ng[i]? = some a) (vi : Vis sg a) (nd : (a == ("__debug__" : Str)) = false := by decide) (nc : (a == ("__classdict__" : Str)) = false := by decide) :
    PE ((cxOf CXg X.prog X.w X.K X.mg X.base Ng qg sg g cdg X.A X.stack s H Eg).tr pn xe) (.Call (.Name a p1) [] [] p2)
      (fun τ G Q => τ[i]? = some (some (.ref f)) ∧ G c = some (LamX.CodeO c (X.env.qual ++ "<lambda>")) ∧ tb (fun C d G' => W C d τ G') σ G Q) := by
  constructor
  rintro pi t τ G Q J ⟨slot, co, want⟩
  refine wpAny_Call_Name_kw (thn ((pe_var (pos := p1) (i := i) at_ vi nd nc).run pi t τ G (fun v G1 => v = .ref f ∧ G1 = G) J ⟨.ref f, slot, rfl, rfl⟩) fun u t1 ⟨v, G1, J1, rv, ev, eG⟩ => ?_)
  subst ev eG
  obtain rfl : u = Value.ref f := rv
  have g1 := J1.base.keep f _ gf nf off (fun z => nomatch (show f ∈ ([] : List Addr) from z))
  have un : Un (frs X.stack) [] H G1 s.heap t1.heap := J1.base
  obtain ⟨⟨oc, vs, tn, goc, gd, gv⟩, _, _⟩ := J1.hok c _ co
  have run : codeAny (model X.prog X.w) (X.A.deeper (envOfC qg sg s.heap.objs.size g cdg)) (.call (.ref f) ⟨[], []⟩) (CR (L2N.CX X.prog X.w) (envOfC qg sg s.heap.objs.size g cdg :: X.stack) X.prog X.w G1 t1 Q fun C d G' => W C d τ G') t1 := by
    refine PySem.W.kla_callFunE hr.depth g1 rfl L.co L.gen rfl ⟨c, oc, vs, tn, rfl, goc, gd, gv⟩ ?_
    rw [bi]
    refine wpAny_pure (wpAny_newFunctionEnv (fun y m => (L.own y m).2) (fun y m => absurd m (by simp)) (fun h ns sb => ⟨J1.nolimit.fresh _ sb, ?_⟩) L.kind)
    change codeAny _ _ (.expr bo (LamX.lamEnv X sc t1.heap.objs.size f c)) _ _
    have start := LamX.lam_start2 (A := X.A.deeper (envOfC qg sg s.heap.objs.size g cdg)) (outer := envOfC qg sg s.heap.objs.size g cdg :: X.stack) (E := fun C d G' => W C d τ G') (c' := c) (f := f) (tk := t1.toks + ([] : List (Str × Value)).length) I L J1.env0 hr.hd un ns fun b o e => sb.extBut b o (Nat.ne_of_lt (Heap.lt_size e)) (Heap.get?_push_of_some _ e)
    refine PySem.W.kla_codeExpr (wpAny_mono ((body _ _ t1 G1 _ (hr.deeper _)).run [] _ σ G1 Q (start.wish _) want) (fun v t2 ⟨y, G2, J2, ry, q⟩ => ?_) fun _ _ z => z)
    exact ⟨y, G2, J2.os, J2.bare, J2.base, J2.hok, ry, q⟩
  refine PySem.W.callWith_F0 ⟨_, _, _, _, g1⟩ (wpAny_call (codeAny_mono run fun r t2 z => ?_))
  cases r with
  | error e => exact tk e t2 (L2N.XE.of_call J1 (fun C d G' h => h) z)
  | ok fl => cases fl with
    | ret u => exact J1.after z
    | next => exact z.elim
    | brk => exact z.elim
    | cont => exact z.elim
/-- the def that tries what it got: TT, what it makes of the lambda's reading -/
def GivesN (X : Cx) (Ng : List Str) (x : Str) (sg : Scope) (g : Addr) (cdg : Value) (bg : List Stmt) (a : Str) (q : Str) (k : Nat) (TT : (XK → Hp → VK → Prop) → Hp → VK → Prop) : Prop :=
  ∀ (f c : Addr) (s : Shared) (H : Hp) (Q : VK) (tl : XK → Hp → VK → Prop),
    (∀ (W : WX) (pn : List (Addr × Obj)) (xe : Value → Shared → Prop) (p1 p2 : Pos), L2N.Takes ((cxOf CX0 X.prog X.w X.K X.mg X.base Ng x sg g cdg X.A X.stack s H E0).tr pn xe) W →
      PE ((cxOf CX0 X.prog X.w X.K X.mg X.base Ng x sg g cdg X.A X.stack s H E0).tr pn xe) (.Call (.Name a p1) [] [] p2) (fun τ G Q => τ[0]? = some (some (.ref f)) ∧ G c = some (LamX.CodeO c q) ∧ tl (fun C d G' => W C d τ G') G Q)) →
    H c = some (LamX.CodeO c q) → Room (k + 1) (X.A.deeper (envOfC x sg s.heap.objs.size g cdg)) → TT tl H Q →
    ∃ t, PSs (cxOf CX0 X.prog X.w X.K X.mg X.base Ng x sg g cdg X.A X.stack s H E0).nox bg t ∧ t { nx := fun _ G => Q .non G, rt := Q } (L2.start Ng [.ref f]) H
/-- x(lambda: bo) -/
theorem pe_lamN {T : List (Addr × Str)} {TT : (XK → Hp → VK → Prop) → Hp → VK → Prop} {x a : Str} {g c P : Addr} {k : Nat} {st : Stmt} {fd : FuncData} {Ng : List Str} {pr : Arguments} {bo : Expr} {sc : Scope} {t : XK → TE} {p lp pos : Pos}
    (hg : Gl X x) (hm : X.mg x = some (.ref g)) (F : Fun X.K x x st g fd) (kp : PySem.W.keepIn X.K (.ref g) = true) (hb : Binds X.K fd [a] []) (Sg : FnScope Ng [a] (defScope st)) (at_ : Ng[0]? = some a) (vi : Vis (defScope st) a)
    (hG : ∀ cdv, GivesN X Ng x (defScope st) g cdv (defBody st) a (X.env.qual ++ "<lambda>") k TT)
    (TB : LamX.TabB X.base X.mg c P) (ec : X.env.code = .ref c) (mT : (P, X.env.qual ++ "<lambda>") ∈ T) (one : ∀ q ∈ T, q.1 = P → q.2 = X.env.qual ++ "<lambda>") (hr : Room (k + 2) X.A) (L : LamX.LamS X.env.scope sc) (df : defaultsOf pr X.env = ([], []))
    (bi : ∀ (q : Str) (cl : List (Str × Addr)) (pm cv ctv : Value), bindArgs (PySem.W.kla_fn "<lambda>" q pr bo sc cl pm cv ctv) ⟨[], []⟩ = pure [])
    (body : ∀ (A : Around) (outer : List Env) (s : Shared) (H : Hp) (E : XK) (f c' : Addr), Room k (A.deeper (LamX.lamEnv X sc s.heap.objs.size f c')) → PE (lamN X A outer s H E sc f c') bo (t E))
    (nx : (x == ("__debug__" : Str)) = false := by decide) (nd : (a == ("__debug__" : Str)) = false := by decide) (nc : (a == ("__classdict__" : Str)) = false := by decide) :
    PE X (.Call (.Name x p) [.Lambda pr bo sc lp] [] pos) (LamX.tLam T TT t) := by
  obtain ⟨_, _, _, _, _, _, cdv, _, _, rfl, lk, hcd⟩ := F.ex
  constructor
  rintro pins s σ H Q I ⟨tabs, want⟩
  refine wpAny_Call_Name_kw (ld_glob I hg hm (PySem.W.callWith_K (h₀ := X.base) I.ok.mod.kin kp ?_ (by rfl) (by rfl)) nx)
  change wpAny _ _ (spliced ((false, eval (.Lambda pr bo sc lp) X.env) :: backTo pos (starEach [] X.env))) _ _ s
  refine Calls.spliced_cons (LamX.lam_make2 I TB ec mT one tabs df (L.has I.ok) fun f c' pm ctv H1 s1 I1 eN T1 gf nf off co => Calls.spliced_nil ⟨I1.kIn, ?_⟩)
  have run : codeAny (model X.prog X.w) X.A (.call (.ref g) ⟨[.ref f], []⟩) (CR CX0 X.stack X.prog X.w H1 s1 Q E0) s1 := by
    refine LamX.run_ofS (N := Ng) (ps := [a]) (us := [.ref f]) (vs := [.ref f]) lk hcd Sg hr I1.env0 (hb s1 [.ref f] I1.kIn rfl) (.cons rfl .nil) rfl fun hr' => ?_
    obtain ⟨u, hu, q⟩ := hG cdv f c' s1 H1 Q (fun E G Q' => t E σ G Q') (fun W pn xe p1 p2 tk => pe_actN (i := 0) I1 L gf nf off (bi _ _ _ _ _) tk hr' (fun A o s2 H2 E hr2 => body A o s2 H2 E f c' hr2) at_ vi nd nc) co hr' (want H1 eN T1)
    exact ⟨u, hu.nox, q⟩
  refine wpAny_call (codeAny_mono run fun r s2 z => ?_)
  cases r with
  | error e => exact (show False from z).elim
  | ok fl => cases fl with
    | ret u => exact I1.after z
    | next => exact z.elim
    | brk => exact z.elim
    | cont => exact z.elim
end
end Gn
set_option Elab.async false
set_option linter.all false
set_option maxRecDepth 100000
set_option maxHeartbeats 4000000
/-! the end of a law whose defs make lambdas, no guards known ahead -/
namespace Gn
open PySem PySem.Spec PyProof.Rows L2
section
variable {P : Program} {w : World} {K : PySem.W.Frag} {mg mb : Str → Option Value}
/-- a table of code objects that is empty yet -/
def tabO : Obj := { cls := .none, data := .fields #[] }
theorem lawGT {CX : CXT} {k : Nat} {fa a : Addr} {cs : List (Addr × Addr)} {fd : FuncData} {x : Str} {sp : Sp} {s₁ : Shared} {vs : List Value} {ns : List Int}
    (KX : K.In s₁.heap) (hns : s₁.heap.Ns mainGlobals mg) (hb : s₁.heap.Ns builtinsNs mb) (hbb : ∀ x : Str, x ≠ "__name__" → mb x = bootBuiltins x) (hlim : s₁.heap.NoLimit) (hg : s₁.gens = #[])
    (T0 : ∀ p ∈ cs, s₁.heap.get? p.2 = some tabO) (T1 : ∀ p ∈ cs, K.lookup p.2 = none) (T2 : ∀ p ∈ cs, PySem.W.CodeHd s₁.heap p.1 p.2)
    (bm : ∃ (m : Addr) (o : Obj), mg "__builtins__" = some (.ref m) ∧ m ≠ builtinsNs ∧ s₁.heap.get? m = some o ∧ o.cls = .type "module" ∧ o.dict = some builtinsNs ∧ o.data = .plain)
    (ha : s₁.heap.get? a = some { cls := .type "list", data := .seq vs.toArray }) (hi : IntsAre vs ns) (hl : ns.length ≤ sizeLine) (hr : Room k callerA)
    (F : ∀ base : Heap, K.In base → base.Ns mainGlobals mg → (∀ p ∈ cs, LamX.TabB base mg p.1 p.2) → FnG P w K mg base CX k fa fd [x] sp) (hbind : ∀ (s : Shared) (u : Value), BindsTo s fd ⟨[u], []⟩ [(x, u)])
    (hsp : ∀ H : Hp, (∀ p ∈ cs, H p.2 = some (.tbl #[])) → SqL K H a (ns.map V.int) → sp [.ref a] H (fun v _ => v = .bl true) fun _ _ _ => False) (hCX : ∀ H e s', CX [] H s₁ (fun _ _ _ => False) e s' → False) :
    codeAny (model P w) callerA (.call (.ref fa) ⟨[.ref a], []⟩) (fun r s' => r = .ok (.ret (.bool true)) ∧ OldK s₁.heap s'.heap ∧ s'.os = s₁.os ∧ AllBare s'.gens) s₁ := by
  have rv := vals_ints hi
  have isT : ∀ b, b ∈ cs.map (·.2) → s₁.heap.get? b = some tabO := fun b m => by
    obtain ⟨p, pm, rfl⟩ := List.mem_map.mp m
    exact T0 p pm
  have nA : a ∉ cs.map (·.2) := fun m => by
    have z := (isT a m).symm.trans ha
    have z' := congrArg Obj.data (Option.some.inj z)
    cases z'
  have mT : ∀ p ∈ cs, p.2 ∈ cs.map (·.2) := fun p m => List.mem_map.mpr ⟨p, m, rfl⟩
  -- what is tracked at first: the tables, and the script where the kit's frame doesn't hold it
  let H0 : Hp := fun b => if b ∈ cs.map (·.2) then some (.tbl #[]) else if b = a ∧ K.lookup a = none then some (.frz { cls := .type "list", data := .seq vs.toArray } (.lst (ns.map V.int))) else none
  have HT : ∀ p ∈ cs, H0 p.2 = some (.tbl #[]) := fun p m => if_pos (mT p m)
  have HN : ∀ b, b ∉ cs.map (·.2) → ¬ (b = a ∧ K.lookup a = none) → H0 b = none := fun b m n => by
    show (if b ∈ cs.map (·.2) then _ else _) = _
    rw [if_neg m, if_neg n]
  have HA : K.lookup a = none → H0 a = some (.frz { cls := .type "list", data := .seq vs.toArray } (.lst (ns.map V.int))) := fun n => by
    show (if a ∈ cs.map (·.2) then _ else _) = _
    rw [if_neg nA, if_pos ⟨rfl, n⟩]
  have hS : SqL K H0 a (ns.map V.int) := by
    cases q : K.lookup a with
    | none => exact .inl (.inr ⟨_, HA q⟩)
    | some o =>
      have e := KX a o q
      rw [ha] at e
      cases e
      exact .inr ⟨_, vs.toArray, _, q, rfl, rfl, rfl, by rw [List.size_toArray, hi.length]; exact hl, by simpa using rv⟩
  have hok : HOk P w H0 s₁.heap := fun b u e => by
    by_cases m : b ∈ cs.map (·.2)
    · have e' : (some (HO.tbl #[]) : Option HO) = some u := (if_pos m).symm.trans e
      cases e'
      exact isT b m
    · by_cases n : b = a ∧ K.lookup a = none
      · obtain ⟨rfl, n⟩ := n
        cases (HA n).symm.trans e
        exact ⟨ha, by rw [List.length_map]; exact hl, vs, _, rv, ha⟩
      · cases (HN b m n).symm.trans e
  -- what is not tracked lies in the base
  have low : ∀ {b : Addr} {o : Obj}, s₁.heap.get? b = some o → (∀ vs n, o.data ≠ .seq vs n) → o.data ≠ .fields #[] → (hidT s₁.heap H0).get? b = some o := fun {b o} e h1 h2 => hidT_get e (HN b (fun m => by
      rw [isT b m] at e
      cases e
      exact h2 rfl) fun n => by
      rw [n.1, ha] at e
      cases e
      exact h1 _ _ rfl)
  have lowN : ∀ {b : Addr} {m : Str → Option Value}, s₁.heap.Ns b m → (hidT s₁.heap H0).Ns b m := fun {b m} ⟨o, es, ep, e, d, r⟩ => ⟨o, es, ep, low e (fun vs n z => by rw [d] at z; cases z) (fun z => by rw [d] at z; cases z), d, r⟩
  have kb : K.In (hidT s₁.heap H0) := fun b o e => hidT_get (KX b o e) (HN b (fun m => by
      obtain ⟨p, pm, rfl⟩ := List.mem_map.mp m
      rw [T1 p pm] at e
      cases e) fun n => by
      rw [n.1, n.2] at e
      cases e)
  have md : Mod K mg (hidT s₁.heap H0) := ⟨kb, lowN hns, ⟨mb, lowN hb, hbb⟩, let ⟨mc, h1, h2⟩ := hlim; ⟨mc, lowN h1, h2⟩⟩
  have TB : ∀ p ∈ cs, LamX.TabB (hidT s₁.heap H0) mg p.1 p.2 := fun p m => by
    have tp := T0 p m
    refine ⟨?_, ?_, fun z => ?_⟩
    · obtain ⟨o, us, c1, c2, c3, c4, c5, c6, c7, e, r1, r2, r3, r⟩ := T2 p m
      refine ⟨o, us, c1, c2, c3, c4, c5, c6, c7, low e (fun vs n z => ?_) (fun z => ?_), r1, r2, r3, r⟩
      · rw [r2] at z
        cases z
      · rw [r2] at z
        cases z
        simp at r3
    · obtain ⟨m0, o, b1, b2, b3, b4, b5, b6⟩ := bm
      refine ⟨m0, o, b1, b2, fun q => ?_, fun q => ?_, low b3 (fun vs n z => by rw [b6] at z; cases z) (fun z => by rw [b6] at z; cases z), b4, b5, b6⟩
      · obtain ⟨_, _, _, e, d, _⟩ := hns
        rw [q, e] at b3
        cases b3
        rw [d] at b6
        cases b6
      · rw [q, tp] at b3
        cases b3
        cases b6
    · obtain ⟨_, _, _, e, d, _⟩ := hns
      rw [z, tp] at e
      cases e
      cases d
  have e0 : Env0 P w K mg (hidT s₁.heap H0) callerA [] s₁ H0 := ⟨rfl, md, fun b o e => of_hidT e, Nat.le_of_eq (hidT_size _ _), trivial, fun b m => absurd (show b ∈ ([] : List Addr) from m) (by simp), hok, .of_eq hg⟩
  refine codeAny_mono ((F _ kb (lowN hns) TB).run callerA [] s₁ H0 ⟨[.ref a], []⟩ [.ref a] [.ref a] _ _ rfl hr e0 (hbind s₁ (.ref a)) (.cons rfl .nil) (hsp H0 HT hS)) fun r s' h => ?_
  cases r with
  | error e => exact (hCX H0 e s' h).elim
  | ok fl => cases fl with
    | next => exact False.elim h
    | brk => exact False.elim h
    | cont => exact False.elim h
    | ret u =>
      obtain ⟨v, H', os, bare, un, hok', r', q⟩ := h
      obtain rfl : v = .bl true := q
      obtain rfl : u = Value.bool true := r'
      have same : ∀ b o, b ∉ cs.map (·.2) → s₁.heap.get? b = some o → s'.heap.get? b = some o := fun b o m e => by
        by_cases n : b = a ∧ K.lookup a = none
        · obtain ⟨rfl, n⟩ := n
          obtain ⟨e1, _⟩ := hok b _ (HA n)
          obtain ⟨e2, _⟩ := hok' b _ (un.frzs b _ _ (HA n))
          exact e2.trans (e1.symm.trans e)
        · exact un.keep b o e (HN b m n) (fun z => nomatch z) (fun z => nomatch z)
      have more : ∀ p ∈ cs, ∃ ps : Array Value, s'.heap.get? p.2 = some { cls := .none, data := .fields ps } := fun p m => by
        obtain ⟨ps, z⟩ := un.tbls p.2 #[] (HT p m)
        exact ⟨_, hok' p.2 _ z⟩
      refine ⟨rfl, ⟨fun b o e => ?_, fun b o e => ?_⟩, os, bare⟩
      · by_cases m : b ∈ cs.map (·.2)
        · obtain ⟨p, pm, rfl⟩ := List.mem_map.mp m
          obtain ⟨ps, z⟩ := more p pm
          cases (T0 p pm).symm.trans e
          exact .inr (.inl ⟨((T2 p pm).tab (T0 p pm)).isCodeTable, rfl, #[], ps, rfl, by rw [Array.empty_append]; exact z⟩)
        · exact .inl (same b o m e)
      · by_cases m : b ∈ cs.map (·.2)
        · obtain ⟨p, pm, rfl⟩ := List.mem_map.mp m
          obtain ⟨ps, z⟩ := more p pm
          exact ⟨_, z⟩
        · exact ⟨o, same b o m e⟩
/-- what the head gives of the law -/
def LawAtG (l : PySem.W.OpenLaw) (w : World) (K : PySem.W.Frag) (CX : CXT) (k n : Nat) (x : Str) (mg : Str → Option Value) (fa : Addr) (h : Heap) : Prop :=
  ∃ (fd : FuncData) (cs : List (Addr × Addr)) (sp : Sp), (∀ p ∈ cs, h.get? p.2 = some tabO ∧ K.lookup p.2 = none ∧ PySem.W.CodeHd h p.1 p.2) ∧ (∀ (s : Shared) (u : Value), BindsTo s fd ⟨[u], []⟩ [(x, u)]) ∧
    (∀ (H : Hp) (a : Addr) (ns : List Int), ns.length ≤ n → (∀ p ∈ cs, H p.2 = some (.tbl #[])) → SqL K H a (ns.map V.int) → sp [.ref a] H (fun v _ => v = .bl true) fun _ _ _ => False) ∧
    ∀ base : Heap, K.In base → base.Ns mainGlobals mg → (∀ p ∈ cs, LamX.TabB base mg p.1 p.2) → FnG l.prog w K mg base CX k fa fd [x] sp
theorem walkGT {l : PySem.W.OpenLaw} {n k : Nat} {q : Program} {loose : List Str} {XP : (Str → Option Value) → Heap → Prop} {YP : World → Heap → Prop} {d : DefRec} {K : Params → PySem.W.Frag} {CX : World → CXT} {x : Str}
    (hn : l.most = some n) (hn2 : n ≤ sizeLine) (hdf : d.params.defaults = []) (hr : Room k callerA) (hY : ∀ (w : World) (h : Heap), YP w h → (K w.params).In h)
    (F : ∀ (w : World) (mg : Str → Option Value) (fa : Addr) (h : Heap), (∀ (y : Str) (e : DefRec) (c P : Addr), (recsOf q).find? (fun r => r.name == y) = some e → PySem.W.tabIn (K w.params) y = some (c, P) → PySem.W.CodeHd h c P ∧ h.get? P = some tabO) → (K w.params).In h → h.Ns mainGlobals mg → mg d.name = some (.ref fa) → LawAtG l w (K w.params) (CX w) k n x mg fa h)
    (hCX : ∀ (w : World) (H : Hp) (s : Shared) (e : Value) (s' : Shared), CX w [] H s (fun _ _ _ => False) e s' → False) : PySem.W.WalkO q loose XP YP l.row.toRowW d [] (fun f vs => PySem.call f vs) :=
  Att.attach_call hn hdf fun w s₀ s₁ mg mb fa o pm cd doc a vs ns G Y ho hd hcd hmg hobj hints hlen hg => by
    obtain ⟨fd, cs, sp, T, hb, hsp, hF⟩ := F w mg fa _ (fun y e c P h1 h2 => PySem.W.tab_of G.T (hY w _ Y) h1 h2) (hY w _ Y) G.T.g hmg
    exact lawGT (hY w _ Y) G.T.g G.T.b G.T.builtins G.T.nolimit hg (fun p m => (T p m).1) (fun p m => (T p m).2.1) (fun p m => (T p m).2.2) G.T.bmain hobj hints (Nat.le_trans hlen hn2) hr hF hb (fun H h1 h2 => hsp H a ns hlen h1 h2) fun H e s' => hCX w H s₁ e s'
end
end Gn
namespace Gn
open PySem PySem.Spec PyProof.Rows L2
/-- as funG0, the code object told -/
theorem funGC {P : Program} {w : World} {K : PySem.W.Frag} {mg : Str → Option Value} {base : Heap} {x qual : Str} {st : Stmt} {f : Addr} {fd : FuncData} {N ps : List Str} {k : Nat} {sp : Sp} (F : Fun K x qual st f fd) (S : FnScope N ps (defScope st)) (len : ∀ vs H Q E, sp vs H Q E → vs.length = ps.length)
    (hbody : ∀ (A : Around) (outer : List Env) (s : Shared) (H : Hp) (vs : List V) (Q : VK) (E : XK), (A.deeper (envOfC qual (defScope st) s.heap.objs.size f fd.code)).guards = some [] → Room k (A.deeper (envOfC qual (defScope st) s.heap.objs.size f fd.code)) → sp vs H Q E →
      ∃ t, PSs (cxOf CX0 P w K mg base N qual (defScope st) f fd.code A outer s H E).nox (defBody st) t ∧ t { nx := fun _ H' => Q .non H', rt := Q } (start N vs) H) : FnG P w K mg base CX0 (k + 1) f fd ps sp := by
  obtain ⟨oc, od, kV, doc, pm, an, cdv, ct, osl, rfl, lk, hcd⟩ := F.ex
  refine ⟨len, fun A outer s H args us vs Q E hg hr e0 hb r hsp => ?_⟩
  have KX : K.In s.heap := e0.mod.kin.keeps fun b o e => (e0.bs b o e).1
  have hkind : ∀ y ∈ ps.zip us, (defScope st).names.lookup y.1 = some .local ∨ ((defScope st).names.lookup y.1 = some .cell ∧ ((cellsFrom (s.heap.objs.size + 1) (defScope st).names []).lookup y.1).isSome = true) := fun y hy =>
    (S.par y.1 (List.of_mem_zip hy).1).elim .inl fun q => .inr ⟨q, PySem.W.cellsFrom_some _ _ _ (.inl q)⟩
  refine codeAny_call_function hr.depth (KX _ _ lk) rfl S.co S.gen rfl (PySem.W.codeRec_of KX hcd) (hb _ _ _ _ (wpAny_newFunctionEnv_cells S.kind hkind fun env he s1 x => ?_))
  subst he
  refine ⟨(e0.mod.nolimit.keeps fun b o e => (e0.bs b o e).1).keeps x.toInCall.keep, codeAny_func ?_⟩
  obtain ⟨t, ht, hq⟩ := hbody A outer s H vs Q E hg (hr.deeper _) hsp
  have I : Inv (cxOf CX0 P w K mg base N qual (defScope st) f cdv A outer s H E) [] (start N vs) H s1 := inv_start S hr.hd e0 (len _ _ _ _ hsp) r x
  refine wpAny_mono (ht.nox.run [] s1 (start N vs) H _ I hq) (fun fl s' hs => ?_) fun _ _ hs => hs
  cases fl with
  | ret u => obtain ⟨v, σ', H', J, rv, q⟩ := hs; exact ⟨v, H', J.os, J.bare, J.base, J.hok, rv, q⟩
  | next => obtain ⟨σ', H', J, q⟩ := hs; exact ⟨V.non, H', J.os, J.bare, J.base, J.hok, rfl, q⟩
  | brk => obtain ⟨_, _, _, q⟩ := hs; exact False.elim q
  | cont => obtain ⟨_, _, _, q⟩ := hs; exact False.elim q
end Gn
set_option Elab.async false
set_option linter.all false
set_option maxRecDepth 100000
set_option maxHeartbeats 8000000
/-! the head by facts, widened: own exceptions, a class's property, what lies deeper in a class -/
namespace Gn
open PySem PySem.Spec PyProof.Rows L2
/-- some steps further from these -/
def deep (g : Addr → Option Obj) : Nat → List Addr → List Addr
  | 0, l => l
  | n + 1, l => deep g n (He.growD g l)
/-- n steps from the module's names, and m more from what some of the names stand for -/
def asY (g : Addr → Option Obj) (n m : Nat) (xs : List Str) : List Addr := (fun l => l ++ deep g m (xs.map (He.ga (He.frG g l)))) (He.asD g n)
/-- a property's function -/
def prF (K : PySem.W.Frag) (C : Addr) (f : Str) : Addr := match K.lookup (He.ma K C f) with
  | some ⟨_, _, .fields vs, _⟩ => (match vs.toList with
    | .ref a :: _ => a
    | _ => 0)
  | _ => 0
structure PrD where
  cls : Str
  name : Str
  qual : Str
  params : Arguments
  body : List Stmt
  scope : Scope
def PrD.at_ (K : PySem.W.Frag) (d : PrD) : Addr := prF K (He.ga K d.cls) d.name
def PrD.val (d : PrD) : He.FnW := some (d.name, d.qual, d.params, .stmts d.body, d.scope, mainGlobals, [], builtinsNs)
def PrD.obs (K : PySem.W.Frag) (d : PrD) : He.FnW := match K.lookup (d.at_ K) with
  | some ⟨_, _, .func fd, _⟩ => some (fd.name, fd.qualname, fd.params, fd.body, fd.scope, fd.globals, fd.closure, fd.builtins)
  | _ => none
def PrD.fnB (K : PySem.W.Frag) (d : PrD) : Bool := PySem.W.keepIn K (.ref (d.at_ K)) && (match K.lookup (d.at_ K) with
  | some ⟨_, _, .func fd, _⟩ => PySem.W.codeIn K fd.code d.qual && (match fd.defaults, fd.kwdefaults with
    | .none, _ => true
    | _, _ => false)
  | _ => false)
/-- the property itself -/
def PrD.prB (K : PySem.W.Frag) (d : PrD) : Bool := He.eqO (PySem.W.findIn K (.ref (He.ga K d.cls)) d.name) (some (some (.ref (He.ma K (He.ga K d.cls) d.name)))) &&
  (He.eqO (PySem.W.specialIn K (.ref (He.ma K (He.ga K d.cls) d.name)) "__get__") (some (some (.builtin "property.__get__"))) && (decide (PySem.W.takesIn K (.ref (He.ma K (He.ga K d.cls) d.name)) = some true) &&
  (match K.lookup (He.ma K (He.ga K d.cls) d.name) with
    | some ⟨.type t, _, .fields vs, _⟩ => decide (t = "property") && (match vs.toList with
      | .ref _ :: _ => true
      | _ => false)
    | _ => false)))
theorem PrD.fn {K : PySem.W.Frag} {d : PrD} (e : d.obs K = d.val) (c : d.fnB K = true) : ∃ (oc : Value) (od : Option Addr) (kV doc pm : Value) (an : Option Addr) (cdv ct : Value) (osl : Array (Option Value)),
    K.lookup (d.at_ K) = some ⟨oc, od, .func (PySem.W.fnOf d.name d.qual d.params d.body d.scope .none kV doc pm an cdv ct), osl⟩ ∧ PySem.W.codeIn K cdv d.qual = true ∧ PySem.W.keepIn K (.ref (d.at_ K)) = true := by
  obtain ⟨kp, c2⟩ := He.ba c
  unfold PrD.obs at e
  split at e
  · rename_i oc od fd osl q
    rw [q] at c2
    obtain ⟨c3, c4⟩ := He.ba (show (PySem.W.codeIn K fd.code d.qual && (match fd.defaults, fd.kwdefaults with
      | .none, _ => true
      | _, _ => false)) = true from c2)
    obtain ⟨n1, n2, n3, n4, n5, n6, n7, n8, n9, n10, n11, n12, n13, n14, n15⟩ := fd
    have e2 : (some (n1, n2, n3, n4, n5, n6, n7, n15) : He.FnW) = some (d.name, d.qual, d.params, .stmts d.body, d.scope, mainGlobals, [], builtinsNs) := e
    simp only [Option.some.injEq, Prod.mk.injEq] at e2
    obtain ⟨h1, h2, h3, h4, h5, h6, h7, h8⟩ := e2
    subst h1 h2 h3 h4 h5 h6 h7 h8
    dsimp only at c4
    cases n8 with
    | none => exact ⟨oc, od, n9, n10, n11, n12, n13, n14, osl, q, c3, kp⟩
    | _ => cases c4
  · cases e
theorem PrD.pr {K : PySem.W.Frag} {d : PrD} (c : d.prB K = true) : ∃ (p : Addr) (od : Option Addr) (vs : Array Value) (sl : Array (Option Value)) (rest : List Value), PySem.W.findIn K (.ref (He.ga K d.cls)) d.name = some (some (.ref p)) ∧
    PySem.W.specialIn K (.ref p) "__get__" = some (some (.builtin "property.__get__")) ∧ PySem.W.takesIn K (.ref p) = some true ∧ K.lookup p = some ⟨.type "property", od, .fields vs, sl⟩ ∧ vs.toList = .ref (d.at_ K) :: rest := by
  obtain ⟨c1, c⟩ := He.ba c
  obtain ⟨c2, c⟩ := He.ba c
  obtain ⟨c3, c⟩ := He.ba c
  split at c
  · rename_i t od vs sl q
    obtain ⟨c4, c5⟩ := He.ba c
    cases of_decide_eq_true c4
    split at c5
    · rename_i a rest ev
      have ea : d.at_ K = a := by
        unfold PrD.at_ prF
        rw [q]
        dsimp only
        rw [ev]
      exact ⟨_, od, vs, sl, rest, He.eqO_ok c1, He.eqO_ok c2, of_decide_eq_true c3, q, by rw [ea]; exact ev⟩
    · cases c5
  · cases c
/-! ### further facts -/
inductive Fb where
  | bi (x : Str) (id : String)
  | own (x R : Str)
  | kit (x y : Str) (b : Bool)
  | kitT (x : Str) (t : String) (b : Bool)
  | glob
  | cut (x : Str)
  | ne (p q : He.Defn)
def cutB (K : PySem.W.Frag) (a : Addr) : Bool := match K.lookup a with
  | some ⟨.type c, _, .seq ia _, _⟩ => decide (c = "tuple") && (match ia.toList with
    | [.ref b, .int i _] => decide (i = 0) && (match K.lookup b with
      | some ⟨.type c2, _, .seq ib _, _⟩ => decide (c2 = "tuple") && (match ib.toList with
        | [.int p _, .int q _] => decide (p = 1) && decide (q = 1)
        | _ => false)
      | _ => false)
    | _ => false)
  | _ => false
theorem cutB_ok {K : PySem.W.Frag} {a : Addr} (h : cutB K a = true) : ∃ (b : Addr) (oa ob : Option Addr) (sa sb : Array (Option Value)) (ia ib : Array Value) (na nb : Nat) (t0 t1 t2 : Tok),
    K.lookup a = some ⟨.type "tuple", oa, .seq ia na, sa⟩ ∧ ia.toList = [.ref b, .int 0 t0] ∧ K.lookup b = some ⟨.type "tuple", ob, .seq ib nb, sb⟩ ∧ ib.toList = [.int 1 t1, .int 1 t2] := by
  unfold cutB at h
  split at h
  · rename_i c oa ia na sa la
    obtain ⟨h1, ha⟩ := He.ba h
    cases of_decide_eq_true h1
    clear h h1
    split at ha
    · rename_i b i t0 ea
      obtain ⟨h2, hb⟩ := He.ba ha
      cases of_decide_eq_true h2
      clear ha h2
      split at hb
      · rename_i c2 ob ib nb sb lb
        obtain ⟨h3, hc⟩ := He.ba hb
        cases of_decide_eq_true h3
        clear hb h3
        split at hc
        · rename_i p t1 q t2 eb
          obtain ⟨h4, h5⟩ := He.ba hc
          cases of_decide_eq_true h4
          cases of_decide_eq_true h5
          exact ⟨b, oa, ob, sa, sb, ia, ib, na, nb, t0, t1, t2, la, ea, lb, eb⟩
        · cases hc
      · cases hb
    · cases ha
  · cases h
/-- an own class over ValueError by a class of ours -/
def ownB (K : PySem.W.Frag) (C R : Addr) : Bool := match K.lookup C with
  | some ⟨.type m, _, .cls cd, sl⟩ => decide (m = "type") && (match cd.mro, sl.toList with
    | .ref C' :: .ref R' :: tl, [_, _, _, _, some (.builtin n), _] => decide (C' = C) && (decide (R' = R) && (decide (n = "ValueError.__new__") && (!cd.hasDel && (cd.hasDict && decide (tl = He.veBase)))))
    | _, _ => false)
  | _ => false
theorem ownB_ok {K : PySem.W.Frag} {C R : Addr} (h : ownB K C R = true) : ∃ (nm q : Str) (N : Addr) (bs : List Value) (sn : List Str) (sub : List Value) (ab : Bool) (col : Option Bool) (dd : Option Addr) (k0 k1 k2 k3 k5 : Option Value),
    K.lookup C = some (excClassObj nm q C N bs (.ref R :: He.veBase) true sn sub ab col dd k0 k1 k2 k3 k5 "ValueError.__new__") := by
  unfold ownB at h
  split at h
  · rename_i m dd cd sl lk
    obtain ⟨h1, ha⟩ := He.ba h
    cases of_decide_eq_true h1
    clear h h1
    split at ha
    · rename_i C' R' tl k0 k1 k2 k3 n k5 em es
      obtain ⟨h2, hb⟩ := He.ba ha
      obtain ⟨h3, hc⟩ := He.ba hb
      obtain ⟨h4, hd⟩ := He.ba hc
      obtain ⟨h5, he⟩ := He.ba hd
      obtain ⟨h6, h7⟩ := He.ba he
      cases of_decide_eq_true h2
      cases of_decide_eq_true h3
      cases of_decide_eq_true h4
      cases of_decide_eq_true h7
      clear ha hb hc hd he h2 h3 h4 h7
      obtain ⟨nm, bs, mro, ns, qn, hd, sn, sub, ab, col, del⟩ := cd
      dsimp only at em h5 h6
      have h5 : del = false := by cases del; rfl; cases h5
      subst em h5 h6
      have esl : sl = #[k0, k1, k2, k3, some (.builtin "ValueError.__new__"), k5] := by
        obtain ⟨l⟩ := sl
        dsimp only at es
        rw [es]
      subst esl
      exact ⟨nm, qn, ns, bs, sn, sub, ab, col, dd, k0, k1, k2, k3, k5, lk⟩
    · cases ha
  · cases h
def ownC (K : PySem.W.Frag) (C R : Addr) : Bool := ownB K C R && (He.eqO (PySem.W.findIn K (.ref C) "__setattr__") (some (some (.builtin "object.__setattr__"))) && (decide (PySem.W.typeIn K (.ref C) = some (.type "type")) && (PySem.W.keepIn K (.ref C) && (xfB K C &&
  (He.eqO (PySem.W.findIn K (.ref C) "__class__") (some (some (.builtin "object.__class__"))) && (decide (PySem.W.mroIn K C (.type "object") = some true) && (He.eqO (PySem.W.findIn K (.ref C) "__init__") (some (some (.ref (He.ma K C "__init__")))) &&
  decide (PySem.W.typeIn K (.ref (He.ma K C "__init__")) = some (.type "function")))))))))
def globB (K : PySem.W.Frag) : Bool := He.eqO (PySem.W.specialIn K (.builtin "object.__class__") "__get__") (some (some (.builtin "getset_descriptor.__get__"))) && decide (PySem.W.takesIn K (.builtin "object.__class__") = some true)
def Fb.ok (K : PySem.W.Frag) : Fb → Bool
  | .bi x id => He.eqO (PySem.W.nsIn K mainGlobals x) (some (some (.builtin id)))
  | .own x R => ownC K (He.ga K x) (He.ga K R)
  | .kit x y b => decide (PySem.W.kitOne K (.ref (He.ga K x)) (.ref (He.ga K y)) = some b)
  | .kitT x t b => decide (PySem.W.kitOne K (.ref (He.ga K x)) (.type t) = some b)
  | .glob => globB K
  | .cut x => cutB K (He.ga K x)
  | .ne p q => decide ((He.cT K p).2 ≠ (He.cT K q).2)
theorem glob_ok {K : PySem.W.Frag} (h : Fb.glob.ok K = true) : PySem.W.specialIn K (.builtin "object.__class__") "__get__" = some (some (.builtin "getset_descriptor.__get__")) ∧ PySem.W.takesIn K (.builtin "object.__class__") = some true := by
  obtain ⟨h1, h2⟩ := He.ba (show globB K = true from h)
  exact ⟨He.eqO_ok h1, of_decide_eq_true h2⟩
theorem kit_ok {K : PySem.W.Frag} {x y : Str} {b : Bool} (h : (Fb.kit x y b).ok K = true) : PySem.W.kitOne K (.ref (He.ga K x)) (.ref (He.ga K y)) = some b := of_decide_eq_true h
theorem kitT_ok {K : PySem.W.Frag} {x : Str} {t : String} {b : Bool} (h : (Fb.kitT x t b).ok K = true) : PySem.W.kitOne K (.ref (He.ga K x)) (.type t) = some b := of_decide_eq_true h
theorem ne_ok {K : PySem.W.Frag} {p q : He.Defn} (h : (Fb.ne p q).ok K = true) : (He.cT K p).2 ≠ (He.cT K q).2 := of_decide_eq_true h
theorem bi_ok {K : PySem.W.Frag} {h : Heap} {mg : Str → Option Value} (X : K.In h) (G : h.Ns mainGlobals mg) {x : Str} {id : String} (c : (Fb.bi x id).ok K = true) : mg x = some (.builtin id) := PySem.W.mg_of X G (He.eqO_ok c)
/-- what stands of an own exception class -/
theorem own_ok {K : PySem.W.Frag} {C R : Addr} (g : globB K = true) (h : ownC K C R = true) : OwC K C ∧ XfC K C ∧ ExcC K C ∧ PySem.W.findIn K (.ref C) "__init__" = some (some (.ref (He.ma K C "__init__"))) ∧ PySem.W.typeIn K (.ref (He.ma K C "__init__")) = some (.type "function") := by
  obtain ⟨h1, h⟩ := He.ba h
  obtain ⟨h2, h⟩ := He.ba h
  obtain ⟨h3, h⟩ := He.ba h
  obtain ⟨h4, h⟩ := He.ba h
  obtain ⟨h5, h⟩ := He.ba h
  obtain ⟨h6, h⟩ := He.ba h
  obtain ⟨h7, h⟩ := He.ba h
  obtain ⟨h8, h9⟩ := He.ba h
  obtain ⟨g1, g2⟩ := He.ba g
  have xf := xfB_ok h5
  obtain ⟨nm, q, N, bs, sn, sub, ab, col, dd, k0, k1, k2, k3, k5, lk⟩ := ownB_ok h1
  exact ⟨⟨⟨nm, q, N, bs, .ref R :: He.veBase, sn, sub, ab, col, dd, k0, k1, k2, k3, k5, _, _, _, He.veBase, lk, .own .base, basV⟩, He.eqO_ok h2, xf.exC, of_decide_eq_true h3, h4⟩, xf, ⟨xf.ga, xf.gg, xf.exC, xf.hdC, He.eqO_ok h6, He.eqO_ok g1, of_decide_eq_true g2, of_decide_eq_true h7⟩, He.eqO_ok h8, of_decide_eq_true h9⟩
/-! ### the Hook -/
structure SaysZ (fa : List He.Fa) (fn : List He.DefD) (tf : List He.Defn) (fb : List Fb) (ps : List PrD) (w : World) (h : Heap) (K : PySem.W.Frag) : Prop where
  d : He.SaysD fa fn K
  more : ∀ f ∈ fb, f.ok K = true
  prb : ∀ p ∈ ps, p.fnB K = true ∧ p.prB K = true
  pro : ps.map (PrD.obs K) = ps.map PrD.val
  hd : ∀ p ∈ tf, PySem.W.codeHdIn K (He.cT K p).1 (He.cT K p).2 = true
  out : ∀ p ∈ tf, K.lookup (He.cT K p).2 = none
  empty : ∀ p ∈ tf, h.get? (He.cT K p).2 = some tabO
abbrev AlZ : Type := (He.AlD × List He.FnW) × Bool
def exZ (fb : List Fb) (ps : List PrD) (tf : List He.Defn) (g : Addr → Option Obj) (K : PySem.W.Frag) : Bool := (fb.all fun f => f.ok K) && ((ps.all fun p => p.fnB K && p.prB K) && He.tabsB g tf K)
def obsK (fa : List He.Fa) (fn : List He.DefD) (tf : List He.Defn) (fb : List Fb) (ps : List PrD) (g : Addr → Option Obj) (K : PySem.W.Frag) : AlZ := ((He.obsD fa fn K, ps.map (PrD.obs K)), exZ fb ps tf g K)
def obsZ (n m : Nat) (xs : List Str) (fa : List He.Fa) (fn : List He.DefD) (tf : List He.Defn) (fb : List Fb) (ps : List PrD) (g : Addr → Option Obj) : AlZ := obsK fa fn tf fb ps g (He.frT g (asY g n m xs))
def valZ (fn : List He.DefD) (ps : List PrD) : AlZ := ((He.valD fn, ps.map PrD.val), true)
theorem saysZ_of {as : List Addr} {fa : List He.Fa} {fn : List He.DefD} {tf : List He.Defn} {fb : List Fb} {ps : List PrD} {w : World} {h : Heap} (e : obsK fa fn tf fb ps h.get? (He.frT h.get? as) = valZ fn ps) : SaysZ fa fn tf fb ps w h (He.frT h.get? as) := by
  have e0 : (He.obsD fa fn (He.frT h.get? as), ps.map (PrD.obs (He.frT h.get? as))) = (He.valD fn, ps.map PrD.val) := congrArg (fun z : AlZ => z.1) e
  have e3 : exZ fb ps tf h.get? (He.frT h.get? as) = true := congrArg (fun z : AlZ => z.2) e
  obtain ⟨e1, e2⟩ := Prod.mk.inj e0
  obtain ⟨a1, a2⟩ := He.ba e3
  obtain ⟨a3, a4⟩ := He.ba a2
  have T : ∀ p ∈ tf, PySem.W.codeHdIn (He.frT h.get? as) (He.cT (He.frT h.get? as) p).1 (He.cT (He.frT h.get? as) p).2 = true ∧ (match h.get? (He.cT (He.frT h.get? as) p).2 with
      | some o => He.emptyTab o
      | none => false) = true := fun p hp => He.ba (List.all_eq_true.mp a4 p hp)
  have T2 : ∀ p ∈ tf, ∃ o, h.get? (He.cT (He.frT h.get? as) p).2 = some o ∧ He.emptyTab o = true := fun p hp => by
    have z := (T p hp).2
    split at z
    · rename_i o q
      exact ⟨o, q, z⟩
    · cases z
  refine ⟨e1, fun f hf => List.all_eq_true.mp a1 f hf, fun p hp => He.ba (List.all_eq_true.mp a3 p hp), e2, fun p hp => (T p hp).1, fun p hp => ?_, fun p hp => ?_⟩
  · obtain ⟨o, q, z⟩ := T2 p hp
    exact He.frT_none q z
  · obtain ⟨o, q, z⟩ := T2 p hp
    rw [q, He.emptyTab_eq z]
    rfl
def hookZ (n m : Nat) (xs : List Str) (fa : List He.Fa) (fn : List He.DefD) (tf : List He.Defn) (fb : List Fb) (ps : List PrD) : PySem.W.Hook where
  α := AlZ
  obs := fun s => obsZ n m xs fa fn tf fb ps s.heap.get?
  val := fun _ => valZ fn ps
  says := fun w h => ∃ K : PySem.W.Frag, K.In h ∧ SaysZ fa fn tf fb ps w h K
  of := fun _ _ e => ⟨_, He.frT_in, saysZ_of e⟩
  keeps := fun _ _ _ z k => z.elim fun K y => ⟨K, PySem.W.Frag.In.keeps y.1 k, ⟨y.2.d, y.2.more, y.2.prb, y.2.pro, y.2.hd, y.2.out, fun p hp => k _ _ (y.2.empty p hp)⟩⟩
theorem obsZ_eq {n m : Nat} {xs : List Str} {fa : List He.Fa} {fn : List He.DefD} {tf : List He.Defn} {fb : List Fb} {ps : List PrD} {g : Addr → Option Obj} {s : Shared} (h : ∀ a, g a = s.heap.get? a) : obsZ n m xs fa fn tf fb ps g = (hookZ n m xs fa fn tf fb ps).obs s := by
  have e : g = s.heap.get? := funext h
  subst e
  rfl
section
variable {fa : List He.Fa} {fn : List He.DefD} {tf : List He.Defn} {fb : List Fb} {ps : List PrD} {w : World} {h : Heap} {K : PySem.W.Frag}
theorem SaysZ.fx (c : SaysZ fa fn tf fb ps w h K) (i : Nat) {f : Fb} (e : fb[i]? = some f := by rfl) : f.ok K = true := c.more f (List.mem_of_getElem? e)
theorem SaysZ.prop (c : SaysZ fa fn tf fb ps w h K) (i : Nat) {p : PrD} (e : ps[i]? = some p := by rfl) : p.obs K = p.val ∧ p.fnB K = true ∧ p.prB K = true := by
  have m := List.mem_of_getElem? e
  refine ⟨?_, c.prb p m⟩
  have e2 : (ps.map (PrD.obs K))[i]? = (ps.map PrD.val)[i]? := by rw [c.pro]
  rw [List.getElem?_map, List.getElem?_map, e] at e2
  exact Option.some.inj e2
theorem SaysZ.tab (c : SaysZ fa fn tf fb ps w h K) (X : K.In h) {p : He.Defn} (m : p ∈ tf) : h.get? (He.cT K p).2 = some tabO ∧ K.lookup (He.cT K p).2 = none ∧ PySem.W.CodeHd h (He.cT K p).1 (He.cT K p).2 := ⟨c.empty p m, c.out p m, PySem.W.codeHd_of_K X (c.hd p m)⟩
end
/-- a def without defaults, its code object told -/
theorem funZ {K : PySem.W.Frag} {x qual : Str} {st : Stmt} {p : He.Defn} {fd : FuncData} (F : FunD K x qual (defArgs st) (defBody st) (defScope st) [] [] (He.fAd K p) fd) : Fun K x qual st (He.fAd K p) fd ∧ fd.code = .ref (He.cT K p).1 := by
  obtain ⟨oc, od, dV, kV, doc, pm, an, cdv, ct, osl, e, lk, hcd, hD, _⟩ := F.ex
  obtain ⟨c, hc⟩ := He.codeIn_ref hcd
  rcases hD with ⟨_, rfl⟩ | ⟨e', _⟩
  · refine ⟨⟨⟨oc, od, kV, doc, pm, an, cdv, ct, osl, e, lk, hcd⟩, F.kp⟩, ?_⟩
    have z : fd.code = .ref c := by rw [e]; exact hc
    rw [z]
    exact congrArg Value.ref (He.codeOf_eq lk z).symm
  · exact absurd rfl e'
end Gn
set_option Elab.async false
set_option linter.all false
set_option maxRecDepth 100000
set_option maxHeartbeats 8000000
namespace My
open PySem PySem.Spec PyProof.Rows L2 Gn
def topX (i : Nat) : Stmt := PySem.Challenge.pw_rimorders_k20_orders_refused.main.body.getD i (.Pass ⟨0, 0, 0, 0⟩)
/-- the first statement of a class -/
def innX : Stmt → Stmt
  | .ClassDef _ _ _ (s :: _) _ _ _ _ _ _ _ => s
  | s => s
def nmX0 : List PySem.Str := ("gcd" : PySem.Str) :: ("lcm" : PySem.Str) :: ("_wall" : PySem.Str) :: ("NotRight" : PySem.Str) :: ("InvalidText" : PySem.Str) :: ("InvalidNumber" : PySem.Str) :: ("InvalidIndex" : PySem.Str) :: ("InvalidStep" : PySem.Str) :: ("InvalidArc" : PySem.Str) :: ("InvalidSighting" : PySem.Str) :: ("NotALot" : PySem.Str) :: ("InvalidPieces" : PySem.Str) :: ("InvalidOrder" : PySem.Str) :: ("InvalidSightings" : PySem.Str) :: ("NotKnown" : PySem.Str) :: ("NotPossible" : PySem.Str) :: ("NoStep" : PySem.Str) :: ("TooMany" : PySem.Str) :: ("Broken" : PySem.Str) :: ("is_integer" : PySem.Str) :: ("is_fraction" : PySem.Str) :: ("is_step" : PySem.Str) :: ("is_part" : PySem.Str) :: ("is_less" : PySem.Str) :: ("is_number" : PySem.Str) :: ("check_step" : PySem.Str) :: ("check_number" : PySem.Str) :: ("MOST_MARK" : PySem.Str) :: ("MOST_LISTED" : PySem.Str) :: ("MOST_COUNTED" : PySem.Str) :: ("_MOST_ORDERED" : PySem.Str) :: ("order" : PySem.Str) :: ("lowest" : PySem.Str) :: ("mediant" : PySem.Str) :: ("_LAST_CUT" : PySem.Str) :: []
def nmX1 : List PySem.Str := ("_DIGITS" : PySem.Str) :: ("_GROUP" : PySem.Str) :: ("Lot" : PySem.Str) :: ("lot_where" : PySem.Str) :: ("fraction_text" : PySem.Str) :: ("_first_wrong" : PySem.Str) :: ("_is_piece" : PySem.Str) :: ("_cuts_at" : PySem.Str) :: ("_is_ahead" : PySem.Str) :: ("_lot_with" : PySem.Str) :: ("_text_of" : PySem.Str) :: ("_word_of" : PySem.Str) :: ("_digits_of" : PySem.Str) :: ("_read_pieces" : PySem.Str) :: ("_read_fraction" : PySem.Str) :: ("_are_digits" : PySem.Str) :: ("_read_digits" : PySem.Str) :: ("mark_behind" : PySem.Str) :: ("whole_points" : PySem.Str) :: ("_points" : PySem.Str) :: ("steps_of" : PySem.Str) :: ("steps_of_some" : PySem.Str) :: ("how_many_orders" : PySem.Str) :: ("all_orders" : PySem.Str) :: ("broken_at" : PySem.Str) :: ("_check_row" : PySem.Str) :: ("_check_order" : PySem.Str) :: ("_are_ascending_marks" : PySem.Str) :: ("_steps_that_meet" : PySem.Str) :: ("_is_met" : PySem.Str) :: ("_how_many_tops" : PySem.Str) :: ("_law_tin" : PySem.Str) :: ("_law_sip" : PySem.Str) :: ("_law_pick" : PySem.Str) :: ("_law_far" : PySem.Str) :: []
def nmX2 : List PySem.Str := ("_law_gcd" : PySem.Str) :: ("_law_low" : PySem.Str) :: ("_law_step" : PySem.Str) :: ("_law_spot" : PySem.Str) :: ("_law_line" : PySem.Str) :: ("_law_is_number" : PySem.Str) :: ("_law_error" : PySem.Str) :: ("_law_class" : PySem.Str) :: ("_law_field" : PySem.Str) :: ("_law_ends_right" : PySem.Str) :: ("_law_due" : PySem.Str) :: ("_law_wrong" : PySem.Str) :: ("_law_bent" : PySem.Str) :: ("_law_right" : PySem.Str) :: []
def namesX : List PySem.Str := nmX0 ++ nmX1 ++ nmX2
def ddX0 : He.DefD := ⟨("is_integer", none), "is_integer", "is_integer", defArgs (topX 20), defBody (topX 20), defScope (topX 20), [], []⟩
def ddX1 : He.DefD := ⟨("is_fraction", none), "is_fraction", "is_fraction", defArgs (topX 21), defBody (topX 21), defScope (topX 21), [], []⟩
def ddX2 : He.DefD := ⟨("is_step", none), "is_step", "is_step", defArgs (topX 22), defBody (topX 22), defScope (topX 22), [], []⟩
def ddX3 : He.DefD := ⟨("is_part", none), "is_part", "is_part", defArgs (topX 23), defBody (topX 23), defScope (topX 23), [], []⟩
def ddX4 : He.DefD := ⟨("is_less", none), "is_less", "is_less", defArgs (topX 24), defBody (topX 24), defScope (topX 24), [], []⟩
def ddX5 : He.DefD := ⟨("is_number", none), "is_number", "is_number", defArgs (topX 25), defBody (topX 25), defScope (topX 25), [], []⟩
def ddX6 : He.DefD := ⟨("check_step", none), "check_step", "check_step", defArgs (topX 26), defBody (topX 26), defScope (topX 26), [], []⟩
def ddX7 : He.DefD := ⟨("check_number", none), "check_number", "check_number", defArgs (topX 27), defBody (topX 27), defScope (topX 27), [], []⟩
def ddX8 : He.DefD := ⟨("order", none), "order", "order", defArgs (topX 33), defBody (topX 33), defScope (topX 33), [], []⟩
def ddX9 : He.DefD := ⟨("lowest", none), "lowest", "lowest", defArgs (topX 34), defBody (topX 34), defScope (topX 34), [], []⟩
def ddX10 : He.DefD := ⟨("mediant", none), "mediant", "mediant", defArgs (topX 35), defBody (topX 35), defScope (topX 35), [], []⟩
def ddX11 : He.DefD := ⟨("lot_where", none), "lot_where", "lot_where", defArgs (topX 41), defBody (topX 41), defScope (topX 41), [], []⟩
def ddX12 : He.DefD := ⟨("_first_wrong", none), "_first_wrong", "_first_wrong", defArgs (topX 43), defBody (topX 43), defScope (topX 43), [], []⟩
def ddX13 : He.DefD := ⟨("_is_piece", none), "_is_piece", "_is_piece", defArgs (topX 44), defBody (topX 44), defScope (topX 44), [], []⟩
def ddX14 : He.DefD := ⟨("_cuts_at", none), "_cuts_at", "_cuts_at", defArgs (topX 45), defBody (topX 45), defScope (topX 45), [], []⟩
def ddX15 : He.DefD := ⟨("_is_ahead", none), "_is_ahead", "_is_ahead", defArgs (topX 46), defBody (topX 46), defScope (topX 46), [], []⟩
def ddX16 : He.DefD := ⟨("_lot_with", none), "_lot_with", "_lot_with", defArgs (topX 47), defBody (topX 47), defScope (topX 47), [], []⟩
def ddX17 : He.DefD := ⟨("mark_behind", none), "mark_behind", "mark_behind", defArgs (topX 56), defBody (topX 56), defScope (topX 56), [], []⟩
def ddX18 : He.DefD := ⟨("whole_points", none), "whole_points", "whole_points", defArgs (topX 58), defBody (topX 58), defScope (topX 58), [], []⟩
def ddX19 : He.DefD := ⟨("_points", none), "_points", "_points", defArgs (topX 59), defBody (topX 59), defScope (topX 59), [], []⟩
def ddX20 : He.DefD := ⟨("steps_of", none), "steps_of", "steps_of", defArgs (topX 61), defBody (topX 61), defScope (topX 61), [], []⟩
def ddX21 : He.DefD := ⟨("steps_of_some", none), "steps_of_some", "steps_of_some", defArgs (topX 62), defBody (topX 62), defScope (topX 62), [], []⟩
def ddX22 : He.DefD := ⟨("how_many_orders", none), "how_many_orders", "how_many_orders", defArgs (topX 63), defBody (topX 63), defScope (topX 63), [], []⟩
def ddX23 : He.DefD := ⟨("all_orders", none), "all_orders", "all_orders", defArgs (topX 64), defBody (topX 64), defScope (topX 64), [], []⟩
def ddX24 : He.DefD := ⟨("broken_at", none), "broken_at", "broken_at", defArgs (topX 65), defBody (topX 65), defScope (topX 65), [], []⟩
def ddX25 : He.DefD := ⟨("_check_row", none), "_check_row", "_check_row", defArgs (topX 66), defBody (topX 66), defScope (topX 66), [], []⟩
def ddX26 : He.DefD := ⟨("_check_order", none), "_check_order", "_check_order", defArgs (topX 67), defBody (topX 67), defScope (topX 67), [], []⟩
def ddX27 : He.DefD := ⟨("_are_ascending_marks", none), "_are_ascending_marks", "_are_ascending_marks", defArgs (topX 68), defBody (topX 68), defScope (topX 68), [], []⟩
def ddX28 : He.DefD := ⟨("_steps_that_meet", none), "_steps_that_meet", "_steps_that_meet", defArgs (topX 69), defBody (topX 69), defScope (topX 69), [], []⟩
def ddX29 : He.DefD := ⟨("_is_met", none), "_is_met", "_is_met", defArgs (topX 70), defBody (topX 70), defScope (topX 70), [], []⟩
def ddX30 : He.DefD := ⟨("_how_many_tops", none), "_how_many_tops", "_how_many_tops", defArgs (topX 71), defBody (topX 71), defScope (topX 71), [], []⟩
def ddX31 : He.DefD := ⟨("_law_tin", none), "_law_tin", "_law_tin", defArgs (topX 73), defBody (topX 73), defScope (topX 73), [], []⟩
def ddX32 : He.DefD := ⟨("_law_sip", none), "_law_sip", "_law_sip", defArgs (topX 74), defBody (topX 74), defScope (topX 74), [], []⟩
def ddX33 : He.DefD := ⟨("_law_pick", none), "_law_pick", "_law_pick", defArgs (topX 75), defBody (topX 75), defScope (topX 75), [], []⟩
def ddX34 : He.DefD := ⟨("_law_far", none), "_law_far", "_law_far", defArgs (topX 76), defBody (topX 76), defScope (topX 76), [], []⟩
def ddX35 : He.DefD := ⟨("_law_gcd", none), "_law_gcd", "_law_gcd", defArgs (topX 77), defBody (topX 77), defScope (topX 77), [], []⟩
def ddX36 : He.DefD := ⟨("_law_low", none), "_law_low", "_law_low", defArgs (topX 78), defBody (topX 78), defScope (topX 78), [], []⟩
def ddX37 : He.DefD := ⟨("_law_step", none), "_law_step", "_law_step", defArgs (topX 79), defBody (topX 79), defScope (topX 79), [], []⟩
def ddX38 : He.DefD := ⟨("_law_spot", none), "_law_spot", "_law_spot", defArgs (topX 80), defBody (topX 80), defScope (topX 80), [], []⟩
def ddX39 : He.DefD := ⟨("_law_line", none), "_law_line", "_law_line", defArgs (topX 81), defBody (topX 81), defScope (topX 81), [], []⟩
def ddX40 : He.DefD := ⟨("_law_is_number", none), "_law_is_number", "_law_is_number", defArgs (topX 82), defBody (topX 82), defScope (topX 82), [], []⟩
def ddX41 : He.DefD := ⟨("_law_error", none), "_law_error", "_law_error", defArgs (topX 83), defBody (topX 83), defScope (topX 83), [], []⟩
def ddX42 : He.DefD := ⟨("_law_class", none), "_law_class", "_law_class", defArgs (topX 84), defBody (topX 84), defScope (topX 84), [], []⟩
def ddX43 : He.DefD := ⟨("_law_field", none), "_law_field", "_law_field", defArgs (topX 85), defBody (topX 85), defScope (topX 85), [], []⟩
def ddX44 : He.DefD := ⟨("_law_ends_right", none), "_law_ends_right", "_law_ends_right", defArgs (topX 86), defBody (topX 86), defScope (topX 86), [], []⟩
def ddX45 : He.DefD := ⟨("_law_due", none), "_law_due", "_law_due", defArgs (topX 87), defBody (topX 87), defScope (topX 87), [], []⟩
def ddX46 : He.DefD := ⟨("_law_wrong", none), "_law_wrong", "_law_wrong", defArgs (topX 88), defBody (topX 88), defScope (topX 88), [], []⟩
def ddX47 : He.DefD := ⟨("_law_bent", none), "_law_bent", "_law_bent", defArgs (topX 89), defBody (topX 89), defScope (topX 89), [], []⟩
def ddX48 : He.DefD := ⟨("_law_right", none), "_law_right", "_law_right", defArgs (topX 90), defBody (topX 90), defScope (topX 90), [], []⟩
def ddX49 : He.DefD := ⟨("law", none), "law", "law", defArgs (topX 91), defBody (topX 91), defScope (topX 91), [], []⟩
def ddX50 : He.DefD := ⟨("Lot", some "__init__"), "__init__", "Lot.__init__", defArgs (inClass (topX 40) 0), defBody (inClass (topX 40) 0), defScope (inClass (topX 40) 0), [], []⟩
def ddX51 : He.DefD := ⟨("InvalidNumber", some "__init__"), "__init__", "InvalidNumber.__init__", defArgs (innX (topX 5)), defBody (innX (topX 5)), defScope (innX (topX 5)), [], []⟩
def ddX52 : He.DefD := ⟨("InvalidOrder", some "__init__"), "__init__", "InvalidOrder.__init__", defArgs (innX (topX 12)), defBody (innX (topX 12)), defScope (innX (topX 12)), [], []⟩
def fnsX : List He.DefD := ddX0 :: ddX1 :: ddX2 :: ddX3 :: ddX4 :: ddX5 :: ddX6 :: ddX7 :: ddX8 :: ddX9 :: ddX10 :: ddX11 :: ddX12 :: ddX13 :: ddX14 :: ddX15 :: ddX16 :: ddX17 :: ddX18 :: ddX19 :: ddX20 :: ddX21 :: ddX22 :: ddX23 :: ddX24 :: ddX25 :: ddX26 :: ddX27 :: ddX28 :: ddX29 :: ddX30 :: ddX31 :: ddX32 :: ddX33 :: ddX34 :: ddX35 :: ddX36 :: ddX37 :: ddX38 :: ddX39 :: ddX40 :: ddX41 :: ddX42 :: ddX43 :: ddX44 :: ddX45 :: ddX46 :: ddX47 :: ddX48 :: ddX49 :: ddX50 :: ddX51 :: ddX52 :: []
def prX0 : PrD := ⟨"Lot", "pieces", "Lot.pieces", defArgs (inClass (topX 40) 2), defBody (inClass (topX 40) 2), defScope (inClass (topX 40) 2)⟩
def prsX : List PrD := prX0 :: []
def faX0 : List He.Fa := (He.Fa.glo "is_integer") :: (He.Fa.glo "is_fraction") :: (He.Fa.glo "is_step") :: (He.Fa.glo "is_part") :: (He.Fa.glo "is_less") :: (He.Fa.glo "is_number") :: (He.Fa.glo "check_step") :: (He.Fa.glo "check_number") :: (He.Fa.glo "order") :: (He.Fa.glo "lowest") :: (He.Fa.glo "mediant") :: (He.Fa.glo "lot_where") :: (He.Fa.glo "_first_wrong") :: (He.Fa.glo "_is_piece") :: (He.Fa.glo "_cuts_at") :: (He.Fa.glo "_is_ahead") :: (He.Fa.glo "_lot_with") :: (He.Fa.glo "mark_behind") :: (He.Fa.glo "whole_points") :: (He.Fa.glo "_points") :: (He.Fa.glo "steps_of") :: (He.Fa.glo "steps_of_some") :: (He.Fa.glo "how_many_orders") :: (He.Fa.glo "all_orders") :: (He.Fa.glo "broken_at") :: (He.Fa.glo "_check_row") :: (He.Fa.glo "_check_order") :: (He.Fa.glo "_are_ascending_marks") :: (He.Fa.glo "_steps_that_meet") :: (He.Fa.glo "_is_met") :: (He.Fa.glo "_how_many_tops") :: (He.Fa.glo "_law_tin") :: (He.Fa.glo "_law_sip") :: (He.Fa.glo "_law_pick") :: (He.Fa.glo "_law_far") :: []
def faX1 : List He.Fa := (He.Fa.glo "_law_gcd") :: (He.Fa.glo "_law_low") :: (He.Fa.glo "_law_step") :: (He.Fa.glo "_law_spot") :: (He.Fa.glo "_law_line") :: (He.Fa.glo "_law_is_number") :: (He.Fa.glo "_law_error") :: (He.Fa.glo "_law_class") :: (He.Fa.glo "_law_field") :: (He.Fa.glo "_law_ends_right") :: (He.Fa.glo "_law_due") :: (He.Fa.glo "_law_wrong") :: (He.Fa.glo "_law_bent") :: (He.Fa.glo "_law_right") :: (He.Fa.glo "law") :: (He.Fa.glo "NotRight") :: (He.Fa.glo "NotKnown") :: (He.Fa.glo "NotPossible") :: (He.Fa.glo "InvalidText") :: (He.Fa.glo "InvalidNumber") :: (He.Fa.glo "InvalidStep") :: (He.Fa.glo "InvalidArc") :: (He.Fa.glo "InvalidSighting") :: (He.Fa.glo "InvalidSightings") :: (He.Fa.glo "NotALot") :: (He.Fa.glo "InvalidPieces") :: (He.Fa.glo "InvalidOrder") :: (He.Fa.glo "InvalidIndex") :: (He.Fa.glo "NoStep") :: (He.Fa.glo "TooMany") :: (He.Fa.glo "Broken") :: (He.Fa.free "len") :: (He.Fa.free "int") :: (He.Fa.free "abs") :: (He.Fa.free "isinstance") :: []
def faX2 : List He.Fa := (He.Fa.free "bool") :: (He.Fa.free "tuple") :: (He.Fa.free "range") :: (He.Fa.free "min") :: (He.Fa.free "max") :: (He.Fa.free "all") :: (He.Fa.free "any") :: (He.Fa.free "sorted") :: (He.Fa.free "set") :: (He.Fa.free "repr") :: (He.Fa.free "list") :: (He.Fa.free "enumerate") :: (He.Fa.free "zip") :: (He.Fa.free "sum") :: (He.Fa.free "ValueError") :: (He.Fa.free "LookupError") :: (He.Fa.free "ArithmeticError") :: (He.Fa.int "MOST_MARK" (40)) :: (He.Fa.int "_MOST_ORDERED" (60)) :: (He.Fa.int "MOST_COUNTED" (2000)) :: (He.Fa.int "MOST_LISTED" (12)) :: (He.Fa.exm "InvalidNumber" "NotRight" true) :: (He.Fa.exm "InvalidNumber" "NotKnown" false) :: (He.Fa.exm "InvalidNumber" "NotPossible" false) :: (He.Fa.exm "InvalidOrder" "NotRight" true) :: (He.Fa.exm "InvalidOrder" "NotKnown" false) :: (He.Fa.exm "InvalidOrder" "NotPossible" false) :: (He.Fa.glo "Lot") :: (He.Fa.cls "Lot") :: (He.Fa.mkr "Lot") :: (He.Fa.noat "Lot" "_pieces") :: (He.Fa.noat "InvalidNumber" "given") :: (He.Fa.noat "InvalidOrder" "index") :: (He.Fa.glo "_LAST_CUT") :: []
def fasX : List He.Fa := faX0 ++ faX1 ++ faX2
def fbX0 : List Fb := (.glob) :: (.bi "gcd" "math.gcd") :: (.bi "lcm" "math.lcm") :: (.own "InvalidNumber" "NotRight") :: (.kit "InvalidNumber" "InvalidText" false) :: (.kit "InvalidNumber" "InvalidNumber" true) :: (.kit "InvalidNumber" "InvalidStep" false) :: (.kit "InvalidNumber" "InvalidArc" false) :: (.kit "InvalidNumber" "InvalidSighting" false) :: (.kit "InvalidNumber" "InvalidSightings" false) :: (.kit "InvalidNumber" "NotALot" false) :: (.kit "InvalidNumber" "InvalidPieces" false) :: (.kit "InvalidNumber" "InvalidOrder" false) :: (.kit "InvalidNumber" "InvalidIndex" false) :: (.kit "InvalidNumber" "NoStep" false) :: (.kit "InvalidNumber" "TooMany" false) :: (.kit "InvalidNumber" "Broken" false) :: (.kit "InvalidNumber" "NotRight" true) :: (.kit "InvalidNumber" "NotKnown" false) :: (.kit "InvalidNumber" "NotPossible" false) :: (.kitT "InvalidNumber" "ValueError" true) :: (.kitT "InvalidNumber" "LookupError" false) :: (.kitT "InvalidNumber" "ArithmeticError" false) :: (.own "InvalidOrder" "NotRight") :: (.kit "InvalidOrder" "InvalidText" false) :: (.kit "InvalidOrder" "InvalidNumber" false) :: (.kit "InvalidOrder" "InvalidStep" false) :: (.kit "InvalidOrder" "InvalidArc" false) :: (.kit "InvalidOrder" "InvalidSighting" false) :: (.kit "InvalidOrder" "InvalidSightings" false) :: (.kit "InvalidOrder" "NotALot" false) :: (.kit "InvalidOrder" "InvalidPieces" false) :: (.kit "InvalidOrder" "InvalidOrder" true) :: (.kit "InvalidOrder" "InvalidIndex" false) :: (.kit "InvalidOrder" "NoStep" false) :: []
def fbX1 : List Fb := (.kit "InvalidOrder" "TooMany" false) :: (.kit "InvalidOrder" "Broken" false) :: (.kit "InvalidOrder" "NotRight" true) :: (.kit "InvalidOrder" "NotKnown" false) :: (.kit "InvalidOrder" "NotPossible" false) :: (.kitT "InvalidOrder" "ValueError" true) :: (.kitT "InvalidOrder" "LookupError" false) :: (.kitT "InvalidOrder" "ArithmeticError" false) :: (.cut "_LAST_CUT") :: (.ne ("_steps_that_meet", none) ("_law_right", none)) :: []
def fbsX : List Fb := fbX0 ++ fbX1
def tfX : List He.Defn := ("_steps_that_meet", none) :: ("_law_right", none) :: []
def dnX : List PySem.Str := ("Lot" : PySem.Str) :: ("InvalidNumber" : PySem.Str) :: ("InvalidOrder" : PySem.Str) :: ("_LAST_CUT" : PySem.Str) :: []
abbrev RRX : PySem.W.OpenRow := PySem.W.OpenLaw.row PySem.Challenge.rw_rimorders_k20_orders_refused
abbrev hkX : PySem.W.Hook := hookZ 2 5 dnX fasX fnsX tfX fbsX prsX
def obX (s : PySem.W.SharedT) : hkX.α := obsZ 2 5 dnX fasX fnsX tfX fbsX prsX (HandSHeadRun.getT s)
theorem obX_eq (s : PySem.W.SharedT) : obX s = hkX.obs s.abs := obsZ_eq (HandSHeadRun.getT_eq s)
abbrev qvX : Program := PySem.W.view RRX.prog [0, 91]
theorem runX_false (w : World) : HandSHeadRun.RunEqI RRX qvX hkX obX 9000 namesX (w.withFollow "special-get-raises" false) := by
  delta HandSHeadRun.RunEqI
  kernel_rfl
theorem runX_true (w : World) : HandSHeadRun.RunEqI RRX qvX hkX obX 9000 namesX (w.withFollow "special-get-raises" true) := by
  delta HandSHeadRun.RunEqI
  kernel_rfl
theorem runX (w : World) : HandSHeadRun.RunEqI RRX qvX hkX obX 9000 namesX w := PySem.W.byRow2 "special-get-raises" runX_false runX_true w
end My
set_option Elab.async false
set_option linter.all false
set_option maxRecDepth 100000
set_option maxHeartbeats 4000000
/-! what a term makes, told by what holds of its value whatever is made behind it -/
namespace Gn
open PySem PySem.Spec PyProof.Rows L2
abbrev Fact := Hp → V → Prop
def Lasts (R : Fact) : Prop := ∀ H H' v, Same H H' → R H v → R H' v
def Fm (te : TE) (σ : L2.St) (H : Hp) (R : Fact) : Prop := ∀ H1, Same H H1 → ∀ Q : VK, (∀ v H2, Same H1 H2 → R H2 v → Q v H2) → te σ H1 Q
/-- facts of a row of values -/
def AllF : List Fact → Hp → List V → Prop
  | [], _, vs => vs = []
  | R :: Rs, H, v :: vs => R H v ∧ AllF Rs H vs
  | _ :: _, _, [] => False
def LastsAll (Rs : List Fact) : Prop := ∀ R ∈ Rs, Lasts R
def FmA (ta : TA) (σ : L2.St) (H : Hp) (Rs : List Fact) : Prop := ∀ H1, Same H H1 → ∀ Q : List V → Hp → Prop, (∀ vs H2, Same H1 H2 → AllF Rs H2 vs → Q vs H2) → ta σ H1 Q
theorem AllF.lasts : ∀ {Rs : List Fact} {H H' : Hp} {vs : List V}, LastsAll Rs → Same H H' → AllF Rs H vs → AllF Rs H' vs
  | [], _, _, _, _, _, h => h
  | R :: Rs, H, H', v :: vs, m, e, ⟨h, hs⟩ => ⟨m R (List.mem_cons_self ..) H H' v e h, AllF.lasts (fun q z => m q (List.mem_cons_of_mem _ z)) e hs⟩
  | _ :: _, _, _, [], _, _, h => h
theorem AllF.len : ∀ {Rs : List Fact} {H : Hp} {vs : List V}, AllF Rs H vs → vs.length = Rs.length
  | [], _, vs, h => by
    rw [show vs = [] from h]
    rfl
  | R :: Rs, H, v :: vs, ⟨_, hs⟩ => by rw [List.length_cons, hs.len, List.length_cons]
  | _ :: _, _, [], h => h.elim
theorem AllF.app : ∀ {Rs Ss : List Fact} {H : Hp} {vs us : List V}, AllF Rs H vs → AllF Ss H us → AllF (Rs ++ Ss) H (vs ++ us)
  | [], _, _, vs, us, h, g => by
    rw [show vs = [] from h]
    exact g
  | R :: Rs, _, _, v :: vs, us, ⟨h, hs⟩, g => ⟨h, hs.app g⟩
  | _ :: _, _, _, [], _, h, _ => h.elim
theorem AllF.at : ∀ {Rs : List Fact} {H : Hp} {vs : List V} {i : Nat}, AllF Rs H vs → ∀ R, Rs[i]? = some R → ∃ v, vs[i]? = some v ∧ R H v
  | [], _, _, i, _, R, e => by cases e
  | R :: Rs, _, v :: vs, 0, ⟨h, _⟩, R', e => by
    cases e
    exact ⟨v, rfl, h⟩
  | R :: Rs, _, v :: vs, i + 1, ⟨_, hs⟩, R', e => hs.at (i := i) R' e
  | _ :: _, _, [], _, h, _, _ => h.elim
theorem lastsAll_nil : LastsAll [] := fun _ z => nomatch z
theorem lastsAll_cons {R : Fact} {Rs : List Fact} (h : Lasts R) (hs : LastsAll Rs) : LastsAll (R :: Rs) := fun q z => by
  rcases List.mem_cons.mp z with z | z
  · rw [z]
    exact h
  · exact hs q z
theorem lastsAll_app {Rs Ss : List Fact} (h : LastsAll Rs) (g : LastsAll Ss) : LastsAll (Rs ++ Ss) := fun q z => (List.mem_append.mp z).elim (h q) (g q)
section
variable {K : PySem.W.Frag} {σ : L2.St} {H : Hp} {te tb : TE} {ta : TA} {R S : Fact} {Rs Ss : List Fact}
/-- it is this value -/
def isV (v : V) : Fact := fun _ u => u = v
theorem lasts_is {v : V} : Lasts (isV v) := fun _ _ _ _ h => h
theorem fm_c {v : V} : Fm (tC v) σ H (isV v) := fun H1 _ Q q => q v H1 (Same.refl _) rfl
theorem fm_var {i : Nat} {v : V} (h : σ[i]? = some (some v)) : Fm (tVar i) σ H (isV v) := fun H1 _ Q q => ⟨v, h, q v H1 (Same.refl _) rfl⟩
theorem fmA_nil : FmA tNil σ H [] := fun H1 _ Q q => q [] H1 (Same.refl _) rfl
theorem fmA_cons (m : Lasts R) (h : Fm te σ H R) (hs : FmA ta σ H Rs) : FmA (tCons te ta) σ H (R :: Rs) := fun H1 e Q q =>
  h H1 e _ fun v H2 e2 r => hs H2 (e.trans e2) _ fun vs H3 e3 rs => q (v :: vs) H3 (e2.trans e3) ⟨m _ _ _ e3 r, rs⟩
/-- a list of these -/
def isL (Rs : List Fact) : Fact := fun H u => ∃ p vs, u = .ref p ∧ H p = some (.lst vs) ∧ AllF Rs H vs
theorem lasts_L (m : LastsAll Rs) : Lasts (isL Rs) := fun H H' v e ⟨p, vs, q, h, hs⟩ => ⟨p, vs, q, e _ _ h, hs.lasts m e⟩
theorem fm_lst (m : LastsAll Rs) (hl : Rs.length ≤ 1000) (hs : FmA ta σ H Rs) : Fm (tLst ta) σ H (isL Rs) := fun H1 e Q q => hs H1 e _ fun vs H2 e2 rs =>
  ⟨by rw [rs.len, sizeLine_eq]; omega, fun p hp => q _ _ (e2.trans (same_put hp)) ⟨p, vs, rfl, upd_same, rs.lasts m (same_put hp)⟩⟩
theorem fm_cat (m : LastsAll Rs) (n : LastsAll Ss) (hl : Rs.length + Ss.length ≤ 1000) (h : Fm te σ H (isL Rs)) (g : Fm tb σ H (isL Ss)) : Fm (tOp rCat te tb) σ H (isL (Rs ++ Ss)) := fun H1 e Q q =>
  h H1 e _ fun u H2 e2 ⟨p, vs, eu, hp, rs⟩ => g H2 (e.trans e2) _ fun y H3 e3 ⟨p', us, ey, hp', ss⟩ => by
    subst eu ey
    have l1 := rs.len
    have l2 := ss.len
    refine ⟨p, p', vs, us, rfl, rfl, e3 _ _ hp, hp', by rw [l1, l2, sizeLine_eq]; omega, fun r hr => ?_⟩
    exact q _ _ ((e2.trans e3).trans (same_put hr)) ⟨r, vs ++ us, rfl, upd_same, ((rs.lasts m e3).app ss).lasts (lastsAll_app m n) (same_put hr)⟩
/-- an exception of the class at C -/
def isE (C : Addr) (fs : List (Str × V)) : Fact := fun H u => ∃ a, u = .ref a ∧ Kept H a C fs
theorem lasts_E {C : Addr} {fs : List (Str × V)} : Lasts (isE C fs) := fun H H' v e ⟨a, q, h⟩ => ⟨a, q, h.same e⟩
theorem same_all {v : List V} {H : Hp} : AllF (v.map isV) H v := by
  induction v with
  | nil => rfl
  | cons x r ih => exact ⟨rfl, ih⟩
theorem allF_is : ∀ {xs vs : List V} {H : Hp}, AllF (xs.map isV) H vs → vs = xs
  | [], _, _, h => h
  | x :: xs, v :: vs, H, ⟨h, hs⟩ => by rw [show v = x from h, allF_is hs]
  | _ :: _, [], _, h => h.elim
theorem fm_mk {C : Addr} {fl : List Str} {xs : List V} (h : FmA ta σ H (xs.map isV)) (hl : xs.length = fl.length) : Fm (tMk C fl ta) σ H (isE C (fl.zip xs).reverse) := fun H1 e Q q =>
  h H1 e _ fun vs H2 e2 rs => by
    have z := allF_is rs
    subst z
    exact ⟨hl, fun a H3 e3 k => q _ _ (e2.trans e3) ⟨a, rfl, k⟩⟩
theorem fm_mkK {C : Addr} {fl : List Str} {xs : List V} {gV : List V → List V} {n : Nat} (h : FmA ta σ H (xs.map isV)) (hl : xs.length = n) : Fm (tMkK C fl gV n ta) σ H (isE C (fl.zip (gV xs)).reverse) := fun H1 e Q q =>
  h H1 e _ fun vs H2 e2 rs => by
    have z := allF_is rs
    subst z
    exact ⟨hl, fun a H3 e3 k => q _ _ (e2.trans e3) ⟨a, rfl, k⟩⟩
end
end Gn
set_option Elab.async false
set_option linter.all false
set_option maxRecDepth 100000
set_option maxHeartbeats 4000000
/-! arguments of any kind: what isinstance, the checks' questions, tell of them -/
namespace Gn
open PySem PySem.Spec PyProof.Rows L2
mutual
/-- a value that holds d, its lists, tuples and empty dicts being made by the law itself -/
inductive An (K : PySem.W.Frag) (H : Hp) : V → PyData → Prop
  | non : An K H .non .none
  | bl (b : Bool) : An K H (.bl b) (.bool b)
  | int (i : Int) : An K H (.int i) (.int i)
  | str (x : Str) : An K H (.str x) (.str x)
  | lst {a : Addr} {xs : List V} {ds : List PyData} (h : H a = some (.lst xs)) (ne : a ≠ sysModules) (t : AnAll K H xs ds) : An K H (.ref a) (.list ds)
  | tup {a : Addr} {xs : List V} {ds : List PyData} (h : H a = some (.tup xs)) (t : AnAll K H xs ds) : An K H (.ref a) (.tuple ds)
  | dct {a : Addr} (h : H a = some (.dK [])) : An K H (.ref a) (.dict [])
inductive AnAll (K : PySem.W.Frag) (H : Hp) : List V → List PyData → Prop
  | nil : AnAll K H [] []
  | cons {v : V} {vs : List V} {d : PyData} {ds : List PyData} (h : An K H v d) (t : AnAll K H vs ds) : AnAll K H (v :: vs) (d :: ds)
end
theorem tyx_sqt {K : PySem.W.Frag} {H : Hp} {a : Addr} {xs : List V} (h : SqT K H a xs) : TyX K H (.ref a) (.type "tuple") := by
  rcases h with (h | ⟨o, h⟩) | ⟨o, its, n, h, hc, _⟩
  · exact .base (.tup h)
  · exact .fTuple h
  · exact .kTuple h hc
theorem tyx_sql {K : PySem.W.Frag} {H : Hp} {a : Addr} {xs : List V} (h : SqL K H a xs) : TyX K H (.ref a) (.type "list") := by
  rcases h with (h | ⟨o, h⟩) | ⟨o, its, n, h, hc, _⟩
  · exact .base (.lst h)
  · exact .base (.frz h)
  · exact .kList h hc
/-- the name of its type -/
def tyn : PyData → String
  | .none => "NoneType"
  | .bool _ => "bool"
  | .int _ => "int"
  | .str _ => "str"
  | .list _ => "list"
  | .tuple _ => "tuple"
  | .dict _ => "dict"
theorem An.ty {K : PySem.W.Frag} {H : Hp} {v : V} {d : PyData} (h : An K H v d) : TyX K H v (.type (tyn d)) := by
  cases h with
  | dct h => exact .base (.dK h)
  | non => exact .base .non
  | bl b => exact .base (.bl b)
  | int i => exact .base (.int i)
  | str x => exact .base (.str x)
  | lst a _ _ => exact .base (.lst a)
  | tup a _ => exact .base (.tup a)
def isIntB (d : PyData) : Bool := match d with | .int _ => true | .bool _ => true | _ => false
def isBoolB (d : PyData) : Bool := match d with | .bool _ => true | _ => false
def isTupB (d : PyData) : Bool := match d with | .tuple _ => true | _ => false
theorem kit_int {d : PyData} : kitB (tyn d) "int" = some (isIntB d) := by cases d <;> (simp only [tyn, isIntB]; decide +kernel)
theorem kit_bool {d : PyData} : kitB (tyn d) "bool" = some (isBoolB d) := by cases d <;> (simp only [tyn, isBoolB]; decide +kernel)
theorem kit_tup {d : PyData} : kitB (tyn d) "tuple" = some (isTupB d) := by cases d <;> (simp only [tyn, isTupB]; decide +kernel)
/-- an integer, as the program asks it -/
def isInt (d : PyData) : Bool := match d with | .int _ => true | _ => false
def isFr (d : PyData) : Bool := match d with | .tuple [.int t, .int b] => decide (1 ≤ b) && decide (Int.gcd t b = 1) | _ => false
def isSt (d : PyData) : Bool := match d with | .tuple [.int t, .int b] => isFr d && (decide (0 ≤ t) && decide (t < b)) | _ => false
def isPt (d : PyData) : Bool := match d with | .tuple [.int t, .int b] => isFr d && (decide (0 ≤ t) && decide (t ≤ b)) | _ => false
def isNum (d : PyData) (a b : Int) : Bool := match d with | .int i => decide (a ≤ i ∧ i ≤ b) | _ => false
theorem An.isI {K : PySem.W.Frag} {H : Hp} {v : V} {d : PyData} (h : An K H v d) (e : isInt d = true) : ∃ i, v = .int i ∧ d = .int i := by
  cases h with
  | int i => exact ⟨i, rfl, rfl⟩
  | _ => cases e
theorem An.isT {K : PySem.W.Frag} {H : Hp} {v : V} {d : PyData} (h : An K H v d) (e : isTupB d = true) : ∃ a xs ds, v = .ref a ∧ d = .tuple ds ∧ H a = some (.tup xs) ∧ AnAll K H xs ds := by
  cases h with
  | tup a b => exact ⟨_, _, _, rfl, rfl, a, b⟩
  | _ => cases e
theorem dpAll_len {K : PySem.W.Frag} {H : Hp} : ∀ {xs : List V} {ds : List PyData}, AnAll K H xs ds → xs.length = ds.length
  | _, _, .nil => rfl
  | _, _, .cons _ t => congrArg (· + 1) (dpAll_len t)
theorem dpAll_two {K : PySem.W.Frag} {H : Hp} {xs : List V} {ds : List PyData} (h : AnAll K H xs ds) (e : xs.length = 2) : ∃ x y p q, xs = [x, y] ∧ ds = [p, q] ∧ An K H x p ∧ An K H y q := by
  match xs, ds, h, e with
  | [x, y], [p, q], .cons a (.cons b .nil), _ => exact ⟨x, y, p, q, rfl, rfl, a, b⟩
theorem isFr_no {p q : PyData} (h : isInt p = false ∨ isInt q = false) : isFr (.tuple [p, q]) = false := by
  rcases h with h | h
  · cases p with
    | int i => cases h
    | _ => rfl
  · cases q with
    | int i => cases h
    | _ => cases p <;> rfl
theorem isFr_len {ds : List PyData} (h : ds.length ≠ 2) : isFr (.tuple ds) = false := by
  unfold isFr
  split
  · rename_i e
    cases e
    exact absurd rfl h
  · rfl
theorem isFr_ty {d : PyData} (h : isTupB d = false) : isFr d = false := by cases d <;> first | rfl | cases h
theorem isSt_fr {d : PyData} (h : isFr d = false) : isSt d = false := by
  unfold isSt
  split
  · rw [h]; rfl
  · rfl
theorem isPt_fr {d : PyData} (h : isFr d = false) : isPt d = false := by
  unfold isPt
  split
  · rw [h]; rfl
  · rfl
theorem isFr_of {d : PyData} (h : isFr d = true) : ∃ t b, d = .tuple [.int t, .int b] ∧ 1 ≤ b ∧ Int.gcd t b = 1 := by
  unfold isFr at h
  split at h
  · rename_i t b
    simp only [Bool.and_eq_true, decide_eq_true_eq] at h
    exact ⟨t, b, rfl, h.1, h.2⟩
  · cases h
mutual
theorem An.same {K : PySem.W.Frag} {H H' : Hp} (e : Same H H') : ∀ {v : V} {d : PyData}, An K H v d → An K H' v d
  | _, _, .non => .non
  | _, _, .bl b => .bl b
  | _, _, .int i => .int i
  | _, _, .str x => .str x
  | _, _, .lst h n t => .lst (e _ _ h) n (AnAll.same e t)
  | _, _, .tup h t => .tup (e _ _ h) (AnAll.same e t)
  | _, _, .dct h => .dct (e _ _ h)
theorem AnAll.same {K : PySem.W.Frag} {H H' : Hp} (e : Same H H') : ∀ {vs : List V} {ds : List PyData}, AnAll K H vs ds → AnAll K H' vs ds
  | _, _, .nil => .nil
  | _, _, .cons h t => .cons (An.same e h) (AnAll.same e t)
end
/-- no dict in it -/
def flat : PyData → Bool
  | .dict _ => false
  | .list ds => flats ds
  | .tuple ds => flats ds
  | _ => true
where flats : List PyData → Bool
  | [] => true
  | d :: ds => flat d && flats ds
mutual
theorem An.dp {K : PySem.W.Frag} {H : Hp} : ∀ {v : V} {d : PyData}, An K H v d → flat d = true → Dp K H v d
  | _, _, .non, _ => .non
  | _, _, .bl b, _ => .bl b
  | _, _, .int i, _ => .int i
  | _, _, .str x, _ => .str x
  | _, _, .lst h _ t, f => .lst (.inl (.inl h)) (AnAll.dp t (by simpa only [flat] using f))
  | _, _, .tup h t, f => .tup (.inl (.inl h)) (AnAll.dp t (by simpa only [flat] using f))
  | _, _, .dct h, f => by simp only [flat] at f; cases f
theorem AnAll.dp {K : PySem.W.Frag} {H : Hp} : ∀ {vs : List V} {ds : List PyData}, AnAll K H vs ds → flat.flats ds = true → DpAll K H vs ds
  | _, _, .nil, _ => .nil
  | _, _, .cons h t, f => by
    simp only [flat.flats, Bool.and_eq_true] at f
    exact .cons (An.dp h f.1) (AnAll.dp t f.2)
end
end Gn
set_option Elab.async false
set_option linter.all false
set_option maxRecDepth 100000
set_option maxHeartbeats 4000000
/-! repr of such values, empty dicts too -/
namespace Gn
open PySem PySem.Spec PyProof.Rows L2
section
variable {X : Cx} {pins : List (Addr × Obj)} {σ : L2.St} {H : Hp} {s : Shared}
mutual
theorem An.reads (I : Inv X pins σ H s) : ∀ {v : V} {d : PyData} (u : Value), An X.K H v d → RelV v u → ∃ as, Reads s.heap u d as ∧ ∀ b ∈ as, b ≠ sysModules
  | _, _, _, .non, r => by
    cases r
    exact ⟨_, Reads.none, fun _ h => nomatch h⟩
  | _, _, _, .bl b, r => by
    cases r
    exact ⟨_, Reads.bool b, fun _ h => nomatch h⟩
  | _, _, _, .int i, r => by
    obtain ⟨t, rfl⟩ := r
    exact ⟨_, Reads.int i t, fun _ h => nomatch h⟩
  | _, _, _, .str x, r => by
    obtain ⟨t, rfl⟩ := r
    exact ⟨_, Reads.str x t, fun _ h => nomatch h⟩
  | _, _, _, .lst (a := a) h ne ha, r => by
    cases r
    obtain ⟨_, its, n, rv, ho⟩ := (show ObjOk X.prog X.w H s.heap a (.lst _) from I.hok a _ h)
    obtain ⟨as, hr, hn⟩ := AnAll.reads I its ha rv
    refine ⟨_, Reads.list ho rfl rfl hr, fun b hb => ?_⟩
    rcases List.mem_cons.mp hb with rfl | hb
    · exact ne
    · exact hn b hb
  | _, _, _, .tup (a := a) h ha, r => by
    cases r
    obtain ⟨_, its, rv, o, ho, hc, n, hd⟩ := (show ObjOk X.prog X.w H s.heap a (.tup _) from I.hok a _ h)
    obtain ⟨as, hr, hn⟩ := AnAll.reads I its ha rv
    exact ⟨_, Reads.tuple ho hc hd hr, hn⟩
  | _, _, _, .dct (a := a) h, r => by
    cases r
    obtain ⟨_, nm, vs, kv, o, es, ep, ho, ex, hd, _, pr, _⟩ := (show ObjOk X.prog X.w H s.heap a (.dK []) from I.hok a _ h)
    cases kv
    have e0 : es.toList = [] := by cases hq : es.toList with
      | nil => rfl
      | cons z zs => rw [hq] at pr; cases pr
    refine ⟨_, Reads.dict (as := []) (bs := []) (kvs := []) ho ex.1 hd (by rw [e0]; exact .nil) (by rw [e0]; exact .nil), fun b hb => ?_⟩
    rcases List.mem_cons.mp hb with rfl | hb
    · exact fun z => by rw [z] at nm; cases nm
    · cases hb
theorem AnAll.reads (I : Inv X pins σ H s) : ∀ {vs : List V} {ds : List PyData} (us : List Value), AnAll X.K H vs ds → Vals vs us → ∃ as, ReadsAll s.heap us ds as ∧ ∀ b ∈ as, b ≠ sysModules
  | _, _, _, .nil, r => by
    cases r
    exact ⟨_, ReadsAll.nil, fun _ h => nomatch h⟩
  | _, _, _, .cons h1 h2, r => by
    cases r with
    | cons r1 r2 =>
      obtain ⟨as, q1, n1⟩ := An.reads I _ h1 r1
      obtain ⟨bs, q2, n2⟩ := AnAll.reads I _ h2 r2
      exact ⟨_, ReadsAll.cons q1 q2, fun b hb => (List.mem_append.mp hb).elim (n1 b) (n2 b)⟩
end
end
section
variable {X : Cx}
/-- repr(x), x a list or a tuple of such data -/
def rReprA (K : PySem.W.Frag) : List V → Hp → VK → Prop := fun xs H Q => ∃ a d, xs = [V.ref a] ∧ An K H (.ref a) d ∧ d.showable = true ∧ d.depth < 60 ∧ d.shown.length ≤ sizeLine ∧ Q (.str d.shown) H
theorem cr_reprA (hg : X.A.guards = some []) (hu : X.A.units + 64 < cLine) : CallR X (.builtin "repr") (rReprA X.K) := by
  intro pins s σ H xs us Q I r h
  obtain ⟨a, d, rfl, hd, hs, hdp, hz, q⟩ := h
  rw [Vals.ref1 r]
  obtain ⟨as, rd, hn⟩ := An.reads I _ hd rfl
  exact repr_of_reads' rd hs (fun _ hm => hn _ hm rfl) hg (by omega) (fun _ _ e => e) (fun h' u tk k => ⟨.str d.shown, H, I.kept (t' := tk) k, ⟨u, rfl⟩, q⟩) hz
/-- a list display, its place told not to be that of the modules' dict -/
def tLstZ (t : TA) : TE := fun σ H Q => t σ H fun xs H1 => xs.length ≤ sizeLine ∧ ∀ p, H1 p = none → p ≠ sysModules → Q (.ref p) (upd H1 p (.lst xs))
theorem pe_lstZ {es : List Expr} {pos : Pos} {t : TA} (h : PA X es t) : PE X (.List es pos) (tLstZ t) := by
  refine ⟨fun pins s σ H Q I hq => ?_⟩
  refine wpAny_List_spliced (thn (h.run pos pins s σ H _ I hq) fun us s1 ⟨xs, H1, I1, r, z, q⟩ => ⟨by rw [← r.length]; exact z, ?_⟩)
  have hf : H1 s1.heap.objs.size = none := I1.hok.fresh (Nat.le_refl _)
  refine ⟨.ref s1.heap.objs.size, upd H1 s1.heap.objs.size (.lst xs), I1.laid (t' := s1.toks) (fun b u e => Heap.get?_push_of_some _ e) (Nat.le_refl _) ?_, rfl, q _ hf (Nat.ne_of_gt I1.big)⟩
  exact ⟨z, us, 0, r, Heap.get?_push_size _ rfl⟩
/-- x != y, two lists, y empty: whatever x has -/
def rNeNil (K : PySem.W.Frag) : R2 := fun x y H Q => ∃ a b xs, x = .ref a ∧ y = .ref b ∧ SqL K H a xs ∧ SqL K H b [] ∧ Q (.bl (!xs.isEmpty)) H
theorem op_neNil (hu : X.A.units < cLine) : OpR X (compareOp .NotEq) (rNeNil X.K) := by
  intro pins s σ H x y v u Q I rx ry h
  obtain ⟨a, b, xs, rfl, rfl, ha, hb, q⟩ := h
  cases (show v = Value.ref a from rx)
  cases (show u = Value.ref b from ry)
  obtain ⟨us, r1, p1, _⟩ := I.list ha
  obtain ⟨ws, r2, p2, _⟩ := I.list hb
  cases r2
  cases r1 with
  | nil => exact SeqAt.RcNeAt.lists (e := fun _ => true) p1.isList p2.isList rfl hu (fun j h1 h2 => absurd h2 (Nat.not_lt_zero j)) _ _ _ _ ⟨.bl _, H, I, rfl, q⟩
  | cons r1 r2 => exact SeqAt.RcNeAt.lists_lengths p1.isList p2.isList (by simp) hu _ _ _ _ ⟨.bl _, H, I, rfl, q⟩
end
end Gn
set_option Elab.async false
set_option linter.all false
set_option maxRecDepth 100000
set_option maxHeartbeats 4000000
namespace My
open PySem PySem.Spec PyProof.Rows L2 Gn
def top (i : Nat) : Stmt := PySem.Challenge.pw_rimorders_k20_orders_refused.main.body.getD i (.Pass ⟨0, 0, 0, 0⟩)
abbrev sTin : Stmt := top 73
abbrev sSip : Stmt := top 74
abbrev sPick : Stmt := top 75
abbrev sFar : Stmt := top 76
abbrev sGcd : Stmt := top 77
abbrev sLow : Stmt := top 78
abbrev sStep : Stmt := top 79
theorem scTin : FnScope ["_law_script", "_law_turn", "_law_entry", "_law_stirred", "_law_each"] ["_law_script", "_law_turn"] (defScope sTin) := ⟨rfl, rfl, rfl, by decide +kernel, rfl, by decide +kernel, by decide +kernel⟩
theorem scSip : FnScope ["_law_tin_here", "_law_top", "_law_digit"] ["_law_tin_here", "_law_top"] (defScope sSip) := ⟨rfl, rfl, rfl, by decide +kernel, rfl, by decide +kernel, by decide +kernel⟩
theorem scPick : FnScope ["_law_tin_here", "_law_menu"] ["_law_tin_here", "_law_menu"] (defScope sPick) := ⟨rfl, rfl, rfl, by decide +kernel, rfl, by decide +kernel, by decide +kernel⟩
theorem scFar : FnScope ["_law_tin_here", "_law_most", "_law_scale"] ["_law_tin_here", "_law_most"] (defScope sFar) := ⟨rfl, rfl, rfl, by decide +kernel, rfl, by decide +kernel, by decide +kernel⟩
theorem scGcd : FnScope ["_law_one", "_law_two"] ["_law_one", "_law_two"] (defScope sGcd) := ⟨rfl, rfl, rfl, by decide +kernel, rfl, by decide +kernel, by decide +kernel⟩
theorem scLow : FnScope ["_law_top", "_law_bottom", "_law_same"] ["_law_top", "_law_bottom"] (defScope sLow) := ⟨rfl, rfl, rfl, by decide +kernel, rfl, by decide +kernel, by decide +kernel⟩
theorem scStep : FnScope ["_law_tin_here", "_law_most", "_law_bottom"] ["_law_tin_here", "_law_most"] (defScope sStep) := ⟨rfl, rfl, rfl, by decide +kernel, rfl, by decide +kernel, by decide +kernel⟩
/-- the built-ins that the text calls are still the built-ins -/
structure Bl (mg : Str → Option Value) : Prop where
  len : mg "len" = none
  int : mg "int" = none
  abs : mg "abs" = none
/-- a tin at t: what is left of the number, the stirred one, how often it was sipped from -/
def Tin (H : Hp) (t : Addr) : Prop := ∃ a b c : Int, H t = some (.lst [.int a, .int b, .int c]) ∧ 0 ≤ a ∧ 0 ≤ b ∧ b < 2147483647
/-- all but t is as it was, t is a tin -/
def Sipped (H H' : Hp) (t : Addr) : Prop := Tin H' t ∧ ∀ b o, H b = some o → b ≠ t → H' b = some o
def spTin (K : PySem.W.Frag) : Sp := fun vs H Q _ => ∃ (a : Addr) (ns : List Int) (t : Int), vs = [.ref a, .int t] ∧ SqL K H a (ns.map V.int) ∧ 0 ≤ t ∧ t ≤ 100 ∧
  ∀ p H', Same H H' → H p = none → Tin H' p → Q (.ref p) H'
def spSip : Sp := fun vs H Q _ => ∃ (t : Addr) (n : Int), vs = [.ref t, .int n] ∧ Tin H t ∧ 0 < n ∧ n.natAbs < 2 ^ 100 ∧ ∀ d H', 0 ≤ d → d < n → Sipped H H' t → Q (.int d) H'
theorem nz1 : (999931 : Int) ≠ 0 := by decide
theorem nz2 : (2147483647 : Int) ≠ 0 := by decide
section
variable {P : Program} {w : World} {K : PySem.W.Frag} {mg : Str → Option Value} {base : Heap}
theorem ok_tin {f : Addr} {fd : FuncData} (F : Fun K "_law_tin" "_law_tin" sTin f fd) (B : Bl mg) : FnOk P w K mg base CX0 1 f fd ["_law_script", "_law_turn"] (spTin K) := by
  refine F.ok scTin (fun vs H Q E h => ?_) (fun cdv A outer s H vs Q E hr h => ?_)
  · obtain ⟨a, ns, t, rfl, _⟩ := h
    rfl
  · obtain ⟨a, ns, t, rfl, hS, t0, t1, q⟩ := h
    refine ⟨_, pss_cons (ps_set (i := 2) scTin.nd rfl (.inl rfl) (pe_ifExp (pt_cmpR op_lt (pv 1) (pe_callB call_len_seq (by rfl) B.len PySem.boot_len (pa_cons (pv 0) pa_nil)) (nomark _))
        (pe_callTy call_int1 (by rfl) B.int (by decide +kernel) (pa_cons (pe_ix ix_list (pv 0) (pv 1) (fun _ _ => rfl)) pa_nil)) (pe_op op_add (pe_op op_mul pe_int (pv 1)) pe_int)))
      (pss_cons (ps_set (i := 3) scTin.nd rfl (.inl rfl) (pe_op op_add pe_int (pe_op op_mul pe_int (pv 1))))
      (pss_cons (ps_for PassesOwn.never rfl (pi_list (pe_slice sl_list (pv 0) po_none (po_some pe_int))) (pg_name (i := 4) scTin.nd rfl (.inl rfl))
        (pss_one (ps_set (i := 3) scTin.nd rfl (.inl rfl) (pe_op op_modN (pe_callTy call_int1 (by rfl) B.int (by decide +kernel) (pa_cons
          (pe_op op_add (pe_op op_add (pe_op op_mul (pv 3) pe_int) (pe_op op_modN (pe_callTy call_int1 (by rfl) B.int (by decide +kernel) (pa_cons (pv 4) pa_nil)) pe_int)) (pv 1)) pa_nil)) pe_int))))
      (pss_cons (ps_set (i := 3) scTin.nd rfl (.inl rfl) (pe_op op_modN (pe_callTy call_int1 (by rfl) B.int (by decide +kernel) (pa_cons
          (pe_op op_add (pe_op op_mul (pv 3) pe_int) (pe_op op_modN (pe_callTy call_int1 (by rfl) B.int (by decide +kernel) (pa_cons (pv 2) pa_nil)) pe_int)) pa_nil)) pe_int))
      (pss_one (ps_ret (pe_lst (pa_cons (pe_ifExp (pt_cmpR op_ge (pe_callB call_abs (by rfl) B.abs (by decide +kernel) (pa_cons (pv 2) pa_nil)) (pe_op op_pow pe_int pe_int) (nomark _)) (pe_callB call_abs (by rfl) B.abs (by decide +kernel) (pa_cons (pv 2) pa_nil)) pe_int)
          (pa_cons (pv 3) (pa_cons pe_int pa_nil))))))))), ?_⟩
    refine ⟨_, rfl, _, rfl, a, _, rfl, .inl hS, _, _, rfl, rfl, _, rfl, ?_⟩
    refine tif (.int (ns.getD t.toNat 0)) (.int (73 * t + 23)) (fun hc R z => ?_) (fun _ R z => ?_) (fun v e1 e2 => ?_)
    · have hl : t.toNat < ns.length := by have := of_decide_eq_true hc; rw [List.length_map] at this; omega
      refine ⟨_, rfl, _, rfl, a, _, t, .int (ns.getD t.toNat 0), rfl, rfl, hS, ?_, .inl ⟨_, rfl, z⟩⟩
      exact at_of (j := t.toNat) (by omega) (by rw [List.getElem?_map, List.getElem?_eq_getElem hl, List.getD_eq_getElem?_getD, List.getElem?_eq_getElem hl]; rfl)
    · exact ⟨_, rfl, _, _, rfl, rfl, .inl ⟨by decide, by decide⟩, _, _, rfl, rfl, z⟩
    obtain ⟨e, rfl⟩ : ∃ e, v = V.int e := by
      rcases Bool.eq_false_or_eq_true (decide (t < ↑(List.map V.int ns).length)) with z | z
      · exact ⟨_, e1 z⟩
      · exact ⟨_, e2 z⟩
    refine ⟨_, rfl, _, _, rfl, rfl, .inl ⟨by decide, by decide⟩, _, _, rfl, rfl, ?_⟩
    refine ⟨_, rfl, 8, rfl, a, _, rfl, hS, fun p hp => ⟨p, rfl, ⟨_, .inl (.inl upd_same)⟩, ?_⟩⟩
    have sm := same_put (o := .lst (cutV (ns.map V.int) none (some 8))) hp
    refine for_list (K := K) (a := p) (xs := cutV (ns.map V.int) none (some 8)) (fun i σ H' => ∃ (st : Int) (y : Option V), σ = [some (.ref a), some (.int t), some (.int e), some (.int st), y] ∧ 0 ≤ st ∧ st ≤ 2147483647 ∧ H' = upd H p (.lst (cutV (ns.map V.int) none (some 8))))
      ⟨50021 + 1009 * t, none, rfl, by omega, by omega, rfl⟩ (fun i σ H' _ ⟨_, _, _, _, _, e⟩ => by rw [e]; exact .inl (.inl upd_same)) ?_ ?_
    · rintro i x σ H' hi ⟨st, y, rfl, s0, s1, rfl⟩
      obtain ⟨z, rfl⟩ := int_at (cut_mem (List.mem_of_getElem? hi))
      refine ⟨_, rfl, _, _, rfl, rfl, .inl ⟨by omega, by omega⟩, _, rfl, .inl ⟨_, rfl, _, _, rfl, rfl, nz1, _, _, rfl, rfl, _, rfl, _, _, rfl, rfl, .inl ⟨_, rfl, _, _, rfl, rfl, nz2, ?_⟩⟩⟩
      exact ⟨_, _, rfl, fmod_ge (by decide), Int.le_of_lt (fmod_lt (by decide)), rfl⟩
    · rintro σ H' ⟨st, y, rfl, s0, s1, rfl⟩
      refine ⟨_, rfl, _, _, rfl, rfl, .inl ⟨by omega, by omega⟩, _, rfl, .inl ⟨_, rfl, _, _, rfl, rfl, nz1, _, _, rfl, rfl, .inl ⟨_, rfl, _, _, rfl, rfl, nz2, ?_⟩⟩⟩
      refine ⟨_, rfl, _, rfl, _, _, rfl, rfl, ⟨by decide, by decide, by decide⟩, _, _, rfl, rfl, _, rfl, ?_⟩
      refine tif (.int (if e < 0 then -e else e)) (.int 0) (fun _ R z => ⟨_, rfl, _, rfl, z⟩) (fun _ R z => z) (fun v e1 e2 => ?_)
      obtain ⟨b, rfl, hb⟩ : ∃ b, v = V.int b ∧ 0 ≤ b := by
        rcases Bool.eq_false_or_eq_true (decide ((10 : Int) ^ (18 : Int).toNat ≤ if e < 0 then -e else e)) with z | z
        · exact ⟨_, e1 z, by split <;> omega⟩
        · exact ⟨_, e2 z, by decide⟩
      refine ⟨_, rfl, (by show 3 ≤ sizeLine; decide), fun r hr' => ?_⟩
      exact q r _ (sm.trans (same_put hr')) (sm.free hr') ⟨_, _, _, upd_same, hb, fmod_ge (by decide), fmod_lt (by decide)⟩
end
end My
set_option Elab.async false
set_option linter.all false
set_option maxRecDepth 100000
set_option maxHeartbeats 4000000
namespace My
open PySem PySem.Spec PyProof.Rows L2 Gn
theorem Tin.not {H : Hp} {t b : Addr} (T : Tin H t) (h : H b = none) : b ≠ t := by
  obtain ⟨_, _, _, h1, _⟩ := T
  exact (ne_of_none h1 h).symm
theorem Sipped.trans {H H1 H2 : Hp} {t : Addr} (a : Sipped H H1 t) (b : Sipped H1 H2 t) : Sipped H H2 t := ⟨b.1, fun c o e n => b.2 c o (a.2 c o e n) n⟩
theorem Sipped.ofSame {H H1 : Hp} {t : Addr} (T : Tin H t) (s : Same H H1) : Sipped H H1 t := by
  obtain ⟨a, b, c, h, r⟩ := T
  exact ⟨⟨a, b, c, s _ _ h, r⟩, fun c o e _ => s c o e⟩
theorem Sipped.free {H H1 : Hp} {t p : Addr} (T : Tin H t) (s : Sipped H H1 t) (h : H1 p = none) : H p = none := by
  cases q : H p with
  | none => rfl
  | some o =>
    have n : p ≠ t := by
      rintro rfl
      obtain ⟨_, _, _, e, _⟩ := s.1
      rw [h] at e; cases e
    rw [s.2 p o q n] at h
    cases h
section
variable {P : Program} {w : World} {K : PySem.W.Frag} {mg : Str → Option Value} {base : Heap}
theorem ok_sip {f : Addr} {fd : FuncData} (F : Fun K "_law_sip" "_law_sip" sSip f fd) (B : Bl mg) : FnOk P w K mg base CX0 1 f fd ["_law_tin_here", "_law_top"] spSip := by
  refine F.ok scSip (fun vs H Q E h => ?_) (fun cdv A outer s H vs Q E hr h => ?_)
  · obtain ⟨t, n, rfl, _⟩ := h
    rfl
  · obtain ⟨t, n, rfl, ⟨a, b, c, hT, a0, b0, b1⟩, n0, n1, q⟩ := h
    refine ⟨_, pss_cons (ps_asg (pe_op op_add (pe_ix ix_list (pv 0) pe_int (fun _ _ => rfl)) pe_int) (pg_sub (pv 0) pe_int set_list))
      (pss_cons (ps_if (pt_cmpR op_gt (pe_ix ix_list (pv 0) pe_int (fun _ _ => rfl)) pe_int (nomark _))
        (pss_cons (ps_set (i := 2) scSip.nd rfl (.inl rfl) (pe_op op_modN (pe_callTy call_int1 (by rfl) B.int (by decide +kernel) (pa_cons (pe_ix ix_list (pv 0) pe_int (fun _ _ => rfl)) pa_nil)) (pv 1)))
        (pss_cons (ps_asg (pe_op op_fdivW (pe_callTy call_int1 (by rfl) B.int (by decide +kernel) (pa_cons (pe_ix ix_list (pv 0) pe_int (fun _ _ => rfl)) pa_nil)) (pv 1)) (pg_sub (pv 0) pe_int set_list))
        (pss_one (ps_ret (pv 2))))) pss_nil)
      (pss_cons (ps_asg (pe_op op_modN (pe_callTy call_int1 (by rfl) B.int (by decide +kernel) (pa_cons (pe_op op_add (pe_op op_add (pe_op op_mul (pe_ix ix_list (pv 0) pe_int (fun _ _ => rfl)) pe_int) (pe_op op_mul pe_int (pe_ix ix_list (pv 0) pe_int (fun _ _ => rfl)))) pe_int) pa_nil)) pe_int) (pg_sub (pv 0) pe_int set_list))
      (pss_one (ps_ret (pe_op op_modN (pe_callTy call_int1 (by rfl) B.int (by decide +kernel) (pa_cons (pe_op op_fdivW (pe_ix ix_list (pv 0) pe_int (fun _ _ => rfl)) pe_int) pa_nil)) (pv 1)))))), ?_⟩
    -- tin[2] = tin[2] + 1
    refine ⟨_, rfl, t, _, 2, .int c, rfl, rfl, SqL.of hT, at_of (j := 2) rfl rfl, _, _, rfl, rfl, _, rfl, t, _, _, 2, rfl, rfl, hT, rfl, ?_⟩
    have h1 : upd H t (.lst ([V.int a, V.int b, V.int c].set 2 (V.int (c + 1)))) t = some (.lst [.int a, .int b, .int (c + 1)]) := upd_same
    -- if tin[0] > 0
    refine ⟨_, rfl, t, _, 0, .int a, rfl, rfl, SqL.of h1, at_of (j := 0) rfl rfl, _, _, rfl, rfl, _, rfl, ?_⟩
    refine ite2 (fun hc => ?_) (fun hc => ?_)
    · have ha : 0 < a := of_decide_eq_true hc
      refine ⟨_, rfl, t, _, 0, .int a, rfl, rfl, SqL.of h1, at_of (j := 0) rfl rfl, .inl ⟨_, rfl, _, rfl, _, _, rfl, rfl, (show n ≠ 0 by omega), ?_⟩⟩
      refine ⟨_, rfl, t, _, 0, .int a, rfl, rfl, SqL.of h1, at_of (j := 0) rfl rfl, .inl ⟨_, rfl, _, rfl, _, _, rfl, rfl, wide_div n0 n1 (by decide) (by decide), _, rfl, t, _, _, 0, rfl, rfl, h1, rfl, ?_⟩⟩
      refine ⟨_, rfl, q _ _ (fmod_ge n0) (fmod_lt n0) ⟨⟨_, _, _, upd_same, Int.ediv_nonneg (by omega) (by omega), b0, b1⟩, fun z o e hz => ?_⟩⟩
      rw [upd_ne hz, upd_ne hz]; exact e
    · refine ⟨_, rfl, t, _, 1, .int b, rfl, rfl, SqL.of h1, at_of (j := 1) rfl rfl, _, _, rfl, rfl, .inl ⟨by omega, by omega⟩, _, rfl, t, _, 2, .int (c + 1), rfl, rfl, SqL.of h1, at_of (j := 2) rfl rfl, _, _, rfl, rfl, .inl ⟨by decide, by decide⟩, _, _, rfl, rfl, _, _, rfl, rfl, .inl ⟨_, rfl, _, _, rfl, rfl, nz2, _, rfl, t, _, _, 1, rfl, rfl, h1, rfl, ?_⟩⟩
      have h2 : ∀ z : Int, upd (upd H t (.lst ([V.int a, V.int b, V.int c].set 2 (V.int (c + 1))))) t (.lst ([V.int a, V.int b, V.int (c + 1)].set 1 (V.int z))) t = some (.lst [.int a, .int z, .int (c + 1)]) := fun z => upd_same
      refine ⟨_, rfl, t, _, 1, _, rfl, rfl, SqL.of (h2 _), at_of (j := 1) rfl rfl, _, _, rfl, rfl, wide_div (b := 6) (by decide) (by decide) (by decide) (by decide), .inl ⟨_, rfl, _, rfl, _, _, rfl, rfl, (show n ≠ 0 by omega), ?_⟩⟩
      refine q _ _ (fmod_ge n0) (fmod_lt n0) ⟨⟨_, _, _, h2 _, a0, fmod_ge (by decide), fmod_lt (by decide)⟩, fun z o e hz => ?_⟩
      rw [upd_ne hz, upd_ne hz]; exact e
end
end My
set_option Elab.async false
set_option linter.all false
set_option maxRecDepth 100000
set_option maxHeartbeats 4000000
namespace My
open PySem PySem.Spec PyProof.Rows L2 Gn
def spPick : Sp := fun vs H Q _ => ∃ (t m : Addr) (xs : List V), vs = [.ref t, .ref m] ∧ Tin H t ∧ H m = some (.lst xs) ∧ m ≠ t ∧ 0 < xs.length ∧ xs.length ≤ 1000 ∧ ∀ x H', x ∈ xs → Sipped H H' t → Q x H'
def spFar : Sp := fun vs H Q _ => ∃ (t : Addr) (n : Int), vs = [.ref t, .int n] ∧ Tin H t ∧ 1 ≤ n ∧ n.natAbs < 2 ^ 100 ∧ ∀ d H', 1 ≤ d → d ≤ n → Sipped H H' t → Q (.int d) H'
def spGcd : Sp := fun vs H Q _ => ∃ (a b : Int), vs = [.int a, .int b] ∧ 0 ≤ a ∧ 0 ≤ b ∧ Q (.int ((Nat.gcd a.natAbs b.natAbs : Nat) : Int)) H
def spLow : Sp := fun vs H Q _ => ∃ (a b : Int), vs = [.int a, .int b] ∧ 0 ≤ a ∧ 0 < b ∧ b.natAbs < 2 ^ 100 ∧
  ∀ p, H p = none → Q (.ref p) (upd H p (.tup [.int (a / ((Nat.gcd a.natAbs b.natAbs : Nat) : Int)), .int (b / ((Nat.gcd a.natAbs b.natAbs : Nat) : Int))]))
/-- x / y is a step: lowest terms, from 0 on, below 1 -/
structure IsStep (x y : Int) : Prop where
  x0 : 0 ≤ x
  xy : x < y
  co : Nat.gcd x.natAbs y.natAbs = 1
def spStep : Sp := fun vs H Q _ => ∃ (t : Addr) (n : Int), vs = [.ref t, .int n] ∧ Tin H t ∧ 1 ≤ n ∧ n.natAbs < 2 ^ 100 ∧
  ∀ x y p H', IsStep x y → y ≤ n → Sipped H H' t → H p = none → H' p = some (.tup [.int x, .int y]) → Q (.ref p) H'
theorem low_step {a b : Int} (h0 : 0 ≤ a) (h : a < b) : IsStep (a / ((Nat.gcd a.natAbs b.natAbs : Nat) : Int)) (b / ((Nat.gcd a.natAbs b.natAbs : Nat) : Int)) ∧ b / ((Nat.gcd a.natAbs b.natAbs : Nat) : Int) ≤ b := by
  obtain ⟨x, rfl⟩ := Int.eq_ofNat_of_zero_le h0
  obtain ⟨y, rfl⟩ := Int.eq_ofNat_of_zero_le (show 0 ≤ b by omega)
  simp only [Int.natAbs_natCast]
  have hy : 0 < y := by omega
  have g0 : 0 < Nat.gcd x y := Nat.gcd_pos_of_pos_right _ hy
  have e1 : ((x : Int) / ((Nat.gcd x y : Nat) : Int)) = ((x / Nat.gcd x y : Nat) : Int) := by simp
  have e2 : ((y : Int) / ((Nat.gcd x y : Nat) : Int)) = ((y / Nat.gcd x y : Nat) : Int) := by simp
  rw [e1, e2]
  obtain ⟨u, hu⟩ := Nat.gcd_dvd_left x y
  obtain ⟨v, hv⟩ := Nat.gcd_dvd_right x y
  have du : x / Nat.gcd x y = u := Nat.div_eq_of_eq_mul_right g0 hu
  have dv : y / Nat.gcd x y = v := Nat.div_eq_of_eq_mul_right g0 hv
  refine ⟨⟨by omega, ?_, ?_⟩, ?_⟩
  · rw [du, dv]
    have : Nat.gcd x y * u < Nat.gcd x y * v := by rw [← hu, ← hv]; omega
    have := Nat.lt_of_mul_lt_mul_left this
    omega
  · simp only [Int.natAbs_natCast]
    exact Nat.coprime_div_gcd_div_gcd g0
  · have := Nat.div_le_self y (Nat.gcd x y)
    omega
section
variable {P : Program} {w : World} {K : PySem.W.Frag} {mg : Str → Option Value} {base : Heap}
/-- a def that the module holds under its own name, and how it binds -/
structure Df (K : PySem.W.Frag) (mg : Str → Option Value) (x : Str) (st : Stmt) (ps : List Str) (f : Addr) (fd : FuncData) : Prop where
  F : Fun K x x st f fd
  g : mg x = some (.ref f)
  b : Binds K fd ps []
theorem ok_pick {f fS : Addr} {fd fdS : FuncData} (F : Fun K "_law_pick" "_law_pick" sPick f fd) (B : Bl mg) (S : Df K mg "_law_sip" sSip ["_law_tin_here", "_law_top"] fS fdS) : FnOk P w K mg base CX0 2 f fd ["_law_tin_here", "_law_menu"] spPick := by
  have GS : FnOk P w K mg base CX0 1 fS fdS ["_law_tin_here", "_law_top"] spSip := ok_sip S.F B
  refine F.ok scPick (fun vs H Q E h => ?_) (fun cdv A outer s H vs Q E hr h => ?_)
  · obtain ⟨t, m, xs, rfl, _⟩ := h
    rfl
  · obtain ⟨t, m, xs, rfl, T, hm, ne, x0, x1, q⟩ := h
    refine ⟨_, pss_one (ps_ret (pe_ix ix_list (pv 1) (pe_call GS hr (by rfl) S.g S.F.kp S.b .nil pass0 (pa_cons (pv 0) (pa_cons (pe_callB call_len_seq (by rfl) B.len PySem.boot_len (pa_cons (pv 1) pa_nil)) pa_nil))) (fun _ _ => rfl))), ?_⟩
    refine ⟨_, rfl, _, rfl, _, rfl, m, xs, rfl, .inl (SqL.of hm), t, _, rfl, T, by omega, ?_, fun d H' d0 d1 sp => ?_⟩
    · rw [Int.natAbs_natCast]; exact Nat.lt_of_le_of_lt x1 (by decide)
    have hd : d.toNat < xs.length := by omega
    refine ⟨m, xs, d, xs[d.toNat], rfl, rfl, SqL.of (sp.2 m _ hm ne), at_of (j := d.toNat) (by omega) (List.getElem?_eq_getElem hd), q _ _ (List.getElem_mem hd) sp⟩
theorem ok_far {f fS fP : Addr} {fd fdS fdP : FuncData} (F : Fun K "_law_far" "_law_far" sFar f fd) (B : Bl mg) (S : Df K mg "_law_sip" sSip ["_law_tin_here", "_law_top"] fS fdS) (Pk : Df K mg "_law_pick" sPick ["_law_tin_here", "_law_menu"] fP fdP) : FnOk P w K mg base CX0 3 f fd ["_law_tin_here", "_law_most"] spFar := by
  have GS : FnOk P w K mg base CX0 1 fS fdS ["_law_tin_here", "_law_top"] spSip := ok_sip S.F B
  have GP : FnOk P w K mg base CX0 2 fP fdP ["_law_tin_here", "_law_menu"] spPick := ok_pick Pk.F B S
  refine F.ok scFar (fun vs H Q E h => ?_) (fun cdv A outer s H vs Q E hr h => ?_)
  · obtain ⟨t, n, rfl, _⟩ := h
    rfl
  · obtain ⟨t, n, rfl, T, n1, n2, q⟩ := h
    have hr1 : Room 1 _ := hr.mono (by decide)
    refine ⟨_, pss_cons (ps_if (pt_cmpR op_le (pv 1) (pe_op op_pow pe_int pe_int) (nomark _)) (pss_one (ps_ret (pe_op op_add pe_int (pe_call GS hr1 (by rfl) S.g S.F.kp S.b .nil pass0 (pa_cons (pv 0) (pa_cons (pv 1) pa_nil)))))) pss_nil)
      (pss_cons (ps_set (i := 2) scFar.nd rfl (.inl rfl) (pe_call GP hr (by rfl) Pk.g Pk.F.kp Pk.b .nil pass0 (pa_cons (pv 0) (pa_cons (pe_lst (pa_cons pe_int (pa_cons pe_int (pa_cons (pe_op op_pow pe_int pe_int) (pa_cons (pe_op op_pow pe_int pe_int) (pa_cons (pe_op op_pow pe_int pe_int) (pa_cons (pe_op op_pow pe_int pe_int) (pa_cons (pe_op op_pow pe_int pe_int) (pa_cons (pe_op op_pow pe_int pe_int) pa_nil))))))))) pa_nil))))
      (pss_one (ps_ret (pe_op op_add pe_int (pe_op op_modN (pe_callTy call_int1 (by rfl) B.int (by decide +kernel) (pa_cons (pe_op op_add (pe_op op_mul (pe_call GS hr1 (by rfl) S.g S.F.kp S.b .nil pass0 (pa_cons (pv 0) (pa_cons (pe_op op_pow pe_int pe_int) pa_nil))) (pv 2)) (pe_call GS hr1 (by rfl) S.g S.F.kp S.b .nil pass0 (pa_cons (pv 0) (pa_cons pe_int pa_nil)))) pa_nil)) (pv 1)))))), ?_⟩
    refine ⟨_, rfl, _, _, rfl, rfl, ⟨by decide, by decide, by decide⟩, _, _, rfl, rfl, _, rfl, ?_⟩
    refine ite2 (fun hc => ?_) (fun hc => ?_)
    · refine ⟨_, rfl, _, rfl, t, n, rfl, T, by omega, n2, fun d H' d0 d1 sp => ?_⟩
      exact ⟨_, _, rfl, rfl, q _ _ (by omega) (by omega) sp⟩
    · refine ⟨_, rfl, _, _, rfl, rfl, ⟨by decide, by decide, by decide⟩, _, _, rfl, rfl, ⟨by decide, by decide, by decide⟩, _, _, rfl, rfl, ⟨by decide, by decide, by decide⟩, _, _, rfl, rfl, ⟨by decide, by decide, by decide⟩, _, _, rfl, rfl, ⟨by decide, by decide, by decide⟩, _, _, rfl, rfl, ⟨by decide, by decide, by decide⟩, (by show 8 ≤ sizeLine; decide), fun m hm => ?_⟩
      have T1 : Tin (upd H m (.lst ([1, 7, 10 ^ 3, 10 ^ 6, 10 ^ 9, 10 ^ 14, 10 ^ 21, 10 ^ 24].map V.int))) t := (Sipped.ofSame T (same_put hm)).1
      refine ⟨t, m, ([1, 7, 10 ^ 3, 10 ^ 6, 10 ^ 9, 10 ^ 14, 10 ^ 21, 10 ^ 24] : List Int).map V.int, rfl, T1, upd_same, T.not hm, (by decide), (by decide), fun x H1 hx s1 => ?_⟩
      obtain ⟨z, rfl⟩ := int_at hx
      have s01 : Sipped H H1 t := (Sipped.ofSame T (same_put hm)).trans s1
      refine ⟨_, rfl, _, _, rfl, rfl, ⟨by decide, by decide, by decide⟩, t, _, rfl, s1.1, (by decide), (by decide), fun d H2 d0 d1 s2 => ?_⟩
      refine ⟨_, rfl, _, _, rfl, rfl, .inl ⟨by omega, ?_⟩, _, rfl, t, _, rfl, s2.1, (by decide), (by decide), fun e H3 e0 e1 s3 => ?_⟩
      · have : (d : Int) < 10 ^ 6 := d1
        omega
      refine ⟨_, _, rfl, rfl, .inl ⟨_, rfl, _, rfl, _, _, rfl, rfl, (show n ≠ 0 by omega), _, _, rfl, rfl, q _ _ ?_ ?_ ((s01.trans s2).trans s3)⟩⟩
      · have := fmod_ge (a := d * z + e) (show 0 < n by omega); omega
      · have := fmod_lt (a := d * z + e) (show 0 < n by omega); omega
theorem ok_gcd {f : Addr} {fd : FuncData} (F : Fun K "_law_gcd" "_law_gcd" sGcd f fd) (B : Bl mg) : FnOk P w K mg base CX0 1 f fd ["_law_one", "_law_two"] spGcd := by
  refine F.ok scGcd (fun vs H Q E h => ?_) (fun cdv A outer s H vs Q E hr h => ?_)
  · obtain ⟨a, b, rfl, _⟩ := h
    rfl
  · obtain ⟨a, b, rfl, a0, b0, q⟩ := h
    refine ⟨_, pss_cons (ps_while PassesOwn.never (pt_cmpR op_gt (pv 1) pe_int (nomark _)) (pss_one (ps_par (i := 0) (j := 1) (by rfl) scGcd.nd rfl rfl (by decide) rfl rfl
        (pa_cons (pv 1) (pa_cons (pe_op op_modN (pe_callTy call_int1 (by rfl) B.int (by decide +kernel) (pa_cons (pv 0) pa_nil)) (pv 1)) pa_nil)) (by rfl))))
      (pss_one (ps_ret (pv 0))), ?_⟩
    refine while_by (fun σ H' => ∃ x y : Int, σ = [some (.int x), some (.int y)] ∧ 0 ≤ x ∧ 0 ≤ y ∧ Nat.gcd x.natAbs y.natAbs = Nat.gcd a.natAbs b.natAbs ∧ H' = H)
      (fun σ _ => match σ with | [_, some (.int y)] => y.natAbs | _ => 0) ⟨a, b, rfl, a0, b0, rfl, rfl⟩ ?_ ?_
    · rintro σ H' ⟨x, y, rfl, x0, y0, hg, rfl⟩
      refine ⟨_, rfl, _, _, rfl, rfl, _, rfl, ?_⟩
      refine ite2 (fun hc => ?_) (fun hc => ?_)
      · have hy : 0 < y := of_decide_eq_true hc
        refine ⟨_, rfl, _, rfl, .inl ⟨_, rfl, _, rfl, _, _, rfl, rfl, (show y ≠ 0 by omega), _, _, rfl, ⟨y, x.fmod y, rfl, y0, fmod_ge hy, ?_, rfl⟩, ?_⟩⟩
        · rw [← hg, Int.fmod_eq_emod_of_nonneg _ y0]
          obtain ⟨m, rfl⟩ := Int.eq_ofNat_of_zero_le x0
          obtain ⟨n, rfl⟩ := Int.eq_ofNat_of_zero_le y0
          rw [← Int.natCast_emod, Int.natAbs_natCast, Int.natAbs_natCast, Int.natAbs_natCast]
          rw [Nat.gcd_comm n, ← Nat.gcd_rec, Nat.gcd_comm]
        · show (x.fmod y).natAbs < y.natAbs
          have h1 := fmod_ge (a := x) hy
          have h2 := fmod_lt (a := x) hy
          omega
      · have hy : y = 0 := by have : ¬ (0 : Int) < y := fun z => hc (decide_eq_true z); omega
        subst hy
        refine ⟨_, rfl, ?_⟩
        rw [← hg] at q
        simpa [Int.natAbs_of_nonneg x0] using q
    · rintro σ H' Q1 Q2 mo ⟨v, e1, i, j, e2, e3, k, e4, h⟩
      exact ⟨v, e1, i, j, e2, e3, k, e4, mo _ _ h⟩
theorem ok_low {f fG : Addr} {fd fdG : FuncData} (F : Fun K "_law_low" "_law_low" sLow f fd) (B : Bl mg) (G : Df K mg "_law_gcd" sGcd ["_law_one", "_law_two"] fG fdG) : FnOk P w K mg base CX0 2 f fd ["_law_top", "_law_bottom"] spLow := by
  have GG : FnOk P w K mg base CX0 1 fG fdG ["_law_one", "_law_two"] spGcd := ok_gcd G.F B
  refine F.ok scLow (fun vs H Q E h => ?_) (fun cdv A outer s H vs Q E hr h => ?_)
  · obtain ⟨a, b, rfl, _⟩ := h
    rfl
  · obtain ⟨a, b, rfl, a0, b0, b1, q⟩ := h
    refine ⟨_, pss_cons (ps_set (i := 2) scLow.nd rfl (.inl rfl) (pe_call GG hr (by rfl) G.g G.F.kp G.b .nil pass0 (pa_cons (pv 0) (pa_cons (pv 1) pa_nil))))
      (pss_one (ps_ret (pe_tup (pa_cons (pe_op op_fdivW (pv 0) (pv 2)) (pa_cons (pe_op op_fdivW (pv 1) (pv 2)) pa_nil))))), ?_⟩
    have g0 : (0 : Int) < ((Nat.gcd a.natAbs b.natAbs : Nat) : Int) := by
      have := Nat.gcd_pos_of_pos_right a.natAbs (show 0 < b.natAbs by omega); omega
    have g1 : (((Nat.gcd a.natAbs b.natAbs : Nat) : Int)).natAbs < 2 ^ 100 := by
      rw [Int.natAbs_natCast]
      exact Nat.lt_of_le_of_lt (Nat.le_of_dvd (by omega) (Nat.gcd_dvd_right _ _)) b1
    refine ⟨_, rfl, _, rfl, a, b, rfl, a0, by omega, _, rfl, _, rfl, _, _, rfl, rfl, wide_div g0 g1 (by decide) (by decide), _, rfl, _, rfl, _, _, rfl, rfl, wide_div g0 g1 (by decide) (by decide), (by show 2 ≤ sizeLine; decide), fun p hp => q p hp⟩
theorem ok_step {f fA fL : Addr} {fd fdA fdL : FuncData} {fS fP fG : Addr} {fdS fdP fdG : FuncData} (F : Fun K "_law_step" "_law_step" sStep f fd) (B : Bl mg) (S : Df K mg "_law_sip" sSip ["_law_tin_here", "_law_top"] fS fdS) (Pk : Df K mg "_law_pick" sPick ["_law_tin_here", "_law_menu"] fP fdP)
    (G : Df K mg "_law_gcd" sGcd ["_law_one", "_law_two"] fG fdG) (Fa : Df K mg "_law_far" sFar ["_law_tin_here", "_law_most"] fA fdA) (Lo : Df K mg "_law_low" sLow ["_law_top", "_law_bottom"] fL fdL) : FnOk P w K mg base CX0 4 f fd ["_law_tin_here", "_law_most"] spStep := by
  have GA : FnOk P w K mg base CX0 3 fA fdA ["_law_tin_here", "_law_most"] spFar := ok_far Fa.F B S Pk
  have GL : FnOk P w K mg base CX0 2 fL fdL ["_law_top", "_law_bottom"] spLow := ok_low Lo.F B G
  refine F.ok scStep (fun vs H Q E h => ?_) (fun cdv A outer s H vs Q E hr h => ?_)
  · obtain ⟨t, n, rfl, _⟩ := h
    rfl
  · obtain ⟨t, n, rfl, T, n1, n2, q⟩ := h
    have hr2 : Room 2 _ := hr.mono (by decide)
    refine ⟨_, pss_cons (ps_set (i := 2) scStep.nd rfl (.inl rfl) (pe_call GA hr (by rfl) Fa.g Fa.F.kp Fa.b .nil pass0 (pa_cons (pv 0) (pa_cons (pv 1) pa_nil))))
      (pss_one (ps_ret (pe_call GL hr2 (by rfl) Lo.g Lo.F.kp Lo.b .nil pass0 (pa_cons (pe_op op_modN (pe_callTy call_int1 (by rfl) B.int (by decide +kernel) (pa_cons (pe_call GA hr (by rfl) Fa.g Fa.F.kp Fa.b .nil pass0 (pa_cons (pv 0) (pa_cons (pv 1) pa_nil))) pa_nil)) (pv 2)) (pa_cons (pv 2) pa_nil))))), ?_⟩
    refine ⟨_, rfl, _, rfl, t, n, rfl, T, n1, n2, fun b H1 b0 b1 s1 => ?_⟩
    refine ⟨_, rfl, _, rfl, t, n, rfl, s1.1, n1, n2, fun a H2 a0 a1 s2 => .inl ⟨_, rfl, _, rfl, _, _, rfl, rfl, (show b ≠ 0 by omega), _, rfl, _, b, rfl, fmod_ge (by omega), by omega, ?_, fun p hp => ?_⟩⟩
    · exact Nat.lt_of_le_of_lt (by omega) n2
    obtain ⟨st, le⟩ := low_step (a := a.fmod b) (b := b) (fmod_ge (by omega)) (fmod_lt (by omega))
    have s3 : Sipped H2 (upd H2 p (.tup [.int ((a.fmod b) / ((Nat.gcd (a.fmod b).natAbs b.natAbs : Nat) : Int)), .int (b / ((Nat.gcd (a.fmod b).natAbs b.natAbs : Nat) : Int))])) t := Sipped.ofSame s2.1 (same_put hp)
    exact q _ _ p _ st (by omega) ((s1.trans s2).trans s3) ((s1.trans s2).free T hp) upd_same
end
end My
set_option Elab.async false
set_option linter.all false
set_option maxRecDepth 100000
set_option maxHeartbeats 4000000
namespace My
open PySem PySem.Spec PyProof.Rows L2 Gn
abbrev sIsInt : Stmt := top 20
abbrev sIsFr : Stmt := top 21
abbrev sIsStep : Stmt := top 22
abbrev sChStep : Stmt := top 26
abbrev sIsNum : Stmt := top 25
abbrev sChNum : Stmt := top 27
theorem scIsInt : FnScope ["given"] ["given"] (defScope sIsInt) := ⟨rfl, rfl, rfl, by decide +kernel, rfl, by decide +kernel, by decide +kernel⟩
theorem scIsFr : FnScope ["given", "top", "bottom"] ["given"] (defScope sIsFr) := ⟨rfl, rfl, rfl, by decide +kernel, rfl, by decide +kernel, by decide +kernel⟩
theorem scIsStep : FnScope ["given"] ["given"] (defScope sIsStep) := ⟨rfl, rfl, rfl, by decide +kernel, rfl, by decide +kernel, by decide +kernel⟩
theorem scChStep : FnScope ["given"] ["given"] (defScope sChStep) := ⟨rfl, rfl, rfl, by decide +kernel, rfl, by decide +kernel, by decide +kernel⟩
theorem scIsNum : FnScope ["given", "least", "most"] ["given", "least", "most"] (defScope sIsNum) := ⟨rfl, rfl, rfl, by decide +kernel, rfl, by decide +kernel, by decide +kernel⟩
theorem scChNum : FnScope ["given", "least", "most"] ["given", "least", "most"] (defScope sChNum) := ⟨rfl, rfl, rfl, by decide +kernel, rfl, by decide +kernel, by decide +kernel⟩
/-- the step x / y stands at t -/
def StepAt (K : PySem.W.Frag) (H : Hp) (t : Addr) (x y : Int) : Prop := SqT K H t [.int x, .int y] ∧ IsStep x y
def spIsInt : Sp := fun vs H Q _ => ∃ i : Int, vs = [.int i] ∧ Q (.bl true) H
def spIsSt (K : PySem.W.Frag) (r : V) : Sp := fun vs H Q _ => ∃ (t : Addr) (x y : Int), vs = [.ref t] ∧ StepAt K H t x y ∧ Q r H
def spChNum : Sp := fun vs H Q _ => ∃ (i a b : Int), vs = [.int i, .int a, .int b] ∧ a ≤ i ∧ i ≤ b ∧ Q .non H
def spIsNum : Sp := fun vs H Q _ => ∃ (i a b : Int), vs = [.int i, .int a, .int b] ∧ a ≤ i ∧ i ≤ b ∧ Q (.bl true) H
structure Bc (mg : Str → Option Value) : Prop where
  isi : mg "isinstance" = none
  int : mg "int" = none
  bool : mg "bool" = none
  tuple : mg "tuple" = none
  len : mg "len" = none
  gcd : mg "gcd" = some (.builtin "math.gcd")
section
variable {P : Program} {w : World} {K : PySem.W.Frag} {mg : Str → Option Value} {base : Heap}
theorem ok_isInt {f : Addr} {fd : FuncData} (F : Fun K "is_integer" "is_integer" sIsInt f fd) (B : Bc mg) : FnOk P w K mg base CX0 1 f fd ["given"] spIsInt := by
  refine F.ok scIsInt (fun vs H Q E h => ?_) (fun cdv A outer s H vs Q E hr h => ?_)
  · obtain ⟨i, rfl, _⟩ := h
    rfl
  · obtain ⟨i, rfl, q⟩ := h
    refine ⟨_, pss_one (ps_ret (pe_and (pe_callB call_isi (by rfl) B.isi (by decide +kernel) (pa_cons (pv 0) (pa_cons (pe_bltn (v := .ty "int") (by rfl) B.int (by decide +kernel) rfl) pa_nil)))
      (pe_one (pe_not (pe_callB call_isi (by rfl) B.isi (by decide +kernel) (pa_cons (pv 0) (pa_cons (pe_bltn (v := .ty "bool") (by rfl) B.bool (by decide +kernel) rfl) pa_nil))))))), ?_⟩
    refine ⟨_, rfl, .int i, .ty "int", _, _, true, rfl, .ty "int", .base (.int i), kit_ty (by decide +kernel), true, rfl, iteT ?_⟩
    exact ⟨_, rfl, .int i, .ty "bool", _, _, false, rfl, .ty "bool", .base (.int i), kit_ty (by decide +kernel), false, rfl, q⟩
theorem ok_isFr {f fI : Addr} {fd fdI : FuncData} (F : Fun K "is_fraction" "is_fraction" sIsFr f fd) (B : Bc mg) (D : Df K mg "is_integer" sIsInt ["given"] fI fdI) : FnOk P w K mg base CX0 2 f fd ["given"] (spIsSt K (.bl true)) := by
  have GI : FnOk P w K mg base CX0 1 fI fdI ["given"] spIsInt := ok_isInt D.F B
  refine F.ok scIsFr (fun vs H Q E h => ?_) (fun cdv A outer s H vs Q E hr h => ?_)
  · obtain ⟨t, x, y, rfl, _⟩ := h
    rfl
  · obtain ⟨t, x, y, rfl, ⟨hT, st⟩, q⟩ := h
    refine ⟨_, pss_cons (ps_if (PW.pt (pw_or (pt_not (pt_val (pe_callB call_isi (by rfl) B.isi (by decide +kernel) (pa_cons (pv 0) (pa_cons (pe_bltn (v := .ty "tuple") (by rfl) B.tuple (by decide +kernel) rfl) pa_nil)))))
        (pw_or1 (pt_cmpR op_ne (pe_callB call_len_seq (by rfl) B.len PySem.boot_len (pa_cons (pv 0) pa_nil)) pe_int (nomark _))))) (pss_one (ps_ret pe_bl)) pss_nil)
      (pss_cons (ps_asg (pv 0) (pg_tup (by rfl) (pgs_cons (pg_name (i := 1) scIsFr.nd rfl (.inl rfl)) (pgs_cons (pg_name (i := 2) scIsFr.nd rfl (.inl rfl)) pgs_nil))))
      (pss_cons (ps_if (PW.pt (pw_or (pt_not (pt_val (pe_call GI hr (by rfl) D.g D.F.kp D.b .nil pass0 (pa_cons (pv 1) pa_nil)))) (pw_or1 (pt_not (pt_val (pe_call GI hr (by rfl) D.g D.F.kp D.b .nil pass0 (pa_cons (pv 2) pa_nil))))))) (pss_one (ps_ret pe_bl)) pss_nil)
      (pss_one (ps_ret (pe_and (pe_cmpR op_ge (pv 2) pe_int (nomark _)) (pe_one (pe_cmpR op_eq (pe_callBfun cr_gcd (by rfl) B.gcd (pa_cons (pv 1) (pa_cons (pv 2) pa_nil))) pe_int (nomark _)))))))), ?_⟩
    refine ⟨_, rfl, .ref t, .ty "tuple", _, _, true, rfl, .ty "tuple", tyx_sqt hT, kit_ty (by decide +kernel), true, rfl, iteF ?_⟩
    refine ⟨_, rfl, t, _, rfl, .inr (hT), rfl, _, rfl, iteF ?_⟩
    refine ⟨_, rfl, t, _, rfl, hT, rfl, _, _, rfl, _, _, rfl, rfl, ?_⟩
    refine ⟨_, rfl, x, rfl, true, rfl, iteF ⟨_, rfl, y, rfl, true, rfl, iteF ?_⟩⟩
    have y1 : (1 : Int) ≤ y := by have := st.x0; have := st.xy; omega
    refine ⟨_, rfl, _, _, rfl, rfl, _, rfl, ?_⟩
    rw [decide_eq_true y1]
    refine iteT ⟨_, rfl, _, rfl, x, y, rfl, ?_⟩
    rw [st.co]
    exact ⟨rfl, q⟩
theorem ok_isStep {f fI fR : Addr} {fd fdI fdR : FuncData} (F : Fun K "is_step" "is_step" sIsStep f fd) (B : Bc mg) (D : Df K mg "is_integer" sIsInt ["given"] fI fdI) (R : Df K mg "is_fraction" sIsFr ["given"] fR fdR) : FnOk P w K mg base CX0 3 f fd ["given"] (spIsSt K (.bl true)) := by
  have GR : FnOk P w K mg base CX0 2 fR fdR ["given"] (spIsSt K (.bl true)) := ok_isFr R.F B D
  refine F.ok scIsStep (fun vs H Q E h => ?_) (fun cdv A outer s H vs Q E hr h => ?_)
  · obtain ⟨t, x, y, rfl, _⟩ := h
    rfl
  · obtain ⟨t, x, y, rfl, ⟨hT, st⟩, q⟩ := h
    refine ⟨_, pss_one (ps_ret (pe_and (pe_call GR hr (by rfl) R.g R.F.kp R.b .nil pass0 (pa_cons (pv 0) pa_nil)) (pe_one (pe_chain op_le op_lt pe_int (pe_ix ix_tup (pv 0) pe_int (fun _ _ => rfl)) (pe_ix ix_tup (pv 0) pe_int (fun _ _ => rfl)))))), ?_⟩
    refine ⟨_, rfl, t, x, y, rfl, ⟨hT, st⟩, true, rfl, iteT ?_⟩
    refine ⟨_, rfl, t, _, 0, .int x, rfl, rfl, hT, at_of (j := 0) rfl rfl, _, _, rfl, rfl, _, rfl, ?_⟩
    rw [decide_eq_true st.x0]
    refine iteT ⟨_, rfl, t, _, 1, .int y, rfl, rfl, hT, at_of (j := 1) rfl rfl, _, _, rfl, rfl, ?_⟩
    show Q (.bl (decide (x < y))) H
    rw [decide_eq_true st.xy]
    exact q
theorem ok_chStep {f fI fR fS : Addr} {fd fdI fdR fdS : FuncData} (F : Fun K "check_step" "check_step" sChStep f fd) (B : Bc mg) (D : Df K mg "is_integer" sIsInt ["given"] fI fdI) (R : Df K mg "is_fraction" sIsFr ["given"] fR fdR) (S : Df K mg "is_step" sIsStep ["given"] fS fdS) : FnOk P w K mg base CX0 4 f fd ["given"] (spIsSt K .non) := by
  have GS : FnOk P w K mg base CX0 3 fS fdS ["given"] (spIsSt K (.bl true)) := ok_isStep S.F B D R
  refine F.ok scChStep (fun vs H Q E h => ?_) (fun cdv A outer s H vs Q E hr h => ?_)
  · obtain ⟨t, x, y, rfl, _⟩ := h
    rfl
  · obtain ⟨t, x, y, rfl, st, q⟩ := h
    refine ⟨_, pss_one (ps_if (pt_not (pt_val (pe_call GS hr (by rfl) S.g S.F.kp S.b .nil pass0 (pa_cons (pv 0) pa_nil)))) (pss_one (ps_never)) pss_nil), ?_⟩
    exact ⟨_, rfl, t, x, y, rfl, st, true, rfl, iteF q⟩
theorem ok_isNum {f fI : Addr} {fd fdI : FuncData} (F : Fun K "is_number" "is_number" sIsNum f fd) (B : Bc mg) (D : Df K mg "is_integer" sIsInt ["given"] fI fdI) : FnOk P w K mg base CX0 2 f fd ["given", "least", "most"] spIsNum := by
  have GI : FnOk P w K mg base CX0 1 fI fdI ["given"] spIsInt := ok_isInt D.F B
  refine F.ok scIsNum (fun vs H Q E h => ?_) (fun cdv A outer s H vs Q E hr h => ?_)
  · obtain ⟨i, a, b, rfl, _⟩ := h
    rfl
  · obtain ⟨i, a, b, rfl, h1, h2, q⟩ := h
    refine ⟨_, pss_one (ps_ret (pe_and (pe_call GI hr (by rfl) D.g D.F.kp D.b .nil pass0 (pa_cons (pv 0) pa_nil)) (pe_one (pe_chain op_le op_le (pv 1) (pv 0) (pv 2))))), ?_⟩
    refine ⟨_, rfl, i, rfl, true, rfl, iteT ?_⟩
    refine ⟨_, rfl, _, rfl, _, _, rfl, rfl, _, rfl, ?_⟩
    rw [decide_eq_true h1]
    refine iteT ⟨_, rfl, _, _, rfl, rfl, ?_⟩
    show Q (.bl (decide (i ≤ b))) H
    rw [decide_eq_true h2]
    exact q
theorem ok_chNum {f fN fI : Addr} {fd fdN fdI : FuncData} (F : Fun K "check_number" "check_number" sChNum f fd) (B : Bc mg) (D : Df K mg "is_integer" sIsInt ["given"] fI fdI) (N : Df K mg "is_number" sIsNum ["given", "least", "most"] fN fdN) : FnOk P w K mg base CX0 3 f fd ["given", "least", "most"] spChNum := by
  have GN : FnOk P w K mg base CX0 2 fN fdN ["given", "least", "most"] spIsNum := ok_isNum N.F B D
  refine F.ok scChNum (fun vs H Q E h => ?_) (fun cdv A outer s H vs Q E hr h => ?_)
  · obtain ⟨i, a, b, rfl, _⟩ := h
    rfl
  · obtain ⟨i, a, b, rfl, h1, h2, q⟩ := h
    refine ⟨_, pss_one (ps_if (pt_not (pt_val (pe_call GN hr (by rfl) N.g N.F.kp N.b .nil pass0 (pa_cons (pv 0) (pa_cons (pv 1) (pa_cons (pv 2) pa_nil)))))) (pss_one (ps_never)) pss_nil), ?_⟩
    exact ⟨_, rfl, _, rfl, _, rfl, i, a, b, rfl, h1, h2, true, rfl, iteF q⟩
end
end My
set_option Elab.async false
set_option maxRecDepth 100000
/-! orders as lists: places sorted, marks at one place together. Plain lists of ints -/
namespace Mt
def insU (v : Int) : List Int → List Int
  | [] => [v]
  | a :: l => if v < a then v :: a :: l else if v = a then a :: l else a :: insU v l
/-- sorted, each once -/
def sortU (l : List Int) : List Int := l.foldr insU []
theorem insU_mem {v u : Int} : ∀ {l : List Int}, u ∈ insU v l ↔ u = v ∨ u ∈ l
  | [] => by simp [insU]
  | a :: l => by
    unfold insU
    split
    · simp
    · split
      · rename_i h1 h2
        subst h2
        simp
      · simp only [List.mem_cons, insU_mem (l := l)]
        constructor
        · rintro (h | h | h)
          · exact .inr (.inl h)
          · exact .inl h
          · exact .inr (.inr h)
        · rintro (h | h | h)
          · exact .inr (.inl h)
          · exact .inl h
          · exact .inr (.inr h)
theorem insU_pw {v : Int} : ∀ {l : List Int}, l.Pairwise (· < ·) → (insU v l).Pairwise (· < ·)
  | [], _ => by simp [insU]
  | a :: l, h => by
    obtain ⟨h1, h2⟩ := List.pairwise_cons.mp h
    unfold insU
    split
    · rename_i c
      refine List.pairwise_cons.mpr ⟨fun b hb => ?_, h⟩
      rcases List.mem_cons.mp hb with rfl | hb
      · exact c
      · exact Int.lt_trans c (h1 b hb)
    · split
      · exact h
      · rename_i c d
        refine List.pairwise_cons.mpr ⟨fun b hb => ?_, insU_pw h2⟩
        rcases insU_mem.mp hb with rfl | hb
        · omega
        · exact h1 b hb
theorem sortU_mem {v : Int} : ∀ {l : List Int}, v ∈ sortU l ↔ v ∈ l
  | [] => by simp [sortU]
  | a :: l => by
    show v ∈ insU a (sortU l) ↔ _
    rw [insU_mem, sortU_mem, List.mem_cons]
theorem sortU_pw : ∀ l : List Int, (sortU l).Pairwise (· < ·)
  | [] => List.Pairwise.nil
  | a :: l => insU_pw (sortU_pw l)
/-- a strictly rising list is told by its members -/
theorem strict_one : ∀ {l m : List Int}, l.Pairwise (· < ·) → m.Pairwise (· < ·) → (∀ v, v ∈ l ↔ v ∈ m) → l = m
  | [], [], _, _, _ => rfl
  | [], b :: m, _, _, h => by have := (h b).mpr List.mem_cons_self; simp at this
  | a :: l, [], _, _, h => by have := (h a).mp List.mem_cons_self; simp at this
  | a :: l, b :: m, h1, h2, h => by
    obtain ⟨p1, q1⟩ := List.pairwise_cons.mp h1
    obtain ⟨p2, q2⟩ := List.pairwise_cons.mp h2
    have e : a = b := by
      rcases List.mem_cons.mp ((h a).mp List.mem_cons_self) with x | x
      · exact x
      · rcases List.mem_cons.mp ((h b).mpr List.mem_cons_self) with y | y
        · exact y.symm
        · have := p2 a x; have := p1 b y; omega
    subst e
    have : l = m := strict_one q1 q2 fun v => by
      constructor
      · intro hv
        rcases List.mem_cons.mp ((h v).mp (List.mem_cons_of_mem _ hv)) with x | x
        · subst x; have := p1 v hv; omega
        · exact x
      · intro hv
        rcases List.mem_cons.mp ((h v).mpr (List.mem_cons_of_mem _ hv)) with x | x
        · subst x; have := p2 v hv; omega
        · exact x
    rw [this]
theorem le_nodup_lt {l : List Int} (h : l.Pairwise (· ≤ ·)) (n : l.Nodup) : l.Pairwise (· < ·) := by
  induction l with
  | nil => exact .nil
  | cons a l ih =>
    obtain ⟨p, q⟩ := List.pairwise_cons.mp h
    obtain ⟨r, s⟩ := List.nodup_cons.mp n
    refine List.pairwise_cons.mpr ⟨fun b hb => ?_, ih q s⟩
    have h1 := p b hb
    have h2 : a ≠ b := fun e => r (by rw [e]; exact hb)
    omega
/-- a rising list is told by what it is a permutation of -/
theorem le_one : ∀ {l m : List Int}, l.Pairwise (· ≤ ·) → m.Pairwise (· ≤ ·) → l.Perm m → l = m
  | [], m, _, _, h => by rw [List.nil_perm] at h; exact h.symm
  | a :: l, [], _, _, h => by have := h.length_eq; simp at this
  | a :: l, b :: m, h1, h2, h => by
    obtain ⟨p1, q1⟩ := List.pairwise_cons.mp h1
    obtain ⟨p2, q2⟩ := List.pairwise_cons.mp h2
    have e : a = b := by
      rcases List.mem_cons.mp (h.mem_iff.mp (List.mem_cons_self (a := a) (l := l))) with x | x
      · exact x
      · rcases List.mem_cons.mp (h.mem_iff.mpr (List.mem_cons_self (a := b) (l := m))) with y | y
        · exact y.symm
        · have := p2 a x; have := p1 b y; omega
    subst e
    rw [le_one q1 q2 ((List.perm_cons a).mp h)]
def iota (n : Nat) : List Int := (List.range n).map Int.ofNat
theorem iota_len (n : Nat) : (iota n).length = n := by simp [iota]
theorem iota_succ (n : Nat) : iota (n + 1) = iota n ++ [(n : Int)] := by simp [iota, List.range_succ]
theorem iota_mem {n : Nat} {k : Int} : k ∈ iota n ↔ 0 ≤ k ∧ k < n := by
  unfold iota
  rw [List.mem_map]
  constructor
  · rintro ⟨m, hm, rfl⟩
    have := List.mem_range.mp hm
    exact ⟨Int.natCast_nonneg _, by show (m : Int) < n; omega⟩
  · rintro ⟨h1, h2⟩
    exact ⟨k.toNat, List.mem_range.mpr (by omega), by show ((k.toNat : Nat) : Int) = k; omega⟩
theorem iota_pw (n : Nat) : (iota n).Pairwise (· < ·) := by
  unfold iota
  rw [List.pairwise_map]
  exact List.pairwise_lt_range.imp fun h => by show ((_ : Nat) : Int) < ((_ : Nat) : Int); omega
/-- the marks at the place v -/
def grp (f : Int → Int) (ms : List Int) (v : Int) : List Int := ms.filter fun k => f k == v
/-- the order: places rising, the marks at each -/
def ord (f : Int → Int) (ms : List Int) : List (List Int) := (sortU (ms.map f)).map (grp f ms)
theorem grp_snoc {f : Int → Int} {ms : List Int} {k v : Int} : grp f (ms ++ [k]) v = if f k = v then grp f ms v ++ [k] else grp f ms v := by
  unfold grp
  rw [List.filter_append]
  by_cases h : f k = v
  · rw [if_pos h]; simp [h]
  · rw [if_neg h]; simp [h]
theorem grp_none {f : Int → Int} {ms : List Int} {v : Int} (h : v ∉ ms.map f) : grp f ms v = [] := by
  unfold grp
  rw [List.filter_eq_nil_iff]
  intro k hk e
  exact h (List.mem_map.mpr ⟨k, hk, by simpa using e⟩)
theorem ord_congr {f g : Int → Int} {ms : List Int} (h : ∀ k ∈ ms, f k = g k) : ord f ms = ord g ms := by
  unfold ord
  have e : ms.map f = ms.map g := List.map_congr_left h
  rw [e]
  refine List.map_congr_left fun v _ => ?_
  unfold grp
  exact List.filter_congr fun k hk => by rw [h k hk]
theorem pw_rev_map {y : Int} {W : List Int} (h : W.Pairwise (· < ·)) : ((W.map (y - ·)).reverse).Pairwise (· < ·) := by
  rw [List.pairwise_reverse, List.pairwise_map]
  exact h.imp fun h => by omega
/-- the other way round -/
theorem ord_mirror {f g : Int → Int} {ms : List Int} {y : Int} (hf : ∀ k ∈ ms, 0 ≤ f k ∧ f k < y) (hg : ∀ k ∈ ms, g k = if f k = 0 then 0 else y - f k) {k0 : Int} (h0 : k0 ∈ ms) (z0 : f k0 = 0) :
    ord g ms = (ord f ms).take 1 ++ ((ord f ms).drop 1).reverse := by
  have hm : ∀ v, v ∈ sortU (ms.map f) → 0 ≤ v ∧ v < y := fun v hv => by
    obtain ⟨k, hk, rfl⟩ := List.mem_map.mp (sortU_mem.mp hv)
    exact hf k hk
  have m0 : (0 : Int) ∈ sortU (ms.map f) := sortU_mem.mpr (List.mem_map.mpr ⟨k0, h0, z0⟩)
  obtain ⟨W, hW⟩ : ∃ W, sortU (ms.map f) = 0 :: W := by
    cases e : sortU (ms.map f) with
    | nil => rw [e] at m0; simp at m0
    | cons a W =>
      have p := sortU_pw (ms.map f)
      rw [e] at p m0 hm
      obtain ⟨p1, _⟩ := List.pairwise_cons.mp p
      rcases List.mem_cons.mp m0 with q | q
      · exact ⟨W, by rw [← q]⟩
      · have := p1 0 q
        have := (hm a List.mem_cons_self).1
        omega
  have pw : (0 :: W).Pairwise (· < ·) := by rw [← hW]; exact sortU_pw _
  obtain ⟨pW, qW⟩ := List.pairwise_cons.mp pw
  have mW : ∀ v ∈ W, 0 < v ∧ v < y := fun v hv => ⟨pW v hv, (hm v (by rw [hW]; exact List.mem_cons_of_mem _ hv)).2⟩
  have eV : sortU (ms.map g) = 0 :: (W.map (y - ·)).reverse := by
    refine strict_one (sortU_pw _) (List.pairwise_cons.mpr ⟨fun b hb => ?_, pw_rev_map qW⟩) fun v => ?_
    · obtain ⟨u, hu, rfl⟩ := List.mem_map.mp (List.mem_reverse.mp hb)
      have := (mW u hu).2
      show 0 < y - u
      omega
    · rw [sortU_mem, List.mem_map, List.mem_cons, List.mem_reverse, List.mem_map]
      constructor
      · rintro ⟨k, hk, rfl⟩
        rw [hg k hk]
        by_cases e : f k = 0
        · rw [if_pos e]; exact .inl rfl
        · rw [if_neg e]
          refine .inr ⟨f k, ?_, rfl⟩
          have : f k ∈ sortU (ms.map f) := sortU_mem.mpr (List.mem_map.mpr ⟨k, hk, rfl⟩)
          rw [hW] at this
          exact (List.mem_cons.mp this).resolve_left e
      · rintro (rfl | ⟨u, hu, rfl⟩)
        · exact ⟨k0, h0, by rw [hg k0 h0, if_pos z0]⟩
        · have : u ∈ sortU (ms.map f) := by rw [hW]; exact List.mem_cons_of_mem _ hu
          obtain ⟨k, hk, e⟩ := List.mem_map.mp (sortU_mem.mp this)
          refine ⟨k, hk, ?_⟩
          have := (mW u hu).1
          rw [hg k hk, e, if_neg (by omega)]
  have g0 : grp g ms 0 = grp f ms 0 := List.filter_congr fun k hk => by
    rw [hg k hk]
    have := hf k hk
    by_cases e : f k = 0
    · rw [if_pos e, e]
    · rw [if_neg e]
      rw [beq_eq_false_iff_ne.mpr e, beq_eq_false_iff_ne.mpr (by omega)]
  have gW : ∀ u ∈ W, grp g ms (y - u) = grp f ms u := fun u hu => List.filter_congr fun k hk => by
    rw [hg k hk]
    have h1 := hf k hk
    have h2 := mW u hu
    by_cases e : f k = 0
    · rw [if_pos e, beq_eq_false_iff_ne.mpr (by omega), beq_eq_false_iff_ne.mpr (by omega)]
    · rw [if_neg e]
      by_cases e2 : f k = u
      · rw [e2]; simp
      · rw [beq_eq_false_iff_ne.mpr e2, beq_eq_false_iff_ne.mpr (by omega)]
  unfold ord
  rw [eV, hW, List.map_cons, List.map_cons, g0, List.map_reverse, List.map_map]
  show _ = [grp f ms 0] ++ (List.map (grp f ms) W).reverse
  rw [List.singleton_append]
  congr 2
  exact List.map_congr_left fun u hu => gW u hu
end Mt
namespace Mt
theorem map_inj {α β : Type} {g : α → β} : ∀ {l : List α}, (l.map g).Nodup → ∀ {a b : α}, a ∈ l → b ∈ l → g a = g b → a = b
  | [], _, _, _, h, _, _ => by simp at h
  | c :: l, n, a, b, ha, hb, e => by
    obtain ⟨n1, n2⟩ := List.nodup_cons.mp (show (g c :: l.map g).Nodup from n)
    rcases List.mem_cons.mp ha with x | x
    · rcases List.mem_cons.mp hb with y | y
      · rw [x, y]
      · subst x
        exact absurd (List.mem_map.mpr ⟨b, y, e.symm⟩) n1
    · rcases List.mem_cons.mp hb with y | y
      · subst y
        exact absurd (List.mem_map.mpr ⟨a, x, e⟩) n1
      · exact map_inj n2 x y e
end Mt
namespace Mt
theorem insU_len (v : Int) : ∀ m : List Int, (insU v m).length ≤ m.length + 1
  | [] => Nat.le_refl 1
  | b :: m => by
    unfold insU
    split
    · exact Nat.le_refl _
    · split
      · exact Nat.le_succ _
      · exact Nat.succ_le_succ (insU_len v m)
theorem sortU_len : ∀ l : List Int, (sortU l).length ≤ l.length
  | [] => Nat.le_refl 0
  | a :: l => Nat.le_trans (insU_len a (sortU l)) (Nat.succ_le_succ (sortU_len l))
end Mt
set_option Elab.async false
set_option linter.all false
set_option maxRecDepth 100000
set_option maxHeartbeats 4000000
namespace My
open PySem PySem.Spec PyProof.Rows L2 Gn Mt
abbrev sOrder : Stmt := top 33
theorem scOrder : FnScope ["step", "count", "top", "bottom", "standing", "mark", "at"] ["step", "count"] (defScope sOrder) := ⟨rfl, rfl, rfl, by decide +kernel, rfl, by decide +kernel, by decide +kernel⟩
/-- data lasts while nothing tracked changes -/
theorem sqT_same {H H' : Hp} {a : Addr} {xs : List V} {K : PySem.W.Frag} (e : Same H H') (h : SqT K H a xs) : SqT K H' a xs := by
  rcases h with (h | ⟨o, h⟩) | h
  · exact .inl (.inl (e _ _ h))
  · exact .inl (.inr ⟨o, e _ _ h⟩)
  · exact .inr h
mutual
theorem dp_same {K : PySem.W.Frag} {H H' : Hp} (e : Same H H') : ∀ (d : PyData) (v : V), Dp K H v d → Dp K H' v d
  | .none, _, h => by cases h; exact .non
  | .bool b, _, h => by cases h; exact .bl b
  | .int i, _, h => by cases h; exact .int i
  | .str x, _, h => by cases h; exact .str x
  | .list ds, _, h => by cases h with | lst a b => exact .lst (e.seq a) (dps_same e ds _ b)
  | .tuple ds, _, h => by cases h with | tup a b => exact .tup (sqT_same e a) (dps_same e ds _ b)
  | .dict _, _, h => by cases h
theorem dps_same {K : PySem.W.Frag} {H H' : Hp} (e : Same H H') : ∀ (ds : List PyData) (vs : List V), DpAll K H vs ds → DpAll K H' vs ds
  | [], _, h => by cases h; exact .nil
  | d :: ds, _, h => by cases h with | cons a b => exact .cons (dp_same e d _ a) (dps_same e ds _ b)
end
theorem dp_ints {K : PySem.W.Frag} {H : Hp} : ∀ ns : List Int, DpAll K H (ns.map V.int) (ns.map PyData.int)
  | [] => .nil
  | n :: ns => .cons (.int n) (dp_ints ns)
/-- tuples of ints stand at these addresses, as these lists tell -/
def Tups (H : Hp) : List Addr → List (List Int) → Prop
  | [], [] => True
  | r :: rs, g :: gs => H r = some (.tup (g.map V.int)) ∧ Tups H rs gs
  | _, _ => False
theorem Tups.mono {H H' : Hp} : ∀ {rs : List Addr} {gs : List (List Int)}, Tups H rs gs → (∀ r g, H r = some (.tup g) → H' r = some (.tup g)) → Tups H' rs gs
  | [], [], _, _ => trivial
  | _ :: _, _ :: _, h, k => ⟨k _ _ h.1, h.2.mono k⟩
  | [], _ :: _, h, _ => h.elim
  | _ :: _, [], h, _ => h.elim
theorem Tups.snoc {H : Hp} {r : Addr} {g : List Int} (hr : H r = some (.tup (g.map V.int))) : ∀ {rs : List Addr} {gs : List (List Int)}, Tups H rs gs → Tups H (rs ++ [r]) (gs ++ [g])
  | [], [], _ => ⟨hr, trivial⟩
  | _ :: _, _ :: _, h => ⟨h.1, Tups.snoc hr h.2⟩
  | [], _ :: _, h => h.elim
  | _ :: _, [], h => h.elim
theorem Tups.len {H : Hp} : ∀ {rs : List Addr} {gs : List (List Int)}, Tups H rs gs → rs.length = gs.length
  | [], [], _ => rfl
  | _ :: _, _ :: _, h => congrArg Nat.succ h.2.len
  | [], _ :: _, h => h.elim
  | _ :: _, [], h => h.elim
theorem Tups.dps {K : PySem.W.Frag} {H : Hp} : ∀ {rs : List Addr} {gs : List (List Int)}, Tups H rs gs → DpAll K H (rs.map V.ref) (gs.map fun g => PyData.tuple (g.map PyData.int))
  | [], [], _ => .nil
  | _ :: _, _ :: _, h => .cons (.tup (SqT.of h.1) (dp_ints _)) h.2.dps
  | [], _ :: _, h => h.elim
  | _ :: _, [], h => h.elim
/-- an order as data -/
def ordD (gs : List (List Int)) : PyData := .tuple (gs.map fun g => PyData.tuple (g.map PyData.int))
/-- an order stands at r: a tuple of tuples of ints -/
def OrdAt (H : Hp) (r : Addr) (gs : List (List Int)) : Prop := ∃ rs : List Addr, H r = some (.tup (rs.map V.ref)) ∧ Tups H rs gs
theorem OrdAt.dp {K : PySem.W.Frag} {H : Hp} {r : Addr} {gs : List (List Int)} (h : OrdAt H r gs) : Dp K H (.ref r) (ordD gs) := by
  obtain ⟨rs, h1, h2⟩ := h
  exact .tup (SqT.of h1) h2.dps
theorem OrdAt.same {H H' : Hp} {r : Addr} {gs : List (List Int)} (h : OrdAt H r gs) (e : Same H H') : OrdAt H' r gs := by
  obtain ⟨rs, h1, h2⟩ := h
  exact ⟨rs, e _ _ h1, h2.mono fun r g z => e _ _ z⟩
def spOrder (K : PySem.W.Frag) : Sp := fun vs H Q _ => ∃ (t : Addr) (x y n : Int), vs = [.ref t, .int n] ∧ StepAt K H t x y ∧ 1 ≤ n ∧ n ≤ 60 ∧
  ∀ r H', Same H H' → H r = none → OrdAt H' r (ord (fun k => (x * k).fmod y) (iota n.toNat)) → Q (.ref r) H'
/-- what stands in the dict after some marks: places, lists of marks -/
structure Stand (f : Int → Int) (ms : List Int) (H : Hp) (d : Addr) (ps : List (Int × Addr)) : Prop where
  dc : H d = some (.dK (ps.map fun p => ((Sum.inl p.1 : Key), V.ref p.2)))
  n1 : (ps.map (·.1)).Nodup
  n2 : (ps.map (·.2)).Nodup
  ls : ∀ p ∈ ps, H p.2 = some (.lst ((grp f ms p.1).map V.int))
  me : ∀ v, v ∈ ps.map (·.1) ↔ v ∈ ms.map f
theorem val_of {ps : List (Int × Addr)} {k : Int} : valV (ps.map fun p => ((Sum.inl p.1 : Key), V.ref p.2)) (Sum.inl k) = (ps.find? fun p => p.1 == k).map fun p => V.ref p.2 := by
  induction ps with
  | nil => rfl
  | cons p ps ih =>
    rw [List.map_cons, List.find?_cons]
    unfold valV at ih ⊢
    by_cases h : p.1 = k
    · simp [h, List.find?_cons]
    · simp only [beq_eq_false_iff_ne.mpr h]
      rw [← ih]
      simp [List.find?_cons, h]
end My
set_option Elab.async false
set_option linter.all false
set_option maxRecDepth 100000
set_option maxHeartbeats 4000000
namespace My
open PySem PySem.Spec PyProof.Rows L2 Gn Mt
structure Bo (mg : Str → Option Value) : Prop where
  c : Bc mg
  range : mg "range" = none
  sorted : mg "sorted" = none
  mo : ∃ tk, mg "_MOST_ORDERED" = some (.int 60 tk)
theorem inl_dK {H : Hp} {d l : Addr} {kvs : List (Key × V)} {xs : List V} (h : H d = some (.dK kvs)) (h' : H l = some (.lst xs)) : l ≠ d := by
  rintro rfl
  rw [h] at h'; cases h'
/-- one mark more -/
theorem Stand.put {f : Int → Int} {ms : List Int} {H H' : Hp} {d : Addr} {ps : List (Int × Addr)} {k : Int} {p : Int × Addr} (S : Stand f ms H d ps) (hp : p ∈ ps) (e : p.1 = f k)
    (h1 : H' p.2 = some (.lst ((grp f ms p.1).map V.int ++ [V.int k]))) (h2 : ∀ b o, H b = some o → b ≠ p.2 → H' b = some o) : Stand f (ms ++ [k]) H' d ps := by
  refine ⟨h2 d _ S.dc fun z => ?_, S.n1, S.n2, fun q hq => ?_, fun v => ?_⟩
  · have := S.ls p hp
    rw [← z, S.dc] at this; cases this
  · by_cases c : q = p
    · subst c
      rw [h1, grp_snoc, if_pos e.symm, List.map_append]; rfl
    · have n1 : q.2 ≠ p.2 := fun z => c ((Mt.map_inj S.n2 hq hp z))
      have n2 : ¬ f k = q.1 := fun z => c ((Mt.map_inj S.n1 hq hp (e ▸ z.symm)))
      rw [h2 _ _ (S.ls q hq) n1, grp_snoc, if_neg n2]
  · rw [S.me v, List.map_append, List.mem_append]
    constructor
    · exact .inl
    · rintro (z | z)
      · exact z
      · rw [List.map_singleton, List.mem_singleton] at z
        rw [z, ← e]
        exact (S.me _).mp (List.mem_map.mpr ⟨p, hp, rfl⟩)
theorem Stand.new {f : Int → Int} {ms : List Int} {H H' : Hp} {d l : Addr} {ps : List (Int × Addr)} {k : Int} (S : Stand f ms H d ps) (hn : f k ∉ ps.map (·.1)) (hl : H l = none)
    (h0 : H' d = some (.dK (ps.map (fun p => ((Sum.inl p.1 : Key), V.ref p.2)) ++ [(Sum.inl (f k), V.ref l)]))) (h1 : H' l = some (.lst [V.int k])) (h2 : ∀ b o, H b = some o → b ≠ d → H' b = some o) : Stand f (ms ++ [k]) H' d (ps ++ [(f k, l)]) := by
  have ne : ∀ q ∈ ps, q.2 ≠ l := fun q hq z => by have := S.ls q hq; rw [z, hl] at this; cases this
  refine ⟨by rw [List.map_append]; exact h0, ?_, ?_, fun q hq => ?_, fun v => ?_⟩
  · rw [List.map_append]
    exact nd_snoc S.n1 hn
  · rw [List.map_append]
    refine nd_snoc S.n2 fun z => ?_
    obtain ⟨q, hq, e⟩ := List.mem_map.mp z
    exact ne q hq e
  · rcases List.mem_append.mp hq with z | z
    · have n2 : ¬ f k = q.1 := fun e => hn (List.mem_map.mpr ⟨q, z, e.symm⟩)
      have nd : q.2 ≠ d := fun e => by have := S.ls q z; rw [e, S.dc] at this; cases this
      rw [h2 _ _ (S.ls q z) nd, grp_snoc, if_neg n2]
    · obtain rfl := List.mem_singleton.mp z
      show H' l = _
      rw [h1, grp_snoc, if_pos rfl, grp_none fun z => hn ((S.me _).mpr z)]; rfl
  · rw [List.map_append, List.mem_append, S.me v, List.map_append, List.mem_append]
    exact Iff.rfl
section
variable {P : Program} {w : World} {K : PySem.W.Frag} {mg : Str → Option Value} {base : Heap}
theorem ok_order {f fI fR fS fC fN : Addr} {fd fdI fdR fdS fdC fdN : FuncData} (F : Fun K "order" "order" sOrder f fd) (B : Bo mg) (D : Df K mg "is_integer" sIsInt ["given"] fI fdI) (R : Df K mg "is_fraction" sIsFr ["given"] fR fdR) (S : Df K mg "is_step" sIsStep ["given"] fS fdS)
    (C : Df K mg "check_step" sChStep ["given"] fC fdC) (N : Df K mg "check_number" sChNum ["given", "least", "most"] fN fdN) {fM : Addr} {fdM : FuncData} (Nn : Df K mg "is_number" sIsNum ["given", "least", "most"] fM fdM) : FnOk P w K mg base CX0 5 f fd ["step", "count"] (spOrder K) := by
  have GC : FnOk P w K mg base CX0 4 fC fdC ["given"] (spIsSt K .non) := ok_chStep C.F B.c D R S
  have GN : FnOk P w K mg base CX0 3 fN fdN ["given", "least", "most"] spChNum := ok_chNum N.F B.c D Nn
  refine F.ok scOrder (fun vs H Q E h => ?_) (fun cdv A outer s H vs Q E hr h => ?_)
  · obtain ⟨t, x, y, n, rfl, _⟩ := h
    rfl
  · obtain ⟨t, x, y, n, rfl, ⟨hT, st⟩, n1, n2, q⟩ := h
    obtain ⟨tk, hmo⟩ := B.mo
    have hr3 : Room 3 _ := hr.mono (by decide)
    have hu := hu_of hr
    refine ⟨_, pss_cons (ps_expr (pe_call GC hr (by rfl) C.g C.F.kp C.b .nil pass0 (pa_cons (pv 0) pa_nil)))
      (pss_cons (ps_expr (pe_call GN hr3 (by rfl) N.g N.F.kp N.b .nil pass0 (pa_cons (pv 1) (pa_cons pe_int (pa_cons (pe_glob (v := .int 60) rfl hmo ⟨_, rfl⟩) pa_nil)))))
      (pss_cons (ps_asg (pv 0) (pg_tup (by rfl) (pgs_cons (pg_name (i := 2) scOrder.nd rfl (.inl rfl)) (pgs_cons (pg_name (i := 3) scOrder.nd rfl (.inl rfl)) pgs_nil))))
      (pss_cons (ps_set (i := 4) scOrder.nd rfl (.inr rfl) pe_dnewK)
      (pss_cons (ps_for PassesOwn.never rfl (pi_range1 rfl B.range (pa_cons (pv 1) pa_nil)) (pg_name (i := 5) scOrder.nd rfl (.inl rfl))
        (pss_one (ps_expr (pe_bm PySem.F.plainAttrs_list PySem.F.slot_list_append PySem.F.type_list_append mt_append
          (pe_dsetd (pv 4) (pe_op op_modN (pe_op op_mul (pv 2) (pv 5)) (pv 3)) (pe_lst pa_nil) ⟨rfl, rfl, rfl, rfl⟩) (pa_cons (pv 5) pa_nil)))))
      (pss_one (ps_ret (pe_callTy cr_tupL (by rfl) B.c.tuple (by decide +kernel) (pa_cons
        (pe_lc (te := tCB (rTupL K) (tCons (tDGet (tVar 4) (tVar 6)) tNil)) (own := [("at", 6)]) (g := gName 6) (tt := tYes) rfl scOrder.nd (pi_list (pe_callB (call_sortedDI rfl) (by rfl) B.sorted (by decide +kernel) (pa_cons (pv 4) pa_nil)))
          (blkOk_by (N := ["step", "count", "top", "bottom", "standing", "mark", "at"]) (sc := defScope sOrder) (by decide +kernel)) (fun _ _ _ _ _ => pg_name (i := 6) scOrder.nd rfl (.inl rfl)) (fun _ _ _ _ _ => pts_nil)
          (fun _ _ _ _ _ => pe_callTy cr_tupL (by rfl) B.c.tuple (by decide +kernel) (pa_cons (pe_dget hu (pv 4) (pv 6) (fun _ _ => rfl)) pa_nil))) pa_nil)))))))), ?_⟩
    have y1 : 0 < y := by have := st.x0; have := st.xy; omega
    -- check_step(step); check_number(count, 1, 60); top, bottom = step
    refine ⟨_, rfl, t, x, y, rfl, ⟨hT, st⟩, ?_⟩
    refine ⟨_, rfl, n, 1, 60, rfl, n1, n2, ?_⟩
    refine ⟨_, rfl, t, _, rfl, hT, rfl, _, _, rfl, _, _, rfl, rfl, ?_⟩
    -- standing = {}
    intro d hd
    have s0 : Same H (upd H d (.dK [])) := same_put hd
    -- for mark in range(count)
    refine ⟨_, rfl, n, rfl, by omega, by omega, ?_⟩
    refine for_range (lo := 0) (n := n.toNat) (fun i σ H1 => ∃ (ps : List (Int × Addr)) (m : Option V), σ = [some (.ref t), some (.int n), some (.int x), some (.int y), some (.ref d), m, none] ∧ Same H H1 ∧ Stand (fun k => (x * k).fmod y) (iota i) H1 d ps ∧ (∀ p ∈ ps, H p.2 = none) ∧ ps.length ≤ i)
      ⟨[], none, rfl, s0, ⟨upd_same, List.nodup_nil, List.nodup_nil, (fun p hp => by simp at hp), (fun v => by simp [iota])⟩, (fun p hp => by simp at hp), Nat.le_refl _⟩ ?_ ?_
    · rintro i σ H1 hi ⟨ps, m, rfl, s1, T, hf, hl⟩
      rw [Int.zero_add]
      have hi' : (i : Int) < 60 := by omega
      refine ⟨_, rfl, d, rfl, .inl ⟨_, .inl T.dc⟩, _, rfl, _, rfl, _, _, rfl, rfl, .inr ⟨by omega, by omega⟩, _, rfl, _, _, rfl, rfl, (show y ≠ 0 by omega), Nat.zero_le _, fun l hl' => ?_⟩
      have hdl : d ≠ l := ne_of_none T.dc hl'
      have s2 : Same H1 (upd H1 l (.lst [])) := same_put hl'
      refine ⟨_, Sum.inl ((x * (i : Int)).fmod y), s2 _ _ T.dc, rfl, (by rw [List.length_map]; exact small1000 (by omega)), fun v hv => ?_, fun hn => ?_⟩
      · rw [val_of] at hv
        obtain ⟨p, hp, rfl⟩ := Option.map_eq_some_iff.mp hv
        have hm : p ∈ ps := List.mem_of_find?_eq_some hp
        have he : p.1 = (x * (i : Int)).fmod y := by simpa using List.find?_some hp
        have hL := s2 _ _ (T.ls p hm)
        refine ⟨.inl ⟨rfl, _, .inl (.inl hL)⟩, _, rfl, p.2, _, _, rfl, rfl, hL, ?_, ?_⟩
        · rw [List.length_map]
          exact small1000 (Nat.le_trans (List.length_filter_le _ _) (by rw [iota_len]; omega))
        · refine ⟨ps, _, rfl, fun b o e => ?_, ?_, hf, by omega⟩
          · rw [upd_ne (ne_of_none e (hf p hm))]
            exact s2 _ _ (s1 _ _ e)
          · rw [iota_succ]
            refine T.put hm he upd_same fun b o e hb => ?_
            rw [upd_ne hb]
            exact s2 _ _ e
      · have hk : (x * (i : Int)).fmod y ∉ ps.map (·.1) := fun z => by
          rw [val_of, Option.map_eq_none_iff, List.find?_eq_none] at hn
          obtain ⟨p, hp, e⟩ := List.mem_map.mp z
          exact hn p hp (by simpa using e)
        have hL : upd (upd H1 l (.lst [])) d (.dK (putK (ps.map fun p => ((Sum.inl p.1 : Key), V.ref p.2)) (Sum.inl ((x * (i : Int)).fmod y)) (.ref l))) l = some (.lst []) := by rw [upd_ne hdl.symm, upd_same]
        refine ⟨.inl ⟨rfl, _, .inl (.inl hL)⟩, _, rfl, l, _, _, rfl, rfl, hL, (by decide), ?_⟩
        have hln : H l = none := s1.free hl'
        refine ⟨ps ++ [((x * (i : Int)).fmod y, l)], _, rfl, fun b o e => ?_, ?_, fun p hp => ?_, by rw [List.length_append]; show ps.length + 1 ≤ i + 1; omega⟩
        · rw [upd_ne (ne_of_none e hln), upd_ne (ne_of_none e hd)]
          exact s2 _ _ (s1 _ _ e)
        · rw [iota_succ]
          refine T.new hk hl' ?_ upd_same fun b o e hb => ?_
          · rw [upd_ne hdl, upd_same, putK_new _ hn]
          · rw [upd_ne (ne_of_none e hl'), upd_ne hb]
            exact s2 _ _ e
        · rcases List.mem_append.mp hp with z | z
          · exact hf p z
          · obtain rfl := List.mem_singleton.mp z
            exact hln
    · rintro σ H1 ⟨ps, m, rfl, s1, T, hf, hl⟩
      refine ⟨_, rfl, d, _, ps.map (·.1), rfl, .inl T.dc, (by rw [List.map_map, List.map_map]; rfl), (by rw [List.length_map]; omega), fun ys p0 perm pw hp0 => ?_⟩
      have s2 : Same H1 (upd H1 p0 (.lst (ys.map V.int))) := same_put hp0
      have ey : ys = sortU ((iota n.toNat).map fun k => (x * k).fmod y) := strict_one (le_nodup_lt pw (perm.nodup_iff.mpr T.n1)) (sortU_pw _) fun v => by rw [perm.mem_iff, T.me v, sortU_mem]
      refine ⟨p0, rfl, ⟨_, .inl (.inl upd_same)⟩, fun D hD => ?_⟩
      have s3 : Same (upd H1 p0 (.lst (ys.map V.int))) (upd (upd H1 p0 (.lst (ys.map V.int))) D (.lst [])) := same_put hD
      refine lc_list (K := K) (a := p0) (xs := ys.map V.int) (fun j H2 => ∃ rs : List Addr, H2 D = some (.lst (rs.map V.ref)) ∧ Tups H2 rs ((ys.take j).map (grp (fun k => (x * k).fmod y) (iota n.toNat))) ∧ Same (upd H1 p0 (.lst (ys.map V.int))) H2)
        ⟨[], upd_same, trivial, s3⟩ (fun j H2 _ ⟨rs, _, _, e⟩ => .inl (.inl (e _ _ upd_same))) ?_ ?_
      · rintro j v H2 hj ⟨rs, h1, h2, h3⟩
        rw [List.getElem?_map] at hj
        obtain ⟨u, hu, rfl⟩ := Option.map_eq_some_iff.mp hj
        have hm : u ∈ ps.map (·.1) := perm.mem_iff.mp (List.mem_of_getElem? hu)
        obtain ⟨p, hp⟩ : ∃ p, ps.find? (fun p => p.1 == u) = some p := by
          cases e : ps.find? (fun p => p.1 == u) with
          | some p => exact ⟨p, rfl⟩
          | none =>
            rw [List.find?_eq_none] at e
            obtain ⟨p, hp, z⟩ := List.mem_map.mp hm
            exact absurd (by simpa using z) (e p hp)
        have hpm : p ∈ ps := List.mem_of_find?_eq_some hp
        have hpe : p.1 = u := by simpa using List.find?_some hp
        have hd2 := h3 _ _ (s2 _ _ T.dc)
        have hL := h3 _ _ (s2 _ _ (T.ls p hpm))
        refine ⟨rfl, _, rfl, _, rfl, d, .ref p.2, rfl, ?_, p.2, _, rfl, SqL.of hL, fun r hr => ?_⟩
        · have z := DGet.k (k := Sum.inl u) hd2
          rw [val_of, hp] at z
          exact z
        · have hrD : D ≠ r := ne_of_none h1 hr
          refine ⟨rs.map V.ref, (by rw [upd_ne hrD]; exact h1), ?_, rs ++ [r], (by rw [upd_same, List.map_append]; rfl), ?_, fun b o e => ?_⟩
          · rw [List.length_map, h2.len, List.length_map, List.length_take]
            exact small1000 (by have := perm.length_eq; rw [List.length_map] at this; omega)
          · rw [List.take_add_one, hu, List.map_append]
            refine Tups.snoc ?_ (h2.mono fun r' g e => ?_)
            · rw [upd_ne hrD.symm, upd_same, hpe]
            · have n1 : r' ≠ D := ne_of e h1 (by intro z; cases z)
              rw [upd_ne n1, upd_ne (ne_of_none e hr)]
              exact e
          · have e2 := h3 _ _ e
            rw [upd_ne (ne_of_none e hD), upd_ne (ne_of_none e2 hr)]
            exact e2
      · rintro H2 ⟨rs, h1, h2, h3⟩
        refine ⟨D, _, rfl, SqL.of h1, fun r hr => ?_⟩
        have s4 : Same H2 (upd H2 r (.tup (rs.map V.ref))) := same_put hr
        refine q r _ (((s1.trans s2).trans h3).trans s4) (((s1.trans s2).trans h3).free hr) ⟨rs, upd_same, ?_⟩
        rw [List.length_map, List.take_length, ey] at h2
        exact h2.mono fun r' g e => s4 _ _ e
end
end My
set_option Elab.async false
set_option linter.all false
set_option maxRecDepth 100000
set_option maxHeartbeats 4000000
namespace My
open PySem PySem.Spec PyProof.Rows L2 Gn Mt
abbrev sLowest : Stmt := top 34
abbrev sSpot : Stmt := top 80
theorem scLowest : FnScope ["top", "bottom", "shared"] ["top", "bottom"] (defScope sLowest) := ⟨rfl, rfl, rfl, by decide +kernel, rfl, by decide +kernel, by decide +kernel⟩
theorem scSpot : FnScope ["_law_x", "_law_k"] ["_law_x", "_law_k"] (defScope sSpot) := ⟨rfl, rfl, rfl, by decide +kernel, rfl, by decide +kernel, by decide +kernel⟩
def spSpot (K : PySem.W.Frag) : Sp := fun vs H Q _ => ∃ (t : Addr) (x y k : Int), vs = [.ref t, .int k] ∧ SqT K H t [.int x, .int y] ∧ 0 < y ∧ x.natAbs < 2 ^ 200 ∧ k.natAbs < 2 ^ 200 ∧ Q (.int ((k * x).fmod y)) H
section
variable {P : Program} {w : World} {K : PySem.W.Frag} {mg : Str → Option Value} {base : Heap}
theorem ok_lowest {f : Addr} {fd : FuncData} (F : Fun K "lowest" "lowest" sLowest f fd) (B : Bc mg) : FnOk P w K mg base CX0 1 f fd ["top", "bottom"] spLow := by
  refine F.ok scLowest (fun vs H Q E h => ?_) (fun cdv A outer s H vs Q E hr h => ?_)
  · obtain ⟨a, b, rfl, _⟩ := h
    rfl
  · obtain ⟨a, b, rfl, a0, b0, b1, q⟩ := h
    refine ⟨_, pss_cons (ps_set (i := 2) scLowest.nd rfl (.inl rfl) (pe_callBfun cr_gcd (by rfl) B.gcd (pa_cons (pv 0) (pa_cons (pv 1) pa_nil))))
      (pss_one (ps_ret (pe_tup (pa_cons (pe_op op_fdivW (pv 0) (pv 2)) (pa_cons (pe_op op_fdivW (pv 1) (pv 2)) pa_nil))))), ?_⟩
    have g0 : (0 : Int) < ((Nat.gcd a.natAbs b.natAbs : Nat) : Int) := by
      have := Nat.gcd_pos_of_pos_right a.natAbs (show 0 < b.natAbs by omega); omega
    have g1 : (((Nat.gcd a.natAbs b.natAbs : Nat) : Int)).natAbs < 2 ^ 100 := by
      rw [Int.natAbs_natCast]
      exact Nat.lt_of_le_of_lt (Nat.le_of_dvd (by omega) (Nat.gcd_dvd_right _ _)) b1
    exact ⟨_, rfl, _, rfl, a, b, rfl, _, rfl, _, rfl, _, _, rfl, rfl, wide_div g0 g1 (by decide) (by decide), _, rfl, _, rfl, _, _, rfl, rfl, wide_div g0 g1 (by decide) (by decide), (by show 2 ≤ sizeLine; decide), fun p hp => q p hp⟩
theorem ok_spot {f : Addr} {fd : FuncData} (F : Fun K "_law_spot" "_law_spot" sSpot f fd) (B : Bl mg) : FnOk P w K mg base CX0 1 f fd ["_law_x", "_law_k"] (spSpot K) := by
  refine F.ok scSpot (fun vs H Q E h => ?_) (fun cdv A outer s H vs Q E hr h => ?_)
  · obtain ⟨t, x, y, k, rfl, _⟩ := h
    rfl
  · obtain ⟨t, x, y, k, rfl, hT, y0, xb, kb, q⟩ := h
    refine ⟨_, pss_one (ps_ret (pe_op op_modN (pe_callTy call_int1 (by rfl) B.int (by decide +kernel) (pa_cons (pe_op op_mulW (pv 1) (pe_ix ix_tup (pv 0) pe_int (fun _ _ => rfl))) pa_nil)) (pe_ix ix_tup (pv 0) pe_int (fun _ _ => rfl)))), ?_⟩
    exact ⟨_, rfl, _, rfl, t, _, 0, .int x, rfl, rfl, hT, at_of (j := 0) rfl rfl, _, _, rfl, rfl, wide_mul (a := 200) (b := 200) kb xb (by decide) (by decide) (by decide), .inl ⟨_, rfl, _, rfl, t, _, 1, .int y, rfl, rfl, hT, at_of (j := 1) rfl rfl, _, _, rfl, rfl, (show y ≠ 0 by omega), q⟩⟩
end
end My
set_option Elab.async false
set_option linter.all false
set_option maxRecDepth 100000
set_option maxHeartbeats 4000000
namespace My
open PySem PySem.Spec PyProof.Rows L2 Gn Mt
abbrev sLine : Stmt := top 81
theorem scLine : FnScope ["_law_x", "_law_marks", "_law_begin", "_law_found", "_law_spot_here", "_law_k"] ["_law_x", "_law_marks", "_law_begin"] (defScope sLine) := ⟨rfl, rfl, rfl, by decide +kernel, rfl, by decide +kernel, by decide +kernel⟩
def spLine (K : PySem.W.Frag) : Sp := fun vs H Q _ => ∃ (t m : Addr) (x y b : Int) (ms ms' : List Int), vs = [.ref t, .ref m, .int b] ∧ SqT K H t [.int x, .int y] ∧ 0 < y ∧ x.natAbs < 2 ^ 200 ∧ SqL K H m (ms.map V.int) ∧ ms.length < 64 ∧ (∀ k ∈ ms, (k - b).natAbs < 2 ^ 200) ∧
  ms'.Perm ms ∧ ms'.Pairwise (· ≤ ·) ∧ ∀ r H', Same H H' → H r = none → OrdAt H' r (ord (fun k => ((k - b) * x).fmod y) ms') → Q (.ref r) H'
structure Bi (mg : Str → Option Value) : Prop where
  b : Bl mg
  sorted : mg "sorted" = none
  set : mg "set" = none
  tuple : mg "tuple" = none
section
variable {P : Program} {w : World} {K : PySem.W.Frag} {mg : Str → Option Value} {base : Heap}
theorem ok_line {f fS : Addr} {fd fdS : FuncData} (F : Fun K "_law_line" "_law_line" sLine f fd) (B : Bi mg) (S : Df K mg "_law_spot" sSpot ["_law_x", "_law_k"] fS fdS) : FnOk P w K mg base CX0 2 f fd ["_law_x", "_law_marks", "_law_begin"] (spLine K) := by
  have GS : FnOk P w K mg base CX0 1 fS fdS ["_law_x", "_law_k"] (spSpot K) := ok_spot S.F B.b
  refine F.ok scLine (fun vs H Q E h => ?_) (fun cdv A outer s H vs Q E hr h => ?_)
  · obtain ⟨t, m, x, y, b, ms, ms', rfl, _⟩ := h
    rfl
  · obtain ⟨t, m, x, y, b, ms, ms', rfl, hT, y0, xb, hM, hlen, hb, pm, pw, q⟩ := h
    refine ⟨_, pss_cons (ps_set (i := 3) scLine.nd rfl (.inl rfl) (pe_lst pa_nil))
      (pss_cons (ps_for PassesOwn.never rfl (pi_list (pe_callB (cr_sortedSet rfl) (by rfl) B.sorted (by decide +kernel) (pa_cons (pe_callTy (cr_setI rfl) (by rfl) B.set (by decide +kernel) (pa_cons
          (pe_lc (te := tCall (spSpot K) [] E0 (tCons (tVar 0) (tCons (tOp (rI0 fun i j => .int (i - j)) (tVar 5) (tVar 2)) tNil))) (own := [("_law_k", 5)]) (g := gName 5) (tt := tYes) rfl scLine.nd (pi_list (pv 1))
            (blkOk_by (N := ["_law_x", "_law_marks", "_law_begin", "_law_found", "_law_spot_here", "_law_k"]) (sc := defScope sLine) (by decide +kernel)) (fun _ _ _ _ _ => pg_name (i := 5) scLine.nd rfl (.inl rfl)) (fun _ _ _ _ _ => pts_nil)
            (fun _ _ _ _ _ => pe_call GS hr (by rfl) S.g S.F.kp S.b .nil pass0 (pa_cons (pv 0) (pa_cons (pe_op op_sub (pv 5) (pv 2)) pa_nil)))) pa_nil)) pa_nil))) (pg_name (i := 4) scLine.nd rfl (.inr rfl))
        (pss_one (ps_expr (pe_bm PySem.F.plainAttrs_list PySem.F.slot_list_append PySem.F.type_list_append mt_append (pv 3) (pa_cons (pe_callTy cr_tupL (by rfl) B.tuple (by decide +kernel) (pa_cons
          (pe_lc (te := tVar 5) (tt := tTest (tOp rEq (tCall (spSpot K) [] E0 (tCons (tVar 0) (tCons (tOp (rI0 fun i j => .int (i - j)) (tVar 5) (tVar 2)) tNil))) (tVar 4))) (own := [("_law_k", 5)]) (g := gName 5) rfl scLine.nd
            (pi_list (pe_callB cr_sorted (by rfl) B.sorted (by decide +kernel) (pa_cons (pv 1) pa_nil)))
            (blkOk_by (N := ["_law_x", "_law_marks", "_law_begin", "_law_found", "_law_spot_here", "_law_k"]) (sc := defScope sLine) (by decide +kernel)) (fun _ _ _ _ _ => pg_name (i := 5) scLine.nd rfl (.inl rfl))
            (fun _ _ _ _ _ => pts_one (pt_cmpR op_eq (pe_call GS hr (by rfl) S.g S.F.kp S.b .nil pass0 (pa_cons (pv 0) (pa_cons (pe_op op_sub (pv 5) (pv 2)) pa_nil))) (pv 4) (nomark _)))
            (fun _ _ _ _ _ => pv 5)) pa_nil)) pa_nil)))))
      (pss_one (ps_ret (pe_callTy cr_tupL (by rfl) B.tuple (by decide +kernel) (pa_cons (pv 3) pa_nil))))), ?_⟩
    -- found = []
    refine ⟨Nat.zero_le _, fun o no => ?_⟩
    have s1 : Same H (upd H o (.lst [])) := same_put no
    -- [spot(x, k - begin) for k in marks]
    refine ⟨_, rfl, m, rfl, ⟨_, s1.seq hM⟩, fun D nD => ?_⟩
    have s2 : Same (upd H o (.lst [])) (upd (upd H o (.lst [])) D (.lst [])) := same_put nD
    refine lc_list (K := K) (a := m) (xs := ms.map V.int) (fun j H2 => H2 D = some (.lst (((ms.take j).map fun k => ((k - b) * x).fmod y).map V.int)) ∧ Same (upd H o (.lst [])) H2)
      ⟨upd_same, s2⟩ (fun j H2 _ ⟨_, e⟩ => e.seq (s1.seq hM)) ?_ ?_
    · rintro j v H2 hj ⟨h1, h2⟩
      rw [List.getElem?_map] at hj
      obtain ⟨k, hk, rfl⟩ := Option.map_eq_some_iff.mp hj
      refine ⟨rfl, _, rfl, _, rfl, _, rfl, _, _, rfl, rfl, t, x, y, k - b, rfl, sqT_same h2 (sqT_same s1 hT), y0, xb, hb k (List.mem_of_getElem? hk), _, h1, ?_, ?_, fun c z e => ?_⟩
      · rw [List.length_map, List.length_map, List.length_take]
        exact small1000 (by omega)
      · rw [upd_same, List.take_add_one, hk, List.map_append, List.map_append]; rfl
      · have e2 := h2 _ _ e
        rw [upd_ne (ne_of_none e nD)]
        exact e2
    rintro H2 ⟨h1, h2⟩
    rw [List.length_map, List.take_length] at h1
    -- set(..), sorted(..)
    refine ⟨D, ms.map fun k => ((k - b) * x).fmod y, rfl, SqL.of h1, by rw [List.length_map]; exact hlen, fun p c hp hc => ?_⟩
    have s3 := same_put (o := SetO w p (fun j => decide (j ∈ ms.map fun k => ((k - b) * x).fmod y)) c) hp
    rw [List.length_map] at hc
    refine ⟨p, _, c, rfl, upd_same, by omega, fun ys p2 ypw ymem ylen hp2 => ?_⟩
    have s4 := same_put (o := HO.lst (ys.map V.int)) hp2
    have ey : ys = sortU (ms'.map fun k => ((k - b) * x).fmod y) := strict_one ypw (sortU_pw _) fun v => by
      rw [ymem v, sortU_mem, decide_eq_true_eq]
      exact ((pm.map _).mem_iff).symm
    have S4 : Same (upd H o (.lst [])) (upd (upd H2 p (SetO w p (fun j => decide (j ∈ ms.map fun k => ((k - b) * x).fmod y)) c)) p2 (.lst (ys.map V.int))) := (h2.trans s3).trans s4
    have no0 := S4 _ _ (upd_same (H := H) (a := o) (o := HO.lst []))
    obtain ⟨Hs, hHs⟩ : ∃ Hs, upd (upd H2 p (SetO w p (fun j => decide (j ∈ ms.map fun k => ((k - b) * x).fmod y)) c)) p2 (.lst (ys.map V.int)) = Hs := ⟨_, rfl⟩
    have S5 : Same (upd H o (.lst [])) Hs := fun q z e => (congrFun hHs q).symm.trans (S4 q z e)
    skip
    have hMs := S5.seq (s1.seq hM)
    have hY : Hs p2 = some (.lst (ys.map V.int)) := (congrFun hHs p2).symm.trans upd_same
    have SH : Same H Hs := s1.trans S5
    have kT : ∀ H' : Hp, (∀ q z, Hs q = some z → q ≠ o → H' q = some z) → SqT K H' t [.int x, .int y] := fun H' k => by
      rcases hT with (h | ⟨oo, h⟩) | h
      · exact .inl (.inl (k _ _ (SH _ _ h) (ne_of_none h no)))
      · exact .inl (.inr ⟨oo, k _ _ (SH _ _ h) (ne_of_none h no)⟩)
      · exact .inr h
    have nM : ∀ H' : Hp, (∀ q z, Hs q = some z → q ≠ o → H' q = some z) → SqL K H' m (ms.map V.int) := fun H' k => by
      rcases hM with (h | ⟨oo, h⟩) | h
      · exact .inl (.inl (k _ _ (SH _ _ h) (ne_of_none h no)))
      · exact .inl (.inr ⟨oo, k _ _ (SH _ _ h) (ne_of_none h no)⟩)
      · exact .inr h
    have n2o : p2 ≠ o := fun e => by
      have z := s3 _ _ (h2 _ _ (upd_same (H := H) (a := o) (o := HO.lst [])))
      rw [← e] at z
      cases hp2.symm.trans z
    -- for spot_here in ..
    refine ⟨p2, rfl, ⟨_, .inl (.inl upd_same)⟩, for_list (K := K) (a := p2) (xs := ys.map V.int) (fun j σ H3 => ∃ (rs : List Addr) (sp : Option V), σ = [some (.ref t), some (.ref m), some (.int b), some (.ref o), sp, none] ∧ H3 o = some (.lst (rs.map V.ref)) ∧
        Tups H3 rs ((ys.take j).map (grp (fun k => ((k - b) * x).fmod y) ms')) ∧ ∀ q z, Hs q = some z → q ≠ o → H3 q = some z)
      ⟨[], none, rfl, no0, trivial, fun q z e _ => (congrFun hHs q).trans e⟩ (fun j σ H3 _ ⟨_, _, _, _, _, k⟩ => .inl (.inl (k _ _ hY n2o))) ?_ ?_⟩
    · rintro j v σ H3 hj ⟨rs, sp, rfl, hO, hR, kp⟩
      rw [List.getElem?_map] at hj
      obtain ⟨u, hu, rfl⟩ := Option.map_eq_some_iff.mp hj
      refine ⟨_, rfl, .inl ⟨rfl, _, .inl (.inl hO)⟩, _, rfl, m, ms, rfl, nM _ kp, hlen, fun ns p3 npm npw hp3 => ?_⟩
      obtain rfl : ns = ms' := le_one npw pw (npm.trans pm.symm)
      have s5 : Same H3 (upd H3 p3 (.lst (ns.map V.int))) := same_put hp3
      refine ⟨p3, rfl, ⟨_, .inl (.inl upd_same)⟩, fun D2 nD2 => ?_⟩
      have s6 : Same (upd H3 p3 (.lst (ns.map V.int))) (upd (upd H3 p3 (.lst (ns.map V.int))) D2 (.lst [])) := same_put nD2
      refine lc_list (K := K) (a := p3) (xs := ns.map V.int) (fun i H4 => H4 D2 = some (.lst ((grp (fun k => ((k - b) * x).fmod y) (ns.take i) u).map V.int)) ∧ Same (upd H3 p3 (.lst (ns.map V.int))) H4)
        ⟨upd_same, s6⟩ (fun i H4 _ ⟨_, e⟩ => .inl (.inl (e _ _ upd_same))) ?_ ?_
      · rintro i v H4 hi ⟨g1, g2⟩
        rw [List.getElem?_map] at hi
        obtain ⟨k, hk, rfl⟩ := Option.map_eq_some_iff.mp hi
        refine ⟨rfl, _, rfl, _, rfl, _, rfl, _, _, rfl, rfl, t, x, y, k - b, rfl, sqT_same g2 (sqT_same s5 (kT _ kp)), y0, xb, hb k (pm.mem_iff.mp (List.mem_of_getElem? hk)), _, rfl, rfl, _, rfl, ?_⟩
        have e1 : ns.take (i + 1) = ns.take i ++ [k] := by rw [List.take_add_one, hk]; rfl
        refine ite2 (fun hc => ?_) (fun hc => ?_)
        · have hc' : ((k - b) * x).fmod y = u := V.int.inj (of_decide_eq_true hc)
          refine ⟨_, rfl, _, g1, ?_, ?_, fun q z e => ?_⟩
          · rw [List.length_map]
            exact small1000 (Nat.le_trans (List.length_filter_le _ _) (by rw [List.length_take]; have := pm.length_eq; omega))
          · rw [upd_same, e1, grp_snoc, if_pos hc', List.map_append]; rfl
          · rw [upd_ne (ne_of_none e nD2)]
            exact g2 _ _ e
        · have hc' : ¬ ((k - b) * x).fmod y = u := fun z => hc (decide_eq_true (congrArg V.int z))
          exact ⟨by rw [e1, grp_snoc, if_neg hc']; exact g1, g2⟩
      rintro H4 ⟨g1, g2⟩
      rw [List.length_map, List.take_length] at g1
      refine ⟨D2, _, rfl, SqL.of g1, fun r hr => ?_⟩
      have s7 : Same H4 (upd H4 r (.tup ((grp (fun k => ((k - b) * x).fmod y) ns u).map V.int))) := same_put hr
      have S7 : Same H3 (upd H4 r (.tup ((grp (fun k => ((k - b) * x).fmod y) ns u).map V.int))) := (s5.trans g2).trans s7
      refine ⟨o, _, _, rfl, rfl, S7 _ _ hO, ?_, rs ++ [r], _, rfl, (by rw [upd_same, List.map_append]; rfl), ?_, fun q z e hq => ?_⟩
      · have := List.length_map (f := fun k => ((k - b) * x).fmod y) (as := ns)
        rw [List.length_map, hR.len, List.length_map, List.length_take]
        exact small1000 (by omega)
      · rw [List.take_add_one, hu, List.map_append]
        have nro : r ≠ o := fun e => by rw [e] at hr; rw [(s5.trans g2) _ _ hO] at hr; cases hr
        refine Tups.snoc ?_ (hR.mono fun r' g e => ?_)
        · rw [upd_ne nro, upd_same]
        · rw [upd_ne (ne_of e hO (by intro z; cases z))]
          exact S7 _ _ e
      · rw [upd_ne hq]
        exact S7 _ _ (kp _ _ e hq)
    · rintro σ H3 ⟨rs, sp, rfl, hO, hR, kp⟩
      refine ⟨_, rfl, o, _, rfl, SqL.of hO, fun r hr => ?_⟩
      have s8 : Same H3 (upd H3 r (.tup (rs.map V.ref))) := same_put hr
      have sH : Same H H3 := fun q z e => kp _ _ (SH _ _ e) (ne_of_none e no)
      refine q r _ (sH.trans s8) (sH.free hr) ⟨rs, upd_same, ?_⟩
      rw [List.length_map, List.take_length, ey] at hR
      exact hR.mono fun r' g e => s8 _ _ e
end
end My
set_option Elab.async false
set_option maxRecDepth 100000
set_option maxHeartbeats 1000000
set_option linter.all false
/-! lots of steps as ascending cuts: just ahead of a fraction, or just behind it -/
namespace Mt
structure Cut where
  n : Int
  d : Int
  b : Bool
deriving DecidableEq
namespace Cut
def lt (c e : Cut) : Bool := if c.n = e.n ∧ c.d = e.d then !c.b && e.b else decide (c.n * e.d < e.n * c.d)
structure V (c : Cut) : Prop where
  d : 0 < c.d
  co : Int.gcd c.n c.d = 1
theorem dvd_co {a b c : Int} (h : Int.gcd a b = 1) (h2 : a ∣ b * c) : a ∣ c := by
  have d1 : a.natAbs ∣ b.natAbs * c.natAbs := by
    have := Int.natAbs_dvd_natAbs.mpr h2
    rwa [Int.natAbs_mul] at this
  exact Int.natAbs_dvd_natAbs.mp ((show Nat.Coprime a.natAbs b.natAbs from h).dvd_of_dvd_mul_left d1)
theorem cross {a b c d : Int} (b0 : 0 < b) (d0 : 0 < d) (h1 : Int.gcd a b = 1) (h2 : Int.gcd c d = 1) (e : a * d = c * b) : a = c ∧ b = d := by
  have k1 : b ∣ d := dvd_co (by rw [Int.gcd_comm]; exact h1) ⟨c, by rw [e, Int.mul_comm]⟩
  have k2 : d ∣ b := dvd_co (by rw [Int.gcd_comm]; exact h2) ⟨a, by rw [← e, Int.mul_comm]⟩
  have l1 := Int.le_of_dvd d0 k1
  have l2 := Int.le_of_dvd b0 k2
  have bd : b = d := by omega
  subst bd
  exact ⟨Int.eq_of_mul_eq_mul_right (by omega) e, rfl⟩
theorem irr (c : Cut) : c.lt c = false := by unfold lt; rw [if_pos ⟨rfl, rfl⟩]; cases c.b <;> rfl
theorem mul_lt3 {a b c d e f : Int} (b0 : 0 < b) (d0 : 0 < d) (f0 : 0 < f) (h1 : a * d < c * b) (h2 : c * f < e * d) : a * f < e * b := by
  have e1 : a * d * f < c * b * f := Int.mul_lt_mul_of_pos_right h1 f0
  have e2 : c * f * b < e * d * b := Int.mul_lt_mul_of_pos_right h2 b0
  have : a * f * d < e * b * d := by
    have x1 : a * f * d = a * d * f := Int.mul_right_comm ..
    have x2 : e * b * d = e * d * b := Int.mul_right_comm ..
    have x3 : c * b * f = c * f * b := Int.mul_right_comm ..
    omega
  exact Int.lt_of_mul_lt_mul_right this (by omega)
theorem trans {c e f : Cut} (vc : c.V) (ve : e.V) (vf : f.V) (h1 : c.lt e = true) (h2 : e.lt f = true) : c.lt f = true := by
  obtain ⟨cn, cd, cb⟩ := c
  obtain ⟨en, ed, eb⟩ := e
  obtain ⟨fn, fd, fb⟩ := f
  have c0 := vc.d; have e0 := ve.d; have f0 := vf.d
  have cc := vc.co; have fc := vf.co
  simp only [lt] at *
  by_cases a1 : cn = en ∧ cd = ed
  · rw [if_pos a1] at h1
    by_cases a2 : en = fn ∧ ed = fd
    · rw [if_pos a2] at h2
      rw [if_pos ⟨a1.1.trans a2.1, a1.2.trans a2.2⟩]
      cases cb <;> cases eb <;> cases fb <;> simp_all
    · rw [if_neg a2] at h2
      rw [a1.1, a1.2, if_neg a2]
      exact h2
  · rw [if_neg a1] at h1
    by_cases a2 : en = fn ∧ ed = fd
    · rw [← a2.1, ← a2.2, if_neg a1]
      exact h1
    · rw [if_neg a2] at h2
      have z := mul_lt3 c0 e0 f0 (of_decide_eq_true h1) (of_decide_eq_true h2)
      rw [if_neg (fun q => by rw [q.1, q.2] at z; omega)]
      exact decide_eq_true z
theorem tot {c e : Cut} (vc : c.V) (ve : e.V) (h1 : c.lt e = false) (h2 : e.lt c = false) : c = e := by
  obtain ⟨cn, cd, cb⟩ := c
  obtain ⟨en, ed, eb⟩ := e
  have c0 := vc.d; have e0 := ve.d
  have cc := vc.co; have ec := ve.co
  simp only [lt] at *
  by_cases a1 : cn = en ∧ cd = ed
  · rw [if_pos a1] at h1
    rw [if_pos ⟨a1.1.symm, a1.2.symm⟩] at h2
    obtain ⟨rfl, rfl⟩ := a1
    cases cb <;> cases eb <;> simp_all
  · rw [if_neg a1] at h1
    rw [if_neg fun z => a1 ⟨z.1.symm, z.2.symm⟩] at h2
    have l1 := of_decide_eq_false h1
    have l2 := of_decide_eq_false h2
    exact absurd (cross c0 e0 cc ec (by omega)) a1
theorem asym {c e : Cut} (vc : c.V) (ve : e.V) (h : c.lt e = true) : e.lt c = false := by
  cases z : e.lt c with
  | false => rfl
  | true => have := trans vc ve vc h z; rw [irr] at this; cases this
/-- not ahead, ahead -/
theorem le_lt {c e f : Cut} (vc : c.V) (ve : e.V) (vf : f.V) (h1 : e.lt c = false) (h2 : e.lt f = true) : c.lt f = true := by
  cases z : c.lt e with
  | true => exact trans vc ve vf z h2
  | false => rw [tot vc ve z h1]; exact h2
theorem lt_le {c e f : Cut} (vc : c.V) (ve : e.V) (vf : f.V) (h1 : c.lt e = true) (h2 : f.lt e = false) : c.lt f = true := by
  cases z : e.lt f with
  | true => exact trans vc ve vf h1 z
  | false => rw [← tot ve vf z h2]; exact h1
end Cut
/-- ascending -/
def Asc (cs : List Cut) : Prop := cs.Pairwise fun c e => c.lt e = true
def AllV (cs : List Cut) : Prop := ∀ c ∈ cs, c.V
/-- behind an odd number of its cuts one is within -/
def mem : List Cut → Cut → Bool
  | [], _ => false
  | c :: cs, x => xor (!x.lt c) (mem cs x)
theorem mem_out {cs : List Cut} {x : Cut} (h : ∀ c ∈ cs, x.lt c = true) : mem cs x = false := by
  induction cs with
  | nil => rfl
  | cons c cs ih =>
    show xor (!x.lt c) (mem cs x) = false
    rw [h c List.mem_cons_self, ih fun e m => h e (List.mem_cons_of_mem _ m)]
    rfl
/-- the cuts of two lots together, each told which of them it is of -/
structure Ev where
  c : Cut
  i : Bool
  j : Bool
def mg : List Cut → List Cut → List Ev
  | [], bs => bs.map fun b => ⟨b, false, true⟩
  | a :: as, [] => (a :: as).map fun a => ⟨a, true, false⟩
  | a :: as, b :: bs => if b.lt a then ⟨b, false, true⟩ :: mg (a :: as) bs else if a = b then ⟨a, true, true⟩ :: mg as bs else ⟨a, true, false⟩ :: mg as (b :: bs)
termination_by as bs => as.length + bs.length
/-- the cuts where f of being within the ones and within the others changes -/
def run (f : Bool → Bool → Bool) : Bool → Bool → List Ev → List Cut
  | _, _, [] => []
  | p, q, ⟨c, i, j⟩ :: es => if f (xor p i) (xor q j) != f p q then c :: run f (xor p i) (xor q j) es else run f (xor p i) (xor q j) es
def memI : List Ev → Cut → Bool
  | [], _ => false
  | e :: es, x => xor (e.i && !x.lt e.c) (memI es x)
def memJ : List Ev → Cut → Bool
  | [], _ => false
  | e :: es, x => xor (e.j && !x.lt e.c) (memJ es x)
theorem mg_I : ∀ (as bs : List Cut) (x : Cut), memI (mg as bs) x = mem as x := by
  intro as bs x
  fun_induction mg as bs with
  | case1 bs => induction bs with
    | nil => rfl
    | cons b bs ih => show xor (false && _) _ = _; rw [Bool.false_and, Bool.false_xor]; exact ih
  | case2 a as => 
    have : ∀ as : List Cut, memI (as.map fun a => (⟨a, true, false⟩ : Ev)) x = mem as x := by
      intro as
      induction as with
      | nil => rfl
      | cons b bs ih => show xor (true && _) _ = xor _ _; rw [Bool.true_and, ih]
    exact this _
  | case3 a as b bs h ih => show xor (false && _) _ = _; rw [Bool.false_and, Bool.false_xor]; exact ih
  | case4 as b bs h ih => show xor (true && _) _ = xor _ _; rw [Bool.true_and, ih]
  | case5 a as b bs h h2 ih => show xor (true && _) _ = xor _ _; rw [Bool.true_and, ih]
theorem mg_J : ∀ (as bs : List Cut) (x : Cut), memJ (mg as bs) x = mem bs x := by
  intro as bs x
  fun_induction mg as bs with
  | case1 bs => induction bs with
    | nil => rfl
    | cons b bs ih => show xor (true && _) _ = xor _ _; rw [Bool.true_and, ih]
  | case2 a as => 
    have : ∀ as : List Cut, memJ (as.map fun a => (⟨a, true, false⟩ : Ev)) x = false := by
      intro as
      induction as with
      | nil => rfl
      | cons b bs ih => show xor (false && _) _ = _; rw [Bool.false_and, ih]; rfl
    exact this _
  | case3 a as b bs h ih => show xor (true && _) _ = xor _ _; rw [Bool.true_and, ih]
  | case4 as b bs h ih => show xor (true && _) _ = xor _ _; rw [Bool.true_and, ih]
  | case5 a as b bs h h2 ih => show xor (false && _) _ = _; rw [Bool.false_and, ih]; simp
theorem mg_mem : ∀ (as bs : List Cut) {e : Ev}, e ∈ mg as bs → e.c ∈ as ∨ e.c ∈ bs := by
  intro as bs
  fun_induction mg as bs <;> intro e h <;> simp at * <;> grind
def AscE (es : List Ev) : Prop := es.Pairwise fun a b => a.c.lt b.c = true
theorem mg_asc : ∀ (as bs : List Cut), AllV as → AllV bs → Asc as → Asc bs → AscE (mg as bs) := by
  intro as bs
  fun_induction mg as bs with
  | case1 bs => intro _ _ _ hb; exact List.pairwise_map.mpr hb
  | case2 a as => intro _ _ ha _; exact List.pairwise_map.mpr ha
  | case3 a as b bs h ih =>
    intro va vb ha hb
    refine List.pairwise_cons.mpr ⟨fun e he => ?_, ih va (fun c m => vb c (List.mem_cons_of_mem _ m)) ha (List.pairwise_cons.mp hb).2⟩
    rcases mg_mem _ _ he with m | m
    · rcases List.mem_cons.mp m with z | m
      · rw [z]; exact h
      · exact Cut.trans (vb _ List.mem_cons_self) (va _ List.mem_cons_self) (va _ (List.mem_cons_of_mem _ m)) h ((List.pairwise_cons.mp ha).1 _ m)
    · exact (List.pairwise_cons.mp hb).1 _ m
  | case4 as b bs h ih =>
    intro va vb ha hb
    refine List.pairwise_cons.mpr ⟨fun e he => ?_, ih (fun c m => va c (List.mem_cons_of_mem _ m)) (fun c m => vb c (List.mem_cons_of_mem _ m)) (List.pairwise_cons.mp ha).2 (List.pairwise_cons.mp hb).2⟩
    rcases mg_mem _ _ he with m | m
    · exact (List.pairwise_cons.mp ha).1 _ m
    · exact (List.pairwise_cons.mp hb).1 _ m
  | case5 a as b bs h h2 ih =>
    intro va vb ha hb
    have z : a.lt b = true := by
      cases q : a.lt b with
      | true => rfl
      | false => exact absurd (Cut.tot (va _ List.mem_cons_self) (vb _ List.mem_cons_self) q (by simpa using h)) h2
    refine List.pairwise_cons.mpr ⟨fun e he => ?_, ih (fun c m => va c (List.mem_cons_of_mem _ m)) vb (List.pairwise_cons.mp ha).2 hb⟩
    rcases mg_mem _ _ he with m | m
    · exact (List.pairwise_cons.mp ha).1 _ m
    · rcases List.mem_cons.mp m with y | m
      · rw [y]; exact z
      · exact Cut.trans (va _ List.mem_cons_self) (vb _ List.mem_cons_self) (vb _ (List.mem_cons_of_mem _ m)) z ((List.pairwise_cons.mp hb).1 _ m)
section
variable {f : Bool → Bool → Bool}
theorem run_sub : ∀ (es : List Ev) (p q : Bool) {x : Cut}, x ∈ run f p q es → ∃ e ∈ es, e.c = x
  | [], _, _, x, h => nomatch h
  | ⟨c, i, j⟩ :: es, p, q, x, h => by
    unfold run at h
    split at h
    · rcases List.mem_cons.mp h with rfl | h
      · exact ⟨_, List.mem_cons_self, rfl⟩
      · obtain ⟨e, m, z⟩ := run_sub es _ _ h
        exact ⟨e, List.mem_cons_of_mem _ m, z⟩
    · obtain ⟨e, m, z⟩ := run_sub es _ _ h
      exact ⟨e, List.mem_cons_of_mem _ m, z⟩
theorem run_asc : ∀ (es : List Ev) (p q : Bool), AscE es → Asc (run f p q es)
  | [], _, _, _ => List.Pairwise.nil
  | ⟨c, i, j⟩ :: es, p, q, h => by
    have h2 := List.pairwise_cons.mp h
    unfold run
    split
    · refine List.pairwise_cons.mpr ⟨fun x m => ?_, run_asc es _ _ h2.2⟩
      obtain ⟨e, me, rfl⟩ := run_sub es _ _ m
      exact h2.1 e me
    · exact run_asc es _ _ h2.2
def VE (es : List Ev) : Prop := ∀ e ∈ es, e.c.V
theorem memI_out {es : List Ev} {x : Cut} (h : ∀ e ∈ es, x.lt e.c = true) : memI es x = false := by
  induction es with
  | nil => rfl
  | cons c cs ih =>
    show xor (c.i && !x.lt c.c) (memI cs x) = false
    rw [h c List.mem_cons_self, ih fun e m => h e (List.mem_cons_of_mem _ m)]
    simp
theorem memJ_out {es : List Ev} {x : Cut} (h : ∀ e ∈ es, x.lt e.c = true) : memJ es x = false := by
  induction es with
  | nil => rfl
  | cons c cs ih =>
    show xor (c.j && !x.lt c.c) (memJ cs x) = false
    rw [h c List.mem_cons_self, ih fun e m => h e (List.mem_cons_of_mem _ m)]
    simp
theorem run_mem {x : Cut} (vx : x.V) : ∀ (es : List Ev) (p q : Bool), VE es → AscE es → mem (run f p q es) x = xor (f p q) (f (xor p (memI es x)) (xor q (memJ es x)))
  | [], p, q, _, _ => by simp [run, memI, memJ, mem]
  | ⟨c, i, j⟩ :: es, p, q, v, h => by
    have h2 := List.pairwise_cons.mp h
    have vc : c.V := v ⟨c, i, j⟩ List.mem_cons_self
    have ve : VE es := fun e m => v e (List.mem_cons_of_mem _ m)
    have ih := run_mem vx es (xor p i) (xor q j) ve h2.2
    unfold run memI memJ
    cases z : x.lt c with
    | true =>
      have out : ∀ e ∈ es, x.lt e.c = true := fun e m => Cut.trans vx vc (ve e m) z (h2.1 e m)
      have o1 : mem (run f (xor p i) (xor q j) es) x = false := mem_out fun y m => by
        obtain ⟨e, me, rfl⟩ := run_sub es _ _ m
        exact out e me
      rw [memI_out out, memJ_out out]
      split
      · show xor (!x.lt c) _ = _
        rw [z, o1]; simp [z]
      · rw [o1]; simp [z]
    | false =>
      split
      · rename_i hd
        show xor (!x.lt c) _ = _
        rw [z, ih]
        simp only [z, Bool.not_false, Bool.and_true]
        have e1 : xor (xor p i) (memI es x) = xor p (xor i (memI es x)) := Bool.xor_assoc ..
        have e2 : xor (xor q j) (memJ es x) = xor q (xor j (memJ es x)) := Bool.xor_assoc ..
        rw [e1, e2]
        revert hd
        cases f p q <;> cases f (xor p i) (xor q j) <;> cases f (xor p (xor i (memI es x))) (xor q (xor j (memJ es x))) <;> decide
      · rename_i hd
        rw [ih]
        simp only [z, Bool.not_false, Bool.and_true]
        have e1 : xor (xor p i) (memI es x) = xor p (xor i (memI es x)) := Bool.xor_assoc ..
        have e2 : xor (xor q j) (memJ es x) = xor q (xor j (memJ es x)) := Bool.xor_assoc ..
        rw [e1, e2]
        revert hd
        cases f p q <;> cases f (xor p i) (xor q j) <;> cases f (xor p (xor i (memI es x))) (xor q (xor j (memJ es x))) <;> decide
/-- an odd number of them -/
def odd : Nat → Bool
  | 0 => false
  | n + 1 => !odd n
def oddI (es : List Ev) : Bool := es.foldr (fun e b => xor e.i b) false
def oddJ (es : List Ev) : Bool := es.foldr (fun e b => xor e.j b) false
theorem run_odd : ∀ (es : List Ev) (p q : Bool), odd (run f p q es).length = xor (f p q) (f (xor p (oddI es)) (xor q (oddJ es)))
  | [], p, q => by simp [run, oddI, oddJ, odd]
  | ⟨c, i, j⟩ :: es, p, q => by
    have ih := run_odd es (xor p i) (xor q j)
    have e1 : oddI (⟨c, i, j⟩ :: es) = xor i (oddI es) := rfl
    have e2 : oddJ (⟨c, i, j⟩ :: es) = xor j (oddJ es) := rfl
    rw [e1, e2]
    unfold run
    rw [Bool.xor_assoc, Bool.xor_assoc] at ih
    split
    · rename_i hd
      rw [List.length_cons, odd, ih]
      revert hd
      cases f p q <;> cases f (xor p i) (xor q j) <;> cases f (xor p (xor i (oddI es))) (xor q (xor j (oddJ es))) <;> decide
    · rename_i hd
      rw [ih]
      revert hd
      cases f p q <;> cases f (xor p i) (xor q j) <;> cases f (xor p (xor i (oddI es))) (xor q (xor j (oddJ es))) <;> decide
end
theorem mg_oddI : ∀ (as bs : List Cut), oddI (mg as bs) = odd as.length := by
  intro as bs
  fun_induction mg as bs with
  | case1 bs => induction bs with
    | nil => rfl
    | cons b bs ih => show xor false _ = _; rw [Bool.false_xor]; exact ih
  | case2 a as =>
    have : ∀ as : List Cut, oddI (as.map fun a => (⟨a, true, false⟩ : Ev)) = odd as.length := by
      intro as
      induction as with
      | nil => rfl
      | cons b bs ih => show xor true (oddI _) = !_; rw [ih]; simp
    exact this _
  | case3 a as b bs h ih => show xor false (oddI _) = _; rw [Bool.false_xor]; exact ih
  | case4 as b bs h ih => show xor true (oddI _) = !_; rw [ih]; simp
  | case5 a as b bs h h2 ih => show xor true (oddI _) = !_; rw [ih]; simp
theorem mg_oddJ : ∀ (as bs : List Cut), oddJ (mg as bs) = odd bs.length := by
  intro as bs
  fun_induction mg as bs with
  | case1 bs => induction bs with
    | nil => rfl
    | cons b bs ih => show xor true (oddJ _) = !_; rw [ih]; simp
  | case2 a as =>
    have : ∀ as : List Cut, oddJ (as.map fun a => (⟨a, true, false⟩ : Ev)) = false := by
      intro as
      induction as with
      | nil => rfl
      | cons b bs ih => show xor false (oddJ _) = _; rw [ih]; rfl
    exact this _
  | case3 a as b bs h ih => show xor true (oddJ _) = !_; rw [ih]; simp
  | case4 as b bs h ih => show xor true (oddJ _) = !_; rw [ih]; simp
  | case5 a as b bs h h2 ih => show xor false (oddJ _) = _; rw [Bool.false_xor]; exact ih
/-- from 0 to just ahead of 1 -/
def first : Cut := ⟨0, 1, false⟩
def last : Cut := ⟨1, 1, false⟩
structure Cut.In (c : Cut) : Prop extends c.V where
  n0 : 0 ≤ c.n
  le : last.lt c = false
theorem Cut.In.nd {c : Cut} (h : c.In) : c.n ≤ c.d := by
  have le := h.le
  unfold Cut.lt last at le
  simp only at le
  split at le
  · omega
  · have := of_decide_eq_false le
    omega
/-- a lot's cuts -/
structure Lt (cs : List Cut) : Prop where
  v : ∀ c ∈ cs, c.In
  a : Asc cs
  e : odd cs.length = false
theorem first_inC : first.In := ⟨⟨by decide, by decide⟩, by decide, by decide⟩
theorem last_in : last.In := ⟨⟨by decide, by decide⟩, by decide, by decide⟩
theorem Lt.av {cs : List Cut} (h : Lt cs) : AllV cs := fun c m => (h.v c m).toV
def both (as bs : List Cut) : List Cut := run (fun p q => p && q) false false (mg as bs)
def either (as bs : List Cut) : List Cut := run (fun p q => p || q) false false (mg as bs)
theorem ve_mg {as bs : List Cut} (ha : AllV as) (hb : AllV bs) : VE (mg as bs) := fun e m => (mg_mem as bs m).elim (ha _) (hb _)
theorem lt_run {f : Bool → Bool → Bool} (h0 : f false false = false) {as bs : List Cut} (ha : Lt as) (hb : Lt bs) : Lt (run f false false (mg as bs)) where
  v := fun c m => by
    obtain ⟨e, me, rfl⟩ := run_sub _ _ _ m
    exact (mg_mem as bs me).elim (ha.v _) (hb.v _)
  a := run_asc _ _ _ (mg_asc as bs ha.av hb.av ha.a hb.a)
  e := by rw [run_odd, mg_oddI, mg_oddJ, ha.e, hb.e, h0]; simp [h0]
theorem Lt.both {as bs : List Cut} (ha : Lt as) (hb : Lt bs) : Lt (both as bs) := lt_run rfl ha hb
theorem Lt.either {as bs : List Cut} (ha : Lt as) (hb : Lt bs) : Lt (either as bs) := lt_run rfl ha hb
theorem mem_both {as bs : List Cut} (ha : Lt as) (hb : Lt bs) {x : Cut} (vx : x.V) : mem (both as bs) x = (mem as x && mem bs x) := by
  unfold Mt.both
  rw [run_mem vx _ _ _ (ve_mg ha.av hb.av) (mg_asc as bs ha.av hb.av ha.a hb.a), mg_I, mg_J]
  simp
theorem mem_either {as bs : List Cut} (ha : Lt as) (hb : Lt bs) {x : Cut} (vx : x.V) : mem (either as bs) x = (mem as x || mem bs x) := by
  unfold Mt.either
  rw [run_mem vx _ _ _ (ve_mg ha.av hb.av) (mg_asc as bs ha.av hb.av ha.a hb.a), mg_I, mg_J]
  simp
/-- what does not belong -/
def noFirst (cs : List Cut) : List Cut := match cs with | c :: r => if c = first then r else first :: cs | [] => [first]
def noLast (cs : List Cut) : List Cut := if cs.getLast? = some last then cs.dropLast else cs ++ [last]
def others (cs : List Cut) : List Cut := noLast (noFirst cs)
theorem mem_app : ∀ (as bs : List Cut) (x : Cut), mem (as ++ bs) x = xor (mem as x) (mem bs x)
  | [], bs, x => by simp [mem]
  | a :: as, bs, x => by show xor _ (mem (as ++ bs) x) = xor (xor _ _) _; rw [mem_app as bs x, Bool.xor_assoc]
theorem noFirst_mem {cs : List Cut} {x : Cut} (h : x.lt first = false) : mem (noFirst cs) x = !mem cs x := by
  unfold noFirst
  split
  · rename_i c r
    split
    · rename_i e
      show mem r x = !(xor (!x.lt c) (mem r x))
      rw [e, h]; simp
    · show xor (!x.lt first) _ = _
      rw [h]; simp
  · show xor (!x.lt first) _ = _
    rw [h]; simp
theorem noLast_mem {cs : List Cut} {x : Cut} (h : x.lt last = true) : mem (noLast cs) x = mem cs x := by
  unfold noLast
  split
  · rename_i e
    have : cs = cs.dropLast ++ [last] := by
      have ne : cs ≠ [] := by intro z; rw [z] at e; cases e
      rw [List.getLast?_eq_some_getLast ne] at e
      have := List.dropLast_concat_getLast ne
      rw [Option.some.inj e] at this
      exact this.symm
    rw [this, mem_app]
    have : mem [last] x = false := by show xor (!x.lt last) false = false; rw [h]; rfl
    rw [this]
    simp
  · rw [mem_app]
    have : mem [last] x = false := by show xor (!x.lt last) false = false; rw [h]; rfl
    rw [this]
    simp
theorem mem_others {cs : List Cut} {x : Cut} (h : x.lt first = false) (h2 : x.lt last = true) : mem (others cs) x = !mem cs x := by
  unfold others
  rw [noLast_mem h2, noFirst_mem h]
theorem in_ge {c : Cut} (h : c.In) : c.lt first = false := by
  unfold Cut.lt first
  have := h.n0
  have := h.d
  simp only
  split
  · simp
  · rw [decide_eq_false]; omega
theorem in_gt {c : Cut} (h : c.In) (ne : c ≠ first) : first.lt c = true := by
  cases z : first.lt c with
  | true => rfl
  | false => exact absurd (Cut.tot h.toV first_inC.toV (in_ge h) z) ne
theorem in_lt {c : Cut} (h : c.In) (ne : c ≠ last) : c.lt last = true := by
  cases z : c.lt last with
  | true => rfl
  | false => exact absurd (Cut.tot h.toV last_in.toV z h.le) ne
structure Pre (cs : List Cut) : Prop where
  v : ∀ c ∈ cs, c.In
  a : Asc cs
theorem Pre.noFirst {cs : List Cut} (h : Pre cs) : Pre (noFirst cs) := by
  unfold Mt.noFirst
  split
  · rename_i c r
    have h2 := List.pairwise_cons.mp h.a
    split
    · exact ⟨fun e m => h.v e (List.mem_cons_of_mem _ m), h2.2⟩
    · rename_i ne
      refine ⟨fun e m => ?_, List.pairwise_cons.mpr ⟨fun e m => ?_, h.a⟩⟩
      · rcases List.mem_cons.mp m with rfl | m
        · exact first_inC
        · exact h.v e m
      · have f1 := in_gt (h.v c List.mem_cons_self) ne
        rcases List.mem_cons.mp m with rfl | m2
        · exact f1
        · exact Cut.trans first_inC.toV (h.v c List.mem_cons_self).toV (h.v e m).toV f1 (h2.1 e m2)
  · exact ⟨fun e m => by rw [List.mem_singleton.mp m]; exact first_inC, List.pairwise_singleton ..⟩
theorem getLast_last {cs : List Cut} (e : cs.getLast? = some last) : cs = cs.dropLast ++ [last] := by
  have ne : cs ≠ [] := by intro z; rw [z] at e; cases e
  rw [List.getLast?_eq_some_getLast ne] at e
  have := List.dropLast_concat_getLast ne
  rw [Option.some.inj e] at this
  exact this.symm
theorem Pre.noLast {cs : List Cut} (h : Pre cs) : Pre (noLast cs) := by
  unfold Mt.noLast
  split
  · exact ⟨fun e m => h.v e ((List.dropLast_sublist cs).subset m), List.Pairwise.sublist (List.dropLast_sublist cs) h.a⟩
  · rename_i ne
    refine ⟨fun e m => ?_, List.pairwise_append.mpr ⟨h.a, List.pairwise_singleton .., fun a ma b mb => ?_⟩⟩
    · rcases List.mem_append.mp m with m | m
      · exact h.v e m
      · rw [List.mem_singleton.mp m]; exact last_in
    · rw [List.mem_singleton.mp mb]
      refine in_lt (h.v a ma) fun z => ?_
      subst z
      -- the last one is the greatest
      have ne2 : cs ≠ [] := by intro z; rw [z] at ma; cases ma
      have l := List.dropLast_concat_getLast ne2
      rw [List.getLast?_eq_some_getLast ne2] at ne
      have asc := h.a
      rw [← l] at asc ma
      rcases List.mem_append.mp ma with m | m
      · have := (List.pairwise_append.mp asc).2.2 last m _ (List.mem_singleton.mpr rfl)
        rw [(h.v _ (List.getLast_mem ne2)).le] at this
        cases this
      · exact ne (by rw [← List.mem_singleton.mp m])
theorem odd_noFirst {cs : List Cut} : odd (noFirst cs).length = !odd cs.length := by
  unfold noFirst
  split
  · split <;> simp [odd]
  · simp [odd]
theorem odd_noLast {cs : List Cut} : odd (noLast cs).length = !odd cs.length := by
  unfold noLast
  split
  · rename_i e
    have l := getLast_last e
    have : cs.length = cs.dropLast.length + 1 := by
      have := congrArg List.length l
      rwa [List.length_append] at this
    rw [this]; simp [odd]
  · simp [odd]
theorem Lt.others {cs : List Cut} (h : Lt cs) : Lt (others cs) := by
  have p : Pre (Mt.others cs) := (Pre.noFirst ⟨h.v, h.a⟩).noLast
  exact ⟨p.v, p.a, by unfold Mt.others; rw [odd_noLast, odd_noFirst, h.e]; rfl⟩
/-- of a step whether it belongs: one is just ahead of it -/
def at' (p q : Int) : Cut := ⟨p, q, false⟩
structure Stp (p q : Int) : Prop where
  p0 : 0 ≤ p
  pq : p < q
  co : Int.gcd p q = 1
theorem Stp.In {p q : Int} (h : Stp p q) : (at' p q).In := ⟨⟨by have := h.p0; have := h.pq; show 0 < q; omega, h.co⟩, h.p0, by
  show Cut.lt last (at' p q) = false
  unfold Cut.lt last at'
  have := h.pq
  simp only
  split
  · rfl
  · rw [decide_eq_false]; omega⟩
theorem Stp.lt {p q : Int} (h : Stp p q) : (at' p q).lt last = true := by
  unfold Cut.lt last at'
  have := h.pq
  have := h.p0
  simp only
  rw [if_neg (by omega), decide_eq_true]; omega
theorem Stp.ge {p q : Int} (h : Stp p q) : (at' p q).lt first = false := in_ge h.In
end Mt
set_option Elab.async false
set_option maxRecDepth 100000
set_option maxHeartbeats 2000000
set_option linter.all false
/-! the lot of the steps that fit, where this changes at some fractions only -/
namespace Mt
/-- the next cut, if what fits changes there -/
def cstep (acc : List Cut) (e : Cut × Bool) : List Cut := if e.2 != odd acc.length then acc ++ [e.1] else acc
def ends (acc : List Cut) : List Cut := if odd acc.length = true then acc ++ [last] else acc
def lw (es : List (Cut × Bool)) : List Cut := ends (es.foldl cstep [])
theorem odd_snoc {α : Type} (l : List α) (x : α) : odd (l ++ [x]).length = !odd l.length := by rw [List.length_append]; rfl
theorem cstep_sub : ∀ (es : List (Cut × Bool)) (acc pre : List Cut), acc.Sublist pre → (es.foldl cstep acc).Sublist (pre ++ es.map (·.1))
  | [], acc, pre, h => by simpa using h
  | e :: es, acc, pre, h => by
    have k : (cstep acc e).Sublist (pre ++ [e.1]) := by
      unfold cstep
      split
      · exact h.append (List.Sublist.refl _)
      · exact h.trans (List.sublist_append_left ..)
    have ih := cstep_sub es (cstep acc e) (pre ++ [e.1]) k
    rw [List.append_assoc] at ih
    exact ih
theorem lw_lt {es : List (Cut × Bool)} (hv : ∀ e ∈ es, e.1.In) (ha : Asc (es.map (·.1) ++ [last])) : Lt (lw es) := by
  have sub := cstep_sub es [] [] (List.Sublist.refl _)
  rw [List.nil_append] at sub
  have v1 : ∀ c ∈ es.foldl cstep [], c.In := fun c m => by
    obtain ⟨e, me, rfl⟩ := List.mem_map.mp (sub.subset m)
    exact hv e me
  unfold lw ends
  split
  · rename_i ho
    refine ⟨fun c m => ?_, List.Pairwise.sublist (sub.append (List.Sublist.refl _)) ha, by rw [odd_snoc, ho]; rfl⟩
    rcases List.mem_append.mp m with m | m
    · exact v1 c m
    · rw [List.mem_singleton.mp m]; exact last_in
  · rename_i ho
    exact ⟨v1, List.Pairwise.sublist (sub.trans (List.sublist_append_left ..)) ha, by simpa using ho⟩
theorem lw_none {es : List (Cut × Bool)} (h : ∀ e ∈ es, e.2 = false) : lw es = [] := by
  have : ∀ es : List (Cut × Bool), (∀ e ∈ es, e.2 = false) → es.foldl cstep [] = [] := by
    intro es
    induction es with
    | nil => intro _; rfl
    | cons e es ih =>
      intro h
      have z : cstep [] e = [] := by unfold cstep; rw [h e List.mem_cons_self]; rfl
      show es.foldl cstep (cstep [] e) = []
      rw [z]
      exact ih fun x m => h x (List.mem_cons_of_mem _ m)
  unfold lw
  rw [this es h]; rfl
/-- lowest terms -/
def lowQ (a b : Int) : Int × Int := (a / ((Nat.gcd a.natAbs b.natAbs : Nat) : Int), b / ((Nat.gcd a.natAbs b.natAbs : Nat) : Int))
def med (p q : Int × Int) : Int × Int := lowQ (p.1 + q.1) (p.2 + q.2)
theorem lowQ_ex {a b : Int} (h : 0 < b) : ∃ g : Int, 0 < g ∧ a = (lowQ a b).1 * g ∧ b = (lowQ a b).2 * g ∧ 0 < (lowQ a b).2 ∧ Int.gcd (lowQ a b).1 (lowQ a b).2 = 1 := by
  have g0 : 0 < Nat.gcd a.natAbs b.natAbs := Nat.gcd_pos_of_pos_right _ (by omega)
  have d1 : ((Nat.gcd a.natAbs b.natAbs : Nat) : Int) ∣ a := Int.ofNat_dvd_left.mpr (Nat.gcd_dvd_left _ _)
  have d2 : ((Nat.gcd a.natAbs b.natAbs : Nat) : Int) ∣ b := Int.ofNat_dvd_left.mpr (Nat.gcd_dvd_right _ _)
  refine ⟨((Nat.gcd a.natAbs b.natAbs : Nat) : Int), by omega, (Int.ediv_mul_cancel d1).symm, (Int.ediv_mul_cancel d2).symm, Int.ediv_pos_of_pos_of_dvd h (by omega) d2, ?_⟩
  exact Int.gcd_ediv_gcd_ediv_gcd (show 0 < Int.gcd a b from g0)
/-- less -/
def Lss (p q : Int × Int) : Prop := p.1 * q.2 < q.1 * p.2
/-- a fraction from 0 to 1 -/
structure Frc (p : Int × Int) : Prop where
  n0 : 0 ≤ p.1
  le : p.1 ≤ p.2
  d0 : 0 < p.2
  co : Int.gcd p.1 p.2 = 1
/-- fractions ascending from 0 to 1 -/
structure Pts (ps : List (Int × Int)) : Prop where
  hd : ps.head? = some (0, 1)
  ls : ps.getLast? = some (1, 1)
  v : ∀ p ∈ ps, Frc p
  asc : ps.Pairwise Lss
theorem Frc.In {p : Int × Int} (h : Frc p) (hl : p.1 < p.2) (b : Bool) : (⟨p.1, p.2, b⟩ : Cut).In := by
  refine ⟨⟨h.d0, h.co⟩, h.n0, ?_⟩
  unfold Cut.lt last
  simp only
  split
  · rename_i e; omega
  · exact decide_eq_false (by omega)
theorem med_stp {p q : Int × Int} (hp : Frc p) (hq : Frc q) (l : Lss p q) : Stp (med p q).1 (med p q).2 ∧ (med p q).1.natAbs ≤ p.1.natAbs + q.1.natAbs ∧ (med p q).2.natAbs ≤ p.2.natAbs + q.2.natAbs := by
  have d0 := hp.d0; have e0 := hq.d0; have n0 := hp.n0; have m0 := hq.n0; have le := hp.le; have me := hq.le
  obtain ⟨g, g0, e1, e2, b0, co⟩ := lowQ_ex (a := p.1 + q.1) (b := p.2 + q.2) (by omega)
  have l1 : p.1 < p.2 := by
    have l' : p.1 * q.2 < q.1 * p.2 := l
    rcases Int.lt_or_eq_of_le le with h | h
    · exact h
    · rw [h] at l'
      have : q.1 * p.2 ≤ q.2 * p.2 := Int.mul_le_mul_of_nonneg_right me (by omega)
      have c : p.2 * q.2 = q.2 * p.2 := Int.mul_comm ..
      omega
  have x : (lowQ (p.1 + q.1) (p.2 + q.2)).1 = (med p q).1 := rfl
  have y : (lowQ (p.1 + q.1) (p.2 + q.2)).2 = (med p q).2 := rfl
  rw [x] at e1 co; rw [y] at e2 b0 co
  have a0 : 0 ≤ (med p q).1 := by
    rcases Int.lt_or_le (med p q).1 0 with h | h
    · have : (med p q).1 * g < 0 := Int.mul_neg_of_neg_of_pos h g0
      omega
    · exact h
  refine ⟨⟨a0, ?_, co⟩, ?_, ?_⟩
  · have : (med p q).1 * g < (med p q).2 * g := by omega
    exact Int.lt_of_mul_lt_mul_right this (by omega)
  · have : (med p q).1 * 1 ≤ (med p q).1 * g := Int.mul_le_mul_of_nonneg_left (by omega) a0
    omega
  · have : (med p q).2 * 1 ≤ (med p q).2 * g := Int.mul_le_mul_of_nonneg_left (by omega) (by omega)
    omega
/-- at each point and between it and the next one: whether steps fit there -/
def evs (f : Int → Int → Bool) : List (Int × Int) → List (Cut × Bool)
  | p :: q :: r => (⟨p.1, p.2, false⟩, f p.1 p.2) :: (⟨p.1, p.2, true⟩, f (med p q).1 (med p q).2) :: evs f (q :: r)
  | _ => []
theorem lss_lt {p q : Int × Int} (l : Lss p q) (b c : Bool) : (⟨p.1, p.2, b⟩ : Cut).lt ⟨q.1, q.2, c⟩ = true := by
  have l' : p.1 * q.2 < q.1 * p.2 := l
  unfold Cut.lt
  simp only
  rw [if_neg (fun z => by rw [z.1, z.2] at l'; omega)]
  exact decide_eq_true l'
theorem evs_all {f : Int → Int → Bool} : ∀ {ps : List (Int × Int)}, (∀ p ∈ ps, Frc p) → ps.Pairwise Lss → ps.getLast? = some (1, 1) →
    (∀ e ∈ evs f ps, e.1.In) ∧ (∀ e ∈ evs f ps, ∃ x y, Stp x y ∧ e.2 = f x y) ∧ Asc ((evs f ps).map (·.1) ++ [last]) ∧ ∀ c ∈ (evs f ps).map (·.1) ++ [last], ∃ p ∈ ps, c.n = p.1 ∧ c.d = p.2
  | [], _, _, h => nomatch h
  | [p], _, _, h => by
    have e : p = (1, 1) := Option.some.inj h
    subst e
    refine ⟨(fun e m => nomatch m), (fun e m => nomatch m), List.pairwise_singleton .., fun c m => ⟨_, List.mem_cons_self, ?_, ?_⟩⟩ <;> rw [List.mem_singleton.mp m] <;> rfl
  | p :: q :: r, hv, ha, hl => by
    have ha2 := List.pairwise_cons.mp ha
    obtain ⟨i1, i2, i3, i4⟩ := evs_all (f := f) (ps := q :: r) (fun x m => hv x (List.mem_cons_of_mem _ m)) ha2.2 (by rw [← hl]; rfl)
    have fp := hv p List.mem_cons_self
    have fq := hv q (List.mem_cons_of_mem _ List.mem_cons_self)
    have l := ha2.1 q List.mem_cons_self
    have m := (med_stp fp fq l).1
    have lt : p.1 < p.2 := by
      have l' : p.1 * q.2 < q.1 * p.2 := l
      have le := fp.le; have me := fq.le; have d0 := fp.d0
      rcases Int.lt_or_eq_of_le le with h | h
      · exact h
      · rw [h] at l'
        have : q.1 * p.2 ≤ q.2 * p.2 := Int.mul_le_mul_of_nonneg_right me (by omega)
        have c : p.2 * q.2 = q.2 * p.2 := Int.mul_comm ..
        omega
    have ahead : ∀ c ∈ (evs f (q :: r)).map (·.1) ++ [last], ∀ b, (⟨p.1, p.2, b⟩ : Cut).lt c = true := fun c mc b => by
      obtain ⟨x, mx, e1, e2⟩ := i4 c mc
      have := lss_lt (ha2.1 x mx) b c.b
      have ec : c = ⟨x.1, x.2, c.b⟩ := by cases c; simp only at e1 e2; rw [e1, e2]
      rw [ec]; exact this
    refine ⟨fun e me => ?_, fun e me => ?_, ?_, fun c mc => ?_⟩
    · rcases List.mem_cons.mp me with rfl | me
      · exact fp.In lt false
      · rcases List.mem_cons.mp me with rfl | me
        · exact fp.In lt true
        · exact i1 e me
    · rcases List.mem_cons.mp me with rfl | me
      · exact ⟨p.1, p.2, ⟨fp.n0, lt, fp.co⟩, rfl⟩
      · rcases List.mem_cons.mp me with rfl | me
        · exact ⟨_, _, m, rfl⟩
        · exact i2 e me
    · refine List.pairwise_cons.mpr ⟨fun c mc => ?_, List.pairwise_cons.mpr ⟨fun c mc => ahead c mc true, i3⟩⟩
      rcases List.mem_cons.mp mc with rfl | mc
      · unfold Cut.lt; simp
      · exact ahead c mc false
    · rcases List.mem_cons.mp mc with rfl | mc
      · exact ⟨p, List.mem_cons_self, rfl, rfl⟩
      · rcases List.mem_cons.mp mc with rfl | mc
        · exact ⟨p, List.mem_cons_self, rfl, rfl⟩
        · obtain ⟨x, mx, z⟩ := i4 c mc
          exact ⟨x, List.mem_cons_of_mem _ mx, z⟩
theorem lot_lt {f : Int → Int → Bool} {ps : List (Int × Int)} (h : Pts ps) : Lt (lw (evs f ps)) := by
  obtain ⟨a, _, b, _⟩ := evs_all (f := f) h.v h.asc h.ls
  exact lw_lt a b
theorem lot_some {f : Int → Int → Bool} {ps : List (Int × Int)} (h : Pts ps) (ne : lw (evs f ps) ≠ []) : ∃ x y, Stp x y ∧ f x y = true := by
  obtain ⟨_, a, _, _⟩ := evs_all (f := f) h.v h.asc h.ls
  by_cases z : ∀ e ∈ evs f ps, e.2 = false
  · exact absurd (lw_none z) ne
  · have ⟨e, me⟩ := Classical.not_forall.mp z
    have ⟨m, ne⟩ := Classical.not_imp.mp me
    obtain ⟨x, y, s, eq⟩ := a e m
    exact ⟨x, y, s, by rw [← eq]; simpa using ne⟩
/-- the fractions of which one of these multiples is an integer -/
def lcmA (ns : List Nat) : Nat := ns.foldl Nat.lcm 1
def tops (c : Nat) (ns : List Nat) : List Int := ns.flatMap fun k => (List.range k).map fun (j : Nat) => ((c / k : Nat) : Int) * (j : Int)
def wpts (c : Nat) (ns : List Nat) : List (Int × Int) := (sortU (0 :: (c : Int) :: tops c ns)).map fun t => lowQ t c
theorem lcm_fold : ∀ (ns : List Nat) (c : Nat), c ∣ ns.foldl Nat.lcm c ∧ (∀ k ∈ ns, k ∣ ns.foldl Nat.lcm c) ∧ ∀ m, c ∣ m → (∀ k ∈ ns, k ∣ m) → ns.foldl Nat.lcm c ∣ m
  | [], c => ⟨Nat.dvd_refl _, (fun k m => nomatch m), fun m h _ => h⟩
  | n :: ns, c => by
    obtain ⟨a, b, d⟩ := lcm_fold ns (Nat.lcm c n)
    refine ⟨Nat.dvd_trans (Nat.dvd_lcm_left _ _) a, fun k m => ?_, fun m h k => d m (Nat.lcm_dvd h (k n List.mem_cons_self)) fun q mq => k q (List.mem_cons_of_mem _ mq)⟩
    rcases List.mem_cons.mp m with rfl | m
    · exact Nat.dvd_trans (Nat.dvd_lcm_right _ _) a
    · exact b k m
theorem tops_mem {c : Nat} {ns : List Nat} (c0 : 0 < c) (hd : ∀ k ∈ ns, k ∣ c) {t : Int} (h : t ∈ tops c ns) : 0 ≤ t ∧ t < c := by
  obtain ⟨k, mk, h⟩ := List.mem_flatMap.mp h
  obtain ⟨j, mj, rfl⟩ := List.mem_map.mp h
  have lj := List.mem_range.mp mj
  have e : c / k * k = c := Nat.div_mul_cancel (hd k mk)
  refine ⟨Int.mul_nonneg (Int.natCast_nonneg _) (Int.natCast_nonneg _), ?_⟩
  have ck : 0 < c / k ∨ c / k = 0 := (Nat.eq_zero_or_pos _).symm
  rcases ck with ck | ck
  · have : c / k * j < c / k * k := Nat.mul_lt_mul_of_pos_left lj ck
    rw [e] at this
    exact_mod_cast this
  · rw [ck, Nat.zero_mul] at e
    omega
theorem lowQ_lss {a b c : Int} (c0 : 0 < c) (h : a < b) : Lss (lowQ a c) (lowQ b c) := by
  obtain ⟨g, g0, e1, e2, b0, _⟩ := lowQ_ex (a := a) c0
  obtain ⟨g', g0', e1', e2', b0', _⟩ := lowQ_ex (a := b) c0
  show (lowQ a c).1 * (lowQ b c).2 < (lowQ b c).1 * (lowQ a c).2
  have k : a * c < b * c := Int.mul_lt_mul_of_pos_right h c0
  generalize (lowQ a c).1 = x at *
  generalize (lowQ a c).2 = y at *
  generalize (lowQ b c).1 = u at *
  generalize (lowQ b c).2 = v at *
  have q1 : x * g * (v * g') < u * g' * (y * g) := by
    have : x * g * (v * g') = a * c := by rw [← e1, ← e2']
    have z : u * g' * (y * g) = b * c := by rw [← e1', ← e2]
    omega
  have q2 : x * v * (g * g') < u * y * (g * g') := by
    have : x * g * (v * g') = x * v * (g * g') := by rw [Int.mul_assoc, Int.mul_assoc, Int.mul_left_comm g]
    have z : u * g' * (y * g) = u * y * (g * g') := by rw [Int.mul_assoc, Int.mul_assoc, Int.mul_left_comm g', Int.mul_comm g' g]
    omega
  exact Int.lt_of_mul_lt_mul_right q2 (Int.le_of_lt (Int.mul_pos g0 g0'))
theorem sorted_ends {l : List Int} {c : Int} (pw : l.Pairwise (· < ·)) (h0 : 0 ∈ l) (hc : c ∈ l) (hb : ∀ t ∈ l, 0 ≤ t ∧ t ≤ c) : l.head? = some 0 ∧ l.getLast? = some c := by
  constructor
  · cases l with
    | nil => nomatch h0
    | cons a l =>
      rcases List.mem_cons.mp h0 with e | m
      · rw [← e]; rfl
      · have := (List.pairwise_cons.mp pw).1 0 m
        have := (hb a List.mem_cons_self).1
        omega
  · have ne : l ≠ [] := by intro z; rw [z] at h0; nomatch h0
    rw [List.getLast?_eq_some_getLast ne]
    congr 1
    have e := List.dropLast_concat_getLast ne
    rw [← e] at hc pw
    rcases List.mem_append.mp hc with m | m
    · have := (List.pairwise_append.mp pw).2.2 c m _ (List.mem_singleton.mpr rfl)
      have := (hb _ (List.getLast_mem ne)).2
      omega
    · exact (List.mem_singleton.mp m).symm
theorem wpts_pts {c : Nat} {ns : List Nat} (c0 : 0 < c) (hd : ∀ k ∈ ns, k ∣ c) : Pts (wpts c ns) := by
  have pw := sortU_pw (0 :: (c : Int) :: tops c ns)
  have mem : ∀ t, t ∈ sortU (0 :: (c : Int) :: tops c ns) ↔ t ∈ (0 :: (c : Int) :: tops c ns) := fun t => sortU_mem
  have hb : ∀ t ∈ sortU (0 :: (c : Int) :: tops c ns), 0 ≤ t ∧ t ≤ (c : Int) := fun t m => by
    rcases List.mem_cons.mp ((mem t).mp m) with rfl | m
    · omega
    · rcases List.mem_cons.mp m with rfl | m
      · omega
      · have := tops_mem c0 hd m; omega
  obtain ⟨h1, h2⟩ := sorted_ends pw ((mem 0).mpr List.mem_cons_self) ((mem c).mpr (List.mem_cons_of_mem _ List.mem_cons_self)) hb
  have ci : 0 < (c : Int) := by omega
  unfold wpts
  refine ⟨?_, ?_, fun p m => ?_, ?_⟩
  · rw [List.head?_map, h1]
    show some (lowQ 0 c) = _
    unfold lowQ
    rw [show Nat.gcd (0 : Int).natAbs (c : Int).natAbs = c by simp]
    rw [Int.zero_ediv, Int.ediv_self (by omega)]
  · rw [List.getLast?_map, h2]
    show some (lowQ c c) = _
    unfold lowQ
    rw [show Nat.gcd (c : Int).natAbs (c : Int).natAbs = c by simp]
    rw [Int.ediv_self (by omega)]
  · obtain ⟨t, mt, rfl⟩ := List.mem_map.mp m
    obtain ⟨t0, t1⟩ := hb t mt
    obtain ⟨g, g0, e1, e2, b0, co⟩ := lowQ_ex (a := t) ci
    refine ⟨?_, ?_, b0, co⟩
    · rcases Int.lt_or_le (lowQ t c).1 0 with h | h
      · have := Int.mul_neg_of_neg_of_pos h g0; omega
      · exact h
    · have : (lowQ t c).1 * g ≤ (lowQ t c).2 * g := by omega
      exact Int.le_of_mul_le_mul_right this g0
  · rw [List.pairwise_map]
    exact pw.imp fun h => lowQ_lss ci h
end Mt
set_option Elab.async false
set_option linter.all false
set_option maxRecDepth 100000
set_option maxHeartbeats 4000000
namespace Gn
open PySem PySem.Spec PyProof.Rows L2
/-! keywords in the contrary order, all of them -/
def kwR {α : Type} : List α → List α → List α
  | [], ws => ws.reverse
  | _, _ => []
theorem kbR {K : PySem.W.Frag} {fd : FuncData} {ps ks : List Str} (hk : ks = ps.reverse) (h0 : 0 < ps.length) (h : ∀ ws : List Value, ws.length = ps.length → bindArgs fd ⟨[], ks.zip ws⟩ = pure (ps.zip ws.reverse)) : KBinds K fd ps ks kwR kwR :=
  ⟨fun s us ws _ hl => match us, hl with
    | [], hl => .of_eq (h ws (by rw [← hl]; show ws.length = ws.reverse.length; rw [List.length_reverse]))
    | _ :: _, hl => absurd hl (by show ¬ 0 = ps.length; omega), fun {vs us zs ws} r rz => by
    cases r with
    | nil => exact Vals.reverse rz
    | cons _ _ => exact .nil⟩
theorem kwOfR {K : PySem.W.Frag} {x qual : Str} {st : Stmt} {f : Addr} {fd : FuncData} {ps ks : List Str} (F : Fun K x qual st f fd) (hk : ks = ps.reverse) (h0 : 0 < ps.length)
    (h : ∀ (kV doc pm : Value) (an : Option Addr) (cdv ct : Value) (ws : List Value), ws.length = ps.length → bindArgs (PySem.W.fnOf x qual (defArgs st) (defBody st) (defScope st) .none kV doc pm an cdv ct) ⟨[], ks.zip ws⟩ = pure (ps.zip ws.reverse)) : KBinds K fd ps ks kwR kwR := by
  obtain ⟨oc, od, kV, doc, pm, an, cdv, ct, osl, rfl, lk, hcd⟩ := F.ex
  exact kbR hk h0 fun ws hl => h kV doc pm an cdv ct ws hl
/-- divmod by a positive divisor of any size -/
theorem call_divmodW {X : Cx} : CallR X (.builtin "divmod") (fun xs H Q => ∃ i j, xs = [.int i, .int j] ∧ CDivW i j ∧ ∀ p, H p = none → Q (.ref p) (upd H p (.tup [.int (i / j), .int (i % j)]))) := by
  intro pins s σ H xs us Q I r h
  obtain ⟨i, j, rfl, ⟨h1, h2⟩, q⟩ := h
  obtain ⟨u, w', rfl, ⟨t, rfl⟩, ⟨t', rfl⟩⟩ := vals2 r
  refine divmod_int (by omega) ?_ (.inl (PyProof.noPylong_of_log2 h2))
  rw [Int.fdiv_eq_ediv_of_nonneg i (by omega), Int.fmod_eq_emod_of_nonneg i (by omega)]
  have hn : H s.heap.objs.size = none := I.hok.fresh (Nat.le_refl _)
  refine ⟨.ref s.heap.objs.size, _, ?_, rfl, q _ hn⟩
  refine I.laid (fun b o e => Heap.get?_push_of_some _ e) (Nat.le_refl _) ⟨by simp only [List.length_cons, List.length_nil]; rw [sizeLine_eq]; decide, [.int (i / j) s.toks, .int (i % j) (s.toks + 1)], .cons ⟨_, rfl⟩ (.cons ⟨_, rfl⟩ .nil), ?_⟩
  exact ⟨_, Heap.get?_push_size s.heap rfl, rfl, 0, rfl⟩
end Gn
namespace Gn
open PySem PySem.Spec PyProof.Rows L2
theorem pair_eqv {a b c d : Int} : PyData.eqv (.tuple [.int a, .int b]) (.tuple [.int c, .int d]) = decide (a = c ∧ b = d) := by
  rw [Bool.eq_iff_iff]
  simp [PyData.eqv, PyData.eqvAll]
/-- either branch, what holds of either -/
theorem tIf_anyG {tt : TT} {ta tb : TE} {σ : L2.St} {H : Hp} {Q : VK} (Φ : V → Hp → Prop) (c : Bool) (ht : ∀ R : Bool → Hp → Prop, R c H → tt σ H R)
    (h1 : c = true → ∀ R : VK, (∀ v H', Φ v H' → R v H') → ta σ H R) (h2 : c = false → ∀ R : VK, (∀ v H', Φ v H' → R v H') → tb σ H R) (k : ∀ v H', Φ v H' → Q v H') : tIf tt ta tb σ H Q := by
  refine ht _ ?_
  cases c with
  | true => exact iteT (h1 rfl Q k)
  | false => exact iteF (h2 rfl Q k)
end Gn
namespace Gn
open PySem PySem.Spec PyProof.Rows L2
/-- either branch, what holds of either; all may make new objects -/
theorem tIf_same {tt : TT} {ta tb : TE} {σ : L2.St} {H : Hp} {Q : VK} (Φ : V → Hp → Prop) (c : Bool) (ht : ∀ R : Bool → Hp → Prop, (∀ H', Same H H' → R c H') → tt σ H R)
    (h1 : c = true → ∀ H', Same H H' → ∀ R : VK, (∀ v H2, Φ v H2 → R v H2) → ta σ H' R) (h2 : c = false → ∀ H', Same H H' → ∀ R : VK, (∀ v H2, Φ v H2 → R v H2) → tb σ H' R) (k : ∀ v H', Φ v H' → Q v H') : tIf tt ta tb σ H Q := by
  refine ht _ fun H' s => ?_
  cases c with
  | true => exact iteT (h1 rfl H' s Q k)
  | false => exact iteF (h2 rfl H' s Q k)
end Gn
set_option Elab.async false
set_option linter.all false
set_option maxRecDepth 100000
set_option maxHeartbeats 4000000
namespace Gn
open PySem PySem.Spec PyProof.Rows L2
/-! set(l) of up to a thousand ints, and how many unlike ones there are -/
def rSetN (K : PySem.W.Frag) (w : World) : List V → Hp → VK → Prop := fun xs H Q => ∃ (l : Addr) (ns : List Int), xs = [.ref l] ∧ SqL K H l (ns.map V.int) ∧ ns.length ≤ 1000 ∧ ∀ p (ks : List Int), H p = none → ks.Nodup → ks.length ≤ ns.length → (∀ k, k ∈ ks ↔ k ∈ ns) → Q (.ref p) (upd H p (SetO w p (fun j => decide (j ∈ ns)) ks.length))
theorem cr_setN {X : Cx} (hc : X.calm = true) : CallR X (.type "set") (rSetN X.K X.w) := by
  intro pins s σ H xs us Q I r h
  obtain ⟨l, ns, rfl, hl, hf, q⟩ := h
  rw [Vals.ref1 r]
  obtain ⟨its, rv, pl, hz⟩ := I.list hl
  refine set_of_ints ns (I.ok.hd hc) pl.isList (by simpa using intsAre_of rv) (by unfold scanBound; omega) fun s2 hs => ?_
  obtain ⟨h', tk, c, rfl, hS, hcn, k⟩ := hs
  obtain ⟨o, es, ep, t, ho, hx, hd, g, nd, hm, hb, hft, hn, hr⟩ := id hS
  have len : (es.toList.map keyOf).length = c := by rw [List.length_map, Array.length_toList]; exact hn
  have z := q s.heap.objs.size (es.toList.map keyOf) (I.hok.fresh (Nat.le_refl _)) nd (by rw [len]; exact hcn) fun j => by rw [← hm j, decide_eq_true_eq]
  rw [len] at z
  exact ⟨.ref s.heap.objs.size, _, I.laid (t' := tk) k (Nat.le_refl _) (setO_new hS), rfl, z⟩
end Gn
set_option Elab.async false
set_option linter.all false
set_option maxRecDepth 100000
set_option maxHeartbeats 4000000
/-! for i, x in enumerate(a tuple); xs.extend(a tuple) -/
namespace Gn
open PySem PySem.Spec PyProof.Rows L2
abbrev enNew (a : Addr) : Obj := { cls := .type "enumerate", data := .fields #[.none, .bool false, .ref a, rawInt 0, .none, .none] }
theorem enum_meets1 {v : Value} {o : Obj} {F : Heap → Prop} (B : Begins v o F) : Meets (Builtin.«enumerate.__new__» ⟨[.type "enumerate", v], []⟩) (fun _ R s => F s.heap ∧
    R (.ok (.ret (.ref (s.heap.push o).objs.size))) { s with heap := (s.heap.push o).push (enNew s.heap.objs.size) }) := by
  refine .of_wp fun P w A R s h => ?_
  obtain ⟨h0, gs, dr, tk, sys⟩ := s
  have isSub := sub_enumerate
  have it : ∀ {A' : Around} {E Q : Value → Shared → Prop}, Q (.ref h0.objs.size) ⟨h0.push o, gs, dr, tk, sys⟩ → wpAny (model P w) A' (pyIter v) Q E ⟨h0, gs, dr, tk, sys⟩ := fun k => B.iter P w _ _ ⟨h0, gs, dr, tk, sys⟩ _ h.1 k
  replace h := h.2
  wp_walk using it
  refine wpAny_stack_any fun frames => wpAny_pure ?_
  split
  · rename_i cl _ _ _ _ _
    cases (cl == Value.type "enumerate") <;> (wp_walk using it; exact ⟨_, rfl, h⟩)
  · wp_walk using it
    exact ⟨_, rfl, h⟩
section
variable {P : Program} {w : World} {A : Around} {E : Value → Shared → Prop} {s : Shared}
theorem enum_made {v : Value} {o : Obj} {Fh : Heap → Prop} {Q : Value → Shared → Prop} (B : Begins v o Fh) (hF : Fh s.heap)
    (k : ∀ h', IsEnum h' (s.heap.objs.size + 1) s.heap.objs.size 0 .none → h'.get? s.heap.objs.size = some o → (∀ b u, s.heap.get? b = some u → h'.get? b = some u) → Q (.ref (s.heap.objs.size + 1)) { s with heap := h' }) :
    wpAny (model P w) A (call (.type "enumerate") [v]) Q E s := by
  refine callType_new PySem.F.called_enumerate (by decide) (PySem.F.typeCall_enumerate_1 _) (PySem.F.newCall_enumerate_1 _) (fun obj => PySem.F.args_object_init_2 obj _) PySem.F.entry_enumerate_new (enum_meets1 B) ⟨hF, ?_⟩
  have sz : (s.heap.push o).objs.size = s.heap.objs.size + 1 := Heap.size_push ..
  have at1 := Heap.get?_push_size (s.heap.push o) (o := enNew s.heap.objs.size) rfl
  rw [sz] at at1
  show _ ∧ _
  rw [sz]
  exact ⟨⟨_, at1, rfl⟩, k _ at1 (Heap.get?_push_of_some _ (Heap.get?_push_size _ B.free)) fun b u e => Heap.get?_push_of_some _ (Heap.get?_push_of_some _ e)⟩
end
/-- the tuple's items in new pairs with their places -/
def ItE (K : PySem.W.Frag) (a : Addr) : It :=
  ⟨fun i H => ∃ xs x, SqT K H a xs ∧ xs[i]? = some x, fun i H v G => ∃ r x, v = .ref r ∧ H r = none ∧ G = upd H r (.tup [.int (i : Nat), x]) ∧ ∀ xs, SqT K H a xs → xs[i]? = some x, fun i H => ∃ xs : List V, SqT K H a xs ∧ xs.length ≤ i⟩
theorem turn_en {P : Program} {w : World} {K : PySem.W.Frag} {es : List Expr} {kk : Nat} {tp : Pos} (a e it : Addr) (hea : e ≠ a) (hai : a ≠ it) :
    Turn P w K (.Tuple es kk tp) (ItE K a) [e, it] e (fun i h => (∃ old, IsEnum h e it ((i : Nat) : Int) old) ∧ h.IsTupleIter it a i ∧ e ≠ it) where
  mem := List.mem_cons_self
  obj := fun i h st b hb => by
    obtain ⟨⟨old, he⟩, ⟨o, ho, _, hd⟩, _⟩ := st
    simp only [List.mem_cons, List.not_mem_nil, or_false] at hb
    rcases hb with rfl | rfl
    · exact ⟨_, he, fun v z => nomatch z⟩
    · exact ⟨o, ho, fun v z => by rw [hd] at z; cases z⟩
  keep := fun i h h' st k => by
    obtain ⟨⟨old, he⟩, hi, ne⟩ := st
    exact ⟨⟨old, k e List.mem_cons_self _ he⟩, hi.at fun o z => k it (List.mem_cons_of_mem _ List.mem_cons_self) o z, ne⟩
  item := by
    intro X eP ew eK hc i pins s σ H E I off st go
    subst eP ew eK
    obtain ⟨⟨old, he⟩, hi, ne⟩ := st
    obtain ⟨xs, x, hs, hx⟩ := go
    obtain ⟨its, rv, tp, hz⟩ := I.tuple hs
    obtain ⟨u, hu, ru⟩ := rv.get hx
    have elt : e < s.heap.objs.size := Heap.lt_size he
    have ilt : it < s.heap.objs.size := by obtain ⟨_, z, _⟩ := hi; exact Heap.lt_size z
    have lt : i < its.toArray.size := by rw [List.size_toArray]; exact (List.getElem?_eq_some_iff.mp hu).1
    have dr : Draws X.prog X.w X.A.in1 it [it, a] its.toArray.size (fun i v => its.toArray[i]? = some v) (fun i h => h.IsTupleIter it a i ∧ h.IsTuple a its.toArray) := Draws.tuple (show X.A.in1.handled = none from I.ok.hd hc) it a hai its.toArray
    refine wpAny_pyNext_enum_itemD dr he ⟨hi, tp⟩ lt ne (by simp only [List.mem_cons, List.not_mem_nil, or_false, not_or]; exact ⟨ne, hea⟩) fun y h1 tk hy out st1 new sz k => ?_
    have ey : y = u := by
      have z : its.toArray[i]? = some u := by simpa using hu
      rw [z] at hy
      exact (Option.some.inj hy).symm
    subst ey
    refine ⟨_, rfl, wpAny_letOwnedTupleGo_enum (s := { s with heap := h1, toks := tk + 1 }) out fun h2 he2 sb => ?_⟩
    have new2 : h2.get? s.heap.objs.size = some { cls := .type "tuple", data := .seq #[.int i tk, y] } := (sb.2 _ (Nat.ne_of_gt elt)).trans new
    have ok : ObjOk X.prog X.w (upd H s.heap.objs.size (.tup [.int (i : Nat), x])) h2 s.heap.objs.size (.tup [.int (i : Nat), x]) :=
      ⟨by show 2 ≤ sizeLine; decide, [.int i tk, y], .cons ⟨_, rfl⟩ (.cons ru .nil), ⟨_, new2, rfl, _, rfl⟩⟩
    have I2 : Inv X pins σ (upd H s.heap.objs.size (.tup [.int (i : Nat), x])) { s with heap := h2, toks := tk + 1 } :=
      I.turnedNew (ch := [e, it]) (fun b ob hb z => (sb.2 b (fun q => hb (by simp [q]))).trans (k b ob (fun q => hb (by simp [q])) (fun q => hb (by simp [q])) z)) off (Nat.le_refl _) ok
    refine ⟨.ref s.heap.objs.size, _, I2, rfl, ⟨_, x, rfl, I.hok.fresh (Nat.le_refl _), rfl, fun ys hy => by rw [I.tuple_inj hy hs]; exact hx⟩, ⟨⟨y, ?_⟩, st1.1.at fun o z => (sb.2 it (Ne.symm ne)).trans z, ne⟩, fun b hb => ?_⟩
    · rw [show ((i + 1 : Nat) : Int) = (i : Int) + 1 by omega]
      exact he2
    · have lt : b < s.heap.objs.size := by
        simp only [List.mem_cons, List.not_mem_nil, or_false] at hb
        rcases hb with rfl | rfl <;> assumption
      rw [upd_ne (Nat.ne_of_lt lt)]
      exact (off b hb).1
  done := by
    intro X eP ew eK hc i pins s σ H E I off st stop
    subst eP ew eK
    obtain ⟨⟨old, he⟩, hi, ne⟩ := st
    obtain ⟨xs, hs, hx⟩ := stop
    obtain ⟨its, rv, tp, hz⟩ := I.tuple hs
    obtain ⟨f0, f1, f2, f3, f4, f5⟩ := off it (List.mem_cons_of_mem _ List.mem_cons_self)
    have ln := rv.length
    have hT : s.TypeIs (.ref e) "enumerate" := ⟨_, he, rfl⟩
    unfold pyNext
    refine wpAny_bind (wpAny_attempt (wpAny_callSpecial?_slot (name := Str.ofString "__next__") hT PySem.F.slot_enumerate_next (wpAny_call_entry PySem.F.slot_enumerate_next hT PySem.F.entry_enumerate_next ?_ (PySem.F.args_enumerate_next_1 _))))
    show wpAny _ _ (field (.ref e) 2 >>= _) _ _ _
    refine wpAny_bind (wpAny_field he rfl (x := .ref it) rfl (wpAny_bind (PySem.wpAny_nextOf_tuple_end (I.ok.hd hc) hi tp (by simp; omega) fun h' x eb hx' => ?_)))
    obtain ⟨o, ho, hcl⟩ := hx'
    exact wpAny_bind (wpAny_isInstance (T := "StopIteration") (b := true) ⟨o, ho, hcl⟩ isSubtype_stop (wpAny_pure ⟨rfl, I.turned (t' := s.toks) (fun b ob hb z => eb b ob hb z) f0 f1 f3 f4 f5⟩))
  self := fun A i s Q E st h => by
    obtain ⟨⟨_, he⟩, _⟩ := st
    exact wpAny_pyIter_enum he h
def iEnumT (K : PySem.W.Frag) (ta : TA) : TI := fun σ H R => ta σ H fun vs G => ∃ a xs, vs = [.ref a] ∧ SqT K G a xs ∧ R (ItE K a) G
theorem pi_enumT {X : Cx} {e : Expr} {ta : TA} {p pos tp : Pos} {es : List Expr} {kk : Nat} (hg : Gl X "enumerate") (hm : X.mg "enumerate" = none) (ha : PA X [e] ta) (hs : starEach [e] X.env = [(false, eval e X.env)] := by rfl) :
    PI X (.Tuple es kk tp) (.Call (.Name "enumerate" p) [e] [] pos) (iEnumT X.K ta) := by
  constructor
  intro pins s σ H R I h
  refine Call_ (ld_blt I hg hm boot_enumerate (PyProof.Rows.callWith_type1 (thn (ha.run pos pins s σ H _ I h) fun us s1 ⟨vs, H1, I1, r1, q1⟩ => ?_) hs rfl))
  obtain ⟨a, xs, rfl, hq, q⟩ := q1
  rw [Vals.ref1 r1]
  obtain ⟨its, rv, tp, hz⟩ := I1.tuple hq
  have alt : a < s1.heap.objs.size := by obtain ⟨o, z, _⟩ := tp; exact Heap.lt_size z
  refine enum_made (begins_tuple a its.toArray) tp fun h' he hit k => wpAny_pyIter_enum he ?_
  have I2 : Inv X pins σ H1 { s1 with heap := h' } := I1.kept (t' := s1.toks) k
  refine ⟨s1.heap.objs.size + 1, [s1.heap.objs.size + 1, s1.heap.objs.size], _, _, H1, rfl, I2, turn_en a (s1.heap.objs.size + 1) s1.heap.objs.size (Nat.ne_of_gt (Nat.lt_succ_of_lt alt)) (Nat.ne_of_lt alt), ⟨⟨.none, he⟩, ⟨_, hit, rfl, rfl⟩, Nat.succ_ne_self _⟩, fun b hb => ?_, q⟩
  have le : s1.heap.objs.size ≤ b := by
    simp only [List.mem_cons, List.not_mem_nil, or_false] at hb
    rcases hb with rfl | rfl
    · exact Nat.le_succ _
    · exact Nat.le_refl _
  exact I1.fpOk le (I1.hok.fresh le)
/-- the loop over it -/
theorem for_en {K : PySem.W.Frag} {a : Addr} {xs : List V} {g : TG} {tb : TS} {D : Ends} {σ : L2.St} {H : Hp} (Pv : Nat → L2.St → Hp → Prop) (h0 : Pv 0 σ H) (hq : ∀ i σ H, Pv i σ H → SqT K H a xs)
    (hs : ∀ (i : Nat) (x : V) (r : Addr) (σ : L2.St) (H : Hp), xs[i]? = some x → Pv i σ H → H r = none → g (.ref r) σ (upd H r (.tup [.int (i : Nat), x])) fun σ2 H2 => tb { D with nx := Pv (i + 1), ct := Pv (i + 1), bk := D.nx } σ2 H2) (hd : ∀ σ H, Pv xs.length σ H → D.nx σ H) :
    ∃ W : Nat → Nat → L2.St → Hp → Prop, (∃ m, W 0 m σ H) ∧ ∀ i m σ H, W i m σ H →
      ((ItE K a).stop i H ∧ D.nx σ H) ∨ ((ItE K a).go i H ∧ ∃ N : L2.St → Hp → Prop, (∀ σ' H', N σ' H' → ∃ m', m' < m ∧ W (i + 1) m' σ' H') ∧ ∀ v H', (ItE K a).yld i H v H' → g v σ H' fun σ2 H2 => tb { D with nx := N, ct := N, bk := D.nx } σ2 H2) := by
  refine ⟨fun i m σ H => m = xs.length - i ∧ i ≤ xs.length ∧ Pv i σ H, ⟨_, rfl, Nat.zero_le _, h0⟩, ?_⟩
  rintro i m σ H ⟨rfl, hi, p⟩
  have qx := hq i σ H p
  by_cases hlt : i < xs.length
  · have hx : xs[i]? = some xs[i] := List.getElem?_eq_getElem hlt
    refine .inr ⟨⟨xs, _, qx, hx⟩, Pv (i + 1), fun σ' H' p' => ⟨xs.length - (i + 1), by omega, rfl, hlt, p'⟩, fun v H' y => ?_⟩
    obtain ⟨r, x, rfl, hr, rfl, f1⟩ := y
    exact hs i x r σ H (f1 xs qx) p hr
  · have e : i = xs.length := by omega
    subst e
    exact .inl ⟨⟨xs, qx, Nat.le_refl _⟩, hd σ H p⟩
/-- xs.extend(t) -/
theorem ext_meets (l : Addr) (items : Array Value) (n : Nat) (b : Addr) (jt : Array Value) (n2 : Nat) (dct : Option Addr) (sl : Array (Option Value)) (hs0 : ¬(!items.isEmpty && Builtin.List.listTooLong (items.size + jt.size)) = true) (hs1 : items.size ≤ sizeLine) (hs2 : items.size + jt.size ≤ sizeLine + 1) :
    Meets (Builtin.«list.extend» ⟨[.ref l, .ref b], []⟩) (fun _ R s => s.heap.get? l = some { cls := .type "list", data := .seq items n } ∧ s.heap.get? b = some { cls := .type "tuple", dict := dct, data := .seq jt n2, slots := sl } ∧
      R (.ok (.ret Value.none)) { s with heap := s.heap.update l (Obj.mapSeq fun x => x ++ jt), toks := s.toks }) := by
  refine .of_wp fun P w A R s h => ?_
  obtain ⟨hp, g, d, tk, os⟩ := s
  obtain ⟨hl, hb, k⟩ := h
  have f1 := AutoSeq1.sub_tuple_tuple
  have f2 := AutoSeq1.sub_list_list
  have f3 := AutoSeq1.sub_tuple_list
  have f4 := AutoSeq1.sub_list_tuple
  have z : (items ++ jt).size ≤ sizeLine + 1 := by rw [Array.size_append]; exact hs2
  wp_walk using (wpAny_updateSeq hl rfl (hz := hs1) (_hz' := z)), AutoSeq1.wpAny_loadPart' hl, AutoSeq1.wpAny_loadPart' hb
  exact ⟨_, rfl, k⟩
def rExtT (K : PySem.W.Frag) : V → List V → Hp → VK → Prop := fun x vs H Q => ∃ l b xs zs, x = .ref l ∧ vs = [.ref b] ∧ H l = some (.lst xs) ∧ SqT K H b zs ∧ xs.length + zs.length ≤ sizeLine ∧ Q .non (upd H l (.lst (xs ++ zs)))
theorem mt_extT {X : Cx} : MtM X "list.extend" (rExtT X.K) := by
  intro pins s σ H x vs v us Q I rx rv h
  obtain ⟨l, b, xs, zs, rfl, rfl, hl, hb, hz, q⟩ := h
  cases rx
  obtain ⟨u, rfl, ru⟩ := rv.one
  cases ru
  obtain ⟨z, its, n, r, len, e⟩ := I.lstM hl
  obtain ⟨jts, rj, tp, _⟩ := I.tuple hb
  obtain ⟨⟨oc, od, odt, osl⟩, e2, ec, n2, ed⟩ := tp
  obtain rfl : oc = .type "tuple" := ec
  obtain rfl : odt = .seq jts.toArray n2 := ed
  have lj := rj.length
  have sz : its.toArray.size + jts.toArray.size ≤ sizeLine := by rw [List.size_toArray, List.size_toArray]; omega
  have long : ¬ (!its.toArray.isEmpty && Builtin.List.listTooLong (its.toArray.size + jts.toArray.size)) = true := by
    rw [notLongL sz, Bool.and_false]
    exact Bool.false_ne_true
  refine call_meets PySem.F.slot_list_extend ⟨_, e, rfl⟩ PySem.F.entry_list_extend (PySem.F.args_list_extend_2 _ _) (ext_meets l its.toArray n b jts.toArray n2 od osl long (by rw [List.size_toArray]; omega) (by omega)) ⟨e, e2, ?_⟩
  refine ⟨.non, _, I.lset (its' := its ++ jts) hl e (by simp) (r.append rj) ?_, rfl, q⟩
  rw [List.length_append]
  omega
end Gn
set_option Elab.async false
set_option linter.all false
set_option maxRecDepth 100000
set_option maxHeartbeats 4000000
/-! xs[::2], xs[1::2] of a list; math.lcm -/
namespace Gn
open PySem PySem.Spec PyProof.Rows L2
/-- each second one -/
def evens {α : Type} : List α → List α
  | [] => []
  | [a] => [a]
  | a :: _ :: r => a :: evens r
theorem evens_map {α β : Type} (f : α → β) : ∀ l : List α, evens (l.map f) = (evens l).map f
  | [] => rfl
  | [_] => rfl
  | a :: b :: r => congrArg (f a :: ·) (evens_map f r)
theorem evens_pick {α : Type} : ∀ l : List α, ((List.range ((l.length + 1) / 2)).map fun (k : Nat) => (0 + 2 * (k : Int)).toNat).filterMap (fun i => l[i]?) = evens l
  | [] => by simp [evens]
  | [a] => by simp [evens]
  | a :: b :: r => by
    have ih := evens_pick r
    have e : (r.length + 1 + 1 + 1) / 2 = (r.length + 1) / 2 + 1 := by omega
    show ((List.range ((r.length + 1 + 1 + 1) / 2)).map _).filterMap _ = a :: evens r
    rw [e, List.range_succ_eq_map, List.map_cons, List.map_map]
    show a :: List.filterMap _ (List.map _ _) = _
    congr 1
    rw [← ih, List.filterMap_map, List.filterMap_map]
    refine congrArg (fun f => List.filterMap f _) (funext fun k => ?_)
    show (a :: b :: r)[(0 + 2 * ((k + 1 : Nat) : Int)).toNat]? = r[(0 + 2 * (k : Int)).toNat]?
    rw [show (0 + 2 * ((k + 1 : Nat) : Int)).toNat = (0 + 2 * (k : Int)).toNat + 1 + 1 by omega]
    rfl
theorem evens_len {α : Type} : ∀ l : List α, (evens l).length ≤ l.length
  | [] => Nat.le_refl _
  | [_] => Nat.le_refl _
  | a :: b :: r => by have := evens_len r; show (evens r).length + 1 ≤ r.length + 1 + 1; omega
theorem pick_0 (xs : Array Value) : slicePick xs none none (some 2) = (evens xs.toList).toArray := by
  unfold slicePick
  have e : sliceBounds none none (some 2) xs.size = (0, (xs.size : Int), 2) := rfl
  rw [e]
  congr 1
  rw [← evens_pick]
  show List.filterMap _ (List.map _ (List.range (if (0 : Int) < (xs.size : Int) then ((xs.size : Int) - 0 + 2 - 1) / 2 else 0).toNat)) = _
  have c : (if (0 : Int) < (xs.size : Int) then ((xs.size : Int) - 0 + 2 - 1) / 2 else 0).toNat = (xs.toList.length + 1) / 2 := by
    rw [Array.length_toList]; split <;> omega
  rw [c]
  refine congrArg (fun f => List.filterMap f _) (funext fun i => ?_)
  exact (Array.getElem?_toList).symm
theorem pick_1 (xs : Array Value) (hx : 1 ≤ xs.size) : slicePick xs (some 1) none (some 2) = (evens (xs.toList.drop 1)).toArray := by
  unfold slicePick
  have e : sliceBounds (some 1) none (some 2) xs.size = (1, (xs.size : Int), 2) := by
    show ((if (2 : Int) > 0 then max 0 (min (if (1 : Int) < 0 then 1 + (xs.size : Int) else 1) (xs.size : Int)) else _), _, _) = _
    rw [if_pos (by decide), if_neg (by decide)]
    have : max 0 (min 1 (xs.size : Int)) = 1 := by omega
    rw [this]; rfl
  rw [e]
  congr 1
  rw [← evens_pick]
  show List.filterMap _ (List.map _ (List.range (if (1 : Int) < (xs.size : Int) then ((xs.size : Int) - 1 + 2 - 1) / 2 else 0).toNat)) = _
  have c : (if (1 : Int) < (xs.size : Int) then ((xs.size : Int) - 1 + 2 - 1) / 2 else 0).toNat = ((xs.toList.drop 1).length + 1) / 2 := by
    rw [List.length_drop, Array.length_toList]; split <;> omega
  rw [c, List.filterMap_map, List.filterMap_map]
  refine congrArg (fun f => List.filterMap f _) (funext fun k => ?_)
  show xs[(1 + 2 * (k : Int)).toNat]? = (xs.toList.drop 1)[(0 + 2 * (k : Int)).toNat]?
  rw [List.getElem?_drop, Array.getElem?_toList]
  congr 1
  omega
theorem pick_1e (xs : Array Value) (hx : xs.size = 0) : slicePick xs (some 1) none (some 2) = (evens (xs.toList.drop 1)).toArray := by
  have e : xs = #[] := Array.eq_empty_of_size_eq_zero hx
  subst e; rfl
section
variable {X : Cx}
theorem vals_evens : ∀ {xs : List V} {us : List Value}, Vals xs us → Vals (evens xs) (evens us)
  | [], [], _ => .nil
  | [_], [_], h => h
  | _ :: _ :: _, _ :: _ :: _, .cons a (.cons _ c) => .cons a (vals_evens c)
  | [], _ :: _, h => nomatch h
  | _ :: _, [], h => nomatch h
  | [_], _ :: _ :: _, .cons _ h => nomatch h
  | _ :: _ :: _, [_], .cons _ h => nomatch h
def tEv (K : PySem.W.Frag) (off : Nat) (te : TE) : TE := fun σ H Q => te σ H fun x H1 => ∃ a xs, x = .ref a ∧ SqL K H1 a xs ∧ ∀ p, H1 p = none → Q (.ref p) (upd H1 p (.lst (evens (xs.drop off))))
theorem ev_core {lo : Option Expr} {tl : TO} {l : Option Int} (hl : PO X lo tl) {e : Expr} {te : TE} {k1 : Nat} {p1 p3 pos : Pos} (he : PE X e te) (hw : ∀ σ H (R : Option Int → Hp → Prop), R l H → tl σ H R) (off : Nat) (pk : ∀ xs : Array Value, slicePick xs l none (some 2) = (evens (xs.toList.drop off)).toArray) :
    PE X (.Subscript e (.Slice lo none (some (.Constant (.int 2) k1 p1)) p3) pos) (tEv X.K off te) := by
  refine ⟨fun pins s σ H Q I h => ?_⟩
  refine Subscript_ (thn (he.run pins s σ H _ I h) fun v s1 ⟨x, H1, I1, r1, q1⟩ => ?_)
  obtain ⟨a, xs, ex, hx, q⟩ := q1
  subst ex
  cases r1
  have hst : PO X (some (.Constant (.int 2) k1 p1)) (tPart (tC (.int 2))) := po_some pe_int
  refine wpAny_Slice (thn (hl.run pins s1 σ H1 (fun o H2 => o = l ∧ H2 = H1) I1 (hw _ _ _ ⟨rfl, rfl⟩)) fun vl s2 ⟨l', H2, I2, pl, el, e2⟩ => ?_)
  subst el e2
  refine thn (po_none.run pins s2 σ H2 (fun o H3 => o = none ∧ H3 = H2) I2 ⟨rfl, rfl⟩) fun vu s3 ⟨u, H3, I3, pu, eu, e3⟩ => ?_
  subst eu e3
  refine thn (hst.run pins s3 σ H3 (fun o H4 => o = some 2 ∧ H4 = H3) I3 ⟨2, rfl, rfl, rfl⟩) fun vs s4 ⟨o, H4, I4, ps, eo, e4⟩ => ?_
  subst eo e4
  have I5 : Inv X pins σ H4 { s4 with heap := s4.heap.push { cls := .type "slice", data := .fields #[vl, vu, vs] } } := I4.kept (t' := s4.toks) fun b ob q => Heap.get?_push_of_some _ q
  obtain ⟨its, r, ht, hz⟩ := I5.list hx
  have hlen := r.length
  show wpAny (model X.prog X.w) X.A (subscriptTail e (.Slice lo none (some (.Constant (.int 2) k1 p1)) p3) (.ref a) (.ref s4.heap.objs.size)) (EP X pins σ Q) X.xe { s4 with heap := s4.heap.push { cls := .type "slice", data := .fields #[vl, vu, vs] } }
  refine tail_any (ops := [.ref a, .ref s4.heap.objs.size]) ht.isList.typeIs (slot_list_getitem.lookup) ?_ (by with_unfolding_all rfl)
  refine wpAny_getItem_list_slice ht.isList (Heap.IsSliceOf.new _ vl vu vs) pl pu ps (by simp) ?_ (by rw [List.size_toArray]; omega)
  rw [pk]
  refine ⟨.ref _, _, I5.laid (t' := s4.toks) (o := .lst (evens (xs.drop off))) (fun b ob q => Heap.get?_push_of_some _ q) (Nat.le_refl _) ?_, rfl, q _ (I5.hok.fresh (Nat.le_refl _))⟩
  exact ⟨Nat.le_trans (evens_len _) (Nat.le_trans (by rw [List.length_drop]; omega) hz), _, 0, vals_evens (Vals.drop off r), Heap.get?_push_size _ rfl⟩
/-- xs[::2] -/
theorem pe_ev0 {e : Expr} {te : TE} {k1 : Nat} {p1 p3 pos : Pos} (he : PE X e te) : PE X (.Subscript e (.Slice none none (some (.Constant (.int 2) k1 p1)) p3) pos) (tEv X.K 0 te) :=
  ev_core (tl := tNoPart) (l := none) po_none he (fun _ _ _ h => h) 0 fun xs => pick_0 xs
/-- xs[1::2] -/
theorem pe_ev1 {e : Expr} {te : TE} {k0 k1 : Nat} {p0 p1 p3 pos : Pos} (he : PE X e te) : PE X (.Subscript e (.Slice (some (.Constant (.int 1) k0 p0)) none (some (.Constant (.int 2) k1 p1)) p3) pos) (tEv X.K 1 te) :=
  ev_core (tl := tPart (tC (.int 1))) (l := some 1) (po_some pe_int) he (fun _ _ _ h => ⟨1, rfl, h⟩) 1 fun xs => by
    by_cases z : xs.size = 0
    · exact pick_1e xs z
    · exact pick_1 xs (by omega)
/-- math.lcm of two -/
def rLcm : List V → Hp → VK → Prop := fun vs H Q => ∃ a b : Nat, vs = [.int a, .int b] ∧ a < 2 ^ 64 ∧ b < 2 ^ 64 ∧ Q (.int ((Nat.lcm a b : Nat) : Int)) H
theorem cr_lcm : CallR X (.builtin "math.lcm") rLcm := by
  intro pins s σ H vs us Q I r h
  obtain ⟨a, b, rfl, la, lb, q⟩ := h
  obtain ⟨t, u, rfl⟩ := Vals.int2 r
  have e : ((((Nat.lcm 1 (a : Int).natAbs).lcm (b : Int).natAbs : Nat) : Int)) = ((Nat.lcm a b : Nat) : Int) := by
    rw [PySem.W.mc_lcm_one, Int.natAbs_natCast, Int.natAbs_natCast]
  refine PySem.W.mg_lcm_v (by rw [Int.natAbs_natCast]; exact la) (by rw [Int.natAbs_natCast]; exact lb) e ?_ ⟨.int _, H, I.tok _, ⟨_, rfl⟩, q⟩
  rw [Int.natAbs_natCast]
  have l1 := PySem.W.mc_lcm_le a b
  have l2 : a * b < 2 ^ 64 * 2 ^ 64 := Nat.mul_lt_mul'' la lb
  have l3 : a.lcm b < 2 ^ 128 := Nat.lt_of_le_of_lt l1 (Nat.lt_of_lt_of_le l2 (by decide))
  have : (a.lcm b).log2 < 128 := by
    by_cases z : a.lcm b = 0
    · rw [z]; decide
    · exact (Nat.log2_lt z).mpr l3
  exact Nat.lt_of_lt_of_le this (by decide)
end
end Gn
set_option Elab.async false
set_option linter.all false
set_option maxRecDepth 100000
set_option maxHeartbeats 8000000
/-! {e for a in xs for b in ys if t}: a set of ints -/
namespace Gn
open PySem PySem.Spec PyProof.Rows L2
abbrev SC (el t0 i0 t1 i1 c1 : Expr) (sc : Scope) (pos : Pos) : Expr := .SetComp el [⟨t0, i0, [], 0⟩, ⟨t1, i1, [c1], 0⟩] sc pos
section
variable {P : Program} {w : World} {A : Around} {R : Result → Shared → Prop} {s : Shared} {el t0 i0 t1 i1 c1 : Expr} {sc : Scope} {pos : Pos} {it acc : Value} {env : Env}
/-- what is raised is noted first -/
abbrev Nb (P : Program) (w : World) (A : Around) (env : Env) (R : Result → Shared → Prop) : Value → Shared → Prop := notedBy (model P w) A env fun x t => R (.error x) t
theorem sc_turn0 : compTurn (SC el t0 i0 t1 i1 c1 sc pos) 0 it acc env = (do
      standAt i0.pos
      match ← pyNext it with
      | none => pure (.done .next)
      | some x =>
        letOwnedTupleGo t0 it x
        assign t0 env x
        let y ← eval i1 env
        standAt i1.pos
        let y ← foldedSetIterable i1 env y
        let _ ← runOwn (.compStart (SC el t0 i0 t1 i1 c1 sc pos) 1 (← holding [y] (pyIter y)) acc env) env
        again (.compLoop (SC el t0 i0 t1 i1 c1 sc pos) 0 it acc env)) := by rfl
theorem sc_turn1 : compTurn (SC el t0 i0 t1 i1 c1 sc pos) 1 it acc env = (do
      standAt i1.pos
      match ← pyNext it with
      | none => pure (.done .next)
      | some x =>
        letOwnedTupleGo t1 it x
        assign t1 env x
        let mut go := true
        for c in [c1] do
          if go then go ← isTrue c env (eval c env)
        if go then
          (do let y ← eval el env; standAt el.pos; let _ ← call (.builtin "set.add") [acc, y])
        again (.compLoop (SC el t0 i0 t1 i1 c1 sc pos) 1 it acc env)) := by rfl
theorem sc_loop0 (fs : ∀ x, foldedSetIterable i1 env x = pure x) (J : Nat → Shared → Prop)
    (step : ∀ n t, J n t → wpAny (model P w) A (pyNext it) (fun r t1' => match r with
      | none => R (.ok .next) t1'
      | some x => wpAny (model P w) A (letOwnedTupleGo t0 it x) (fun _ t2 => wpAny (model P w) A (assign t0 env x) (fun _ t3 =>
          wpAny (model P w) A (eval i1 env) (fun y t4 => wpAny (model P w) A (pyIter y) (fun jt t5 =>
            codeAny (model P w) A (.compStart (SC el t0 i0 t1 i1 c1 sc pos) 1 jt acc env) (fun r t6 => (∃ f, r = .ok f) ∧ ∃ m, m < n ∧ J m t6) t5) (Nb P w A env R) t4) (Nb P w A env R) t3) (Nb P w A env R) t2) (Nb P w A env R) t1') (Nb P w A env R) t)
    (n : Nat) (h : J n s) : codeAny (model P w) A (.compLoop (SC el t0 i0 t1 i1 c1 sc pos) 0 it acc env) R s := by
  refine codeAny_loop rfl J (fun n t hJ => ?_) n h
  show wpAny _ A ((compTurn (SC el t0 i0 t1 i1 c1 sc pos) 0 it acc env).onRaise (fun x => do noteFrame x env; theTreesLotGoes x)) _ _ t
  refine wpAny_noted ?_
  rw [sc_turn0]
  refine wpAny_bind (wpAny_standAt (wpAny_bind (wpAny_mono (step n t hJ) (fun r t1' k1 => ?_) fun _ _ z => z)))
  cases r with
  | none => exact wpAny_pure k1
  | some x =>
    refine wpAny_bind (wpAny_mono k1 (fun _ t2 k2 => wpAny_bind (wpAny_mono k2 (fun _ t3 k3 => wpAny_bind (wpAny_mono k3 (fun y t4 k4 => ?_) fun _ _ z => z)) fun _ _ z => z)) fun _ _ z => z)
    refine wpAny_bind (wpAny_standAt (wpAny_bind (wpAny_of_eq (fs y) (wpAny_bind (wpAny_holding (wpAny_mono k4 (fun jt t5 k5 => ?_) fun _ _ z => z))))))
    refine wpAny_bind (wpAny_runOwn ?_)
    rw [Around.mark_none]
    refine codeAny_mono k5 fun r t6 hr => ?_
    obtain ⟨⟨f, rfl⟩, hr⟩ := hr
    exact wpAny_pure ⟨rfl, hr⟩
theorem sc_loop1 (J : Nat → Shared → Prop)
    (step : ∀ n t, J n t → wpAny (model P w) A (pyNext it) (fun r t1' => match r with
      | none => R (.ok .next) t1'
      | some x => wpAny (model P w) A (letOwnedTupleGo t1 it x) (fun _ t2 => wpAny (model P w) A (assign t1 env x) (fun _ t3 =>
          wpAny (model P w) A (forIn [c1] true fun c r => if r = true then do let go ← isTrue c env (eval c env); pure (ForInStep.yield go) else pure (ForInStep.yield r)) (fun go t4 =>
            if go = true then wpAny (model P w) A (eval el env) (fun y t5 => wpAny (model P w) A (call (.builtin "set.add") [acc, y]) (fun _ t6 => ∃ m, m < n ∧ J m t6) (Nb P w A env R) t5) (Nb P w A env R) t4
            else ∃ m, m < n ∧ J m t4) (Nb P w A env R) t3) (Nb P w A env R) t2) (Nb P w A env R) t1') (Nb P w A env R) t)
    (n : Nat) (h : J n s) : codeAny (model P w) A (.compLoop (SC el t0 i0 t1 i1 c1 sc pos) 1 it acc env) R s := by
  refine codeAny_loop rfl J (fun n t hJ => ?_) n h
  show wpAny _ A ((compTurn (SC el t0 i0 t1 i1 c1 sc pos) 1 it acc env).onRaise (fun x => do noteFrame x env; theTreesLotGoes x)) _ _ t
  refine wpAny_noted ?_
  rw [sc_turn1]
  refine wpAny_bind (wpAny_standAt (wpAny_bind (wpAny_mono (step n t hJ) (fun r t1' k1 => ?_) fun _ _ z => z)))
  cases r with
  | none => exact wpAny_pure k1
  | some x =>
    refine wpAny_bind (wpAny_mono k1 (fun _ t2 k2 => wpAny_bind (wpAny_mono k2 (fun _ t3 k3 => wpAny_bind (wpAny_mono k3 (fun go t4 k4 => ?_) fun _ _ z => z)) fun _ _ z => z)) fun _ _ z => z)
    cases go with
    | false => exact wpAny_pure ⟨rfl, k4⟩
    | true =>
      exact wpAny_bind (wpAny_bind (wpAny_mono k4 (fun y t5 k5 => wpAny_bind (wpAny_standAt (wpAny_bind (wpAny_mono k5 (fun _ t6 k6 => wpAny_pure (wpAny_pure ⟨rfl, k6⟩)) fun _ _ z => z)))) fun _ _ z => z))
/-- the second source's walk begins -/
theorem sc_start1 (h0 : codeAny (model P w) A (.compLoop (SC el t0 i0 t1 i1 c1 sc pos) 1 it acc env) R s)
    (h : wpAny (model P w) A (pyIter it) (fun jt t => codeAny (model P w) A (.compLoop (SC el t0 i0 t1 i1 c1 sc pos) 1 jt acc env) R t) (Nb P w A env R) s) :
    codeAny (model P w) A (.compStart (SC el t0 i0 t1 i1 c1 sc pos) 1 it acc env) R s := by
  refine codeAny_of_tree ?_
  show wpAny _ _ ((compStart (SC el t0 i0 t1 i1 c1 sc pos) 1 it acc env).onRaise (fun x => do noteFrame x env; standAt theWindowsPlace)) _ _ s
  refine wpAny_notedAt ?_
  unfold compStart
  show wpAny _ _ (ask >>= _) _ _ s
  refine wpAny_bind (wpAny_askSetting (wpAny_ite ?_))
  split
  · exact wpAny_pure (And.intro rfl h0)
  · refine wpAny_bind (wpAny_rule ?_)
    show wpAny _ _ (standAt i1.pos >>= _) _ _ s
    exact wpAny_bind (wpAny_standAt (wpAny_bind (wpAny_mono h (fun jt t k => wpAny_pure (And.intro rfl k)) fun _ _ z => z)))
end
/-- what stands in the block -/
structure Blk (Y : Cx) (t0 t1 i1 c1 el : Expr) (g : TG) (wi : TI) (g1 : TG) (tc : TT) (te : TE) : Prop where
  g : PG Y t0 g
  i : PI Y t1 i1 wi
  g1 : PG Y t1 g1
  c : PTs Y [c1] tc
  e : PE Y el te
/-- k goes down -/
abbrev Dn (k : Nat) (F : Nat → Prop) : Prop := ∃ k', k' < k ∧ F k'
/-- one int more in the set at D -/
def More (w : World) (D : Addr) (y : V) (G : Hp) (F : Hp → Prop) : Prop := ∃ (z : Int) (S : Int → Bool) (n : Nat), y = .int z ∧ G D = some (SetO w D S n) ∧ n + 1 < scanBound ∧ F (upd G D (SetO w D (fun j => S j || decide (j = z)) (if S z = true then n else n + 1)))
def tSc2 (w : World) (wi : TI) (g : TG) (wi1 : TI) (g1 : TG) (tc : TT) (te : TE) (vs vs1 : List Nat) : TE := fun σ H Q => wi σ H fun J G => ∀ D, G D = none → ∃ W : Nat → Nat → Hp → Prop, (∃ m, W 0 m (upd G D (SetO w D (fun _ => false) 0))) ∧ ∀ i m H1, W i m H1 →
  (J.stop i H1 ∧ Q (.ref D) H1) ∨ (J.go i H1 ∧ ∀ x H2, J.yld i H1 x H2 → g x (wipe σ vs) H2 fun τ H3 => wipe τ vs = wipe σ vs ∧ wi1 τ H3 fun J1 H4 => ∃ W1 : Nat → Nat → Hp → Prop, (∃ k, W1 0 k H4) ∧ ∀ j k H5, W1 j k H5 →
    (J1.stop j H5 ∧ Dn m fun m' => W (i + 1) m' H5) ∨ (J1.go j H5 ∧ ∀ x1 H6, J1.yld j H5 x1 H6 → g1 x1 (wipe τ vs1) H6 fun υ H7 => wipe υ vs1 = wipe τ vs1 ∧ tc υ H7 fun b H8 =>
      if b = true then te υ H8 fun y H9 => More w D y H9 fun G' => Dn k fun k' => W1 (j + 1) k' G' else Dn k fun k' => W1 (j + 1) k' H8))
/-- the walk's own objects, no slot knows them -/
theorem fp_back {X Y : Cx} {pins : List (Addr × Obj)} {fp : List Addr} {h h' : Heap} {τ : L2.St} {G : Hp} {t : Shared} (I : Inv Y (pins ++ pinsAt fp h) τ G t) (b : Addr) (hb : b ∈ fp) {o : Obj} (e : h.get? b = some o) : t.heap.get? b = some o ∧ G b = none := by
  have z := I.pin (b, o) (List.mem_append_right _ (List.mem_append_right _ (mem_pinsAt hb e)))
  exact ⟨z.1, z.2.1⟩
section
variable {X : Cx}
/-- set.add of an int -/
theorem add_int {pins : List (Addr × Obj)} {σ : L2.St} {H : Hp} {s : Shared} {E : Value → Shared → Prop} {D : Addr} {y : V} {u : Value} {F : Hp → Prop} {Q : Value → Shared → Prop} (I : Inv X pins σ H s) (r : RelV y u) (M : More X.w D y H F)
    (k : ∀ t G, Inv X pins σ G t → F G → Q .none t) : wpAny (model X.prog X.w) X.A (call (.builtin "set.add") [.ref D, u]) Q E s := by
  obtain ⟨z, S, n, rfl, hD, room, f⟩ := M
  obtain ⟨tk, rfl⟩ := r
  refine setR_add (setO_get I hD) room fun h' sb new => ?_
  have live : ∃ u, h'.get? D = some u := by
    obtain ⟨o, _, _, _, ho, _⟩ := id new
    exact ⟨o, ho⟩
  exact k _ _ (I.write (e := D) (t' := s.toks + 1) (by rw [hD]; trivial) (.inl rfl) (fun b u hb hu => (sb.2 b hb).trans hu) live (setO_new new)) f
theorem pe_sc2 {el t0 i0 t1 i1 c1 : Expr} {sc : Scope} {own : List (Str × Nat)} {vs1 : List Nat} {pos : Pos} {wi wi1 : TI} {g g1 : TG} {tc : TT} {te : TE} (calm : X.calm = true) (nd : X.N.Nodup) (src : PI X t0 i0 wi) (ok : BlkOk X.N X.env.scope sc own) (sub : ∀ i ∈ vs1, i ∈ own.map (·.2))
    (blk : ∀ (s : Shared) (H : Hp) (C : Addr) (cl : List (Str × Addr)) (fp : List Addr), Blk (X.blk s H sc (compEnvC sc cl C X.env) fp) t0 t1 i1 c1 el g wi1 g1 tc te)
    (f0 : ∀ x, foldedSetIterable i0 X.env x = pure x := by intro _; rfl) (f1 : ∀ env x, foldedSetIterable i1 env x = pure x := by intro _ _; rfl) :
    PE X (SC el t0 i0 t1 i1 c1 sc pos) (tSc2 X.w wi g wi1 g1 tc te (own.map (·.2)) vs1) := by
  constructor
  intro pins s σ H Q I want
  rw [PpSet.eval_SetComp]
  have free : ∀ y ∈ sc.names, y.2 = .free → ∃ c, X.env.cells.lookup y.1 = some c := fun y m e => by
    rcases ok.free y m e with z | z
    · exact I.ok.has _ (.inl z)
    · exact I.ok.has _ (.inr z)
  refine wpAny_comprehension_free (use := none) rfl f0 (closure_ok free) ok.kind (fun y m e => by rw [ok.uniq y m, e]) (thn (src.run pins s σ H _ I want) fun xv s1 hx => thn hx fun jv s2 h2 => ?_)
  obtain ⟨it, fp, tn, J, H2, rfl, I2, T, st2, off2, q⟩ := h2
  refine PpSet.newSet_ok (newEnv_comp ?_)
  obtain ⟨D, eD⟩ : ∃ D, D = s2.heap.objs.size := ⟨_, rfl⟩
  rw [← eD]
  have nD : H2 D = none := I2.hok.fresh (Nat.le_of_eq eD.symm)
  obtain ⟨W, ⟨m0, w0⟩, turn⟩ := q D nD
  obtain ⟨s3, es3⟩ : ∃ t : Shared, t = { s2 with heap := s2.heap.push { cls := .type "set", dict := none, data := .set #[] 0 (.fresh 0 0 (!X.w.params.followText "set-order")) } } := ⟨_, rfl⟩
  obtain ⟨G, eG⟩ : ∃ G : Hp, G = upd H2 D (SetO X.w D (fun _ => false) 0) := ⟨_, rfl⟩
  rw [← eG] at w0
  have hp3 : s3.heap = s2.heap.push { cls := .type "set", dict := none, data := .set #[] 0 (.fresh 0 0 (!X.w.params.followText "set-order")) } := by rw [es3]
  have I3 : Inv X pins σ G s3 := by
    rw [es3, eG]
    refine I2.laid (t' := s2.toks) (fun b o e => Heap.get?_push_of_some _ e) (Nat.le_of_eq eD.symm) ?_
    rw [eD]
    exact setO_new (setR_fresh X.w)
  have low : ∀ b ∈ fp, b < s2.heap.objs.size := fun b m => by
    obtain ⟨o, e, _⟩ := T.obj _ _ st2 b m
    exact Heap.lt_size e
  have off3 : ∀ b ∈ fp, FpOk X pins G b ∧ b < s3.heap.objs.size := fun b m => by
    have l := low b m
    refine ⟨⟨?_, (off2 b m).2⟩, by rw [hp3, Heap.size_push]; exact Nat.lt_succ_of_lt l⟩
    rw [eG, upd_ne (by rw [eD]; exact Nat.ne_of_lt l)]
    exact (off2 b m).1
  have st3 : tn 0 s3.heap := T.keep _ _ _ st2 fun b _ o e => by rw [hp3]; exact Heap.get?_push_of_some _ e
  have I4 := block_start I3 ok nd off3
  have bk := blk s3 G s3.heap.objs.size (cellsFrom (s3.heap.objs.size + 1) sc.names (cloFrom X.env.cells sc.names [])) fp
  obtain ⟨ce, ec⟩ : ∃ e : Env, e = compEnvC sc (cellsFrom (s3.heap.objs.size + 1) sc.names (cloFrom X.env.cells sc.names [])) s3.heap.objs.size X.env := ⟨_, rfl⟩
  have lc : ce.locals = s3.heap.objs.size := by rw [ec]; rfl
  obtain ⟨s4, es4⟩ : ∃ t : Shared, t = { s3 with heap := pushCells (s3.heap.push { cls := .type "dict", data := .dict #[] }) sc.names } := ⟨_, rfl⟩
  rw [← ec] at I4 bk
  rw [← es4] at I4
  have main : codeAny (model X.prog X.w) X.A (.compStart (SC el t0 i0 t1 i1 c1 sc pos) 0 (.ref it) (.ref D) ce) (compPost (model X.prog X.w) X.A X.xe none (EP X pins σ Q) (.ref D) s3.heap.objs.size) s4 := by
    have st4 : tn 0 s4.heap := T.keep _ _ _ st3 fun b _ o e => by rw [es4]; exact pushCells_keeps _ _ _ _ (Heap.get?_push_of_some _ e)
    have no4 : ∀ b ∈ fp, G b = none := fun b m => (off3 b m).1.1
    have fit : ∀ {τ : L2.St} {G' : Hp} {t : Shared}, Inv (X.blk s3 G sc ce fp) [] τ G' t → (∀ b ∈ fp, G' b = none) → ∀ b ∈ fp, FpOk (X.blk s3 G sc ce fp) [] G' b := fun {τ G' t} K no b m =>
      ⟨no b m, (K.ok.exf b m).1, K.ok.exfs b m, .inl m, fun x c e => (K.ok.exf b m).2 x c e, fun p hp => absurd (show p ∈ ([] : List (Addr × Obj)) ++ [] from hp) (by simp)⟩
    have loop : codeAny (model X.prog X.w) X.A (.compLoop (SC el t0 i0 t1 i1 c1 sc pos) 0 (.ref it) (.ref D) ce) (compPost (model X.prog X.w) X.A X.xe none (EP X pins σ Q) (.ref D) s3.heap.objs.size) s4 := by
      refine sc_loop0 (f1 ce) (fun n t => ∃ i G', Inv (X.blk s3 G sc ce fp) [] (wipe σ (own.map (·.2))) G' t ∧ tn i t.heap ∧ (∀ b ∈ fp, G' b = none) ∧ W i n G') ?_ m0 ⟨0, G, I4, st4, no4, w0⟩
      rintro n t5 ⟨i, G5, I5, st5, no5, w5⟩
      rcases turn i n G5 w5 with ⟨stop, fin⟩ | ⟨go, step⟩
      · refine thnF (T.done (X.blk s3 G sc ce fp) rfl rfl rfl calm i [] t5 _ G5 (fun _ _ => False) I5 (fit I5 no5) st5 stop) fun r t6 ⟨hr, I6⟩ => ?_
        subst hr
        have I7 : Inv X pins σ G5 t6 := I3.call' (ch := fp) I6.os I6.base I6.hok I6.bare fun b m => ⟨(off3 b m).1.2.2.2.1, (off3 b m).1.2.1, (off3 b m).1.2.2.2.2.1, (off3 b m).1.2.2.2.2.2⟩
        have nC : G5 s3.heap.objs.size = none := by
          have z : G5 ce.locals = none := I6.free
          rwa [lc] at z
        obtain ⟨mm, hn, _⟩ := I6.loc
        have hn : t6.heap.Ns ce.locals mm := hn
        rw [lc] at hn
        obtain ⟨a0, a1, a2, a3, a4, a5⟩ := I3.fpOk (Nat.le_refl _) nC
        exact ⟨mm, hn, fun h'' sb => ⟨.ref D, G5, I7.turned (t' := t6.toks) (fun b o hb e => (sb.2 b hb).trans e) a0 a1 a3 a4 a5, rfl, fin⟩⟩
      · refine thnF (T.item (X.blk s3 G sc ce fp) rfl rfl rfl calm i [] t5 _ G5 (fun _ _ => False) I5 (fit I5 no5) st5 go) fun r t6 ⟨u, hr, h6⟩ => ?_
        subst hr
        refine thnF h6 fun _ t7 ⟨x, G7, I7, r7, y7, st7, no7⟩ => ?_
        refine thnF (bk.g.run _ t7 _ G7 x u _ (I7.pinned (fit I7 no7) (T.obj _ _ st7)) r7 (step x G7 y7)) fun _ t8 ⟨τ, G8, I8, hw, q8⟩ => ?_
        have len8 : (wipe σ (own.map (·.2))).length = τ.length := by rw [← hw, wipe_length]
        refine thnF (bk.i.run _ t8 τ G8 _ I8 q8) fun xv t9 hx => thnF hx fun jv t10 h10 => ?_
        obtain ⟨jt, fq, tm, J1, G10, rfl, I10, U, su10, off10, W1, ⟨k0, v0⟩, turn1⟩ := h10
        have fit1 : ∀ {G' : Hp}, (∀ b ∈ fq, G' b = none) → ∀ b ∈ fq, FpOk (X.blk s3 G sc ce fp) ([] ++ pinsAt fp t7.heap) G' b := fun no b m => ⟨no b m, (off10 b m).2⟩
        have know : ∀ (j : Nat) v, (wipe σ (own.map (·.2)))[j]? = some (some v) → (wipe τ vs1)[j]? = some (some v) := fun j v e => by
          rw [← hw] at e
          obtain ⟨e1, e2⟩ := wipe_some e
          rw [wipe_out fun z => e2 (sub j z)]
          exact e1
        have inner : codeAny (model X.prog X.w) X.A (.compLoop (SC el t0 i0 t1 i1 c1 sc pos) 1 (.ref jt) (.ref D) ce)
            (fun r t => (∃ f, r = .ok f) ∧ ∃ m, m < n ∧ ∃ i G', Inv (X.blk s3 G sc ce fp) [] (wipe σ (own.map (·.2))) G' t ∧ tn i t.heap ∧ (∀ b ∈ fp, G' b = none) ∧ W i m G') t10 := by
          refine sc_loop1 (fun k t => ∃ j G', Inv (X.blk s3 G sc ce fp) ([] ++ pinsAt fp t7.heap) (wipe τ vs1) G' t ∧ tm j t.heap ∧ (∀ b ∈ fq, G' b = none) ∧ W1 j k G') ?_ k0 ⟨0, G10, I10.weak (wipe_length _ _) (fun j v e => (wipe_some e).1), su10, fun b m => (off10 b m).1, v0⟩
          rintro k t11 ⟨j, G11, I11, su11, no11, v11⟩
          rcases turn1 j k G11 v11 with ⟨stop1, m', lt, w'⟩ | ⟨go1, step1⟩
          · refine thnF (U.done (X.blk s3 G sc ce fp) rfl rfl rfl calm j _ t11 (wipe τ vs1) G11 (fun _ _ => False) I11 (fit1 no11) su11 stop1) fun r t12 ⟨hr, I12⟩ => ?_
            subst hr
            refine ⟨⟨_, rfl⟩, m', lt, i + 1, G11, (I12.unpinned (pins := [])).weak (len8.trans (wipe_length τ vs1).symm) know, T.keep _ _ _ st7 fun b m o e => (fp_back (X := X) (h' := t7.heap) I12 b m e).1, fun b m => ?_, w'⟩
            obtain ⟨o, e, _⟩ := T.obj _ _ st7 b m
            exact (fp_back (X := X) (h' := t7.heap) I12 b m e).2
          · refine thnF (U.item (X.blk s3 G sc ce fp) rfl rfl rfl calm j _ t11 (wipe τ vs1) G11 (fun _ _ => False) I11 (fit1 no11) su11 go1) fun r t12 ⟨u1, hr, h12⟩ => ?_
            subst hr
            refine thnF h12 fun _ t13 ⟨x1, G13, I13, r13, y13, su13, no13⟩ => ?_
            refine thnF (bk.g1.run _ t13 (wipe τ vs1) G13 x1 u1 _ (I13.pinned (fit1 no13) (U.obj _ _ su13)) r13 (step1 x1 G13 y13)) fun _ t14 ⟨υ, G14, I14, hv, q14⟩ => ?_
            refine thnF (bk.c.run _ t14 υ G14 _ I14 q14) fun b t15 ⟨G15, I15, q15⟩ => ?_
            have next : ∀ {t : Shared} {G' : Hp}, Inv (X.blk s3 G sc ce fp) (([] ++ pinsAt fp t7.heap) ++ pinsAt fq t13.heap) υ G' t → (Dn k fun k' => W1 (j + 1) k' G') →
                ∃ m, m < k ∧ ∃ j G', Inv (X.blk s3 G sc ce fp) ([] ++ pinsAt fp t7.heap) (wipe τ vs1) G' t ∧ tm j t.heap ∧ (∀ b ∈ fq, G' b = none) ∧ W1 j m G' := fun {t G'} K ⟨k', lt, w'⟩ => by
              refine ⟨k', lt, j + 1, G', K.unpinned.weak (by rw [← hv, wipe_length]) (fun j v e => by rw [← hv] at e; exact (wipe_some e).1), U.keep _ _ _ su13 fun b m o e => (fp_back (X := X) (h' := t7.heap) K b m e).1, fun b m => ?_, w'⟩
              obtain ⟨o, e, _⟩ := U.obj _ _ su13 b m
              exact (fp_back (X := X) (h' := t7.heap) K b m e).2
            cases b with
            | false =>
              simp only [Bool.false_eq_true, if_false] at q15 ⊢
              exact next I15 q15
            | true =>
              simp only [if_true] at q15 ⊢
              refine thnF (bk.e.run _ t15 υ G15 _ I15 q15) fun z t16 ⟨yv, G16, I16, r16, more⟩ => ?_
              exact add_int (X := X.blk s3 G sc ce fp) I16 r16 more fun t17 G17 I17 dn => next I17 dn
        exact sc_start1 inner (U.self X.A 0 _ _ _ su10 inner)
    exact PpSet.codeAny_compStart_set loop (T.self X.A 0 _ _ _ st4 loop)
  rw [ec, es4, es3] at main
  exact main
end
end Gn
set_option Elab.async false
set_option linter.all false
set_option maxRecDepth 100000
set_option maxHeartbeats 8000000
/-! x(e, lambda p: bo), the def x calling what it got with one argument -/
namespace Gn
open PySem PySem.Spec PyProof.Rows L2
/-- one parameter, no other name of its own -/
structure LamP (sc lam : Scope) (p : Str) : Prop where
  kind : lam.kind = .function
  co : lam.isCoroutine = false
  gen : lam.isGenerator = false
  par : lam.names.lookup p = some .local
  own : ∀ y ∈ lam.names, (y.2 = .local → y.1 = p) ∧ y.2 ≠ .cell
  free : ∀ y ∈ lam.names, y.2 = .free → sc.names.lookup y.1 = some .cell ∨ sc.names.lookup y.1 = some .free
def lamPB (sc lam : Scope) (p : Str) : Bool :=
  decide (lam.kind = .function) && (!lam.isCoroutine && (!lam.isGenerator && (decide (lam.names.lookup p = some .local) &&
    lam.names.all fun y => (!decide (y.2 = .local) || decide (y.1 = p)) && (!decide (y.2 = .cell) && (!decide (y.2 = .free) || (decide (sc.names.lookup y.1 = some .cell) || decide (sc.names.lookup y.1 = some .free)))))))
theorem lamP_by {sc lam : Scope} {p : Str} (h : lamPB sc lam p = true) : LamP sc lam p := by
  unfold lamPB at h
  simp only [Bool.and_eq_true, Bool.or_eq_true, Bool.not_eq_true', decide_eq_true_eq, decide_eq_false_iff_not, List.all_eq_true] at h
  obtain ⟨a, b, c, d, e⟩ := h
  exact ⟨a, b, c, d, fun y m => ⟨fun z => (e y m).1.resolve_left fun k => k z, (e y m).2.1⟩, fun y m z => (e y m).2.2.resolve_left fun k => k z⟩
theorem LamP.has {X : Cx} {lam : Scope} {p : Str} (L : LamP X.env.scope lam p) (ok : X.Ok) : ∀ y ∈ lam.names, y.2 = .free → ∃ c, X.env.cells.lookup y.1 = some c := fun y m e =>
  (L.free y m e).elim (fun z => ok.has _ (.inl z)) fun z => ok.has _ (.inr z)
/-- the lambda's body, entered at s -/
abbrev lamQ (X : Cx) (A : Around) (outer : List Env) (s : Shared) (H : Hp) (lam : Scope) (p : Str) (f c : Addr) : Cx :=
  { LamX.lamCx X A outer s H (fun _ _ _ => False) lam f c with N := X.N ++ [p], xe := fun _ _ => False }
section
variable {X : Cx} {pins : List (Addr × Obj)} {σ : L2.St} {H : Hp} {s : Shared}
theorem lamQ_start {A : Around} {outer : List Env} {lam : Scope} {p : Str} {f c : Addr} {G : Hp} {t : Shared} {h1 : Heap} {tk : Nat} {v : V} {u : Value} (I : Inv X pins σ H s) (L : LamP X.env.scope lam p) (np : p ∉ X.N) (e0 : Env0 X.prog X.w X.K X.mg X.base A outer t G) (cool : A.handled = none)
    (un : Un (frs X.stack) [] H G s.heap t.heap) (ns : h1.Ns t.heap.objs.size fun y => ([(p, u)] : List (Str × Value)).reverse.lookup y) (r : RelV v u) (kp : ∀ b o, t.heap.get? b = some o → h1.get? b = some o) :
    Inv (lamQ X A outer t G lam p f c) [] (σ ++ [some v]) G { t with heap := h1, toks := tk } := by
  have free := L.has I.ok
  have back : ∀ {y d}, (cloFrom X.env.cells lam.names []).lookup y = some d → X.env.cells.lookup y = some d := fun {y d} e => by
    rcases cloFrom_mem (PySem.mem_of_lookup e) with m | ⟨m, ed⟩
    · cases m
    · obtain ⟨d1, h⟩ := free _ m rfl
      have h : X.env.cells.lookup y = some d1 := h
      rw [h] at ed
      have ed : d = d1 := ed
      rw [ed]; exact h
  have there : ∀ {y}, lam.names.lookup y = some .free → ∃ d, (cloFrom X.env.cells lam.names []).lookup y = some d := fun {y} e => mem_lookup (cloFrom_has (cells := X.env.cells) (acc := []) (PySem.mem_of_lookup e))
  have celled : ∀ {d : Addr} {x : Option Value}, H d = none → s.heap.IsCell d x → h1.IsCell d x := fun {d x} n ⟨o, ho, hd⟩ => by
    obtain ⟨sl, z⟩ := un.any ho n (by simp)
    exact ⟨_, kp _ _ z, hd⟩
  have nex : ∀ b : Addr, b ∉ (lamQ X A outer t G lam p f c).ex := fun b z => absurd (show b ∈ ([] : List Addr) from z) (by simp)
  refine ⟨⟨e0.mod, L.kind, rfl, rfl, Nat.le_refl _, fun y z d e1 e2 => I.ok.inj y z d (back e1) (back e2), fun y hy => ?_, fun y d z _ => (by cases (show false = true from z)), fun _ => cool, Around.frames_deeper e0.frames, .inr ⟨rfl, rfl⟩, fun b z => absurd z (nex b), e0.bs, e0.bsz, fun b _ _ => nex b,
      fun b z => absurd z (nex b), e0.funs, e0.frf⟩,
    rfl, e0.bare, Un.kept kp, ⟨_, ns, fun i y x e1 e2 e3 => ?_⟩, fun y d e => ?_, e0.hok.fresh (Nat.le_refl _), fun y d e => ?_, fun q hq => absurd (show q ∈ ([] : List (Addr × Obj)) ++ [] from hq) (by simp), e0.hok.kept kp, ?_⟩
  · rcases (show lam.names.lookup y = some .cell ∨ lam.names.lookup y = some .free from hy) with z | z
    · exact absurd rfl (L.own _ (PySem.mem_of_lookup z)).2
    · exact there z
  · have e1 : (X.N ++ [p])[i]? = some y := e1
    have len := I.len
    rcases Nat.lt_or_ge i X.N.length with lt | ge
    · -- a name of the maker
      rw [List.getElem?_append_left lt] at e1
      rw [List.getElem?_append_left (by omega)] at e2
      rcases (show Vis lam y from e3) with k | k | k
      · have ey : y = p := (L.own _ (PySem.mem_of_lookup k)).1 rfl
        exact absurd (by rw [← ey]; exact List.mem_of_getElem? e1) np
      · exact absurd rfl (L.own _ (PySem.mem_of_lookup k)).2
      · obtain ⟨m, hn, look⟩ := I.loc
        have vis : Vis X.env.scope y := (L.free _ (PySem.mem_of_lookup k) rfl).elim (fun z => .inr (.inl z)) fun z => .inr (.inr z)
        obtain ⟨w', rr, q⟩ := look i y x e1 e2 vis
        obtain ⟨d2, h2⟩ := there k
        have d1 := back h2
        refine ⟨w', rr, .inr ⟨.inr k, d2, h2, ?_⟩⟩
        rcases q with ⟨k', _⟩ | ⟨_, d3, e', z⟩
        · have k' : X.env.scope.names.lookup y = some .local := k'
          rcases L.free _ (PySem.mem_of_lookup k) rfl with k2 | k2 <;> rw [show X.env.scope.names.lookup y = _ from k2] at k' <;> cases k'
        · rw [d1] at e'
          cases e'
          exact celled (I.freeC y _ d1) z
    · -- the parameter
      rw [List.getElem?_append_right ge] at e1
      rw [List.getElem?_append_right (by omega)] at e2
      have i0 : i = X.N.length := by
        obtain ⟨l, _⟩ := List.getElem?_eq_some_iff.mp e1
        simp only [List.length_singleton] at l
        omega
      subst i0
      rw [Nat.sub_self] at e1
      rw [len, Nat.sub_self] at e2
      have ey : y = p := (Option.some.inj (show some p = some y from e1)).symm
      have ex : x = v := (Option.some.inj (Option.some.inj (show some (some v) = some (some x) from e2))).symm
      subst ey ex
      refine ⟨u, r, .inl ⟨L.par, ?_⟩⟩
      show ([(y, u)] : List (Str × Value)).lookup y = some u
      simp [List.lookup]
  · obtain ⟨x, z⟩ := I.cell y d (back e)
    exact ⟨x, celled (I.freeC y d (back e)) z⟩
  · obtain ⟨x, o, ho, hd⟩ := I.cell y d (back e)
    exact un.free d o ho (I.freeC y d (back e)) (by simp)
  · show (σ ++ [some v]).length = (X.N ++ [p]).length
    rw [List.length_append, List.length_append, I.len]
    rfl
/-- the def that gets the lambda, entered at s -/
abbrev getY (X : Cx) (Ng : List Str) (x : Str) (sg : Scope) (g : Addr) (cdg : Value) (s : Shared) (H : Hp) : Cx := (cxOf CX0 X.prog X.w X.K X.mg X.base Ng x sg g cdg X.A X.stack s H E0).nox
/-- a(e), in that def -/
theorem pe_got {Ng : List Str} {x : Str} {sg lam : Scope} {g f c : Addr} {cdg pm ctv : Value} {pr : Arguments} {bo : Expr} {k i : Nat} {a p : Str} {tb : TE} {e : Expr} {te : TE} {p1 p2 : Pos}
    (I : Inv X pins σ H s) (L : LamP X.env.scope lam p) (np : p ∉ X.N) (gf : s.heap.get? f = some (PySem.W.kla_obj "<lambda>" (X.env.qual ++ "<lambda>") pr bo lam (cloFrom X.env.cells lam.names []) pm c ctv)) (nf : H f = none) (off : f ∉ frs X.stack)
    (bi : ∀ u : Value, bindArgs (PySem.W.kla_fn "<lambda>" (X.env.qual ++ "<lambda>") pr bo lam (cloFrom X.env.cells lam.names []) pm (.ref c) ctv) ⟨[u], []⟩ = pure [(p, u)])
    (hr : Room (k + 1) (X.A.deeper (envOfC x sg s.heap.objs.size g cdg))) (body : ∀ (A : Around) (outer : List Env) (t : Shared) (G : Hp), Room k (A.deeper (LamX.lamEnv X lam t.heap.objs.size f c)) → PE (lamQ X A outer t G lam p f c) bo tb)
    (at_ : Ng[i]? = some a) (vi : Vis sg a) (es : starEach [e] (getY X Ng x sg g cdg s H).env = [(false, eval e (getY X Ng x sg g cdg s H).env)]) (he : PE (getY X Ng x sg g cdg s H) e te) (nd : (a == ("__debug__" : Str)) = false := by decide) (nc : (a == ("__classdict__" : Str)) = false := by decide) :
    PE (getY X Ng x sg g cdg s H) (.Call (.Name a p1) [e] [] p2) (fun τ G Q => τ[i]? = some (some (.ref f)) ∧ te τ G fun v G1 => G1 c = some (LamX.CodeO c (X.env.qual ++ "<lambda>")) ∧ tb (σ ++ [some v]) G1 Q) := by
  constructor
  rintro pi t τ G Q J ⟨slot, arg⟩
  refine wpAny_Call_Name_kw (thn ((pe_var (pos := p1) (i := i) at_ vi nd nc).run pi t τ G (fun v G1 => v = .ref f ∧ G1 = G) J ⟨.ref f, slot, rfl, rfl⟩) fun uf t1 ⟨vf, Gf, J1, rf, ev, eG⟩ => ?_)
  subst ev eG
  obtain rfl : uf = Value.ref f := rf
  have stay : ∀ {τ' : L2.St} {G' : Hp} {t' : Shared}, Inv (getY X Ng x sg g cdg s H) pi τ' G' t' → t'.heap.get? f = some (PySem.W.kla_obj "<lambda>" (X.env.qual ++ "<lambda>") pr bo lam (cloFrom X.env.cells lam.names []) pm c ctv) := fun {τ' G' t'} K => by
    have un : Un (frs X.stack) [] H G' s.heap t'.heap := K.base
    exact un.keep f _ gf nf off (fun z => nomatch (show f ∈ ([] : List Addr) from z))
  refine PySem.W.callWith_F ⟨_, _, _, _, stay J1⟩ ?_ (he := es)
  rw [es]
  refine Calls.spliced_cons (thn (he.run pi t1 τ Gf _ J1 arg) fun u t2 ⟨v, G2, J2, r2, co, want⟩ => Calls.spliced_nil ⟨⟨_, _, _, _, stay J2⟩, ?_⟩)
  have g2 := stay J2
  have un : Un (frs X.stack) [] H G2 s.heap t2.heap := J2.base
  obtain ⟨⟨oc, vs, tn, goc, gd, gv⟩, _, _⟩ := J2.hok c _ co
  have run : codeAny (model X.prog X.w) (X.A.deeper (envOfC x sg s.heap.objs.size g cdg)) (.call (.ref f) ⟨[u], []⟩) (CR CX0 (envOfC x sg s.heap.objs.size g cdg :: X.stack) X.prog X.w G2 t2 Q E0) t2 := by
    refine PySem.W.kla_callFunE hr.depth g2 rfl L.co L.gen rfl ⟨c, oc, vs, tn, rfl, goc, gd, gv⟩ ?_
    rw [bi]
    refine wpAny_pure (wpAny_newFunctionEnv (fun y m => (L.own y m).2) (fun y m => ?_) (fun h1 ns sb => ⟨J2.nolimit.fresh _ sb, ?_⟩) L.kind)
    · rw [List.mem_singleton.mp m]; exact L.par
    change codeAny _ _ (.expr bo (LamX.lamEnv X lam t2.heap.objs.size f c)) _ _
    have start := lamQ_start (A := X.A.deeper (envOfC x sg s.heap.objs.size g cdg)) (outer := envOfC x sg s.heap.objs.size g cdg :: X.stack) (c := c) (f := f) (tk := t2.toks + ([(p, u)] : List (Str × Value)).length) I L np J2.env0 hr.hd un ns r2 fun b o e => sb.extBut b o (Nat.ne_of_lt (Heap.lt_size e)) (Heap.get?_push_of_some _ e)
    refine PySem.W.kla_codeExpr (wpAny_mono ((body _ _ t2 G2 (hr.deeper _)).run [] _ _ G2 Q start want) (fun z t3 ⟨y, G3, J3, ry, q⟩ => ?_) fun _ _ z => z.elim)
    exact ⟨y, G3, J3.os, J3.bare, J3.base, J3.hok, ry, q⟩
  refine wpAny_call (codeAny_mono run fun rr t3 z => ?_)
  cases rr with
  | error e => exact z.elim
  | ok fl => cases fl with
    | ret z' => exact J2.after z
    | next => exact z.elim
    | brk => exact z.elim
    | cont => exact z.elim
/-- what the def that gets a lambda does, tl telling what the lambda does -/
def GivesQ (X : Cx) (Ng : List Str) (x : Str) (sg : Scope) (g : Addr) (cdg : Value) (bg : List Stmt) (i : Nat) (a q : Str) (k : Nat) (sp : (V → Hp → VK → Prop) → V → Hp → VK → Prop) : Prop :=
  ∀ (f c : Addr) (s : Shared) (H : Hp) (v0 : V) (Q : VK) (tl : V → Hp → VK → Prop),
    (∀ (e : Expr) (te : TE) (p1 p2 : Pos), (∀ env, starEach [e] env = [(false, eval e env)]) → PE (getY X Ng x sg g cdg s H) e te →
      PE (getY X Ng x sg g cdg s H) (.Call (.Name a p1) [e] [] p2) (fun τ G Q => τ[i]? = some (some (.ref f)) ∧ te τ G fun v G1 => G1 c = some (LamX.CodeO c q) ∧ tl v G1 Q)) →
    H c = some (LamX.CodeO c q) → Room (k + 1) (X.A.deeper (envOfC x sg s.heap.objs.size g cdg)) → sp tl v0 H Q →
    ∃ t, PSs (getY X Ng x sg g cdg s H) bg t ∧ t { nx := fun _ G => Q .non G, rt := Q } (L2.start Ng [v0, .ref f]) H
def tLamQ (T : List (Addr × Str)) (sp : (V → Hp → VK → Prop) → V → Hp → VK → Prop) (ta tb : TE) : TE := fun σ H Q => ta σ H fun v0 G => LamX.Tabs T G ∧ ∀ G1, LamX.ExtN G G1 → LamX.Tabs T G1 → sp (fun v G2 Q' => tb (σ ++ [some v]) G2 Q') v0 G1 Q
/-- x(e, lambda p: bo) -/
theorem pe_lamQ {T : List (Addr × Str)} {sp : (V → Hp → VK → Prop) → V → Hp → VK → Prop} {x a0 a pn : Str} {g c P : Addr} {k : Nat} {st : Stmt} {fd : FuncData} {Ng : List Str} {pr : Arguments} {e bo : Expr} {lam : Scope} {ta tb : TE} {p lp pos : Pos}
    (hg : Gl X x) (hm : X.mg x = some (.ref g)) (F : Fun X.K x x st g fd) (kp : PySem.W.keepIn X.K (.ref g) = true) (hb : Binds X.K fd [a0, a] []) (Sg : FnScope Ng [a0, a] (defScope st)) (at_ : Ng[1]? = some a) (vi : Vis (defScope st) a)
    (hG : ∀ cdv, GivesQ X Ng x (defScope st) g cdv (defBody st) 1 a (X.env.qual ++ "<lambda>") k sp) (np : pn ∉ X.N)
    (TB : LamX.TabB X.base X.mg c P) (ec : X.env.code = .ref c) (mT : (P, X.env.qual ++ "<lambda>") ∈ T) (one : ∀ q ∈ T, q.1 = P → q.2 = X.env.qual ++ "<lambda>") (hr : Room (k + 2) X.A) (L : LamP X.env.scope lam pn) (df : defaultsOf pr X.env = ([], []))
    (bi : ∀ (q : Str) (cl : List (Str × Addr)) (pm cv ctv u : Value), bindArgs (PySem.W.kla_fn "<lambda>" q pr bo lam cl pm cv ctv) ⟨[u], []⟩ = pure [(pn, u)])
    (he : PE X e ta) (es : starEach [e, .Lambda pr bo lam lp] X.env = [(false, eval e X.env), (false, eval (.Lambda pr bo lam lp) X.env)])
    (body : ∀ (A : Around) (outer : List Env) (s : Shared) (H : Hp) (f c' : Addr), Room k (A.deeper (LamX.lamEnv X lam s.heap.objs.size f c')) → PE (lamQ X A outer s H lam pn f c') bo tb)
    (nx : (x == ("__debug__" : Str)) = false := by decide) (nd : (a == ("__debug__" : Str)) = false := by decide) (nc : (a == ("__classdict__" : Str)) = false := by decide) :
    PE X (.Call (.Name x p) [e, .Lambda pr bo lam lp] [] pos) (tLamQ T sp ta tb) := by
  obtain ⟨_, _, _, _, _, _, cdv, _, _, rfl, lk, hcd⟩ := F.ex
  constructor
  rintro pins s σ H Q I want
  refine wpAny_Call_Name_kw (ld_glob I hg hm (PySem.W.callWith_K (h₀ := X.base) I.ok.mod.kin kp ?_ es (by rfl)) nx)
  rw [es]
  refine Calls.spliced_cons (thn (he.run pins s σ H _ I want) fun u0 s0 ⟨v0, G0, I0, r0, tabs, want⟩ => Calls.spliced_cons (LamX.lam_make2 I0 TB ec mT one tabs df (L.has I0.ok) fun f c' pm ctv H1 s1 I1 eN T1 gf nf off co => Calls.spliced_nil ⟨I1.kIn, ?_⟩))
  have run : codeAny (model X.prog X.w) X.A (.call (.ref g) ⟨[u0, .ref f], []⟩) (CR CX0 X.stack X.prog X.w H1 s1 Q E0) s1 := by
    refine LamX.run_ofS (N := Ng) (ps := [a0, a]) (us := [u0, .ref f]) (vs := [v0, .ref f]) lk hcd Sg hr I1.env0 (hb s1 [u0, .ref f] I1.kIn rfl) (.cons r0 (.cons rfl .nil)) rfl fun hr' => ?_
    obtain ⟨t, ht, q⟩ := hG cdv f c' s1 H1 v0 Q (fun v G2 Q' => tb (σ ++ [some v]) G2 Q') (fun e te p1 p2 se pe => pe_got (i := 1) I1 L np gf nf off (bi _ _ _ _ _) hr' (fun A o s2 H2 hr2 => body A o s2 H2 f c' hr2) at_ vi (se _) pe nd nc) co hr' (want H1 eN T1)
    exact ⟨t, ht.nox, q⟩
  refine wpAny_call (codeAny_mono run fun rr s2 z => ?_)
  cases rr with
  | error e => exact (show False from z).elim
  | ok fl => cases fl with
    | ret u => exact I1.after z
    | next => exact z.elim
    | brk => exact z.elim
    | cont => exact z.elim
end
end Gn
set_option Elab.async false
set_option linter.all false
set_option maxRecDepth 100000
set_option maxHeartbeats 4000000
namespace Gn
open PySem PySem.Spec PyProof.Rows L2
/-- a test of two, the second one false where the first one is true -/
theorem andF {t q : TT} {σ : L2.St} {H : Hp} {R : Bool → Hp → Prop} (c : Bool) (h1 : ∀ S : Bool → Hp → Prop, S c H → t σ H S) (h2 : c = true → ∀ S : Bool → Hp → Prop, (∀ H', Same H H' → S false H') → q σ H S) (k : ∀ H', Same H H' → R false H') : tAnd t q σ H R := by
  refine h1 _ ?_
  cases c with
  | true => exact iteT (h2 rfl R k)
  | false => exact iteF (k H (Same.refl _))
/-- a value of two, each a truth -/
theorem andV_val {ta tb : TE} {σ : L2.St} {H : Hp} {Q : VK} (c b : Bool) (h1 : ∀ S : VK, S (.bl c) H → ta σ H S) (h2 : c = true → ∀ S : VK, S (.bl b) H → tb σ H S) (h3 : c = false → b = false) (k : Q (.bl b) H) : tAndV ta tb σ H Q := by
  refine h1 _ ⟨c, rfl, ?_⟩
  cases c with
  | true => exact iteT (h2 rfl Q k)
  | false => exact iteF (by rw [← h3 rfl]; exact k)
/-- a conditional expression whose ways change nothing -/
theorem if_any {tt : TT} {ta tb : TE} {σ : L2.St} {H : Hp} {Q : VK} (Φ : V → Prop) (c : Bool) (h : ∀ S : Bool → Hp → Prop, S c H → tt σ H S) (h1 : c = true → ∀ S : VK, (∀ v, Φ v → S v H) → ta σ H S) (h2 : c = false → ∀ S : VK, (∀ v, Φ v → S v H) → tb σ H S) (k : ∀ v, Φ v → Q v H) : tIf tt ta tb σ H Q := by
  refine h _ ?_
  cases c with
  | true => exact iteT (h1 rfl Q k)
  | false => exact iteF (h2 rfl Q k)
theorem nxI {a bk ct : L2.St → Hp → Prop} {rt : VK} {σ : L2.St} {H : Hp} (h : a σ H) : Ends.nx ⟨a, rt, bk, ct⟩ σ H := h
/-- an if whose test is false, new objects may be made -/
theorem seqIfF {c : TT} {t r : TS} {D : Ends} {σ : L2.St} {H : Hp} (h : ∀ R : Bool → Hp → Prop, (∀ H', Same H H' → R false H') → c σ H R) (k : ∀ H', Same H H' → r D σ H') : tSeq (tIfS c t tNext) r D σ H := h _ fun H' s => iteF (k H' s)
theorem lastIfF {c : TT} {t : TS} {D : Ends} {σ : L2.St} {H : Hp} (h : ∀ R : Bool → Hp → Prop, (∀ H', Same H H' → R false H') → c σ H R) (k : ∀ H', Same H H' → D.nx σ H') : tIfS c t tNext D σ H := h _ fun H' s => iteF (k H' s)
/-- a value given to a name -/
theorem seqSet {te : TE} {i : Nat} {r : TS} {D : Ends} {σ : L2.St} {H : Hp} (h : te σ H fun v H' => r D (σ.set i (some v)) H') : tSeq (tAsg te (gName i)) r D σ H := h
theorem nextI {D : Ends} {σ : L2.St} {H : Hp} (h : D.nx σ H) : tNext D σ H := h
end Gn
set_option Elab.async false
set_option linter.all false
set_option maxRecDepth 100000
set_option maxHeartbeats 8000000
set_option exponentiation.threshold 4000
namespace My
open PySem PySem.Spec PyProof.Rows L2 Gn Mt
abbrev s_is_fraction : Stmt := top 21
theorem sc_is_fraction : FnScope ["given", "top", "bottom"] ["given"] (defScope s_is_fraction) := ⟨rfl, rfl, rfl, by decide +kernel, rfl, by decide +kernel, by decide +kernel⟩
abbrev s_is_part : Stmt := top 23
theorem sc_is_part : FnScope ["given"] ["given"] (defScope s_is_part) := ⟨rfl, rfl, rfl, by decide +kernel, rfl, by decide +kernel, by decide +kernel⟩
abbrev s_is_less : Stmt := top 24
theorem sc_is_less : FnScope ["one", "other"] ["one", "other"] (defScope s_is_less) := ⟨rfl, rfl, rfl, by decide +kernel, rfl, by decide +kernel, by decide +kernel⟩
abbrev s_mediant : Stmt := top 35
theorem sc_mediant : FnScope ["low", "high"] ["low", "high"] (defScope s_mediant) := ⟨rfl, rfl, rfl, by decide +kernel, rfl, by decide +kernel, by decide +kernel⟩
abbrev s__cuts_at : Stmt := top 45
theorem sc__cuts_at : FnScope ["piece", "low", "high", "first", "last"] ["piece"] (defScope s__cuts_at) := ⟨rfl, rfl, rfl, by decide +kernel, rfl, by decide +kernel, by decide +kernel⟩
abbrev s__is_ahead : Stmt := top 46
theorem sc__is_ahead : FnScope ["cut", "other"] ["cut", "other"] (defScope s__is_ahead) := ⟨rfl, rfl, rfl, by decide +kernel, rfl, by decide +kernel, by decide +kernel⟩
/-! fractions, cuts and pieces as data -/
def frD (p : Int × Int) : PyData := .tuple [.int p.1, .int p.2]
def bI (b : Bool) : Int := if b = true then 1 else 0
def cutD (c : Cut) : PyData := .tuple [frD (c.n, c.d), .int (bI c.b)]
def pcD (c e : Cut) : PyData := .tuple [frD (c.n, c.d), frD (e.n, e.d), .bool (!c.b), .bool e.b]
def pcsD : List Cut → List PyData
  | c :: e :: r => pcD c e :: pcsD r
  | _ => []
/-- not too long -/
def Lit (p : Int × Int) : Prop := p.1.natAbs < 2 ^ 1000 ∧ p.2.natAbs < 2 ^ 1000
section
variable {K : PySem.W.Frag} {H : Hp} {v : V}
theorem fr_inv {p : Int × Int} (h : Dp K H v (frD p)) : ∃ a, v = .ref a ∧ SqT K H a [.int p.1, .int p.2] := by
  cases h with
  | tup a b =>
    cases b with
    | cons x r => cases r with
      | cons y r => cases r; cases x; cases y; exact ⟨_, rfl, a⟩
theorem fr_mk {a : Addr} {x y : Int} (h : SqT K H a [.int x, .int y]) : Dp K H (.ref a) (frD (x, y)) := .tup h (.cons (.int _) (.cons (.int _) .nil))
theorem cut_inv {c : Cut} (h : Dp K H v (cutD c)) : ∃ a l, v = .ref a ∧ SqT K H a [l, .int (bI c.b)] ∧ Dp K H l (frD (c.n, c.d)) := by
  cases h with
  | tup a b =>
    cases b with
    | cons x r => cases r with
      | cons y r => cases r; cases y; exact ⟨_, _, rfl, a, x⟩
theorem cut_mk {a : Addr} {l : V} {c : Cut} (h : SqT K H a [l, .int (bI c.b)]) (d : Dp K H l (frD (c.n, c.d))) : Dp K H (.ref a) (cutD c) := .tup h (.cons d (.cons (.int _) .nil))
theorem pc_inv {c e : Cut} (h : Dp K H v (pcD c e)) : ∃ a l g, v = .ref a ∧ SqT K H a [l, g, .bl (!c.b), .bl e.b] ∧ Dp K H l (frD (c.n, c.d)) ∧ Dp K H g (frD (e.n, e.d)) := by
  cases h with
  | tup a b =>
    cases b with
    | cons x r => cases r with
      | cons y r => cases r with
        | cons z r => cases r with
          | cons u r => cases r; cases z; cases u; exact ⟨_, _, _, rfl, a, x, y⟩
theorem pc_mk {a : Addr} {l g : V} {c e : Cut} (h : SqT K H a [l, g, .bl (!c.b), .bl e.b]) (d : Dp K H l (frD (c.n, c.d))) (d' : Dp K H g (frD (e.n, e.d))) : Dp K H (.ref a) (pcD c e) := .tup h (.cons d (.cons d' (.cons (.bl _) (.cons (.bl _) .nil))))
theorem fr_shaped (p : Int × Int) : SeqAt.shaped (frD p) = true := by rfl
theorem fr_eqv (p q : Int × Int) : PyData.eqv (frD p) (frD q) = decide (p.1 = q.1 ∧ p.2 = q.2) := pair_eqv
end
def spLess (K : PySem.W.Frag) : Sp := fun vs H Q _ => ∃ (u v : V) (p q : Int × Int), vs = [u, v] ∧ Dp K H u (frD p) ∧ Dp K H v (frD q) ∧ Lit p ∧ Lit q ∧ Q (.bl (decide (p.1 * q.2 < q.1 * p.2))) H
def spPart (K : PySem.W.Frag) : Sp := fun vs H Q _ => ∃ (u : V) (p : Int × Int), vs = [u] ∧ Dp K H u (frD p) ∧ Frc p ∧ Q (.bl true) H
def spAhead (K : PySem.W.Frag) : Sp := fun vs H Q _ => ∃ (u v : V) (c e : Cut), vs = [u, v] ∧ Dp K H u (cutD c) ∧ Dp K H v (cutD e) ∧ Lit (c.n, c.d) ∧ Lit (e.n, e.d) ∧ Q (.bl (c.lt e)) H
def spCuts (K : PySem.W.Frag) : Sp := fun vs H Q _ => ∃ (u : V) (c e : Cut), vs = [u] ∧ Dp K H u (pcD c e) ∧
  ∀ r x y H', Same H H' → H r = none → H' r = some (.tup [x, y]) → Dp K H' x (cutD c) → Dp K H' y (cutD e) → Q (.ref r) H'
def spMed (K : PySem.W.Frag) : Sp := fun vs H Q _ => ∃ (u v : V) (p q : Int × Int), vs = [u, v] ∧ Dp K H u (frD p) ∧ Dp K H v (frD q) ∧ 0 ≤ p.1 + q.1 ∧ 0 < p.2 + q.2 ∧ (p.2 + q.2).natAbs < 2 ^ 100 ∧
  ∀ r H', Same H H' → Dp K H' (.ref r) (frD (med p q)) → Q (.ref r) H'
section
variable {P : Program} {w : World} {K : PySem.W.Frag} {mg : Str → Option Value} {base : Heap}
theorem ok_less {f : Addr} {fd : FuncData} (F : Fun K "is_less" "is_less" s_is_less f fd) : FnOk P w K mg base CX0 1 f fd ["one", "other"] (spLess K) := by
  refine F.ok sc_is_less (fun vs H Q E h => ?_) (fun cdv A outer s H vs Q E hr h => ?_)
  · obtain ⟨u, v, p, q, rfl, _⟩ := h
    rfl
  · obtain ⟨u, v, p, q, rfl, h1, h2, l1, l2, k⟩ := h
    refine ⟨_, pss_one (ps_ret (pe_cmpR op_lt (pe_op op_mulW (pe_ix ix_tup (pv 0) pe_int (fun _ _ => rfl)) (pe_ix ix_tup (pv 1) pe_int (fun _ _ => rfl))) (pe_op op_mulW (pe_ix ix_tup (pv 1) pe_int (fun _ _ => rfl)) (pe_ix ix_tup (pv 0) pe_int (fun _ _ => rfl))) (nomark _))), ?_⟩
    obtain ⟨a, rfl, ha⟩ := fr_inv h1
    obtain ⟨b, rfl, hb⟩ := fr_inv h2
    refine ⟨_, rfl, a, _, 0, .int p.1, rfl, rfl, ha, at_of (j := 0) rfl rfl, _, rfl, b, _, 1, .int q.2, rfl, rfl, hb, at_of (j := 1) rfl rfl, _, _, rfl, rfl, wide_mul l1.1 l2.2 (by decide) (by decide) (by decide), ?_⟩
    exact ⟨_, rfl, b, _, 0, .int q.1, rfl, rfl, hb, at_of (j := 0) rfl rfl, _, rfl, a, _, 1, .int p.2, rfl, rfl, ha, at_of (j := 1) rfl rfl, _, _, rfl, rfl, wide_mul l2.1 l1.2 (by decide) (by decide) (by decide), _, _, rfl, rfl, k⟩
theorem ok_frac {f fI : Addr} {fd fdI : FuncData} (F : Fun K "is_fraction" "is_fraction" s_is_fraction f fd) (B : Bc mg) (D : Df K mg "is_integer" sIsInt ["given"] fI fdI) : FnOk P w K mg base CX0 2 f fd ["given"] (spPart K) := by
  have GI : FnOk P w K mg base CX0 1 fI fdI ["given"] spIsInt := ok_isInt D.F B
  refine F.ok sc_is_fraction (fun vs H Q E h => ?_) (fun cdv A outer s H vs Q E hr h => ?_)
  · obtain ⟨u, p, rfl, _⟩ := h
    rfl
  · obtain ⟨u, p, rfl, hp, fp, k⟩ := h
    obtain ⟨t, rfl, hT⟩ := fr_inv hp
    refine ⟨_, pss_cons (ps_if (PW.pt (pw_or (pt_not (pt_val (pe_callB (call_isi) (by rfl) B.isi (by decide +kernel) (pa_cons (pv 0) (pa_cons (pe_bltn (v := .ty "tuple") (by rfl) B.tuple (by decide +kernel) rfl) pa_nil))))) (pw_or1 (pt_cmpR op_ne (pe_callB (call_len_seq) (by rfl) B.len (by decide +kernel) (pa_cons (pv 0) pa_nil)) pe_int (nomark _))))) (pss_one (ps_ret pe_bl)) pss_nil) (pss_cons (ps_asg (pv 0) (pg_tup (by rfl) (pgs_cons (pg_name (i := 1) sc_is_fraction.nd rfl (.inl rfl)) (pgs_cons (pg_name (i := 2) sc_is_fraction.nd rfl (.inl rfl)) pgs_nil)))) (pss_cons (ps_if (PW.pt (pw_or (pt_not (pt_val (pe_call GI hr (by rfl) D.g D.F.kp D.b .nil pass0 (pa_cons (pv 1) pa_nil)))) (pw_or1 (pt_not (pt_val (pe_call GI hr (by rfl) D.g D.F.kp D.b .nil pass0 (pa_cons (pv 2) pa_nil))))))) (pss_one (ps_ret pe_bl)) pss_nil) (pss_one (ps_ret (pe_and (pe_cmpR op_ge (pv 2) pe_int (nomark _)) (pe_one (pe_cmpR op_eq (pe_callBfun cr_gcd (by rfl) B.gcd (pa_cons (pv 1) (pa_cons (pv 2) pa_nil))) pe_int (nomark _)))))))), ?_⟩
    refine ⟨_, rfl, .ref t, .ty "tuple", _, _, true, rfl, .ty "tuple", tyx_sqt hT, kit_ty (by decide +kernel), true, rfl, iteF ?_⟩
    refine ⟨_, rfl, t, _, rfl, .inr hT, rfl, _, rfl, iteF ?_⟩
    refine ⟨_, rfl, t, _, rfl, hT, rfl, _, _, rfl, _, _, rfl, rfl, ?_⟩
    refine ⟨_, rfl, p.1, rfl, true, rfl, iteF ⟨_, rfl, p.2, rfl, true, rfl, iteF ?_⟩⟩
    have d0 := fp.d0
    refine ⟨_, rfl, _, _, rfl, rfl, _, rfl, ?_⟩
    rw [decide_eq_true (show (1 : Int) ≤ p.2 by omega)]
    refine iteT ⟨_, rfl, _, rfl, p.1, p.2, rfl, ?_⟩
    have co : Nat.gcd p.1.natAbs p.2.natAbs = 1 := fp.co
    rw [co]
    exact ⟨rfl, k⟩
theorem ok_part {f fI fR : Addr} {fd fdI fdR : FuncData} (F : Fun K "is_part" "is_part" s_is_part f fd) (B : Bc mg) (D : Df K mg "is_integer" sIsInt ["given"] fI fdI) (R : Df K mg "is_fraction" s_is_fraction ["given"] fR fdR) : FnOk P w K mg base CX0 3 f fd ["given"] (spPart K) := by
  have GR : FnOk P w K mg base CX0 2 fR fdR ["given"] (spPart K) := ok_frac R.F B D
  refine F.ok sc_is_part (fun vs H Q E h => ?_) (fun cdv A outer s H vs Q E hr h => ?_)
  · obtain ⟨u, p, rfl, _⟩ := h
    rfl
  · obtain ⟨u, p, rfl, hp, fp, k⟩ := h
    have hp0 := hp
    obtain ⟨t, rfl, hT⟩ := fr_inv hp
    refine ⟨_, pss_one (ps_ret (pe_and (pe_call GR hr (by rfl) R.g R.F.kp R.b .nil pass0 (pa_cons (pv 0) pa_nil)) (pe_one (pe_chain op_le op_le pe_int (pe_ix ix_tup (pv 0) pe_int (fun _ _ => rfl)) (pe_ix ix_tup (pv 0) pe_int (fun _ _ => rfl)))))), ?_⟩
    refine ⟨_, rfl, _, p, rfl, hp0, fp, true, rfl, iteT ?_⟩
    refine ⟨_, rfl, t, _, 0, .int p.1, rfl, rfl, hT, at_of (j := 0) rfl rfl, _, _, rfl, rfl, _, rfl, ?_⟩
    rw [decide_eq_true fp.n0]
    refine iteT ⟨_, rfl, t, _, 1, .int p.2, rfl, rfl, hT, at_of (j := 1) rfl rfl, _, _, rfl, rfl, ?_⟩
    show Q (.bl (decide (p.1 ≤ p.2))) H
    rw [decide_eq_true fp.le]
    exact k
theorem ok_med {f fL : Addr} {fd fdL : FuncData} (F : Fun K "mediant" "mediant" s_mediant f fd) (B : Bc mg) (L : Df K mg "lowest" sLowest ["top", "bottom"] fL fdL) : FnOk P w K mg base CX0 2 f fd ["low", "high"] (spMed K) := by
  have GL : FnOk P w K mg base CX0 1 fL fdL ["top", "bottom"] spLow := ok_lowest L.F B
  refine F.ok sc_mediant (fun vs H Q E h => ?_) (fun cdv A outer s H vs Q E hr h => ?_)
  · obtain ⟨u, v, p, q, rfl, _⟩ := h
    rfl
  · obtain ⟨u, v, p, q, rfl, h1, h2, n0, d0, db, k⟩ := h
    obtain ⟨a, rfl, ha⟩ := fr_inv h1
    obtain ⟨b, rfl, hb⟩ := fr_inv h2
    refine ⟨_, pss_one (ps_ret (pe_call GL hr (by rfl) L.g L.F.kp L.b .nil pass0 (pa_cons (pe_op op_add (pe_ix ix_tup (pv 0) pe_int (fun _ _ => rfl)) (pe_ix ix_tup (pv 1) pe_int (fun _ _ => rfl))) (pa_cons (pe_op op_add (pe_ix ix_tup (pv 0) pe_int (fun _ _ => rfl)) (pe_ix ix_tup (pv 1) pe_int (fun _ _ => rfl))) pa_nil)))), ?_⟩
    refine ⟨_, rfl, a, _, 0, .int p.1, rfl, rfl, ha, at_of (j := 0) rfl rfl, _, rfl, b, _, 0, .int q.1, rfl, rfl, hb, at_of (j := 0) rfl rfl, _, _, rfl, rfl, ?_⟩
    refine ⟨_, rfl, a, _, 1, .int p.2, rfl, rfl, ha, at_of (j := 1) rfl rfl, _, rfl, b, _, 1, .int q.2, rfl, rfl, hb, at_of (j := 1) rfl rfl, _, _, rfl, rfl, _, _, rfl, n0, d0, db, fun r nr => ?_⟩
    exact k r _ (same_put nr) (fr_mk (SqT.of upd_same))
theorem ok_ahead {f fL : Addr} {fd fdL : FuncData} (F : Fun K "_is_ahead" "_is_ahead" s__is_ahead f fd) (L : Df K mg "is_less" s_is_less ["one", "other"] fL fdL) : FnOk P w K mg base CX0 2 f fd ["cut", "other"] (spAhead K) := by
  have GL : FnOk P w K mg base CX0 1 fL fdL ["one", "other"] (spLess K) := ok_less L.F
  refine F.ok sc__is_ahead (fun vs H Q E h => ?_) (fun cdv A outer s H vs Q E hr h => ?_)
  · obtain ⟨u, v, p, q, rfl, _⟩ := h
    rfl
  · obtain ⟨u, v, c, e, rfl, h1, h2, l1, l2, k⟩ := h
    have hu := hr.units
    obtain ⟨a, x, rfl, ha, dx⟩ := cut_inv h1
    obtain ⟨b, y, rfl, hb, dy⟩ := cut_inv h2
    refine ⟨_, pss_cons (ps_if (pt_cmpR (op_eqD hu) (pe_ix ix_tup (pv 0) pe_int (fun _ _ => rfl)) (pe_ix ix_tup (pv 1) pe_int (fun _ _ => rfl)) (nomark _)) (pss_one (ps_ret (pe_cmpR op_lt (pe_ix ix_tup (pv 0) pe_int (fun _ _ => rfl)) (pe_ix ix_tup (pv 1) pe_int (fun _ _ => rfl)) (nomark _)))) pss_nil) (pss_one (ps_ret (pe_call GL hr (by rfl) L.g L.F.kp L.b .nil pass0 (pa_cons (pe_ix ix_tup (pv 0) pe_int (fun _ _ => rfl)) (pa_cons (pe_ix ix_tup (pv 1) pe_int (fun _ _ => rfl)) pa_nil))))), ?_⟩
    refine ⟨_, rfl, a, _, 0, x, rfl, rfl, ha, at_of (j := 0) rfl rfl, _, rfl, b, _, 0, y, rfl, rfl, hb, at_of (j := 0) rfl rfl, _, _, dx, dy, fr_shaped _, fr_shaped _, _, rfl, ?_⟩
    rw [fr_eqv]
    unfold Cut.lt at k
    refine ite2 (fun z => ?_) (fun z => ?_)
    · have z := of_decide_eq_true z
      rw [if_pos z] at k
      refine ⟨_, rfl, a, _, 1, .int (bI c.b), rfl, rfl, ha, at_of (j := 1) rfl rfl, _, rfl, b, _, 1, .int (bI e.b), rfl, rfl, hb, at_of (j := 1) rfl rfl, _, _, rfl, rfl, ?_⟩
      have : decide (bI c.b < bI e.b) = (!c.b && e.b) := by cases c.b <;> cases e.b <;> decide
      show Q (.bl (decide (bI c.b < bI e.b))) H
      rw [this]
      exact k
    · have z : ¬ (c.n = e.n ∧ c.d = e.d) := fun q => z (decide_eq_true q)
      rw [if_neg z] at k
      exact ⟨_, rfl, a, _, 0, x, rfl, rfl, ha, at_of (j := 0) rfl rfl, _, rfl, b, _, 0, y, rfl, rfl, hb, at_of (j := 0) rfl rfl, _, _, _, _, rfl, dx, dy, l1, l2, k⟩
theorem ok_cuts {f : Addr} {fd : FuncData} (F : Fun K "_cuts_at" "_cuts_at" s__cuts_at f fd) : FnOk P w K mg base CX0 1 f fd ["piece"] (spCuts K) := by
  refine F.ok sc__cuts_at (fun vs H Q E h => ?_) (fun cdv A outer s H vs Q E hr h => ?_)
  · obtain ⟨u, c, e, rfl, _⟩ := h
    rfl
  · obtain ⟨u, c, e, rfl, h1, k⟩ := h
    obtain ⟨a, x, y, rfl, ha, dx, dy⟩ := pc_inv h1
    refine ⟨_, pss_cons (ps_asg (pv 0) (pg_tup (by rfl) (pgs_cons (pg_name (i := 1) sc__cuts_at.nd rfl (.inl rfl)) (pgs_cons (pg_name (i := 2) sc__cuts_at.nd rfl (.inl rfl)) (pgs_cons (pg_name (i := 3) sc__cuts_at.nd rfl (.inl rfl)) (pgs_cons (pg_name (i := 4) sc__cuts_at.nd rfl (.inl rfl)) pgs_nil)))))) (pss_one (ps_ret (pe_tup (pa_cons (pe_tup (pa_cons (pv 1) (pa_cons (pe_ifExp (pt_val (pv 3)) pe_int pe_int) pa_nil))) (pa_cons (pe_tup (pa_cons (pv 2) (pa_cons (pe_ifExp (pt_val (pv 4)) pe_int pe_int) pa_nil))) pa_nil))))), ?_⟩
    refine ⟨_, rfl, a, _, rfl, ha, rfl, _, _, rfl, _, _, rfl, _, _, rfl, _, _, rfl, rfl, ?_⟩
    refine ⟨_, rfl, ?_⟩
    refine if_any (fun v => v = .int (bI c.b)) (!c.b) (fun S s => ⟨_, rfl, _, rfl, s⟩) (fun z S s => s _ (by cases h : c.b with | true => rw [h] at z; cases z | false => rfl)) (fun z S s => s _ (by cases h : c.b with | false => rw [h] at z; cases z | true => rfl)) (fun v hv => ?_)
    subst hv
    refine ⟨(by show 2 ≤ sizeLine; decide), fun r1 n1 => ⟨_, rfl, ?_⟩⟩
    have s1 := same_put (o := HO.tup [x, .int (bI c.b)]) n1
    have g1 : upd H r1 (HO.tup [x, .int (bI c.b)]) r1 = some (.tup [x, .int (bI c.b)]) := upd_same
    generalize upd H r1 (HO.tup [x, .int (bI c.b)]) = H1 at *
    refine if_any (fun v => v = .int (bI e.b)) e.b (fun S s => ⟨_, rfl, _, rfl, s⟩) (fun z S s => s _ (by rw [z]; rfl)) (fun z S s => s _ (by rw [z]; rfl)) (fun v hv => ?_)
    subst hv
    refine ⟨(by show 2 ≤ sizeLine; decide), fun r2 n2 => ⟨(by show 2 ≤ sizeLine; decide), fun r n => ?_⟩⟩
    have s2 := same_put (o := HO.tup [y, .int (bI e.b)]) n2
    have g2 : upd H1 r2 (HO.tup [y, .int (bI e.b)]) r2 = some (.tup [y, .int (bI e.b)]) := upd_same
    generalize upd H1 r2 (HO.tup [y, .int (bI e.b)]) = H2 at *
    have s3 := same_put (o := HO.tup [.ref r1, .ref r2]) n
    have S := (s1.trans s2).trans s3
    exact k r _ _ _ S ((s1.trans s2).free n) upd_same (cut_mk (SqT.of (s3 _ _ (s2 _ _ g1))) (dp_same S _ _ dx)) (cut_mk (SqT.of (s3 _ _ g2)) (dp_same S _ _ dy))
end
end My
set_option Elab.async false
set_option linter.all false
set_option maxRecDepth 100000
set_option maxHeartbeats 4000000
/-! data that a list's growing leaves as it is -/
namespace Gn
open PySem PySem.Spec PyProof.Rows L2
theorem small1e4 {n : Nat} (h : n ≤ 10000) : n < sizeLine := Nat.lt_of_le_of_lt h (by decide)
mutual
/-- no list in it, no dict -/
def noL : PyData → Bool
  | .list _ => false
  | .dict _ => false
  | .tuple ds => noLs ds
  | _ => true
def noLs : List PyData → Bool
  | [] => true
  | d :: ds => noL d && noLs ds
end
theorem noLs_iff : ∀ {ds : List PyData}, noLs ds = true ↔ ∀ d ∈ ds, noL d = true
  | [] => ⟨(fun _ d m => nomatch m), fun _ => by unfold noLs; rfl⟩
  | d :: ds => by
    unfold noLs
    rw [Bool.and_eq_true, noLs_iff]
    exact ⟨fun h x m => (List.mem_cons.mp m).elim (fun e => e ▸ h.1) (h.2 x), fun h => ⟨h d List.mem_cons_self, fun x m => h x (List.mem_cons_of_mem _ m)⟩⟩
/-- all but lists last -/
def ButL (H H' : Hp) : Prop := ∀ b o, (∀ ys, o ≠ HO.lst ys) → H b = some o → H' b = some o
theorem ButL.sq {K : PySem.W.Frag} {H H' : Hp} {a : Addr} {xs : List V} (k : ButL H H') (h : SqT K H a xs) : SqT K H' a xs := by
  rcases h with (h | ⟨o, h⟩) | h
  · exact .inl (.inl (k _ _ (fun ys z => by cases z) h))
  · exact .inl (.inr ⟨o, k _ _ (fun ys z => by cases z) h⟩)
  · exact .inr h
mutual
theorem dp_butL {K : PySem.W.Frag} {H H' : Hp} (k : ButL H H') : ∀ (d : PyData) (v : V), noL d = true → Dp K H v d → Dp K H' v d
  | .none, _, _, h => by cases h; exact .non
  | .bool b, _, _, h => by cases h; exact .bl b
  | .int i, _, _, h => by cases h; exact .int i
  | .str x, _, _, h => by cases h; exact .str x
  | .list ds, _, n, _ => by unfold noL at n; cases n
  | .tuple ds, _, n, h => by cases h with | tup a b => exact .tup (k.sq a) (dps_butL k ds _ (by unfold noL at n; exact n) b)
  | .dict _, _, n, _ => by unfold noL at n; cases n
theorem dps_butL {K : PySem.W.Frag} {H H' : Hp} (k : ButL H H') : ∀ (ds : List PyData) (vs : List V), noLs ds = true → DpAll K H vs ds → DpAll K H' vs ds
  | [], _, _, h => by cases h; exact .nil
  | d :: ds, _, n, h => by
    unfold noLs at n
    rw [Bool.and_eq_true] at n
    cases h with | cons a b => exact .cons (dp_butL k d _ n.1 a) (dps_butL k ds _ n.2 b)
end
theorem butL_upd {H : Hp} {D : Addr} {ys zs : List V} (h : H D = some (.lst ys)) : ButL H (upd H D (.lst zs)) := fun b o n e => by
  have ne : b ≠ D := fun z => by rw [z, h] at e; exact n ys (Option.some.inj e).symm
  rw [upd_ne ne]; exact e
theorem dp_upd {K : PySem.W.Frag} {H : Hp} {D : Addr} {ys zs : List V} {v : V} {d : PyData} (h : H D = some (.lst ys)) (n : noL d = true) (x : Dp K H v d) : Dp K (upd H D (.lst zs)) v d := dp_butL (butL_upd h) d v n x
theorem dps_upd {K : PySem.W.Frag} {H : Hp} {D : Addr} {ys zs vs : List V} {ds : List PyData} (h : H D = some (.lst ys)) (n : noLs ds = true) (x : DpAll K H vs ds) : DpAll K (upd H D (.lst zs)) vs ds := dps_butL (butL_upd h) ds vs n x
end Gn
set_option Elab.async false
set_option linter.all false
set_option maxRecDepth 100000
set_option maxHeartbeats 8000000
set_option exponentiation.threshold 4000
namespace My
open PySem PySem.Spec PyProof.Rows L2 Gn Mt
abbrev s__first_wrong : Stmt := top 43
theorem sc__first_wrong : FnScope ["pieces", "at", "piece"] ["pieces"] (defScope s__first_wrong) := ⟨rfl, rfl, rfl, by decide +kernel, rfl, by decide +kernel, by decide +kernel⟩
abbrev s__is_piece : Stmt := top 44
theorem sc__is_piece : FnScope ["given", "low", "high", "first", "last", "begin", "end"] ["given"] (defScope s__is_piece) := ⟨rfl, rfl, rfl, by decide +kernel, rfl, by decide +kernel, by decide +kernel⟩
abbrev s__lot_with : Stmt := top 47
theorem sc__lot_with : FnScope ["cuts", "pieces", "begin", "end"] ["cuts"] (defScope s__lot_with) := ⟨rfl, rfl, rfl, by decide +kernel, rfl, by decide +kernel, by decide +kernel⟩
/-! lots: what their pieces have to be, the class, its making -/
abbrev s_linit : Stmt := inClass (top 40) 0
abbrev s_lpieces : Stmt := inClass (top 40) 2
theorem sc_linit : FnScope ["self", "pieces", "wrong"] ["self", "pieces"] (defScope s_linit) := ⟨rfl, rfl, rfl, by decide +kernel, rfl, by decide +kernel, by decide +kernel⟩
theorem sc_lpieces : FnScope ["self"] ["self"] (defScope s_lpieces) := ⟨rfl, rfl, rfl, by decide +kernel, rfl, by decide +kernel, by decide +kernel⟩
/-- a lot's cuts, none too long -/
structure LtL (cs : List Cut) : Prop extends Lt cs where
  lit : ∀ c ∈ cs, Lit (c.n, c.d)
/-- a lot stands at v -/
def LotAt (K : PySem.W.Frag) (C : Addr) (H : Hp) (v : V) (cs : List Cut) : Prop := ∃ x dx a, v = .ref x ∧ H x = some (.ins C dx [("_pieces", .ref a)]) ∧ Dp K H (.ref a) (.tuple (pcsD cs))
theorem LotAt.same {K : PySem.W.Frag} {C : Addr} {H H' : Hp} {v : V} {cs : List Cut} (h : LotAt K C H v cs) (s : Same H H') : LotAt K C H' v cs := by
  obtain ⟨x, dx, a, e, h1, h2⟩ := h
  exact ⟨x, dx, a, e, s _ _ h1, dp_same s _ _ h2⟩
section
variable {K : PySem.W.Frag} {H : Hp}
theorem dps_get : ∀ {xs : List V} {ds : List PyData}, DpAll K H xs ds → ∀ {i : Nat} {x : V}, xs[i]? = some x → ∃ d, ds[i]? = some d ∧ Dp K H x d
  | _, _, .nil, i, x, h => by simp at h
  | _, _, .cons a b, 0, x, h => by cases h; exact ⟨_, rfl, a⟩
  | _, _, .cons a b, i + 1, x, h => dps_get b h
theorem dps_at : ∀ {xs : List V} {ds : List PyData}, DpAll K H xs ds → ∀ {i : Nat} {d : PyData}, ds[i]? = some d → ∃ x, xs[i]? = some x ∧ Dp K H x d
  | _, _, .nil, i, x, h => by simp at h
  | _, _, .cons a b, 0, x, h => by cases h; exact ⟨_, rfl, a⟩
  | _, _, .cons a b, i + 1, x, h => dps_at b h
theorem dps_len : ∀ {xs : List V} {ds : List PyData}, DpAll K H xs ds → xs.length = ds.length
  | _, _, .nil => rfl
  | _, _, .cons _ b => congrArg Nat.succ (dps_len b)
theorem dps_snoc : ∀ {xs : List V} {ds : List PyData} {x : V} {d : PyData}, DpAll K H xs ds → Dp K H x d → DpAll K H (xs ++ [x]) (ds ++ [d])
  | _, _, _, _, .nil, h => .cons h .nil
  | _, _, _, _, .cons a b, h => .cons a (dps_snoc b h)
theorem tup_inv {v : V} {ds : List PyData} (h : Dp K H v (.tuple ds)) : ∃ a xs, v = .ref a ∧ SqT K H a xs ∧ DpAll K H xs ds := by
  cases h with
  | tup a b => exact ⟨_, _, rfl, a, b⟩
theorem lst_inv {v : V} {ds : List PyData} (h : Dp K H v (.list ds)) : ∃ a xs, v = .ref a ∧ SqL K H a xs ∧ DpAll K H xs ds := by
  cases h with
  | lst a b => exact ⟨_, _, rfl, a, b⟩
end
theorem pcs_get : ∀ {cs : List Cut} {i : Nat} {d : PyData}, (pcsD cs)[i]? = some d → ∃ c e, cs[2 * i]? = some c ∧ cs[2 * i + 1]? = some e ∧ d = pcD c e
  | c :: e :: r, 0, d, h => ⟨c, e, rfl, rfl, (Option.some.inj h).symm⟩
  | c :: e :: r, i + 1, d, h => by
    obtain ⟨a, b, h1, h2, h3⟩ := pcs_get (cs := r) (i := i) h
    refine ⟨a, b, ?_, ?_, h3⟩
    · rw [show 2 * (i + 1) = 2 * i + 1 + 1 by omega]; exact h1
    · rw [show 2 * (i + 1) + 1 = 2 * i + 1 + 1 + 1 by omega]; exact h2
  | [], i, d, h => by simp [pcsD] at h
  | [c], i, d, h => by simp [pcsD] at h
theorem pcs_noL : ∀ {cs : List Cut} {d : PyData}, d ∈ pcsD cs → noL d = true
  | c :: e :: r, d, h => by
    rcases List.mem_cons.mp h with rfl | h
    · rfl
    · exact pcs_noL (cs := r) h
  | [], _, h => nomatch h
  | [_], _, h => nomatch h
theorem pcs_len : ∀ {cs : List Cut}, odd cs.length = false → 2 * (pcsD cs).length = cs.length
  | [], _ => rfl
  | [c], h => by simp [odd] at h
  | c :: e :: r, h => by
    have := pcs_len (cs := r) (by simpa [odd] using h)
    show 2 * ((pcsD r).length + 1) = r.length + 1 + 1
    omega
theorem pcs_at {cs : List Cut} (h : odd cs.length = false) {i : Nat} (hi : i < (pcsD cs).length) : ∃ c e, cs[2 * i]? = some c ∧ cs[2 * i + 1]? = some e ∧ (pcsD cs)[i]? = some (pcD c e) := by
  obtain ⟨c, e, h1, h2, h3⟩ := pcs_get (List.getElem?_eq_getElem hi)
  exact ⟨c, e, h1, h2, by rw [← h3]; exact List.getElem?_eq_getElem hi⟩
theorem asc_at {cs : List Cut} (h : Asc cs) {i j : Nat} {c e : Cut} (hc : cs[i]? = some c) (he : cs[j]? = some e) (lt : i < j) : c.lt e = true := by
  obtain ⟨li, rfl⟩ := List.getElem?_eq_some_iff.mp hc
  obtain ⟨lj, rfl⟩ := List.getElem?_eq_some_iff.mp he
  exact List.pairwise_iff_getElem.mp h i j li lj lt
theorem evens_at {α : Type} : ∀ (l : List α) (i : Nat), (evens l)[i]? = l[2 * i]?
  | [], i => by simp [evens]
  | [a], 0 => rfl
  | [a], i + 1 => by simp [evens]
  | a :: b :: r, 0 => rfl
  | a :: b :: r, i + 1 => by
    rw [show 2 * (i + 1) = 2 * i + 1 + 1 by omega]
    exact evens_at r i
theorem evens_both {α : Type} : ∀ (l : List α), odd l.length = false → 2 * (evens l).length = l.length ∧ 2 * (evens (l.drop 1)).length = l.length
  | [], _ => ⟨rfl, rfl⟩
  | [a], h => by simp [odd] at h
  | [a, b], _ => ⟨rfl, rfl⟩
  | [a, b, c], h => by simp [odd] at h
  | a :: b :: c :: d :: r, h => by
    obtain ⟨h1, h2⟩ := evens_both (c :: d :: r) (by simpa [odd] using h)
    refine ⟨?_, ?_⟩
    · show 2 * ((evens (c :: d :: r)).length + 1) = (c :: d :: r).length + 1 + 1
      omega
    · show 2 * ((evens ((c :: d :: r).drop 1)).length + 1) = (c :: d :: r).length + 1 + 1
      omega
def spIsPc (K : PySem.W.Frag) : Sp := fun vs H Q _ => ∃ (u : V) (c e : Cut), vs = [u] ∧ Dp K H u (pcD c e) ∧ c.In ∧ e.In ∧ c.lt e = true ∧ Lit (c.n, c.d) ∧ Lit (e.n, e.d) ∧ ∀ H', Same H H' → Q (.bl true) H'
def spWrong (K : PySem.W.Frag) : Sp := fun vs H Q _ => ∃ (u : V) (cs : List Cut), vs = [u] ∧ Dp K H u (.tuple (pcsD cs)) ∧ LtL cs ∧ ∀ H', Same H H' → Q .non H'
/-- the class Lot of the text -/
structure LotC (P : Program) (w : World) (K : PySem.W.Frag) (mg : Str → Option Value) (C fI fP : Addr) (fdI fdP : FuncData) : Prop where
  cl : Cls K C
  nP : NoAttr K C "_pieces"
  mgC : mg "Lot" = some (.ref C)
  mkL : Mk K C fI
  FI : Fun K "__init__" "Lot.__init__" s_linit fI fdI
  bI : Binds K fdI ["self", "pieces"] []
  pp : ∃ p, PropOf K C "pieces" p fP
  FP : Fun K "pieces" "Lot.pieces" s_lpieces fP fdP
  bP : Binds K fdP ["self"] []
def spInit (K : PySem.W.Frag) (C : Addr) : Sp := fun vs H Q _ => ∃ (x dx a : Addr) (cs : List Cut), vs = [.ref x, .ref a] ∧ H x = some (.ins C dx []) ∧ Dp K H (.ref a) (.tuple (pcsD cs)) ∧ LtL cs ∧
  ∀ H', (∀ b o, b ≠ x → H b = some o → H' b = some o) → H' x = some (.ins C dx [("_pieces", .ref a)]) → Q .non H'
def spPieces (K : PySem.W.Frag) (C : Addr) : Sp := fun vs H Q _ => ∃ (v : V) (cs : List Cut), vs = [v] ∧ LotAt K C H v cs ∧ ∀ a, Dp K H (.ref a) (.tuple (pcsD cs)) → Q (.ref a) H
def spLotWith (K : PySem.W.Frag) (C : Addr) : Sp := fun vs H Q _ => ∃ (u : V) (cs : List Cut), vs = [u] ∧ Dp K H u (.list (cs.map cutD)) ∧ LtL cs ∧ cs.length ≤ 10000 ∧ ∀ v H', Same H H' → LotAt K C H' v cs → Q v H'
/-- the built-ins and constants that lots want -/
structure Bp (K : PySem.W.Frag) (mg : Str → Option Value) : Prop where
  c : Bc mg
  en : mg "enumerate" = none
  zip : mg "zip" = none
  lc : ∃ a, mg "_LAST_CUT" = some (.ref a) ∧ ∀ H, Dp K H (.ref a) (cutD last)
/-- the defs about pieces -/
structure Pd (K : PySem.W.Frag) (mg : Str → Option Value) where
  f_is_fraction : Addr × FuncData
  d_is_fraction : Df K mg "is_fraction" s_is_fraction ["given"] f_is_fraction.1 f_is_fraction.2
  f_is_part : Addr × FuncData
  d_is_part : Df K mg "is_part" s_is_part ["given"] f_is_part.1 f_is_part.2
  f_is_less : Addr × FuncData
  d_is_less : Df K mg "is_less" s_is_less ["one", "other"] f_is_less.1 f_is_less.2
  f_mediant : Addr × FuncData
  d_mediant : Df K mg "mediant" s_mediant ["low", "high"] f_mediant.1 f_mediant.2
  f__first_wrong : Addr × FuncData
  d__first_wrong : Df K mg "_first_wrong" s__first_wrong ["pieces"] f__first_wrong.1 f__first_wrong.2
  f__is_piece : Addr × FuncData
  d__is_piece : Df K mg "_is_piece" s__is_piece ["given"] f__is_piece.1 f__is_piece.2
  f__cuts_at : Addr × FuncData
  d__cuts_at : Df K mg "_cuts_at" s__cuts_at ["piece"] f__cuts_at.1 f__cuts_at.2
  f__is_ahead : Addr × FuncData
  d__is_ahead : Df K mg "_is_ahead" s__is_ahead ["cut", "other"] f__is_ahead.1 f__is_ahead.2
  f__lot_with : Addr × FuncData
  d__lot_with : Df K mg "_lot_with" s__lot_with ["cuts"] f__lot_with.1 f__lot_with.2
  f_int : Addr × FuncData
  d_int : Df K mg "is_integer" sIsInt ["given"] f_int.1 f_int.2
  f_low : Addr × FuncData
  d_low : Df K mg "lowest" sLowest ["top", "bottom"] f_low.1 f_low.2
section
variable {P : Program} {w : World} {K : PySem.W.Frag} {mg : Str → Option Value} {base : Heap}
theorem lit_last : Lit (last.n, last.d) := ⟨by decide, by decide⟩
theorem ok_isPc {f : Addr} {fd : FuncData} (F : Fun K "_is_piece" "_is_piece" s__is_piece f fd) (B : Bp K mg) (M : Pd K mg) : FnOk P w K mg base CX0 4 f fd ["given"] (spIsPc K) := by
  have GP : FnOk P w K mg base CX0 3 M.f_is_part.1 M.f_is_part.2 ["given"] (spPart K) := ok_part M.d_is_part.F B.c M.d_int M.d_is_fraction
  have GC : FnOk P w K mg base CX0 1 M.f__cuts_at.1 M.f__cuts_at.2 ["piece"] (spCuts K) := ok_cuts M.d__cuts_at.F
  have GA : FnOk P w K mg base CX0 2 M.f__is_ahead.1 M.f__is_ahead.2 ["cut", "other"] (spAhead K) := ok_ahead M.d__is_ahead.F M.d_is_less
  refine F.ok sc__is_piece (fun vs H Q E h => ?_) (fun cdv A outer s H vs Q E hr h => ?_)
  · obtain ⟨u, c, e, rfl, _⟩ := h
    rfl
  · obtain ⟨u, c, e, rfl, hu, ic, ie, lt, l1, l2, k⟩ := h
    have hu0 := hu
    obtain ⟨a, x, y, rfl, ha, dx, dy⟩ := pc_inv hu
    obtain ⟨al, hal, hlast⟩ := B.lc
    have hr1 : Room 1 _ := hr.mono (by decide)
    have hr2 : Room 2 _ := hr.mono (by decide)
    refine ⟨_, pss_cons (ps_if (PW.pt (pw_or (pt_not (pt_val (pe_callB (call_isi) (by rfl) B.c.isi (by decide +kernel) (pa_cons (pv 0) (pa_cons (pe_bltn (v := .ty "tuple") (by rfl) B.c.tuple (by decide +kernel) rfl) pa_nil))))) (pw_or1 (pt_cmpR op_ne (pe_callB (call_len_seq) (by rfl) B.c.len (by decide +kernel) (pa_cons (pv 0) pa_nil)) pe_int (nomark _))))) (pss_one (ps_ret pe_bl)) pss_nil) (pss_cons (ps_asg (pv 0) (pg_tup (by rfl) (pgs_cons (pg_name (i := 1) sc__is_piece.nd rfl (.inl rfl)) (pgs_cons (pg_name (i := 2) sc__is_piece.nd rfl (.inl rfl)) (pgs_cons (pg_name (i := 3) sc__is_piece.nd rfl (.inl rfl)) (pgs_cons (pg_name (i := 4) sc__is_piece.nd rfl (.inl rfl)) pgs_nil)))))) (pss_cons (ps_if (PW.pt (pw_or (pt_not (pt_val (pe_call GP hr (by rfl) M.d_is_part.g M.d_is_part.F.kp M.d_is_part.b .nil pass0 (pa_cons (pv 1) pa_nil)))) (pw_or (pt_not (pt_val (pe_call GP hr (by rfl) M.d_is_part.g M.d_is_part.F.kp M.d_is_part.b .nil pass0 (pa_cons (pv 2) pa_nil)))) (pw_or (pt_not (pt_val (pe_callB (call_isi) (by rfl) B.c.isi (by decide +kernel) (pa_cons (pv 3) (pa_cons (pe_bltn (v := .ty "bool") (by rfl) B.c.bool (by decide +kernel) rfl) pa_nil))))) (pw_or1 (pt_not (pt_val (pe_callB (call_isi) (by rfl) B.c.isi (by decide +kernel) (pa_cons (pv 4) (pa_cons (pe_bltn (v := .ty "bool") (by rfl) B.c.bool (by decide +kernel) rfl) pa_nil)))))))))) (pss_one (ps_ret pe_bl)) pss_nil) (pss_cons (ps_asg (pe_call GC hr1 (by rfl) M.d__cuts_at.g M.d__cuts_at.F.kp M.d__cuts_at.b .nil pass0 (pa_cons (pv 0) pa_nil)) (pg_tup (by rfl) (pgs_cons (pg_name (i := 5) sc__is_piece.nd rfl (.inl rfl)) (pgs_cons (pg_name (i := 6) sc__is_piece.nd rfl (.inl rfl)) pgs_nil)))) (pss_one (ps_ret (pe_and (pe_call GA hr2 (by rfl) M.d__is_ahead.g M.d__is_ahead.F.kp M.d__is_ahead.b .nil pass0 (pa_cons (pv 5) (pa_cons (pv 6) pa_nil))) (pe_one (pe_not (pe_call GA hr2 (by rfl) M.d__is_ahead.g M.d__is_ahead.F.kp M.d__is_ahead.b .nil pass0 (pa_cons (pe_glob (v := .ref al) rfl hal rfl) (pa_cons (pv 6) pa_nil))))))))))), ?_⟩
    refine ⟨_, rfl, .ref a, .ty "tuple", _, _, true, rfl, .ty "tuple", tyx_sqt ha, kit_ty (by decide +kernel), true, rfl, iteF ?_⟩
    refine ⟨_, rfl, a, _, rfl, .inr ha, rfl, _, rfl, iteF ?_⟩
    refine ⟨_, rfl, a, _, rfl, ha, rfl, _, _, rfl, _, _, rfl, _, _, rfl, _, _, rfl, rfl, ?_⟩
    refine ⟨_, rfl, x, (c.n, c.d), rfl, dx, ⟨ic.n0, ic.nd, ic.d, ic.co⟩, true, rfl, iteF ?_⟩
    refine ⟨_, rfl, y, (e.n, e.d), rfl, dy, ⟨ie.n0, ie.nd, ie.d, ie.co⟩, true, rfl, iteF ?_⟩
    refine ⟨_, rfl, .bl (!c.b), .ty "bool", _, _, true, rfl, .ty "bool", .base (.bl _), kit_ty (by decide +kernel), true, rfl, iteF ?_⟩
    refine ⟨_, rfl, .bl e.b, .ty "bool", _, _, true, rfl, .ty "bool", .base (.bl _), kit_ty (by decide +kernel), true, rfl, iteF ?_⟩
    refine ⟨_, rfl, _, c, e, rfl, hu0, fun r x' y' H1 s1 nr hr' dx' dy' => ?_⟩
    refine ⟨r, _, rfl, SqT.of hr', rfl, _, _, rfl, _, _, rfl, rfl, ?_⟩
    refine ⟨_, rfl, _, rfl, x', y', c, e, rfl, dx', dy', l1, l2, ?_⟩
    rw [lt]
    refine ⟨true, rfl, iteT ?_⟩
    refine ⟨_, rfl, .ref al, y', last, e, rfl, hlast _, dy', lit_last, l2, ?_⟩
    rw [ie.le]
    exact ⟨false, rfl, k H1 s1⟩
theorem ok_wrong {f : Addr} {fd : FuncData} (F : Fun K "_first_wrong" "_first_wrong" s__first_wrong f fd) (B : Bp K mg) (M : Pd K mg) : FnOk P w K mg base CX0 5 f fd ["pieces"] (spWrong K) := by
  have GP : FnOk P w K mg base CX0 4 M.f__is_piece.1 M.f__is_piece.2 ["given"] (spIsPc K) := ok_isPc M.d__is_piece.F B M
  have GC : FnOk P w K mg base CX0 1 M.f__cuts_at.1 M.f__cuts_at.2 ["piece"] (spCuts K) := ok_cuts M.d__cuts_at.F
  have GA : FnOk P w K mg base CX0 2 M.f__is_ahead.1 M.f__is_ahead.2 ["cut", "other"] (spAhead K) := ok_ahead M.d__is_ahead.F M.d_is_less
  refine F.ok sc__first_wrong (fun vs H Q E h => ?_) (fun cdv A outer s H vs Q E hr h => ?_)
  · obtain ⟨u, cs, rfl, _⟩ := h
    rfl
  · obtain ⟨u, cs, rfl, hu, L, k⟩ := h
    obtain ⟨a, xs, rfl, ha, hx⟩ := tup_inv hu
    have hr1 : Room 1 _ := hr.mono (by decide)
    have hr2 : Room 2 _ := hr.mono (by decide)
    refine ⟨_, pss_cons (ps_for PassesOwn.never rfl (pi_enumT (by rfl) B.en (pa_cons (pv 0) pa_nil)) (pg_tup (by rfl) (pgs_cons (pg_name (i := 1) sc__first_wrong.nd rfl (.inl rfl)) (pgs_cons (pg_name (i := 2) sc__first_wrong.nd rfl (.inl rfl)) pgs_nil))) (pss_cons (ps_if (pt_not (pt_val (pe_call GP hr (by rfl) M.d__is_piece.g M.d__is_piece.F.kp M.d__is_piece.b .nil pass0 (pa_cons (pv 2) pa_nil)))) (pss_one (ps_ret (pv 1))) pss_nil) (pss_one (ps_if (PW.pt (pw_and (pt_cmpR op_gt (pv 1) pe_int (nomark _)) (pw_and1 (pt_not (pt_val (pe_call GA hr2 (by rfl) M.d__is_ahead.g M.d__is_ahead.F.kp M.d__is_ahead.b .nil pass0 (pa_cons (pe_ix ix_tup (pe_call GC hr1 (by rfl) M.d__cuts_at.g M.d__cuts_at.F.kp M.d__cuts_at.b .nil pass0 (pa_cons (pe_ix ix_tup (pv 0) (pe_op op_sub (pv 1) pe_int) (fun _ _ => rfl)) pa_nil)) pe_int (fun _ _ => rfl)) (pa_cons (pe_ix ix_tup (pe_call GC hr1 (by rfl) M.d__cuts_at.g M.d__cuts_at.F.kp M.d__cuts_at.b .nil pass0 (pa_cons (pv 2) pa_nil)) pe_int (fun _ _ => rfl)) pa_nil)))))))) (pss_one (ps_ret (pv 1))) pss_nil)))) (pss_one (ps_ret pe_non)), ?_⟩
    refine ⟨_, rfl, a, xs, rfl, ha, for_en (K := K) (a := a) (xs := xs) (fun i σ H' => ∃ p q, σ = [some (.ref a), p, q] ∧ Same H H') ⟨none, none, rfl, Same.refl _⟩ (fun i σ H' ⟨_, _, _, s⟩ => sqT_same s ha) ?_ ?_⟩
    · rintro i x r σ H1 hi ⟨p, q, rfl, s1⟩ nr
      obtain ⟨d, hd, dx⟩ := dps_get (dps_same s1 _ _ hx) hi
      obtain ⟨c, e, hc, he, rfl⟩ := pcs_get hd
      have s2 := same_put (o := HO.tup [V.int (i : Nat), x]) nr
      have g2 : upd H1 r (HO.tup [V.int (i : Nat), x]) r = some (.tup [V.int (i : Nat), x]) := upd_same
      generalize upd H1 r (HO.tup [V.int (i : Nat), x]) = H2 at *
      have dx2 := dp_same s2 _ _ dx
      have lt := asc_at L.a hc he (by omega)
      have mc := List.mem_of_getElem? hc
      have me := List.mem_of_getElem? he
      refine ⟨r, _, rfl, SqT.of g2, rfl, _, _, rfl, _, _, rfl, rfl, ?_⟩
      refine ⟨_, rfl, x, c, e, rfl, dx2, L.v c mc, L.v e me, lt, L.lit c mc, L.lit e me, fun H3 s3 => ⟨true, rfl, iteF ?_⟩⟩
      have S3 := (s1.trans s2).trans s3
      refine nxI (lastIfF (fun R kR => andF (decide ((i : Int) > 0)) (fun S s => ⟨_, rfl, _, _, rfl, rfl, _, rfl, s⟩) (fun z S sS => ?_) kR) (fun H4 s4 => ⟨_, _, rfl, S3.trans s4⟩))
      have i0 : (i : Int) > 0 := of_decide_eq_true z
      have lx : i < xs.length := (List.getElem?_eq_some_iff.mp hi).1
      have hj : xs[i - 1]? = some xs[i - 1] := List.getElem?_eq_getElem (by omega)
      obtain ⟨d', hd', dx'⟩ := dps_get (dps_same S3 _ _ hx) hj
      obtain ⟨c', e', hc', he', rfl⟩ := pcs_get hd'
      have lt' := asc_at L.a he' hc (by omega)
      have me' := List.mem_of_getElem? he'
      refine ⟨_, rfl, _, rfl, _, _, rfl, rfl, a, xs, (i : Int) - 1, xs[i - 1], rfl, rfl, sqT_same S3 ha, at_of (j := i - 1) (by omega) hj, xs[i - 1], c', e', rfl, dx', fun r1 u1 v1 H5 s5 n5 g5 du dv => ?_⟩
      refine ⟨r1, _, 1, v1, rfl, rfl, SqT.of g5, at_of (j := 1) rfl rfl, _, rfl, x, c, e, rfl, dp_same (s3.trans s5) _ _ dx2, fun r2 u2 v2 H6 s6 n6 g6 du2 dv2 => ?_⟩
      refine ⟨r2, _, 0, u2, rfl, rfl, SqT.of g6, at_of (j := 0) rfl rfl, v1, u2, e', c, rfl, dp_same s6 _ _ dv, du2, L.lit e' me', L.lit c mc, ?_⟩
      rw [lt']
      exact ⟨true, rfl, sS _ (s5.trans s6)⟩
    · rintro σ H1 ⟨p, q, rfl, s1⟩
      exact k H1 s1
variable {C fI fP : Addr} {fdI fdP : FuncData}
theorem ok_linit (T : LotC P w K mg C fI fP fdI fdP) (B : Bp K mg) (M : Pd K mg) : FnOk P w K mg base CX0 6 fI fdI ["self", "pieces"] (spInit K C) := by
  have GW : FnOk P w K mg base CX0 5 M.f__first_wrong.1 M.f__first_wrong.2 ["pieces"] (spWrong K) := ok_wrong M.d__first_wrong.F B M
  refine T.FI.ok sc_linit (fun vs H Q E h => ?_) (fun cdv A outer s H vs Q E hr h => ?_)
  · obtain ⟨x, dx, a, cs, rfl, _⟩ := h
    rfl
  · obtain ⟨x, dx, a, cs, rfl, hx, ha, L, k⟩ := h
    have ha0 := ha
    obtain ⟨a', xs, e, hq, hxs⟩ := tup_inv ha
    cases e
    refine ⟨_, pss_cons (ps_if (pt_not (pt_val (pe_callB (call_isi) (by rfl) B.c.isi (by decide +kernel) (pa_cons (pv 1) (pa_cons (pe_bltn (v := .ty "tuple") (by rfl) B.c.tuple (by decide +kernel) rfl) pa_nil))))) (pss_one (ps_never)) pss_nil) (pss_cons (ps_set (i := 2) sc_linit.nd rfl (.inl rfl) (pe_call GW hr (by rfl) M.d__first_wrong.g M.d__first_wrong.F.kp M.d__first_wrong.b .nil pass0 (pa_cons (pv 1) pa_nil))) (pss_cons (ps_if (pt_cmpR op_notN (pv 2) pe_non (nomark _)) (pss_one (ps_never)) pss_nil) (pss_one (ps_fld (pv 0) (pv 1) rfl)))), ?_⟩
    refine ⟨_, rfl, .ref a, .ty "tuple", _, _, true, rfl, .ty "tuple", tyx_sqt hq, kit_ty (by decide +kernel), true, rfl, iteF ?_⟩
    refine ⟨_, rfl, .ref a, cs, rfl, ha0, L, fun H1 s1 => ?_⟩
    refine ⟨_, rfl, rfl, _, rfl, iteF ?_⟩
    refine ⟨_, rfl, _, rfl, x, C, dx, [], rfl, s1 _ _ hx, T.cl, T.nP, (by show 0 < 1000; decide), ?_⟩
    exact k _ (fun b o hb e => by rw [upd_ne hb]; exact s1 _ _ e) upd_same
theorem ok_lpieces (T : LotC P w K mg C fI fP fdI fdP) : FnOk P w K mg base CX0 1 fP fdP ["self"] (spPieces K C) := by
  refine T.FP.ok sc_lpieces (fun vs H Q E h => ?_) (fun cdv A outer s H vs Q E hr h => ?_)
  · obtain ⟨v, cs, rfl, _⟩ := h
    rfl
  · obtain ⟨v, cs, rfl, ⟨x, dx, a, rfl, hx, ha⟩, k⟩ := h
    refine ⟨_, pss_one (ps_ret (L2.pe_fld (pv 0) rfl)), ?_⟩
    exact ⟨_, rfl, x, C, dx, _, .ref a, rfl, hx, T.cl, T.nP, rfl, k a ha⟩
theorem ok_lotWith {f : Addr} {fd : FuncData} (F : Fun K "_lot_with" "_lot_with" s__lot_with f fd) (T : LotC P w K mg C fI fP fdI fdP) (B : Bp K mg) (M : Pd K mg) : FnOk P w K mg base CX0 8 f fd ["cuts"] (spLotWith K C) := by
  have GI : FnOk P w K mg base CX0 6 fI fdI ["self", "pieces"] (spInit K C) := ok_linit T B M
  refine F.ok sc__lot_with (fun vs H Q E h => ?_) (fun cdv A outer s H vs Q E hr h => ?_)
  · obtain ⟨u, cs, rfl, _⟩ := h
    rfl
  · obtain ⟨u, cs, rfl, hu, L, hl, k⟩ := h
    obtain ⟨l, xs, rfl, hq, hx⟩ := lst_inv hu
    have len := dps_len hx
    rw [List.length_map] at len
    have ev : odd xs.length = false := by rw [len]; exact L.e
    refine ⟨_, pss_cons (ps_set (i := 1) sc__lot_with.nd rfl (.inl rfl) (pe_lst pa_nil)) (pss_cons (ps_for PassesOwn.never rfl (pi_zip (by rfl) B.zip (pa_cons (pe_ev0 (pv 0)) (pa_cons (pe_ev1 (pv 0)) pa_nil))) (pg_tup (by rfl) (pgs_cons (pg_name (i := 2) sc__lot_with.nd rfl (.inl rfl)) (pgs_cons (pg_name (i := 3) sc__lot_with.nd rfl (.inl rfl)) pgs_nil))) (pss_one (ps_expr (pe_bm PySem.F.plainAttrs_list PySem.F.slot_list_append PySem.F.type_list_append mt_append (pv 1) (pa_cons (pe_tup (pa_cons (pe_ix ix_tup (pv 2) pe_int (fun _ _ => rfl)) (pa_cons (pe_ix ix_tup (pv 3) pe_int (fun _ _ => rfl)) (pa_cons (pe_cmpR op_eq (pe_ix ix_tup (pv 2) pe_int (fun _ _ => rfl)) pe_int (nomark _)) (pa_cons (pe_cmpR op_eq (pe_ix ix_tup (pv 3) pe_int (fun _ _ => rfl)) pe_int (nomark _)) pa_nil))))) pa_nil))))) (pss_one (ps_ret (pe_make T.mkL GI (hr.mono (by decide)) (by rfl) T.mgC T.bI .nil pass0 (pa_cons (pe_callTy cr_tupL (by rfl) B.c.tuple (by decide +kernel) (pa_cons (pv 1) pa_nil)) pa_nil))))), ?_⟩
    refine ⟨Nat.zero_le _, fun D nD => ?_⟩
    have s0 := same_put (o := HO.lst []) nD
    have gD : upd H D (HO.lst []) D = some (.lst []) := upd_same
    generalize upd H D (HO.lst []) = H0 at *
    refine ⟨_, rfl, l, xs, rfl, s0.seq hq, fun p np => ?_⟩
    have s1 := same_put (o := HO.lst (evens (xs.drop 0))) np
    have gp : upd H0 p (HO.lst (evens (xs.drop 0))) p = some (.lst (evens (xs.drop 0))) := upd_same
    generalize upd H0 p (HO.lst (evens (xs.drop 0))) = H1 at *
    refine ⟨_, rfl, l, xs, rfl, (s0.trans s1).seq hq, fun q nq => ?_⟩
    have s2 := same_put (o := HO.lst (evens (xs.drop 1))) nq
    have gq : upd H1 q (HO.lst (evens (xs.drop 1))) q = some (.lst (evens (xs.drop 1))) := upd_same
    generalize upd H1 q (HO.lst (evens (xs.drop 1))) = H2 at *
    have S := (s0.trans s1).trans s2
    have gp2 := s2 _ _ gp
    have gD2 := s2 _ _ (s1 _ _ gD)
    have npD : p ≠ D := fun z => by rw [z, gD] at np; cases np
    have nqD : q ≠ D := fun z => by rw [z, s1 _ _ gD] at nq; cases nq
    obtain ⟨e1, e2⟩ := evens_both xs ev
    rw [List.drop_zero] at gp2
    refine ⟨p, q, _, _, rfl, SqL.of gp2, SqL.of gq, RZ.for_zipL (K := K) (a := p) (b := q) (xs := evens xs) (ys := evens (xs.drop 1)) (by omega)
      (fun i σ H' => ∃ (ys : List V) (x y : Option V), σ = [some (.ref l), some (.ref D), x, y] ∧ H' D = some (.lst ys) ∧ DpAll K H' ys ((pcsD cs).take i) ∧ ∀ b o, b ≠ D → H2 b = some o → H' b = some o)
      ⟨[], none, none, rfl, gD2, .nil, fun b o _ e => e⟩ (fun i σ H' ⟨_, _, _, _, _, _, kp⟩ => ⟨SqL.of (kp _ _ npD gp2), SqL.of (kp _ _ nqD gq)⟩) ?_ ?_⟩
    · rintro i x y r σ H3 hi hj ⟨ys, u1, u2, rfl, hD, hys, kp⟩ nr
      rw [evens_at] at hi hj
      rw [List.getElem?_drop, Nat.add_comm] at hj
      have sH : Same H H3 := fun b o e => kp _ _ (ne_of_none e nD) (S _ _ e)
      obtain ⟨d1, hd1, dx⟩ := dps_get (dps_same sH _ _ hx) hi
      obtain ⟨d2, hd2, dy⟩ := dps_get (dps_same sH _ _ hx) hj
      rw [List.getElem?_map] at hd1 hd2
      obtain ⟨c, hc, rfl⟩ := Option.map_eq_some_iff.mp hd1
      obtain ⟨e, he, rfl⟩ := Option.map_eq_some_iff.mp hd2
      obtain ⟨a1, l1, rfl, h1, f1⟩ := cut_inv dx
      obtain ⟨a2, l2, rfl, h2, f2⟩ := cut_inv dy
      have s4 := same_put (o := HO.tup [V.ref a1, V.ref a2]) nr
      have g4 : upd H3 r (HO.tup [V.ref a1, V.ref a2]) r = some (.tup [V.ref a1, V.ref a2]) := upd_same
      have hD4 := s4 _ _ hD
      generalize upd H3 r (HO.tup [V.ref a1, V.ref a2]) = H4 at *
      have h1 := sqT_same s4 h1
      have h2 := sqT_same s4 h2
      refine ⟨r, _, rfl, SqT.of g4, rfl, _, _, rfl, _, _, rfl, rfl, ?_⟩
      refine ⟨_, rfl, .inl ⟨rfl, _, SqL.of hD4⟩, ?_⟩
      refine ⟨_, rfl, a1, _, 0, l1, rfl, rfl, h1, at_of (j := 0) rfl rfl, _, rfl, a2, _, 0, l2, rfl, rfl, h2, at_of (j := 0) rfl rfl, ?_⟩
      refine ⟨_, rfl, a1, _, 1, .int (bI c.b), rfl, rfl, h1, at_of (j := 1) rfl rfl, rfl, _, rfl, a2, _, 1, .int (bI e.b), rfl, rfl, h2, at_of (j := 1) rfl rfl, rfl, ?_⟩
      refine ⟨(by show 4 ≤ sizeLine; decide), fun t nt => ?_⟩
      have z1 : decide (V.int (bI c.b) = V.int 0) = !c.b := by cases c.b <;> decide
      have z2 : decide (V.int (bI e.b) = V.int 1) = e.b := by cases e.b <;> decide
      rw [z1, z2]
      have s5 := same_put (o := HO.tup [l1, l2, V.bl (!c.b), V.bl e.b]) nt
      have g5 : upd H4 t (HO.tup [l1, l2, V.bl (!c.b), V.bl e.b]) t = some (.tup [l1, l2, V.bl (!c.b), V.bl e.b]) := upd_same
      generalize upd H4 t (HO.tup [l1, l2, V.bl (!c.b), V.bl e.b]) = H5 at *
      have hD5 := s5 _ _ hD4
      have s45 := s4.trans s5
      have li : i < (pcsD cs).length := by
        have := pcs_len L.e
        have l1 := (List.getElem?_eq_some_iff.mp he).1
        omega
      obtain ⟨c', e', hc', he', hp⟩ := pcs_at L.e li
      have ec : c' = c := Option.some.inj (hc'.symm.trans hc)
      have ee : e' = e := Option.some.inj (he'.symm.trans (by rw [Nat.add_comm] at he; rw [Nat.add_comm]; exact he))
      subst ec ee
      refine ⟨D, ys, .ref t, rfl, rfl, hD5, ?_, ys ++ [.ref t], _, _, rfl, upd_same, ?_, fun b o hb e => ?_⟩
      · rw [dps_len hys, List.length_take]
        have := pcs_len L.e
        exact small1e4 (by omega)
      · rw [List.take_add_one, hp]
        exact dps_snoc (dps_upd hD5 (noLs_iff.mpr fun d m => pcs_noL (List.mem_of_mem_take m)) (dps_same s45 _ _ hys)) (dp_upd hD5 rfl (pc_mk (SqT.of g5) (dp_same s45 _ _ f1) (dp_same s45 _ _ f2)))
      · rw [upd_ne hb]
        exact s45 _ _ (kp _ _ hb e)
    · rintro σ H3 ⟨ys, u1, u2, rfl, hD, hys, kp⟩
      have sH : Same H H3 := fun b o e => kp _ _ (ne_of_none e nD) (S _ _ e)
      have tk : (pcsD cs).take (evens xs).length = pcsD cs := List.take_of_length_le (by have := pcs_len L.e; omega)
      rw [tk] at hys
      refine ⟨_, rfl, D, ys, rfl, SqL.of hD, fun t nt => ?_⟩
      have s4 := same_put (o := HO.tup ys) nt
      have g4 : upd H3 t (HO.tup ys) t = some (.tup ys) := upd_same
      generalize upd H3 t (HO.tup ys) = H4 at *
      intro x dx nx ndx ne
      have s5 : Same H4 (upd H4 dx (.own x)) := same_put ndx
      have s6 : Same (upd H4 dx (.own x)) (upd (upd H4 dx (.own x)) x (.ins C dx [])) := same_put (by rw [upd_ne ne.symm]; exact nx)
      have D6 : Dp K (upd (upd H4 dx (.own x)) x (.ins C dx [])) (.ref t) (.tuple (pcsD cs)) := .tup (SqT.of (s6 _ _ (s5 _ _ g4))) (dps_same ((s4.trans s5).trans s6) _ _ hys)
      refine ⟨x, dx, t, cs, rfl, upd_same, D6, L, fun H7 kp7 hx7 => ⟨rfl, ?_⟩⟩
      have s7 : Same H H7 := fun b o e => by
        have hb : b ≠ x := ne_of_none ((sH.trans s4) _ _ e) nx
        exact kp7 _ _ hb (((sH.trans s4).trans (s5.trans s6)) _ _ e)
      refine k _ H7 s7 ⟨x, dx, t, rfl, hx7, ?_⟩
      have s47 : Same H4 H7 := fun b o e => kp7 _ _ (ne_of_none e nx) ((s5.trans s6) _ _ e)
      exact .tup (SqT.of (s47 _ _ g4)) (dps_same (s4.trans s47) _ _ hys)
end
end My
set_option Elab.async false
set_option linter.all false
set_option maxRecDepth 100000
set_option maxHeartbeats 4000000
/-! two clauses walked -/
namespace Gn
open PySem PySem.Spec PyProof.Rows L2
section
variable {J J1 : It} {n n1 : Nat} {G G1 : Hp → Prop} {Y Y1 : Nat → Hp → V → Hp → Prop}
/-- the second clause's walk, a list being filled -/
def In1 (J1 : It) (g1 : TG) (tt1 : TT) (te : TE) (vs1 : List Nat) (D : Addr) (τ : L2.St) (F : Hp → Prop) (H0 : Hp) : Prop :=
  ∃ W1 : Nat → Nat → Hp → Prop, (∃ m, W1 0 m H0) ∧ ∀ j k H, W1 j k H → (J1.stop j H ∧ F H) ∨ (J1.go j H ∧ ∃ N1 : Hp → Prop, (∀ H', N1 H' → ∃ k', k' < k ∧ W1 (j + 1) k' H') ∧ ∀ x H', J1.yld j H x H' → g1 x (wipe τ vs1) H' fun υ H5 => wipe υ vs1 = wipe τ vs1 ∧ tt1 υ H5 fun b H6 =>
    if b = true then te υ H6 fun y H7 => ∃ acc, H7 D = some (.lst acc) ∧ acc.length < sizeLine ∧ N1 (upd H7 D (.lst (acc ++ [y]))) else N1 H6)
theorem in1 (w : Walk J1 n1 G1 Y1) {g1 : TG} {tt1 : TT} {te : TE} {vs1 : List Nat} {D : Addr} {τ : L2.St} {F : Hp → Prop} {H0 : Hp} (Pv : Nat → Hp → Prop) (h0 : Pv 0 H0) (hG : ∀ i H, i ≤ n1 → Pv i H → G1 H)
    (hs : ∀ i x H H', i < n1 → Pv i H → Y1 i H x H' → g1 x (wipe τ vs1) H' fun υ H2 => wipe υ vs1 = wipe τ vs1 ∧ tt1 υ H2 fun b H3 =>
      if b = true then te υ H3 fun y H4 => ∃ acc, H4 D = some (.lst acc) ∧ acc.length < sizeLine ∧ Pv (i + 1) (upd H4 D (.lst (acc ++ [y]))) else Pv (i + 1) H3) (hd : ∀ H, Pv n1 H → F H) : In1 J1 g1 tt1 te vs1 D τ F H0 := by
  refine ⟨fun i m H => m = n1 - i ∧ i ≤ n1 ∧ Pv i H, ⟨_, rfl, Nat.zero_le _, h0⟩, ?_⟩
  rintro i m H ⟨rfl, hi, p⟩
  have q := hG i H hi p
  by_cases lt : i < n1
  · exact .inr ⟨w.goes i H lt q, Pv (i + 1), fun H' p' => ⟨n1 - (i + 1), by omega, rfl, lt, p'⟩, fun x H' y => hs i x H H' lt p (w.yields i H x H' lt q y)⟩
  · obtain rfl : i = n1 := by omega
    exact .inl ⟨w.stops H q, hd H p⟩
theorem lc2_it (w : Walk J n G Y) {g : TG} {tt : TT} {wi1 : TI} {g1 : TG} {tt1 : TT} {te : TE} {vs vs1 : List Nat} {σ : L2.St} {H1 : Hp} {D : Addr} {Qd : Hp → Prop} (Pv : Nat → Hp → Prop) (h0 : Pv 0 (upd H1 D (.lst []))) (hG : ∀ i H, i ≤ n → Pv i H → G H)
    (hs : ∀ i x H H', i < n → Pv i H → Y i H x H' → g x (wipe σ vs) H' fun τ H2 => wipe τ vs = wipe σ vs ∧ tt τ H2 fun b H3 => if b = true then wi1 τ H3 fun J1 H4 => In1 J1 g1 tt1 te vs1 D τ (Pv (i + 1)) H4 else Pv (i + 1) H3) (hd : ∀ H, Pv n H → Qd H) :
    ∃ W : Nat → Nat → Hp → Prop, (∃ m, W 0 m (upd H1 D (.lst []))) ∧ ∀ i m H, W i m H →
      (J.stop i H ∧ Qd H) ∨ (J.go i H ∧ ∃ Nx : Hp → Prop, (∀ H', Nx H' → ∃ m', m' < m ∧ W (i + 1) m' H') ∧ ∀ x H', J.yld i H x H' → g x (wipe σ vs) H' fun σ2 H2 => wipe σ2 vs = wipe σ vs ∧ tt σ2 H2 fun b H3 => if b = true then wi1 σ2 H3 fun J1 H4 => In1 J1 g1 tt1 te vs1 D σ2 Nx H4 else Nx H3) := by
  refine ⟨fun i m H => m = n - i ∧ i ≤ n ∧ Pv i H, ⟨_, rfl, Nat.zero_le _, h0⟩, ?_⟩
  rintro i m H ⟨rfl, hi, p⟩
  have q := hG i H hi p
  by_cases lt : i < n
  · exact .inr ⟨w.goes i H lt q, Pv (i + 1), fun H' p' => ⟨n - (i + 1), by omega, rfl, lt, p'⟩, fun x H' y => hs i x H H' lt p (w.yields i H x H' lt q y)⟩
  · obtain rfl : i = n := by omega
    exact .inl ⟨w.stops H q, hd H p⟩
/-- the same for a set: the outer walk by a measure of the turns left -/
theorem sc2_it {w' : World} (w : Walk J n G Y) (w1 : ∀ i, i < n → Walk J1 n1 G1 Y1) {g : TG} {wi1 : TI} {g1 : TG} {tc : TT} {te : TE} {vs vs1 : List Nat} {σ : L2.St} {H1 : Hp} {D : Addr} {Qd : Hp → Prop} (Pv : Nat → Nat → Hp → Prop)
    (h0 : Pv 0 0 (upd H1 D (SetO w' D (fun _ => false) 0))) (hG : ∀ i H, i ≤ n → Pv i 0 H → G H) (hG1 : ∀ i j H, i < n → j ≤ n1 → Pv i j H → G1 H) (wrap : ∀ i H, i < n → Pv i n1 H → Pv (i + 1) 0 H)
    (hs : ∀ i x H H', i < n → Pv i 0 H → Y i H x H' → g x (wipe σ vs) H' fun τ H2 => wipe τ vs = wipe σ vs ∧ wi1 τ H2 fun J2 H4 => J2 = J1 ∧ Pv i 0 H4 ∧
      ∀ j x1 H5 H6, j < n1 → Pv i j H5 → Y1 j H5 x1 H6 → g1 x1 (wipe τ vs1) H6 fun υ H7 => wipe υ vs1 = wipe τ vs1 ∧ tc υ H7 fun b H8 => if b = true then te υ H8 fun y H9 => More w' D y H9 (Pv i (j + 1)) else Pv i (j + 1) H8) (hd : ∀ H, Pv n 0 H → Qd H)
    (mono : ∀ (τ : L2.St) (H : Hp) (R R' : It → Hp → Prop), (∀ J H, R J H → R' J H) → wi1 τ H R → wi1 τ H R') (mg : ∀ (x : V) (τ : L2.St) (H : Hp) (R R' : L2.St → Hp → Prop), (∀ τ H, R τ H → R' τ H) → g x τ H R → g x τ H R') (mg1 : ∀ (x : V) (τ : L2.St) (H : Hp) (R R' : L2.St → Hp → Prop), (∀ τ H, R τ H → R' τ H) → g1 x τ H R → g1 x τ H R')
    (mc : ∀ (τ : L2.St) (H : Hp) (R R' : Bool → Hp → Prop), (∀ b H, R b H → R' b H) → tc τ H R → tc τ H R') (me : ∀ (τ : L2.St) (H : Hp) (R R' : VK), (∀ v H, R v H → R' v H) → te τ H R → te τ H R') :
    ∃ W : Nat → Nat → Hp → Prop, (∃ m, W 0 m (upd H1 D (SetO w' D (fun _ => false) 0))) ∧ ∀ i m H1, W i m H1 →
      (J.stop i H1 ∧ Qd H1) ∨ (J.go i H1 ∧ ∀ x H2, J.yld i H1 x H2 → g x (wipe σ vs) H2 fun τ H3 => wipe τ vs = wipe σ vs ∧ wi1 τ H3 fun J1 H4 => ∃ W1 : Nat → Nat → Hp → Prop, (∃ k, W1 0 k H4) ∧ ∀ j k H5, W1 j k H5 →
        (J1.stop j H5 ∧ Dn m fun m' => W (i + 1) m' H5) ∨ (J1.go j H5 ∧ ∀ x1 H6, J1.yld j H5 x1 H6 → g1 x1 (wipe τ vs1) H6 fun υ H7 => wipe υ vs1 = wipe τ vs1 ∧ tc υ H7 fun b H8 =>
          if b = true then te υ H8 fun y H9 => More w' D y H9 fun G' => Dn k fun k' => W1 (j + 1) k' G' else Dn k fun k' => W1 (j + 1) k' H8)) := by
  refine ⟨fun i m H => m = n - i ∧ i ≤ n ∧ Pv i 0 H, ⟨_, rfl, Nat.zero_le _, h0⟩, ?_⟩
  rintro i m H ⟨rfl, hi, p⟩
  have q := hG i H hi p
  by_cases lt : i < n
  · refine .inr ⟨w.goes i H lt q, fun x H2 y => mg x _ _ _ _ (fun τ H3 ⟨e, h⟩ => ⟨e, mono τ H3 _ _ (fun J2 H4 ⟨eJ, p4, st⟩ => ?_) h⟩) (hs i x H H2 lt p (w.yields i H x H2 lt q y))⟩
    subst eJ
    refine ⟨fun j k H => k = n1 - j ∧ j ≤ n1 ∧ Pv i j H, ⟨_, rfl, Nat.zero_le _, p4⟩, ?_⟩
    rintro j k H5 ⟨rfl, hj, p5⟩
    have q5 := hG1 i j H5 lt hj p5
    have w1 := w1 i lt
    by_cases lt1 : j < n1
    · refine .inr ⟨w1.goes j H5 lt1 q5, fun x1 H6 y1 => mg1 x1 _ _ _ _ (fun υ H7 ⟨e, h⟩ => ⟨e, mc υ H7 _ _ (fun b H8 h => ?_) h⟩) (st j x1 H5 H6 lt1 p5 (w1.yields j H5 x1 H6 lt1 q5 y1))⟩
      have dn : ∀ {G'}, Pv i (j + 1) G' → Dn (n1 - j) fun k' => k' = n1 - (j + 1) ∧ j + 1 ≤ n1 ∧ Pv i (j + 1) G' := fun {G'} p => ⟨n1 - (j + 1), by omega, rfl, lt1, p⟩
      cases b with
      | false => exact dn h
      | true => exact me υ H8 _ _ (fun y H9 ⟨z, S, c, e1, e2, e3, e4⟩ => ⟨z, S, c, e1, e2, e3, dn e4⟩) h
    · obtain rfl : j = n1 := by omega
      exact .inl ⟨w1.stops H5 q5, n - (i + 1), by omega, rfl, lt, wrap i H5 lt p5⟩
  · obtain rfl : i = n := by omega
    exact .inl ⟨w.stops H q, hd H p⟩
end
/-- no test -/
theorem yesI {σ : L2.St} {H : Hp} {A B : Hp → Prop} (h : A H) : tYes σ H (fun b G => if b = true then A G else B G) := by
  show if true = true then A H else B H
  rw [if_pos rfl]; exact h
end Gn
set_option Elab.async false
set_option linter.all false
set_option maxRecDepth 100000
set_option maxHeartbeats 4000000
namespace Gn
open PySem PySem.Spec PyProof.Rows L2
/-! sorted(set of ints), as many as a set has here -/
section
variable {P : Program} {w : World} {A : Around} {E : Value → Shared → Prop} {s : Shared} {a : Addr}
/-- what comes of it -/
def Comes (s : Shared) (S : Int → Bool) (n : Nat) (Q : Value → Shared → Prop) : Prop :=
  ∀ (z : Shared) (at_ : Addr) (res : Array Value) (ep : Nat) (ks : List Int), (∀ b o, s.heap.get? b = some o → z.heap.get? b = some o) → z.gens = s.gens → z.os = s.os → s.heap.objs.size ≤ at_ →
    z.heap.get? at_ = some (seqObj "list" res ep) → IntsAre res.toList ks → ks.Pairwise (· < ·) → (∀ k, k ∈ ks ↔ S k = true) → ks.length = n → Q (.ref at_) z
theorem sorted_big {S : Int → Bool} {n : Nat} {Q : Value → Shared → Prop} (R : SetR w s.heap a S n) (quiet : A.handled = none) (h : Comes s S n Q) : wpAny (model P w) A (call (.builtin "sorted") [.ref a]) Q E s := by
  obtain ⟨ob, els, gen, tb, isO, isS, dat, good, uni, mem, few, fits, cnt, ris, ord⟩ := R
  apply Calls.call_function_entry kind_sorted plain_sorted entry_sorted (args_sorted1 _)
  unfold Builtin.«sorted»
  apply wpAny_bind (m := checkCount "sorted" 1 1 _)
  apply wpAny_pure
  refine wpAny_bind (collect_set (A := A.in1) quiet ⟨ob, isO, isS.1, dat⟩ fits few ris ord fun y vs old more ge oe perm => ?_)
  have many : vs.length = n := by
    rw [perm.length_eq, List.length_map, Array.length_toList]
    exact cnt
  have nums : IntsAre vs (vs.map Builtin.Re.reRawOf) := ints_of vs fun v hv => by
    obtain ⟨e, he, q⟩ := List.mem_map.mp (perm.mem_iff.mp hv)
    obtain ⟨k, tk, h1, _⟩ := good e he
    rw [← q]
    exact ⟨k, tk, h1⟩
  have same : (vs.map Builtin.Re.reRawOf).Perm (els.toList.map keyOf) := by
    have l := perm.map Builtin.Re.reRawOf
    rw [List.map_map] at l
    exact l
  have line : vs.length ≤ sizeLine := by
    rw [many, ← cnt, sizeLine_eq]
    have : scanBound = 4096 := rfl
    omega
  refine wpAny_bind (wpAny_newList ?_ line)
  have new : (y.heap.push (seqObj "list" vs.toArray 0)).get? y.heap.objs.size = some (seqObj "list" vs.toArray 0) := Heap.get?_push_size _ rfl
  refine wpAny_bind (wpAny_holding (wpAny_call_entry slot_list_sort ⟨_, new, rfl⟩ entry_list_sort (SrtO.list_sort_ord SrtO.swo_int new line (fun h2 => SrtO.ints_sortable nums h2) fun out hs hb => ⟨_, rfl, ?_⟩) (args_list_sort _)))
  obtain ⟨i1, i2, i3⟩ := SrtO.ints_out nums hs hb
  have i4 : (out.map SrtO.iv).Perm (els.toList.map keyOf) := i2.trans same
  obtain ⟨ep, hep⟩ := sortedHeap_at (vs := vs) (out := out.toArray) new
  refine wpAny_pure ⟨_, rfl, h _ y.heap.objs.size out.toArray ep (out.map SrtO.iv) (fun b o e => ?_) ge oe more hep (by simpa using i1) (lt_of_le_nodup _ i3 (i4.nodup_iff.mpr uni)) (fun k => by rw [i4.mem_iff, ← mem k]) ?_⟩
  · have e1 := old b o e
    have lt := Heap.lt_size e1
    show (sortedHeap (y.heap.push (seqObj "list" vs.toArray 0)) y.heap.objs.size vs out.toArray).get? b = some o
    rw [sortedHeap_old (Nat.ne_of_lt lt) (by rw [size_push']; exact Nat.le_succ_of_le lt)]
    exact Heap.get?_push_of_some _ e1
  · rw [i4.length_eq, List.length_map, Array.length_toList]
    exact cnt
end
/-- sorted(a set), any set of ints there is -/
def rSortedSetN (w : World) : List V → Hp → VK → Prop := fun vs H Q => ∃ (a : Addr) (S : Int → Bool) (n : Nat), vs = [V.ref a] ∧ H a = some (SetO w a S n) ∧
  ∀ (ks : List Int) (p : Addr), ks.Pairwise (· < ·) → (∀ k : Int, k ∈ ks ↔ S k = true) → ks.length = n → H p = none → Q (.ref p) (upd H p (.lst (ks.map V.int)))
theorem cr_sortedSetN {X : Cx} (hc : X.calm = true) : CallR X (.builtin "sorted") (rSortedSetN X.w) := by
  intro pins s σ H vs us Q I r h
  obtain ⟨a, S, n, rfl, ha, q⟩ := h
  rw [Vals.ref1 r]
  have R := setO_get I ha
  have small : n < scanBound := by
    obtain ⟨_, _, _, _, _, _, _, _, _, _, few, _, cnt, _⟩ := id R
    omega
  refine sorted_big R (I.ok.hd hc) fun z p res ep ks old ge oe more hp nums lt mem cnt => ?_
  have fitsL : (ks.map V.int).length ≤ sizeLine := by
    rw [List.length_map, cnt, sizeLine_eq]
    have : scanBound = 4096 := rfl
    omega
  have free : H p = none := I.hok.fresh more
  have J : Inv X pins σ (upd H p (.lst (ks.map V.int))) { s with heap := z.heap, gens := z.gens, drawn := z.drawn, toks := z.toks } :=
    I.call (ch := []) (Un.laid old more free) (I.hok.laid old more ⟨fitsL, res.toList, ep, vals_of_ints nums, hp⟩) (by rw [ge]; exact I.bare) (fun _ y => nomatch y)
  have same : z = { s with heap := z.heap, gens := z.gens, drawn := z.drawn, toks := z.toks } := by
    cases z; cases s; cases oe; rfl
  rw [same]
  exact ⟨.ref p, _, J, rfl, q ks p lt mem cnt free⟩
end Gn
set_option Elab.async false
set_option linter.all false
set_option maxRecDepth 100000
set_option maxHeartbeats 8000000
set_option exponentiation.threshold 4000
namespace My
open PySem PySem.Spec PyProof.Rows L2 Gn Mt
abbrev s_whole_points : Stmt := top 58
abbrev s__points : Stmt := top 59
/-! points, and the lot of the steps that fit -/
theorem sc_whole_points : FnScope ["numbers", "common", "number", "top"] ["numbers"] (defScope s_whole_points) := ⟨rfl, rfl, rfl, by decide +kernel, rfl, by decide +kernel, by decide +kernel⟩
theorem sc__points : FnScope ["tops", "bottom", "top"] ["tops", "bottom"] (defScope s__points) := ⟨rfl, rfl, rfl, by decide +kernel, rfl, by decide +kernel, by decide +kernel⟩
theorem tops_snoc (c : Nat) (ns : List Nat) (k : Nat) : tops c (ns ++ [k]) = tops c ns ++ (List.range k).map fun (j : Nat) => ((c / k : Nat) : Int) * (j : Int) := by
  unfold tops
  rw [List.flatMap_append]
  simp
theorem tops_len (c : Nat) : ∀ ns : List Nat, (tops c ns).length = ns.sum
  | [] => rfl
  | k :: ns => by
    show (((List.range k).map _) ++ tops c ns).length = k + ns.sum
    rw [List.length_append, List.length_map, List.length_range, tops_len c ns]
theorem sum_take {ns : List Nat} {i k : Nat} (h : ns[i]? = some k) : (ns.take i).sum + k ≤ ns.sum := by
  induction ns generalizing i with
  | nil => simp at h
  | cons a ns ih =>
    cases i with
    | zero => cases h; show 0 + k ≤ k + ns.sum; omega
    | succ i => have := ih h; show a + (ns.take i).sum + k ≤ a + ns.sum; omega
def spPoints (K : PySem.W.Frag) : Sp := fun vs H Q _ => ∃ (l : Addr) (c : Nat) (ts : List Int), vs = [.ref l, .int c] ∧ SqL K H l (ts.map V.int) ∧ ts.length ≤ 900 ∧ 0 < c ∧ c < 2 ^ 62 ∧ (∀ t ∈ ts, 0 ≤ t) ∧
  ∀ v H', Same H H' → Dp K H' v (.list ((sortU (0 :: (c : Int) :: ts)).map fun t => frD (lowQ t c))) → Q v H'
def spWhole (K : PySem.W.Frag) : Sp := fun vs H Q _ => ∃ (l : Addr) (ns : List Nat) (M : Nat), vs = [.ref l] ∧ SqL K H l (ns.map fun (k : Nat) => V.int (k : Int)) ∧ ns.sum ≤ 900 ∧ 0 < M ∧ M < 2 ^ 62 ∧ (∀ k ∈ ns, 0 < k ∧ k ∣ M) ∧
  ∀ v H', Same H H' → Dp K H' v (.list ((wpts (lcmA ns) ns).map frD)) → Q v H'
/-- the built-ins that points want -/
structure Bq (mg : Str → Option Value) : Prop where
  sorted : mg "sorted" = none
  set : mg "set" = none
  range : mg "range" = none
  lcm : mg "lcm" = some (.builtin "math.lcm")
section
variable {P : Program} {w : World} {K : PySem.W.Frag} {mg : Str → Option Value} {base : Heap}
theorem ok_points {f : Addr} {fd : FuncData} (F : Fun K "_points" "_points" s__points f fd) (B : Bc mg) (Bq : Bq mg) {fL : Addr} {fdL : FuncData} (L : Df K mg "lowest" sLowest ["top", "bottom"] fL fdL) : FnOk P w K mg base CX0 2 f fd ["tops", "bottom"] (spPoints K) := by
  have GL : FnOk P w K mg base CX0 1 fL fdL ["top", "bottom"] spLow := ok_lowest L.F B
  refine F.ok sc__points (fun vs H Q E h => ?_) (fun cdv A outer s H vs Q E hr h => ?_)
  · obtain ⟨l, c, ts, rfl, _⟩ := h
    rfl
  · obtain ⟨l, c, ts, rfl, hl, tl, c0, c1, t0, k⟩ := h
    refine ⟨_, pss_one (ps_ret (pe_lc (te := tCall spLow [] E0 (tCons (tVar 2) (tCons (tVar 1) tNil))) (own := [("top", 2)]) (g := gName 2) (tt := tYes) rfl sc__points.nd (pi_list (pe_callB (cr_sortedSetN rfl) (by rfl) Bq.sorted (by decide +kernel) (pa_cons (pe_callTy (cr_setN rfl) (by rfl) Bq.set (by decide +kernel) (pa_cons (pe_lst (pa_cons pe_int (pa_cons (pv 1) (StX.pa_star (pv 0) pa_nil)))) pa_nil)) pa_nil))) (blkOk_by (N := ["tops", "bottom", "top"]) (sc := defScope s__points) (by decide +kernel)) (fun _ _ _ _ _ => pg_name (i := 2) sc__points.nd rfl (.inl rfl)) (fun _ _ _ _ _ => pts_nil) (fun _ _ _ _ _ => (pe_call GL hr (by rfl) L.g L.F.kp L.b .nil pass0 (pa_cons (pv 2) (pa_cons (pv 1) pa_nil)))))), ?_⟩
    refine ⟨_, rfl, _, rfl, l, ts.map V.int, rfl, .inr hl, (by show (ts.map V.int ++ []).length + 1 + 1 ≤ sizeLine; rw [List.append_nil, List.length_map]; exact Nat.le_of_lt (small1000 (by omega))), fun q nq => ?_⟩
    have el : (V.int 0 :: V.int (c : Int) :: (ts.map V.int ++ [])) = (0 :: (c : Int) :: ts).map V.int := by rw [List.append_nil]; rfl
    rw [el]
    have s1 := same_put (o := HO.lst ((0 :: (c : Int) :: ts).map V.int)) nq
    have gq : upd H q (HO.lst ((0 :: (c : Int) :: ts).map V.int)) q = some (.lst ((0 :: (c : Int) :: ts).map V.int)) := upd_same
    generalize upd H q (HO.lst ((0 :: (c : Int) :: ts).map V.int)) = H1 at *
    refine ⟨q, _, rfl, SqL.of gq, (by show ts.length + 1 + 1 ≤ 1000; omega), fun p ks np kd kl km => ?_⟩
    have s2 := same_put (o := SetO w p (fun j => decide (j ∈ (0 :: (c : Int) :: ts))) ks.length) np
    have gp : upd H1 p (SetO w p (fun j => decide (j ∈ (0 :: (c : Int) :: ts))) ks.length) p = some (SetO w p (fun j => decide (j ∈ (0 :: (c : Int) :: ts))) ks.length) := upd_same
    refine ⟨p, _, _, rfl, gp, fun ys p2 yp ym yl n2 => ?_⟩
    obtain rfl : ys = sortU (0 :: (c : Int) :: ts) := strict_one yp (sortU_pw _) fun x => by rw [ym x, sortU_mem, decide_eq_true_eq]
    have s3 := same_put (o := HO.lst ((sortU (0 :: (c : Int) :: ts)).map V.int)) n2
    have g3 : upd (upd H1 p (SetO w p (fun j => decide (j ∈ (0 :: (c : Int) :: ts))) ks.length)) p2 (HO.lst ((sortU (0 :: (c : Int) :: ts)).map V.int)) p2 = some (.lst ((sortU (0 :: (c : Int) :: ts)).map V.int)) := upd_same
    refine ⟨p2, rfl, ⟨_, SqL.of g3⟩, fun D nD => ?_⟩
    obtain ⟨H3, eS⟩ : ∃ h, upd (upd H1 p (SetO w p (fun j => decide (j ∈ (0 :: (c : Int) :: ts))) ks.length)) p2 (HO.lst ((sortU (0 :: (c : Int) :: ts)).map V.int)) = h := ⟨_, rfl⟩
    have s13 : Same H H3 := fun b o e => (congrFun eS b).symm.trans (((s1.trans s2).trans s3) b o e)
    have nD3 : H3 D = none := (congrFun eS D).symm.trans nD
    rw [eS] at g3
    have s4 : Same H3 (upd (upd (upd H1 p (SetO w p (fun j => decide (j ∈ (0 :: (c : Int) :: ts))) ks.length)) p2 (HO.lst ((sortU (0 :: (c : Int) :: ts)).map V.int))) D (HO.lst [])) := fun b o e => same_put nD b o ((congrFun eS b).trans e)
    refine lc_list (K := K) (a := p2) (xs := (sortU (0 :: (c : Int) :: ts)).map V.int) (fun j H' => ∃ acc, H' D = some (.lst acc) ∧ DpAll K H' acc (((sortU (0 :: (c : Int) :: ts)).take j).map fun t => frD (lowQ t c)) ∧ Same H3 H') ⟨[], upd_same, .nil, s4⟩ (fun j H' _ ⟨_, _, _, e⟩ => SqL.of (e _ _ g3)) ?_ ?_
    · rintro j x H' hj ⟨acc, hD, ha, e⟩
      rw [List.getElem?_map] at hj
      obtain ⟨t, ht, rfl⟩ := Option.map_eq_some_iff.mp hj
      have tm : t ∈ (0 :: (c : Int) :: ts) := sortU_mem.mp (List.mem_of_getElem? ht)
      have t0' : 0 ≤ t := by
        rcases List.mem_cons.mp tm with rfl | m
        · omega
        · rcases List.mem_cons.mp m with rfl | m
          · omega
          · exact t0 t m
      refine ⟨rfl, _, rfl, _, rfl, t, (c : Int), rfl, t0', by omega, (by rw [Int.natAbs_natCast]; exact Nat.lt_trans c1 (by decide)), fun r nr => ?_⟩
      have s5 := same_put (o := HO.tup [V.int (lowQ t c).1, V.int (lowQ t c).2]) nr
      have g5 : upd H' r (HO.tup [V.int (lowQ t c).1, V.int (lowQ t c).2]) r = some (.tup [V.int (lowQ t c).1, V.int (lowQ t c).2]) := upd_same
      refine ⟨acc, s5 _ _ hD, ?_, acc ++ [.ref r], upd_same, ?_, fun b o z => ?_⟩
      · rw [dps_len ha, List.length_map, List.length_take]
        have := sortU_len (0 :: (c : Int) :: ts)
        exact small1000 (by have : (0 :: (c : Int) :: ts).length = ts.length + 2 := rfl; omega)
      · rw [List.take_add_one, ht, List.map_append]
        exact dps_snoc (dps_upd (s5 _ _ hD) (noLs_iff.mpr fun d m => by obtain ⟨t, _, rfl⟩ := List.mem_map.mp m; rfl) (dps_same s5 _ _ ha)) (dp_upd (s5 _ _ hD) rfl (fr_mk (x := (lowQ t c).1) (y := (lowQ t c).2) (SqT.of g5)))
      · rw [upd_ne (ne_of_none z nD3)]
        exact s5 _ _ (e _ _ z)
    · rintro H' ⟨acc, hD, ha, e⟩
      rw [List.length_map, List.take_length] at ha
      exact k _ H' (s13.trans e) (.lst (SqL.of hD) ha)
theorem ok_whole {f : Addr} {fd : FuncData} (F : Fun K "whole_points" "whole_points" s_whole_points f fd) (B : Bc mg) (Bq : Bq mg) {fL fP : Addr} {fdL fdP : FuncData} (L : Df K mg "lowest" sLowest ["top", "bottom"] fL fdL) (Pt : Df K mg "_points" s__points ["tops", "bottom"] fP fdP) : FnOk P w K mg base CX0 3 f fd ["numbers"] (spWhole K) := by
  have GP : FnOk P w K mg base CX0 2 fP fdP ["tops", "bottom"] (spPoints K) := ok_points Pt.F B Bq L
  refine F.ok sc_whole_points (fun vs H Q E h => ?_) (fun cdv A outer s H vs Q E hr h => ?_)
  · obtain ⟨l, ns, M, rfl, _⟩ := h
    rfl
  · obtain ⟨l, ns, M, rfl, hl, sm, M0, M1, hM, k⟩ := h
    have pre : ∀ (i : Nat), (ns.take i).foldl Nat.lcm 1 ∣ M := fun i => (lcm_fold (ns.take i) 1).2.2 M (Nat.one_dvd _) fun q m => (hM q (List.mem_of_mem_take m)).2
    have pos : ∀ (i : Nat), 0 < (ns.take i).foldl Nat.lcm 1 := fun i => Nat.pos_of_dvd_of_pos (pre i) M0
    have small : ∀ (i : Nat), (ns.take i).foldl Nat.lcm 1 < 2 ^ 62 := fun i => Nat.lt_of_le_of_lt (Nat.le_of_dvd M0 (pre i)) M1
    refine ⟨_, pss_cons (ps_set (i := 1) sc_whole_points.nd rfl (.inr rfl) pe_int) (pss_cons (ps_for PassesOwn.never rfl (pi_list (pv 0)) (pg_name (i := 2) sc_whole_points.nd rfl (.inl rfl)) (pss_one (ps_set (i := 1) sc_whole_points.nd rfl (.inr rfl) (pe_callBfun cr_lcm (by rfl) Bq.lcm (pa_cons (pv 1) (pa_cons (pv 2) pa_nil)))))) (pss_one (ps_ret (pe_call GP hr (by rfl) Pt.g Pt.F.kp Pt.b .nil pass0 (pa_cons (pe_lc2 (te := tOp (fun x y H Q => ∃ i j, x = V.int i ∧ y = V.int j ∧ (-(2 ^ 64) < i ∧ i < 2 ^ 64 ∨ -(2 ^ 64) < j ∧ j < 2 ^ 64) ∧ Q (.int (i * j)) H) (tOp (fun x y H Q => ∃ i j, x = V.int i ∧ y = V.int j ∧ CDivW i j ∧ Q (.int (i / j)) H) (tVar 1) (tVar 2)) (tVar 3)) (own := [("number", 2), ("top", 3)]) (vs1 := [3]) (g := gName 2) (tt := tYes) (g1 := gName 3) (tt1 := tYes) (wi1 := iRng1 (tCons (tVar 2) tNil)) rfl sc_whole_points.nd (pi_list (pv 0)) (blkOk_by (N := ["numbers", "common", "number", "top"]) (sc := defScope s_whole_points) (by decide +kernel)) (by decide) (fun _ _ _ _ _ => pg_name (i := 2) sc_whole_points.nd rfl (.inl rfl)) (fun _ _ _ _ _ => pts_nil) (fun _ _ _ _ _ => pi_range1 rfl Bq.range (pa_cons (pv 2) pa_nil)) (fun _ _ _ _ _ => pg_name (i := 3) sc_whole_points.nd rfl (.inl rfl)) (fun _ _ _ _ _ => pts_nil) (fun _ _ _ _ _ => (pe_op op_mul (pe_op op_fdivW (pv 1) (pv 2)) (pv 3)))) (pa_cons (pv 1) pa_nil)))))), ?_⟩
    refine ⟨_, rfl, l, rfl, ⟨_, hl⟩, for_list (K := K) (a := l) (xs := ns.map fun (k : Nat) => V.int (k : Int)) (fun i σ H' => ∃ m, σ = [some (.ref l), some (.int (((ns.take i).foldl Nat.lcm 1 : Nat) : Int)), m, none] ∧ Same H H') ⟨none, rfl, Same.refl _⟩ (fun i σ H' _ ⟨_, _, e⟩ => e.seq hl) ?_ ?_⟩
    · rintro i x σ H1 hi ⟨m, rfl, e⟩
      rw [List.getElem?_map] at hi
      obtain ⟨n, hn, rfl⟩ := Option.map_eq_some_iff.mp hi
      have mn := List.mem_of_getElem? hn
      refine ⟨_, rfl, _, rfl, _, _, rfl, Nat.lt_trans (small i) (by decide), Nat.lt_of_le_of_lt (Nat.le_of_dvd M0 (hM n mn).2) (Nat.lt_trans M1 (by decide)), ?_⟩
      have e1 : (ns.take (i + 1)).foldl Nat.lcm 1 = Nat.lcm ((ns.take i).foldl Nat.lcm 1) n := by rw [List.take_add_one, hn, List.foldl_append]; rfl
      refine ⟨some (.int (n : Int)), ?_, e⟩
      rw [e1]
      rfl
    rintro σ H1 ⟨m, rfl, e⟩
    rw [List.length_map, List.take_length]
    have c0 : 0 < lcmA ns := by have := pos ns.length; rwa [List.take_length] at this
    have c1 : lcmA ns < 2 ^ 62 := by have := small ns.length; rwa [List.take_length] at this
    refine nxI ?_
    have ec : ns.foldl Nat.lcm 1 = lcmA ns := rfl
    rw [ec]
    generalize hc : lcmA ns = c at *
    have dv : ∀ q ∈ ns, q ∣ c := fun q m => by rw [← hc]; exact (lcm_fold ns 1).2.1 q m
    have hl1 := e.seq hl
    refine ⟨_, rfl, l, rfl, ⟨_, hl1⟩, fun D nD => ?_⟩
    have s2 := same_put (o := HO.lst []) nD
    refine lc2_it (walk_list (K := K) (a := l) (xs := ns.map fun (k : Nat) => V.int (k : Int))) (fun i H' => H' D = some (.lst ((tops c (ns.take i)).map V.int)) ∧ Same H1 H') ⟨upd_same, s2⟩ (fun i H' _ ⟨_, e⟩ => e.seq hl1) ?_ ?_
    · rintro i x H2 H3 hi ⟨hD, e2⟩ ⟨rfl, hx⟩
      rw [List.getElem?_map] at hx
      obtain ⟨n, hn, rfl⟩ := Option.map_eq_some_iff.mp hx
      have mn := List.mem_of_getElem? hn
      have n0 := (hM n mn).1
      have nM : n < 2 ^ 62 := Nat.lt_of_le_of_lt (Nat.le_of_dvd M0 (hM n mn).2) M1
      have st := sum_take hn
      refine ⟨rfl, yesI ?_⟩
      refine ⟨_, rfl, (n : Int), rfl, by omega, by omega, in1 (walk_range (lo := 0) (n := (n : Int).toNat)) (fun j H' => H' D = some (.lst ((tops c (ns.take i) ++ (List.range j).map fun (j : Nat) => ((c / n : Nat) : Int) * (j : Int)).map V.int)) ∧ Same H1 H') ⟨by simpa using hD, e2⟩ (fun _ _ _ _ => trivial) ?_ ?_⟩
      · rintro j y H4 H5 hj ⟨hD4, e4⟩ ⟨rfl, rfl⟩
        have cn : ((c : Int) / (n : Int)) = ((c / n : Nat) : Int) := by simp
        have cl : c / n < 2 ^ 62 := Nat.lt_of_le_of_lt (Nat.div_le_self _ _) c1
        refine ⟨rfl, yesI ?_⟩
        refine ⟨_, rfl, _, rfl, _, _, rfl, rfl, wide_div (b := 100) (by omega) (by rw [Int.natAbs_natCast]; exact Nat.lt_trans nM (by decide)) (by decide) (by decide), _, rfl, _, _, rfl, rfl, .inl ?_, ?_⟩
        · rw [cn]
          exact ⟨Int.lt_of_lt_of_le (show -(2 ^ 64) < (0 : Int) by decide) (Int.natCast_nonneg _), Int.lt_trans (Int.ofNat_lt.mpr cl) (by decide)⟩
        rw [cn]
        refine ⟨_, hD4, ?_, ?_, fun b o z => ?_⟩
        · rw [List.length_map, List.length_append, List.length_map, List.length_range, tops_len]
          exact small1000 (by omega)
        · rw [upd_same, List.range_succ]
          simp only [List.map_append, List.map_cons, List.map_nil, List.append_assoc, Int.zero_add]
        · rw [upd_ne (ne_of_none z nD)]
          exact e4 _ _ z
      · rintro H4 ⟨hD4, e4⟩
        refine ⟨?_, e4⟩
        rw [hD4, List.take_add_one, hn]
        show _ = some (HO.lst ((tops c (ns.take i ++ [n])).map V.int))
        rw [tops_snoc]
        rfl
    · rintro H2 ⟨hD, e2⟩
      rw [List.length_map, List.take_length] at hD
      refine ⟨_, rfl, D, c, tops c ns, rfl, SqL.of hD, by rw [tops_len]; exact sm, c0, c1, fun t m => (tops_mem c0 dv m).1, fun v H3 s3 d => ?_⟩
      refine k v H3 ((e.trans e2).trans s3) ?_
      rw [← hc] at d
      rw [← hc]
      have : ((wpts (lcmA ns) ns).map frD) = (sortU (0 :: (lcmA ns : Int) :: tops (lcmA ns) ns)).map fun t => frD (lowQ t (lcmA ns)) := by unfold wpts; rw [List.map_map]; rfl
      rw [this]
      exact d
end
end My
set_option Elab.async false
set_option linter.all false
set_option maxRecDepth 100000
set_option maxHeartbeats 8000000
set_option exponentiation.threshold 4000
namespace My
open PySem PySem.Spec PyProof.Rows L2 Gn Mt
abbrev s_lot_where : Stmt := top 41
theorem sc_lot_where : FnScope ["points", "fits", "cuts", "low", "high", "cut", "step"] ["points", "fits"] (defScope s_lot_where) := ⟨rfl, rfl, rfl, by decide +kernel, rfl, by decide +kernel, by decide +kernel⟩
/-! the lot of the steps that fit, as the program seeks it -/
theorem cut_from1 (xs : List V) : cutV xs (some 1) none = xs.drop 1 := by
  unfold cutV
  cases xs with
  | nil => rfl
  | cons a r =>
    have e1 : HT.sIx (a :: r).length 0 (some 1) = 1 := by
      rw [show HT.sIx (a :: r).length 0 (some 1) = min 1 (a :: r).length from HT.sIx_nat _ 0 1, List.length_cons]; omega
    have e2 : HT.sIx (a :: r).length (a :: r).length none = (a :: r).length := HT.sIx_none ..
    rw [e1, e2]
    exact List.take_of_length_le (by rw [List.length_drop]; omega)
theorem odd_dec : ∀ n : Nat, decide (V.int ((n : Int) % 2) = V.int 1) = odd n
  | 0 => by decide
  | n + 1 => by
    have ih := odd_dec n
    show decide (V.int (((n + 1 : Nat) : Int) % 2) = V.int 1) = !odd n
    rw [← ih]
    have e : ∀ a b : Int, decide (V.int a = V.int b) = decide (a = b) := fun a b => by
      by_cases h : a = b
      · rw [decide_eq_true h, decide_eq_true (congrArg V.int h)]
      · rw [decide_eq_false h, decide_eq_false fun z => h (V.int.inj z)]
    rw [e, e]
    by_cases h : ((n : Int) % 2) = 1
    · rw [decide_eq_true h, decide_eq_false (by omega)]; rfl
    · rw [decide_eq_false h, decide_eq_true (by omega)]; rfl
theorem bl_ne (a b : Bool) : (!decide (V.bl a = V.bl b)) = (a != b) := by cases a <;> cases b <;> decide
theorem evs_len (f : Int → Int → Bool) : ∀ ps : List (Int × Int), (evs f ps).length = 2 * (ps.length - 1)
  | [] => rfl
  | [p] => rfl
  | p :: q :: r => by
    have := evs_len f (q :: r)
    show (evs f (q :: r)).length + 1 + 1 = 2 * ((q :: r).length + 1 - 1)
    have e : (q :: r).length = r.length + 1 := rfl
    omega
theorem evs_at (f : Int → Int → Bool) : ∀ {ps : List (Int × Int)} {i : Nat} {p q : Int × Int}, ps[i]? = some p → ps[i + 1]? = some q →
    (evs f ps)[2 * i]? = some (⟨p.1, p.2, false⟩, f p.1 p.2) ∧ (evs f ps)[2 * i + 1]? = some (⟨p.1, p.2, true⟩, f (med p q).1 (med p q).2)
  | [], i, p, q, h, _ => by simp at h
  | [a], i, p, q, _, h => by simp at h
  | a :: b :: r, 0, p, q, h1, h2 => by cases h1; cases h2; exact ⟨rfl, rfl⟩
  | a :: b :: r, i + 1, p, q, h1, h2 => by
    have ih := evs_at f (ps := b :: r) (i := i) h1 h2
    exact ⟨by rw [show 2 * (i + 1) = 2 * i + 1 + 1 by omega]; exact ih.1, by rw [show 2 * (i + 1) + 1 = 2 * i + 1 + 1 + 1 by omega]; exact ih.2⟩
theorem lw_in {es : List (Cut × Bool)} {c : Cut} (h : c ∈ lw es) : c ∈ es.map (·.1) ++ [last] := by
  have sub := cstep_sub es [] [] (List.Sublist.refl _)
  rw [List.nil_append] at sub
  unfold lw ends at h
  split at h
  · rcases List.mem_append.mp h with m | m
    · exact List.mem_append_left _ (sub.subset m)
    · exact List.mem_append_right _ m
  · exact List.mem_append_left _ (sub.subset h)
theorem lw_short (es : List (Cut × Bool)) : (lw es).length ≤ es.length + 1 := by
  have sub := (cstep_sub es [] [] (List.Sublist.refl _)).length_le
  rw [List.nil_append, List.length_map] at sub
  unfold lw ends
  split
  · rw [List.length_append]; show _ + 1 ≤ _; omega
  · omega
theorem cstep_t {acc : List Cut} {c : Cut} {b : Bool} (h : (b != odd acc.length) = true) : cstep acc (c, b) = acc ++ [c] := if_pos h
theorem cstep_f {acc : List Cut} {c : Cut} {b : Bool} (h : ¬ (b != odd acc.length) = true) : cstep acc (c, b) = acc := if_neg h
theorem cut_noL : ∀ {cs : List Cut}, noLs (cs.map cutD) = true := by
  intro cs
  refine noLs_iff.mpr fun d m => ?_
  obtain ⟨c, _, rfl⟩ := List.mem_map.mp m
  rfl
def spWhere (K : PySem.W.Frag) (C : Addr) (tl : V → Hp → VK → Prop) (v0 : V) (H : Hp) (Q : VK) : Prop := ∃ (ps : List (Int × Int)) (f : Int → Int → Bool), Dp K H v0 (.list (ps.map frD)) ∧ Pts ps ∧ (∀ p ∈ ps, p.1.natAbs < 2 ^ 62 ∧ p.2.natAbs < 2 ^ 62) ∧ ps.length ≤ 1000 ∧
  (∀ v x y G, Same H G → Dp K G v (frD (x, y)) → Stp x y → x.natAbs < 2 ^ 64 → y.natAbs < 2 ^ 64 → ∀ R : VK, (∀ G', Same G G' → R (.bl (f x y)) G') → tl v G R) ∧ ∀ v H', Same H H' → LotAt K C H' v (lw (evs f ps)) → Q v H'
section
variable {X : Cx} {C fI fP : Addr} {fdI fdP : FuncData}
theorem gives_where {g : Addr} {cdg : Value} {q : Str} {k : Nat} (hk : 7 ≤ k) (T : LotC X.prog X.w X.K X.mg C fI fP fdI fdP) (B : Bp X.K X.mg) (M : Pd X.K X.mg) :
    GivesQ X ["points", "fits", "cuts", "low", "high", "cut", "step"] "lot_where" (defScope s_lot_where) g cdg (defBody s_lot_where) 1 "fits" q k (spWhere X.K C) := by
  intro ff cc s H v0 Q tl act co hr want
  obtain ⟨ps, f, hp, P, lit, len, fit, fin⟩ := want
  have GM : FnOk X.prog X.w X.K X.mg X.base CX0 2 M.f_mediant.1 M.f_mediant.2 ["low", "high"] (spMed X.K) := ok_med M.d_mediant.F B.c M.d_low
  have GL : FnOk X.prog X.w X.K X.mg X.base CX0 8 M.f__lot_with.1 M.f__lot_with.2 ["cuts"] (spLotWith X.K C) := ok_lotWith M.d__lot_with.F T B M
  have hr2 : Room 2 _ := hr.mono (show 2 ≤ k + 1 by omega)
  have hr8 : Room 8 _ := hr.mono (show 8 ≤ k + 1 by omega)
  obtain ⟨al, hal, hlast⟩ := B.lc
  obtain ⟨l, xs, rfl, hq, hx⟩ := lst_inv hp
  have lx := dps_len hx
  rw [List.length_map] at lx
  obtain ⟨all1, all2, all3, all4⟩ := evs_all (f := f) P.v P.asc P.ls
  generalize hE : evs f ps = E at *
  have lE : E.length = 2 * (ps.length - 1) := by rw [← hE]; exact evs_len f ps
  have ps0 : 0 < ps.length := by
    cases h : ps with
    | nil => have := P.hd; rw [h] at this; cases this
    | cons a r => exact Nat.succ_pos _
  refine ⟨_, pss_cons (ps_set (i := 2) sc_lot_where.nd rfl (.inl rfl) (pe_lst pa_nil)) (pss_cons (ps_for PassesOwn.never rfl (pi_zip (by rfl) B.zip (pa_cons (pv 0) (pa_cons (pe_slice sl_list (pv 0) (po_some pe_int) po_none) pa_nil))) (pg_tup (by rfl) (pgs_cons (pg_name (i := 3) sc_lot_where.nd rfl (.inl rfl)) (pgs_cons (pg_name (i := 4) sc_lot_where.nd rfl (.inl rfl)) pgs_nil))) (pss_one (ps_for PassesOwn.never rfl (pi_tup (pe_tup (pa_cons (pe_tup (pa_cons (pe_tup (pa_cons (pv 3) (pa_cons pe_int pa_nil))) (pa_cons (pv 3) pa_nil))) (pa_cons (pe_tup (pa_cons (pe_tup (pa_cons (pv 3) (pa_cons pe_int pa_nil))) (pa_cons (pe_call GM hr2 (by rfl) M.d_mediant.g M.d_mediant.F.kp M.d_mediant.b .nil pass0 (pa_cons (pv 3) (pa_cons (pv 4) pa_nil))) pa_nil))) pa_nil)))) (pg_tup (by rfl) (pgs_cons (pg_name (i := 5) sc_lot_where.nd rfl (.inl rfl)) (pgs_cons (pg_name (i := 6) sc_lot_where.nd rfl (.inl rfl)) pgs_nil))) (pss_one (ps_if (pt_cmpR op_ne (act _ _ _ _ (fun _ => rfl) (pv 6)) (pe_cmpR op_eq (pe_op op_mod (pe_callB (call_len_seq) (by rfl) B.c.len (by decide +kernel) (pa_cons (pv 2) pa_nil)) pe_int) pe_int (nomark _)) (nomark _)) (pss_one (ps_expr (pe_bm PySem.F.plainAttrs_list PySem.F.slot_list_append PySem.F.type_list_append mt_append (pv 2) (pa_cons (pv 5) pa_nil)))) pss_nil))))) (pss_cons (ps_if (pt_cmpR op_eq (pe_op op_mod (pe_callB (call_len_seq) (by rfl) B.c.len (by decide +kernel) (pa_cons (pv 2) pa_nil)) pe_int) pe_int (nomark _)) (pss_one (ps_expr (pe_bm PySem.F.plainAttrs_list PySem.F.slot_list_append PySem.F.type_list_append mt_append (pv 2) (pa_cons (pe_glob (v := .ref al) rfl hal rfl) pa_nil)))) pss_nil) (pss_one (ps_ret (pe_call GL hr8 (by rfl) M.d__lot_with.g M.d__lot_with.F.kp M.d__lot_with.b .nil pass0 (pa_cons (pv 2) pa_nil)))))), ?_⟩
  refine ⟨Nat.zero_le _, fun D nD => ?_⟩
  have s0 := same_put (o := HO.lst []) nD
  have gD : upd H D (HO.lst []) D = some (.lst []) := upd_same
  generalize upd H D (HO.lst []) = H0 at *
  refine ⟨_, rfl, _, rfl, 1, rfl, l, xs, rfl, s0.seq hq, fun p1 np => ?_⟩
  rw [cut_from1]
  have s1 := same_put (o := HO.lst (xs.drop 1)) np
  have gp : upd H0 p1 (HO.lst (xs.drop 1)) p1 = some (.lst (xs.drop 1)) := upd_same
  generalize upd H0 p1 (HO.lst (xs.drop 1)) = H1 at *
  have S := s0.trans s1
  have gD1 := s1 _ _ gD
  have npD : p1 ≠ D := fun z => by rw [z, gD] at np; cases np
  have hq1 := S.seq hq
  have keepL : ∀ H' : Hp, (∀ b o, b ≠ D → H1 b = some o → H' b = some o) → SqL X.K H' l xs := fun H' kp => by
    rcases hq with (h | ⟨o, h⟩) | h
    · exact .inl (.inl (kp _ _ (ne_of_none h nD) (S _ _ h)))
    · exact .inl (.inr ⟨o, kp _ _ (ne_of_none h nD) (S _ _ h)⟩)
    · exact .inr h
  refine ⟨l, p1, xs, xs.drop 1, rfl, hq1, SqL.of gp, for_it (walk_zip (K := X.K) (a := l) (b := p1) (xs := xs) (ys := xs.drop 1) (n := ps.length - 1) (by rw [List.length_drop, lx]; omega))
    (fun i σ H' => ∃ (u1 u2 u3 u4 : Option V) (ys : List V), σ = [some (.ref l), some (.ref ff), some (.ref D), u1, u2, u3, u4] ∧ H' D = some (.lst ys) ∧ DpAll X.K H' ys (((E.take (2 * i)).foldl cstep []).map cutD) ∧ ∀ b o, b ≠ D → H1 b = some o → H' b = some o)
    ⟨none, none, none, none, [], rfl, gD1, .nil, fun b o _ e => e⟩ (fun i σ H' _ ⟨_, _, _, _, _, _, _, _, kp⟩ => ⟨keepL H' kp, SqL.of (kp _ _ npD gp)⟩) ?_ ?_⟩
  · rintro i x σ H2 H3 hi ⟨u1, u2, u3, u4, ys, rfl, hD, hys, kp⟩ ⟨r, a, b, rfl, nr, rfl, ha, hb⟩
    have sH : Same H H2 := fun b o e => kp _ _ (ne_of_none e nD) (S _ _ e)
    have ha : xs[i]? = some a := ha
    have hb : (xs.drop 1)[i]? = some b := hb
    rw [List.getElem?_drop, Nat.add_comm] at hb
    obtain ⟨d1, hd1, da⟩ := dps_get (dps_same sH _ _ hx) ha
    obtain ⟨d2, hd2, db⟩ := dps_get (dps_same sH _ _ hx) hb
    rw [List.getElem?_map] at hd1 hd2
    obtain ⟨p, hpi, rfl⟩ := Option.map_eq_some_iff.mp hd1
    obtain ⟨p', hpj, rfl⟩ := Option.map_eq_some_iff.mp hd2
    obtain ⟨ev0, ev1⟩ := evs_at f hpi hpj
    rw [hE] at ev0 ev1
    have fp := P.v p (List.mem_of_getElem? hpi)
    have fq := P.v p' (List.mem_of_getElem? hpj)
    have lp := lit p (List.mem_of_getElem? hpi)
    have lq := lit p' (List.mem_of_getElem? hpj)
    have lss : Lss p p' := by
      obtain ⟨l1, rfl⟩ := List.getElem?_eq_some_iff.mp hpi
      obtain ⟨l2, rfl⟩ := List.getElem?_eq_some_iff.mp hpj
      exact List.pairwise_iff_getElem.mp P.asc i (i + 1) l1 l2 (by omega)
    obtain ⟨mst, ml1, ml2⟩ := med_stp fp fq lss
    have pst : Stp p.1 p.2 := ⟨fp.n0, by
      have l' : p.1 * p'.2 < p'.1 * p.2 := lss
      have le := fp.le; have me := fq.le; have d0 := fp.d0
      rcases Int.lt_or_eq_of_le le with h | h
      · exact h
      · rw [h] at l'
        have : p'.1 * p.2 ≤ p'.2 * p.2 := Int.mul_le_mul_of_nonneg_right me (by omega)
        have c : p.2 * p'.2 = p'.2 * p.2 := Int.mul_comm ..
        omega, fp.co⟩
    have sr := same_put (o := HO.tup [a, b]) nr
    have gr : upd H2 r (HO.tup [a, b]) r = some (.tup [a, b]) := upd_same
    have hDr := sr _ _ hD
    generalize upd H2 r (HO.tup [a, b]) = H3 at *
    have da3 := dp_same sr _ _ da
    have db3 := dp_same sr _ _ db
    refine ⟨r, _, rfl, SqT.of gr, rfl, _, _, rfl, _, _, rfl, rfl, ?_⟩
    refine ⟨_, rfl, (by show 2 ≤ sizeLine; decide), fun r1 n1 => ⟨_, rfl, (by show 2 ≤ sizeLine; decide), fun r2 n2 => ?_⟩⟩
    have t1 := same_put (o := HO.tup [a, V.int 0]) n1
    have g1 : upd H3 r1 (HO.tup [a, V.int 0]) r1 = some (.tup [a, V.int 0]) := upd_same
    generalize upd H3 r1 (HO.tup [a, V.int 0]) = H4 at *
    have t2 := same_put (o := HO.tup [V.ref r1, a]) n2
    have g2 : upd H4 r2 (HO.tup [V.ref r1, a]) r2 = some (.tup [V.ref r1, a]) := upd_same
    generalize upd H4 r2 (HO.tup [V.ref r1, a]) = H5 at *
    refine ⟨_, rfl, (by show 2 ≤ sizeLine; decide), fun r3 n3 => ?_⟩
    have t3 := same_put (o := HO.tup [a, V.int 1]) n3
    have g3 : upd H5 r3 (HO.tup [a, V.int 1]) r3 = some (.tup [a, V.int 1]) := upd_same
    generalize upd H5 r3 (HO.tup [a, V.int 1]) = H6 at *
    have t36 := (t1.trans t2).trans t3
    have d0 := fp.d0; have e0 := fq.d0; have n0 := fp.n0; have m0 := fq.n0
    refine ⟨_, rfl, _, rfl, a, b, p, p', rfl, dp_same t36 _ _ da3, dp_same t36 _ _ db3, by omega, by omega, (by have := lp.2; have := lq.2; omega), fun m H7 t4 dm => ?_⟩
    refine ⟨(by show 2 ≤ sizeLine; decide), fun r4 n4 => ?_⟩
    have t5 := same_put (o := HO.tup [V.ref r3, V.ref m]) n4
    have g4 : upd H7 r4 (HO.tup [V.ref r3, V.ref m]) r4 = some (.tup [V.ref r3, V.ref m]) := upd_same
    generalize upd H7 r4 (HO.tup [V.ref r3, V.ref m]) = H8 at *
    refine ⟨(by show 2 ≤ sizeLine; decide), fun r5 n5 => ?_⟩
    have t6 := same_put (o := HO.tup [V.ref r2, V.ref r4]) n5
    have g5 : upd H8 r5 (HO.tup [V.ref r2, V.ref r4]) r5 = some (.tup [V.ref r2, V.ref r4]) := upd_same
    generalize upd H8 r5 (HO.tup [V.ref r2, V.ref r4]) = H9 at *
    have t39 : Same H3 H9 := ((t36.trans t4).trans t5).trans t6
    have hD9 := t39 _ _ hDr
    have item : ∀ (j : Nat) (z : V), [V.ref r2, V.ref r4][j]? = some z → ∃ (t a' : Addr) (st : V) (c : Cut) (y : Int × Int), z = .ref t ∧ SqT X.K H9 t [.ref a', st] ∧ Dp X.K H9 (.ref a') (cutD c) ∧ Dp X.K H9 st (frD y) ∧ E[2 * i + j]? = some (c, f y.1 y.2) ∧ Stp y.1 y.2 ∧ y.1.natAbs < 2 ^ 64 ∧ y.2.natAbs < 2 ^ 64 := by
      intro j z hz
      match j, hz with
      | 0, hz =>
        cases hz
        have q2 : Same H5 H9 := ((t3.trans t4).trans t5).trans t6
        have q1 : Same H4 H9 := t2.trans q2
        exact ⟨r2, r1, a, ⟨p.1, p.2, false⟩, p, rfl, SqT.of (q2 _ _ g2), cut_mk (SqT.of (q1 _ _ g1)) (dp_same t39 _ _ da3), dp_same t39 _ _ da3, ev0, pst, by have := lp.1; omega, by have := lp.2; omega⟩
      | 1, hz =>
        cases hz
        have q3 : Same H6 H9 := (t4.trans t5).trans t6
        exact ⟨r4, r3, .ref m, ⟨p.1, p.2, true⟩, med p p', rfl, SqT.of (t6 _ _ g4), cut_mk (SqT.of (q3 _ _ g3)) (dp_same t39 _ _ da3), dp_same (t5.trans t6) _ _ dm, ev1, mst, by have := lp.1; have := lq.1; omega, by have := lp.2; have := lq.2; omega⟩
      | j + 2, hz => simp at hz
    refine ⟨r5, rfl, ⟨_, SqT.of g5⟩, for_tup (K := X.K) (a := r5) (xs := [V.ref r2, V.ref r4])
      (fun j σ H' => ∃ (u3 u4 : Option V) (ys : List V), σ = [some (.ref l), some (.ref ff), some (.ref D), some a, some b, u3, u4] ∧ H' D = some (.lst ys) ∧ DpAll X.K H' ys (((E.take (2 * i + j)).foldl cstep []).map cutD) ∧ ∀ b o, b ≠ D → H9 b = some o → H' b = some o)
      ⟨u3, u4, ys, rfl, hD9, dps_same (sr.trans t39) _ _ hys, fun b o _ e => e⟩ (fun j σ H' _ ⟨_, _, _, _, _, _, kp⟩ => SqT.of (kp _ _ (fun z => by rw [z, hD9] at g5; cases g5) g5)) ?_ ?_⟩
    · rintro j z σ H10 hz ⟨w3, w4, zs, rfl, hD10, hzs, kp10⟩
      obtain ⟨t, a', st, c, y, rfl, h1, h2, h3, hev, stp, b1, b2⟩ := item j z hz
      have bl : ButL H9 H10 := fun b o n e => kp10 b o (fun z => by rw [z, hD9] at e; exact n _ (Option.some.inj e).symm) e
      have h1 := bl.sq h1
      have h2 := dp_butL bl _ _ rfl h2
      have h3 := dp_butL bl _ _ rfl h3
      have sH10 : Same H H10 := fun b o e => kp10 _ _ (ne_of_none e nD) (t39 _ _ (sr _ _ (sH _ _ e)))
      refine ⟨t, _, rfl, h1, rfl, _, _, rfl, _, _, rfl, rfl, ?_⟩
      refine ⟨rfl, _, rfl, sH10 _ _ co, fit st y.1 y.2 H10 sH10 h3 stp b1 b2 _ fun H11 s11 => ?_⟩
      have hD11 := s11 _ _ hD10
      have ac : ((E.take (2 * i + (j + 1))).foldl cstep []) = cstep ((E.take (2 * i + j)).foldl cstep []) (c, f y.1 y.2) := by
        rw [← Nat.add_assoc, List.take_add_one, hev, List.foldl_append]; rfl
      have lz := dps_len hzs
      rw [List.length_map] at lz
      refine ⟨_, rfl, D, zs, rfl, .inl (SqL.of hD11), _, _, rfl, rfl, (show (0 : Int) < 2 by decide), rfl, rfl, _, rfl, ?_⟩
      rw [odd_dec, bl_ne]
      refine ite2 (fun hc => ?_) (fun hc => ?_)
      · refine ⟨_, rfl, .inl ⟨rfl, _, SqL.of hD11⟩, _, rfl, D, zs, _, rfl, rfl, hD11, ?_, ?_⟩
        · rw [lz]
          have sub := (cstep_sub (E.take (2 * i + j)) [] [] (List.Sublist.refl _)).length_le
          rw [List.nil_append, List.length_map, List.length_take] at sub
          exact small1e4 (by omega)
        · refine ⟨_, _, zs ++ [.ref a'], rfl, upd_same, ?_, fun b o hb e => ?_⟩
          · rw [ac]
            have : cstep ((E.take (2 * i + j)).foldl cstep []) (c, f y.1 y.2) = (E.take (2 * i + j)).foldl cstep [] ++ [c] := by
              rw [lz] at hc
              exact cstep_t hc
            rw [this, List.map_append]
            exact dps_snoc (dps_upd hD11 cut_noL (dps_same s11 _ _ hzs)) (dp_upd hD11 rfl (dp_same s11 _ _ h2))
          · rw [upd_ne hb]
            exact s11 _ _ (kp10 _ _ hb e)
      · refine ⟨_, _, zs, rfl, hD11, ?_, fun b o hb e => s11 _ _ (kp10 _ _ hb e)⟩
        rw [ac]
        have : cstep ((E.take (2 * i + j)).foldl cstep []) (c, f y.1 y.2) = (E.take (2 * i + j)).foldl cstep [] := by
          rw [lz] at hc
          exact cstep_f hc
        rw [this]
        exact dps_same s11 _ _ hzs
    · rintro σ H10 ⟨w3, w4, zs, rfl, hD10, hzs, kp10⟩
      refine ⟨_, _, _, _, zs, rfl, hD10, hzs, fun b o hb e => ?_⟩
      exact kp10 _ _ hb (t39 _ _ (sr _ _ (kp _ _ hb e)))
  · rintro σ H2 ⟨u1, u2, u3, u4, ys, rfl, hD, hys, kp⟩
    have sH : Same H H2 := fun b o e => kp _ _ (ne_of_none e nD) (S _ _ e)
    have tk : E.take (2 * (ps.length - 1)) = E := List.take_of_length_le (by omega)
    rw [tk] at hys
    have ly := dps_len hys
    rw [List.length_map] at ly
    have sub := (cstep_sub E [] [] (List.Sublist.refl _)).length_le
    rw [List.nil_append, List.length_map] at sub
    have L : LtL (lw E) := ⟨lw_lt all1 all3, fun c m => by
      obtain ⟨p, mp, e1, e2⟩ := all4 c (lw_in m)
      rw [e1, e2]
      exact ⟨Nat.lt_trans (lit p mp).1 (by decide), Nat.lt_trans (lit p mp).2 (by decide)⟩⟩
    have sh := lw_short E
    refine nxI ⟨_, rfl, D, ys, rfl, .inl (SqL.of hD), _, _, rfl, rfl, (show (0 : Int) < 2 by decide), rfl, _, rfl, ?_⟩
    rw [odd_dec]
    have done : ∀ H3 ys', H3 D = some (.lst ys') → DpAll X.K H3 ys' ((lw E).map cutD) → Same H H3 → tRet (tCall (spLotWith X.K C) [] E0 (tCons (tVar 2) tNil)) { nx := fun _ G => Q .non G, rt := Q } [some (.ref l), some (.ref ff), some (.ref D), u1, u2, u3, u4] H3 := fun H3 ys' h d s3 =>
      ⟨_, rfl, .ref D, lw E, rfl, .lst (SqL.of h) d, L, by omega, fun v H4 s4 at_ => fin v H4 (s3.trans s4) at_⟩
    refine ite2 (fun hc => ?_) (fun hc => ?_)
    · refine ⟨_, rfl, .inl ⟨rfl, _, SqL.of hD⟩, D, ys, _, rfl, rfl, hD, small1e4 (by omega), ?_⟩
      refine done _ _ upd_same ?_ fun b o e => by rw [upd_ne (ne_of_none e nD)]; exact sH _ _ e
      have : lw E = E.foldl cstep [] ++ [last] := by
        unfold lw ends
        rw [ly] at hc
        rw [if_pos hc]
      rw [this, List.map_append]
      exact dps_snoc (dps_upd hD cut_noL hys) (hlast _)
    · refine done _ _ hD ?_ sH
      have : lw E = E.foldl cstep [] := by
        unfold lw ends
        rw [ly] at hc
        rw [if_neg hc]
      rw [this]
      exact hys
end
end My
set_option Elab.async false
set_option maxRecDepth 100000
set_option maxHeartbeats 1000000
set_option linter.all false
/-! which mark comes behind another one: places that are told by f, of the marks below n -/
namespace Mt
/-- places on a rim of length y: unlike ones for the first n marks -/
structure Rim (f : Int → Int) (y n : Int) : Prop where
  r : ∀ k, 0 ≤ f k ∧ f k < y
  s : ∀ i j, f (i - j) = f i - f j ∨ f (i - j) = f i - f j + y
  z : ∀ k, 0 < k → k < n → f k ≠ 0
/-- m is met first behind k -/
def Nx (f : Int → Int) (n k m : Int) : Prop := 0 ≤ m ∧ m < n ∧ m ≠ k ∧ ∀ j, 0 ≤ j → j < n → j ≠ k → f (m - k) ≤ f (j - k)
/-- m is met last behind k -/
def Pv (f : Int → Int) (n k m : Int) : Prop := 0 ≤ m ∧ m < n ∧ m ≠ k ∧ ∀ j, 0 ≤ j → j < n → j ≠ k → f (k - m) ≤ f (k - j)
def behind (n A B k : Int) : Int := if k < n - A then k + A else if B ≤ k then k - B else k + A - B
section
variable {f : Int → Int} {y n : Int}
theorem Rim.y0 (R : Rim f y n) : 0 < y := by
  have := R.r 0; omega
theorem Rim.f0 (R : Rim f y n) : f 0 = 0 := by
  have h := R.s 0 0
  have := R.r 0
  rw [Int.sub_self] at h
  omega
theorem Rim.neg (R : Rim f y n) {k : Int} (h : f k ≠ 0) : f (-k) = y - f k := by
  have h1 := R.s 0 k
  have h2 := R.r (-k)
  have h3 := R.r k
  have h4 := R.f0
  rw [Int.zero_sub] at h1
  omega
theorem Rim.nz (R : Rim f y n) {k : Int} (h : k ≠ 0) (h1 : -n < k) (h2 : k < n) : f k ≠ 0 := by
  rcases Int.lt_or_lt_of_ne h with c | c
  · intro e
    have h3 := R.z (-k) (by omega) (by omega)
    have h4 := R.neg h3
    rw [Int.neg_neg] at h4
    have := R.r (-k)
    omega
  · exact R.z k c h2
theorem Rim.one (R : Rim f y n) {i j : Int} (hi : 0 ≤ i) (hi' : i < n) (hj : 0 ≤ j) (hj' : j < n) (e : f i = f j) : i = j := by
  rcases Int.decEq i j with c | c
  · have h1 := R.nz (k := i - j) (by omega) (by omega) (by omega)
    have h2 := R.s i j
    have := R.r (i - j)
    omega
  · exact c
theorem Nx.one (R : Rim f y n) {k m m' : Int} (h : Nx f n k m) (h' : Nx f n k m') : m = m' := by
  obtain ⟨a, b, c, d⟩ := h
  obtain ⟨a', b', c', d'⟩ := h'
  have e1 := d m' a' b' c'
  have e2 := d' m a b c
  rcases Int.decEq m m' with q | q
  · have h1 := R.nz (k := m - m') (by omega) (by omega) (by omega)
    have h2 := R.s (m - k) (m' - k)
    rw [show m - k - (m' - k) = m - m' by omega] at h2
    have := R.r (m - m')
    omega
  · exact q
theorem Pv.one (R : Rim f y n) {k m m' : Int} (h : Pv f n k m) (h' : Pv f n k m') : m = m' := by
  obtain ⟨a, b, c, d⟩ := h
  obtain ⟨a', b', c', d'⟩ := h'
  have e1 := d m' a' b' c'
  have e2 := d' m a b c
  rcases Int.decEq m m' with q | q
  · have h1 := R.nz (k := m' - m) (by omega) (by omega) (by omega)
    have h2 := R.s (k - m) (k - m')
    rw [show k - m - (k - m') = m' - m by omega] at h2
    have := R.r (m' - m)
    omega
  · exact q
theorem Nx.back (R : Rim f y n) {k m : Int} (hk : 0 ≤ k) (hk' : k < n) (h : Nx f n k m) : Pv f n m k := by
  obtain ⟨a, b, c, d⟩ := h
  refine ⟨hk, hk', Ne.symm c, fun j j0 j1 j2 => ?_⟩
  rcases Int.decEq j k with q | q
  · have h1 := d j j0 j1 q
    have h2 := R.s (m - k) (m - j)
    rw [show m - k - (m - j) = j - k by omega] at h2
    have h3 := R.r (j - k)
    have h4 := R.r (m - j)
    have h5 := R.r (m - k)
    have h6 := R.nz (k := m - j) (by omega) (by omega) (by omega)
    omega
  · subst q; exact Int.le_refl _
/-- the three cases -/
theorem gap (R : Rim f y n) {A B k : Int} (A0 : 0 < A) (A1 : A < n) (B0 : 0 < B) (B1 : B < n) (hA : ∀ k, 0 < k → k < n → f A ≤ f k) (hB : ∀ k, 0 < k → k < n → f k ≤ f B) (k0 : 0 ≤ k) (k1 : k < n) : Nx f n k (behind n A B k) := by
  have a0 := R.z A A0 A1
  have b0 := R.z B B0 B1
  have ra := R.r A
  have rb := R.r B
  have nb := R.neg b0
  unfold behind
  split
  · rename_i c1
    refine ⟨by omega, by omega, by omega, fun j j0 j1 j2 => ?_⟩
    rw [show k + A - k = A by omega]
    rcases Int.lt_or_lt_of_ne j2 with c | c
    · have h1 := hA (A - (j - k)) (by omega) (by omega)
      have h2 := R.s A (j - k)
      have h3 := R.nz (k := j - k) (by omega) (by omega) (by omega)
      have h4 := R.r (j - k)
      have h5 := R.r (A - (j - k))
      omega
    · exact hA _ (by omega) (by omega)
  · rename_i c1
    split
    · rename_i c2
      refine ⟨by omega, by omega, by omega, fun j j0 j1 j2 => ?_⟩
      rw [show k - B - k = -B by omega, nb]
      rcases Int.lt_or_lt_of_ne j2 with c | c
      · have h1 := hB (k - j) (by omega) (by omega)
        have h2 := R.z (k - j) (by omega) (by omega)
        have h3 := R.neg h2
        rw [show -(k - j) = j - k by omega] at h3
        omega
      · have h1 := hB (B + (j - k)) (by omega) (by omega)
        have h2 := R.s (B + (j - k)) (j - k)
        rw [show B + (j - k) - (j - k) = B by omega] at h2
        have h3 := R.nz (k := j - k) (by omega) (by omega) (by omega)
        have h4 := R.r (j - k)
        have h5 := R.r (B + (j - k))
        omega
    · rename_i c2
      have ne : A ≠ B := fun e => by
        subst e
        have e1 : ∀ k, 0 < k → k < n → f k = f A := fun k h h' => by
          have := hA k h h'; have := hB k h h'; omega
        by_cases h : A = 1
        · omega
        · have h1 := e1 (A - 1) (by omega) (by omega)
          have := R.one (i := A - 1) (j := A) (by omega) (by omega) (by omega) (by omega) h1
          omega
      have lt : f A < f B := by
        have h1 := hA B B0 B1
        rcases Int.lt_or_eq_of_le h1 with h | h
        · exact h
        · exact absurd (R.one (by omega) A1 (by omega) B1 h) ne
      have hab := R.s A B
      have rab := R.r (A - B)
      refine ⟨by omega, by omega, by omega, fun j j0 j1 j2 => ?_⟩
      rw [show k + A - B - k = A - B by omega]
      rcases Int.lt_or_lt_of_ne j2 with c | c
      · have h1 := hB (k - j) (by omega) (by omega)
        have h2 := R.z (k - j) (by omega) (by omega)
        have h3 := R.neg h2
        rw [show -(k - j) = j - k by omega] at h3
        have h4 := hA (B - (k - j)) (by omega) (by omega)
        have h5 := R.s B (k - j)
        have h6 := R.r (k - j)
        have h7 := R.r (B - (k - j))
        omega
      · have h1 := hA (j - k) (by omega) (by omega)
        have h2 := hB (A - (j - k)) (by omega) (by omega)
        have h3 := R.s A (j - k)
        have h4 := R.z (A - (j - k)) (by omega) (by omega)
        have h5 := R.r (A - (j - k))
        omega
/-- and so the other way round -/
theorem gapB (R : Rim f y n) {A B k : Int} (A0 : 0 < A) (A1 : A < n) (B0 : 0 < B) (B1 : B < n) (hA : ∀ k, 0 < k → k < n → f A ≤ f k) (hB : ∀ k, 0 < k → k < n → f k ≤ f B) (k0 : 0 ≤ k) (k1 : k < n) : Pv f n k (behind n B A k) := by
  have R' : Rim (fun k => f (-k)) y n := ⟨fun k => R.r (-k), fun i j => by
    show f (-(i - j)) = f (-i) - f (-j) ∨ f (-(i - j)) = f (-i) - f (-j) + y
    rw [show -(i - j) = -i - -j by omega]
    exact R.s (-i) (-j), fun k h h' => R.nz (by omega) (by omega) (by omega)⟩
  have h := gap R' (A := B) (B := A) (k := k) B0 B1 A0 A1 (fun k h h' => by
    show f (-B) ≤ f (-k)
    rw [R.neg (R.z B B0 B1), R.neg (R.z k h h')]
    have := hB k h h'; omega) (fun k h h' => by
    show f (-k) ≤ f (-A)
    rw [R.neg (R.z A A0 A1), R.neg (R.z k h h')]
    have := hA k h h'; omega) k0 k1
  obtain ⟨a, b, c, d⟩ := h
  refine ⟨a, b, c, fun j j0 j1 j2 => ?_⟩
  have := d j j0 j1 j2
  rw [show k - behind n B A k = -(behind n B A k - k) by omega, show k - j = -(j - k) by omega]
  exact this
theorem min_sum (R : Rim f y n) {A B : Int} (A0 : 0 < A) (A1 : A < n) (B0 : 0 < B) (B1 : B < n) (hA : ∀ k, 0 < k → k < n → f A ≤ f k) (hB : ∀ k, 0 < k → k < n → f k ≤ f B) : n ≤ A + B := by
  rcases Int.lt_or_le (A + B) n with c | c
  · have h1 := hA (A + B) (by omega) c
    have h2 := hB (A + B) (by omega) c
    have h3 := R.s (A + B) B
    rw [show A + B - B = A by omega] at h3
    have h4 := R.z A A0 A1
    have h5 := R.z B B0 B1
    have h6 := R.r A
    have h7 := R.r B
    omega
  · exact c
end
/-! the places of a step -/
theorem rim_step {x y n : Int} (hy : 0 < y) (co : Nat.gcd x.natAbs y.natAbs = 1) (hn : n ≤ y) : Rim (fun k => x * k % y) y n := by
  refine ⟨fun k => ⟨Int.emod_nonneg _ (by omega), Int.emod_lt_of_pos _ hy⟩, fun i j => ?_, fun k h h' e => ?_⟩
  · have h1 : x * (i - j) % y = (x * i % y - x * j % y) % y := by
      rw [Int.mul_sub, Int.sub_emod]
    have a1 := Int.emod_nonneg (x * i) (show y ≠ 0 by omega)
    have a2 := Int.emod_lt_of_pos (x * i) hy
    have b1 := Int.emod_nonneg (x * j) (show y ≠ 0 by omega)
    have b2 := Int.emod_lt_of_pos (x * j) hy
    show x * (i - j) % y = x * i % y - x * j % y ∨ x * (i - j) % y = x * i % y - x * j % y + y
    rw [h1]
    rcases Int.lt_or_le (x * i % y) (x * j % y) with c | c
    · right
      rw [← Int.add_emod_right]
      exact Int.emod_eq_of_lt (by omega) (by omega)
    · left
      exact Int.emod_eq_of_lt (by omega) (by omega)
  · have d : y ∣ x * k := Int.dvd_of_emod_eq_zero e
    have d1 : y.natAbs ∣ x.natAbs * k.natAbs := by
      have := Int.natAbs_dvd_natAbs.mpr d
      rwa [Int.natAbs_mul] at this
    have d2 : y.natAbs ∣ k.natAbs := (Nat.Coprime.symm co).dvd_of_dvd_mul_left d1
    have := Nat.le_of_dvd (by omega) d2
    omega
/-- two marks beside 0 as they are looked for: low and high, how far they are, p and q the tops of the neighbours -/
structure Side (x y n low fl high fh p q : Int) : Prop where
  l0 : 0 < low
  l1 : low < n
  h0 : 0 < high
  h1 : high < n
  e1 : low * x - p * y = fl
  e2 : q * y - high * x = fh
  de : low * q - high * p = 1
  fl0 : 0 < fl
  fh0 : 0 < fh
theorem Side.val {x y n low fl high fh p q : Int} (S : Side x y n low fl high fh p q) : low * fh + high * fl = y := by
  have h1 := S.e1; have h2 := S.e2; have h3 := S.de
  grind
theorem mod_at {a p y r : Int} (e : a - p * y = r) (h0 : 0 ≤ r) (h1 : r < y) : a % y = r := by
  rw [show a = r + y * p by grind, Int.add_mul_emod_self_left]
  exact Int.emod_eq_of_lt h0 h1
theorem Side.fly {x y n low fl high fh p q : Int} (S : Side x y n low fl high fh p q) : fl < y ∧ fh < y := by
  have v := S.val
  have l0 := S.l0; have h0 := S.h0; have a := S.fl0; have b := S.fh0
  have h1 : 1 * fh ≤ low * fh := Int.mul_le_mul_of_nonneg_right (by omega) (by omega)
  have h2 : 1 * fl ≤ high * fl := Int.mul_le_mul_of_nonneg_right (by omega) (by omega)
  omega
theorem Side.atl {x y n low fl high fh p q : Int} (S : Side x y n low fl high fh p q) : x * low % y = fl :=
  mod_at (p := p) (by have := S.e1; grind) (by have := S.fl0; omega) S.fly.1
theorem Side.ath {x y n low fl high fh p q : Int} (S : Side x y n low fl high fh p q) : x * high % y = y - fh :=
  mod_at (p := q - 1) (by have := S.e2; grind) (by have := S.fly; omega) (by have := S.fh0; omega)
/-- nothing lies nearer below low + high -/
theorem Side.near {x y n low fl high fh p q : Int} (S : Side x y n low fl high fh p q) {k : Int} (k0 : 0 < k) (k1 : k < low + high) : fl ≤ x * k % y ∧ x * k % y ≤ y - fh := by
  have y0 : 0 < y := by have := S.fly; have := S.fl0; omega
  have e := Int.emod_add_mul_ediv (x * k) y
  have m0 := Int.emod_nonneg (x * k) (show y ≠ 0 by omega)
  have m1 := Int.emod_lt_of_pos (x * k) y0
  generalize x * k % y = g at *
  generalize x * k / y = r at *
  have l0 := S.l0; have h0 := S.h0; have a0 := S.fl0; have b0 := S.fh0
  constructor
  · obtain ⟨u, hu⟩ : ∃ u, u = k * q - r * high := ⟨_, rfl⟩
    obtain ⟨v, hv⟩ : ∃ v, v = r * low - k * p := ⟨_, rfl⟩
    have e1 := S.e1; have e2 := S.e2; have de := S.de
    have c1 : k = u * low + v * high := by grind
    have c2 : g = u * fl - v * fh := by grind
    have u1 : 0 < u := by
      rcases Int.lt_or_le 0 u with c | c
      · exact c
      · have z1 : u * fl ≤ 0 := Int.mul_nonpos_of_nonpos_of_nonneg c (by omega)
        have z2 : u * low ≤ 0 := Int.mul_nonpos_of_nonpos_of_nonneg c (by omega)
        rcases Int.lt_or_le 0 v with d | d
        · have := Int.mul_pos d b0; omega
        · have := Int.mul_nonpos_of_nonpos_of_nonneg d (show 0 ≤ high by omega); omega
    have v1 : v ≤ 0 := by
      rcases Int.lt_or_le 0 v with d | d
      · have z1 : 1 * low ≤ u * low := Int.mul_le_mul_of_nonneg_right (by omega) (by omega)
        have z2 : 1 * high ≤ v * high := Int.mul_le_mul_of_nonneg_right (by omega) (by omega)
        omega
      · exact d
    have z1 : 1 * fl ≤ u * fl := Int.mul_le_mul_of_nonneg_right (by omega) (by omega)
    have z2 := Int.mul_nonpos_of_nonpos_of_nonneg v1 (show 0 ≤ fh by omega)
    omega
  · obtain ⟨u, hu⟩ : ∃ u, u = k * q - (r + 1) * high := ⟨_, rfl⟩
    obtain ⟨v, hv⟩ : ∃ v, v = (r + 1) * low - k * p := ⟨_, rfl⟩
    have e1 := S.e1; have e2 := S.e2; have de := S.de
    have c1 : k = u * low + v * high := by grind
    have c2 : y - g = v * fh - u * fl := by grind
    have v1 : 0 < v := by
      rcases Int.lt_or_le 0 v with c | c
      · exact c
      · have z1 : v * fh ≤ 0 := Int.mul_nonpos_of_nonpos_of_nonneg c (by omega)
        have z2 : v * high ≤ 0 := Int.mul_nonpos_of_nonpos_of_nonneg c (by omega)
        rcases Int.lt_or_le 0 u with d | d
        · have := Int.mul_pos d a0; omega
        · have := Int.mul_nonpos_of_nonpos_of_nonneg d (show 0 ≤ low by omega); omega
    have u1 : u ≤ 0 := by
      rcases Int.lt_or_le 0 u with d | d
      · have z1 : 1 * low ≤ u * low := Int.mul_le_mul_of_nonneg_right (by omega) (by omega)
        have z2 : 1 * high ≤ v * high := Int.mul_le_mul_of_nonneg_right (by omega) (by omega)
        omega
      · exact d
    have z1 : 1 * fh ≤ v * fh := Int.mul_le_mul_of_nonneg_right (by omega) (by omega)
    have z2 := Int.mul_nonpos_of_nonpos_of_nonneg u1 (show 0 ≤ fl by omega)
    omega
theorem Side.start {x y n : Int} (x0 : 0 < x) (xy : x < y) (hn : 2 ≤ n) : Side x y n 1 x 1 (y - x) 0 1 :=
  ⟨by omega, by omega, by omega, by omega, by omega, by omega, by omega, x0, by omega⟩
/-- low is moved on -/
theorem Side.low {x y n low fl high fh p q t : Int} (S : Side x y n low fl high fh p q) (co : Nat.gcd x.natAbs y.natAbs = 1) (hn : n ≤ y) (t0 : 0 ≤ t) (t1 : t * fh ≤ fl) (t2 : t * high ≤ n - 1 - low) : Side x y n (low + t * high) (fl - t * fh) high fh (p + t * q) q := by
  have e1 := S.e1; have e2 := S.e2; have de := S.de
  have l0 := S.l0; have h0 := S.h0; have h1 := S.h1; have b0 := S.fh0
  have y0 : 0 < y := by have := S.fly; omega
  have z : 0 ≤ t * high := Int.mul_nonneg t0 (by omega)
  refine ⟨by omega, by omega, h0, h1, by grind, e2, by grind, ?_, b0⟩
  rcases Int.lt_or_eq_of_le t1 with c | c
  · omega
  · refine absurd ?_ ((rim_step y0 co hn).z (low + t * high) (by omega) (by omega))
    exact mod_at (p := p + t * q) (by grind) (by omega) y0
theorem Side.high {x y n low fl high fh p q t : Int} (S : Side x y n low fl high fh p q) (co : Nat.gcd x.natAbs y.natAbs = 1) (hn : n ≤ y) (t0 : 0 ≤ t) (t1 : t * fl ≤ fh) (t2 : t * low ≤ n - 1 - high) : Side x y n low fl (high + t * low) (fh - t * fl) p (q + t * p) := by
  have e1 := S.e1; have e2 := S.e2; have de := S.de
  have l0 := S.l0; have l1 := S.l1; have h0 := S.h0; have h1 := S.h1; have a0 := S.fl0
  have y0 : 0 < y := by have := S.fly; omega
  have z : 0 ≤ t * low := Int.mul_nonneg t0 (by omega)
  refine ⟨l0, l1, by omega, by omega, e1, by grind, by grind, a0, ?_⟩
  rcases Int.lt_or_eq_of_le t1 with c | c
  · omega
  · refine absurd ?_ ((rim_step y0 co hn).z (high + t * low) (by omega) (by omega))
    exact mod_at (p := q + t * p) (by grind) (by omega) y0
/-- how often: no more than fits, at least once where it fits -/
theorem times_ok {a b c d : Int} (b0 : 0 < b) (d0 : 0 < d) (a0 : 0 ≤ a) (c0 : 0 ≤ c) : 0 ≤ min (a / b) (c / d) ∧ min (a / b) (c / d) * b ≤ a ∧ min (a / b) (c / d) * d ≤ c ∧ (b ≤ a → d ≤ c → 1 ≤ min (a / b) (c / d)) := by
  have h1 : a / b * b ≤ a := Int.ediv_mul_le a (by omega)
  have h2 : c / d * d ≤ c := Int.ediv_mul_le c (by omega)
  have h3 : 0 ≤ a / b := Int.ediv_nonneg a0 (by omega)
  have h4 : 0 ≤ c / d := Int.ediv_nonneg c0 (by omega)
  have m1 : min (a / b) (c / d) ≤ a / b := Int.min_le_left _ _
  have m2 : min (a / b) (c / d) ≤ c / d := Int.min_le_right _ _
  have z1 := Int.mul_le_mul_of_nonneg_right m1 (show 0 ≤ b by omega)
  have z2 := Int.mul_le_mul_of_nonneg_right m2 (show 0 ≤ d by omega)
  refine ⟨by omega, by omega, by omega, fun u v => ?_⟩
  have w1 : 1 ≤ a / b := (Int.le_ediv_iff_mul_le b0).mpr (by omega)
  have w2 : 1 ≤ c / d := (Int.le_ediv_iff_mul_le d0).mpr (by omega)
  omega
/-- one turn of looking for them -/
theorem Side.turn {x y n low fl high fh p q : Int} (S : Side x y n low fl high fh p q) (co : Nat.gcd x.natAbs y.natAbs = 1) (hn : n ≤ y) (go : low + high < n) {t u : Int} (ht : t = min (fl / fh) ((n - 1 - low) / high))
    (hu : u = min (fh / (fl - t * fh)) ((n - 1 - high) / (low + t * high))) : (∃ p' q', Side x y n (low + t * high) (fl - t * fh) (high + u * (low + t * high)) (fh - u * (fl - t * fh)) p' q') ∧
    low ≤ low + t * high ∧ high ≤ high + u * (low + t * high) ∧ low + high < (low + t * high) + (high + u * (low + t * high)) := by
  have l0 := S.l0; have h0 := S.h0; have a0 := S.fl0; have b0 := S.fh0; have l1 := S.l1; have h1 := S.h1
  obtain ⟨w1, w2, w3, w4⟩ := times_ok (a := fl) (c := n - 1 - low) b0 h0 (by omega) (by omega)
  rw [← ht] at w1 w2 w3 w4
  have S1 := S.low co hn w1 w2 w3
  have a1 := S1.fl0; have l2 := S1.l0
  obtain ⟨v1, v2, v3, v4⟩ := times_ok (a := fh) (c := n - 1 - high) a1 l2 (by omega) (by omega)
  rw [← hu] at v1 v2 v3 v4
  have S2 := S1.high co hn v1 v2 v3
  have z1 : 0 ≤ t * high := Int.mul_nonneg w1 (by omega)
  have z2 : 0 ≤ u * (low + t * high) := Int.mul_nonneg v1 (by omega)
  refine ⟨⟨_, _, S2⟩, by omega, by omega, ?_⟩
  rcases Int.lt_or_le fl fh with c | c
  · rcases Int.lt_or_le 0 t with d | d
    · have := Int.mul_pos d h0; omega
    · have t0 : t = 0 := by omega
      subst t0
      rw [Int.zero_mul, Int.sub_zero] at v4
      rw [Int.zero_mul, Int.add_zero] at *
      have := v4 (by omega) (by omega)
      have := Int.mul_pos (show 0 < u by omega) l0
      omega
  · have := w4 c (by omega)
    have := Int.mul_pos (show 0 < t by omega) h0
    omega
/-- where it ends they are the nearest of all -/
theorem Side.found {x y n low fl high fh p q : Int} (S : Side x y n low fl high fh p q) (e : n ≤ low + high) : (∀ k, 0 < k → k < n → x * low % y ≤ x * k % y) ∧ ∀ k, 0 < k → k < n → x * k % y ≤ x * high % y := by
  rw [S.atl, S.ath]
  exact ⟨fun k k0 k1 => (S.near k0 (by omega)).1, fun k k0 k1 => (S.near k0 (by omega)).2⟩
theorem Side.gcd {x y n low fl high fh p q : Int} (S : Side x y n low fl high fh p q) : Nat.gcd low.natAbs high.natAbs = 1 := by
  have d1 : ((Nat.gcd low.natAbs high.natAbs : Nat) : Int) ∣ low := Int.ofNat_dvd_left.mpr (Nat.gcd_dvd_left _ _)
  have d2 : ((Nat.gcd low.natAbs high.natAbs : Nat) : Int) ∣ high := Int.ofNat_dvd_left.mpr (Nat.gcd_dvd_right _ _)
  have d3 := Int.dvd_sub (Int.dvd_mul_of_dvd_left d1 (b := low) (c := q)) (Int.dvd_mul_of_dvd_left d2 (b := high) (c := p))
  rw [S.de] at d3
  have := Int.natAbs_dvd_natAbs.mpr d3
  rw [Int.natAbs_natCast] at this
  exact Nat.dvd_one.mp this
/-- they exist -/
theorem side_ex {x y n : Int} (x0 : 0 < x) (xy : x < y) (co : Nat.gcd x.natAbs y.natAbs = 1) (hn : n ≤ y) (n2 : 2 ≤ n) : ∃ low fl high fh p q, Side x y n low fl high fh p q ∧ n ≤ low + high := by
  have go : ∀ (k : Nat) (low fl high fh p q : Int), Side x y n low fl high fh p q → (2 * n - low - high).toNat ≤ k → ∃ low fl high fh p q, Side x y n low fl high fh p q ∧ n ≤ low + high := by
    intro k
    induction k with
    | zero =>
      intro low fl high fh p q S h
      have := S.l1; have := S.h1; omega
    | succ k ih =>
      intro low fl high fh p q S h
      rcases Int.lt_or_le (low + high) n with c | c
      · obtain ⟨⟨p', q', S'⟩, a, b, d⟩ := S.turn co hn c rfl rfl
        exact ih _ _ _ _ _ _ S' (by omega)
      · exact ⟨_, _, _, _, _, _, S, c⟩
  exact go _ _ _ _ _ _ _ (Side.start x0 xy n2) (Nat.le_refl _)
end Mt
set_option Elab.async false
set_option maxRecDepth 100000
set_option maxHeartbeats 1000000
set_option linter.all false
/-! the order of unlike places as a row of marks -/
namespace Mt
/-- the marks as they are met -/
structure Row (f : Int → Int) (n : Nat) (l : List Int) : Prop where
  len : l.length = n
  mem : ∀ k, k ∈ l ↔ 0 ≤ k ∧ k < n
  up : (l.map f).Pairwise (· < ·)
  ord : ord f (iota n) = l.map fun k => [k]
theorem insU_lenE {v : Int} : ∀ {l : List Int}, v ∉ l → (insU v l).length = l.length + 1
  | [], _ => rfl
  | a :: l, h => by
    unfold insU
    split
    · rfl
    · split
      · rename_i e; exact absurd (by rw [e]; exact List.mem_cons_self) h
      · rw [List.length_cons, insU_lenE (fun z => h (List.mem_cons_of_mem _ z)), List.length_cons]
theorem sortU_lenE : ∀ {l : List Int}, l.Nodup → (sortU l).length = l.length
  | [], _ => rfl
  | a :: l, h => by
    obtain ⟨h1, h2⟩ := List.nodup_cons.mp h
    show (insU a (sortU l)).length = _
    rw [insU_lenE (fun z => h1 (sortU_mem.mp z)), sortU_lenE h2, List.length_cons]
theorem row_ex {f : Int → Int} {n : Nat} (inj : ∀ i j : Int, 0 ≤ i → i < n → 0 ≤ j → j < n → f i = f j → i = j) : ∃ l, Row f n l := by
  have one : ∀ v ∈ sortU ((iota n).map f), ∃ k, k ∈ iota n ∧ f k = v ∧ grp f (iota n) v = [k] := by
    intro v hv
    obtain ⟨k, hk, e⟩ := List.mem_map.mp (sortU_mem.mp hv)
    refine ⟨k, hk, e, ?_⟩
    obtain ⟨k0, k1⟩ := iota_mem.mp hk
    refine strict_one ((iota_pw n).filter _) (List.pairwise_singleton _ _) fun u => ?_
    unfold grp
    rw [List.mem_filter, List.mem_singleton]
    constructor
    · rintro ⟨a, b⟩
      obtain ⟨u0, u1⟩ := iota_mem.mp a
      exact inj u k u0 u1 k0 k1 (by rw [e]; simpa using b)
    · rintro rfl
      exact ⟨hk, by simpa using e⟩
  have nd : ((iota n).map f).Nodup := by
    unfold List.Nodup
    rw [List.pairwise_map]
    refine List.Pairwise.imp_of_mem ?_ (iota_pw n)
    intro a b ha hb h e
    obtain ⟨a0, a1⟩ := iota_mem.mp ha
    obtain ⟨b0, b1⟩ := iota_mem.mp hb
    have := inj a b a0 a1 b0 b1 e
    omega
  let h := fun v => (grp f (iota n) v).headD 0
  have hh : ∀ v ∈ sortU ((iota n).map f), f (h v) = v ∧ h v ∈ iota n ∧ grp f (iota n) v = [h v] := by
    intro v hv
    obtain ⟨k, a, b, c⟩ := one v hv
    have e : h v = k := by
      show (grp f (iota n) v).headD 0 = k
      rw [c]; rfl
    rw [e]; exact ⟨b, a, c⟩
  refine ⟨(sortU ((iota n).map f)).map h, ?_, fun k => ?_, ?_, ?_⟩
  · rw [List.length_map, sortU_lenE nd, List.length_map, iota_len]
  · rw [List.mem_map]
    constructor
    · rintro ⟨v, hv, rfl⟩
      exact iota_mem.mp (hh v hv).2.1
    · intro hk
      have hm : f k ∈ sortU ((iota n).map f) := sortU_mem.mpr (List.mem_map.mpr ⟨k, iota_mem.mpr hk, rfl⟩)
      refine ⟨f k, hm, ?_⟩
      obtain ⟨a, b, _⟩ := hh _ hm
      obtain ⟨b0, b1⟩ := iota_mem.mp b
      exact inj _ _ b0 b1 hk.1 hk.2 a
  · rw [List.map_map]
    have e : (sortU ((iota n).map f)).map (f ∘ h) = sortU ((iota n).map f) := by
      conv => rhs; rw [← List.map_id (sortU ((iota n).map f))]
      exact List.map_congr_left fun v hv => (hh v hv).1
    rw [e]
    exact sortU_pw _
  · unfold Mt.ord
    rw [List.map_map]
    exact List.map_congr_left fun v hv => (hh v hv).2.2
section
variable {f : Int → Int} {y : Int} {n : Nat} {l : List Int}
theorem Row.get (T : Row f n l) {i : Nat} (hi : i < n) : ∃ k, l[i]? = some k ∧ 0 ≤ k ∧ k < n := by
  have h : i < l.length := by rw [T.len]; exact hi
  refine ⟨l[i], List.getElem?_eq_getElem h, ?_⟩
  exact (T.mem _).mp (List.getElem_mem h)
theorem Row.at (T : Row f n l) {k : Int} (k0 : 0 ≤ k) (k1 : k < n) : ∃ i, i < n ∧ l[i]? = some k := by
  obtain ⟨i, hi, e⟩ := List.mem_iff_getElem.mp ((T.mem k).mpr ⟨k0, k1⟩)
  exact ⟨i, by rw [← T.len]; exact hi, by rw [List.getElem?_eq_getElem hi, e]⟩
theorem Row.lt (T : Row f n l) {i j : Nat} {u v : Int} (hi : l[i]? = some u) (hj : l[j]? = some v) (h : i < j) : f u < f v := by
  obtain ⟨h1, e1⟩ := List.getElem?_eq_some_iff.mp hi
  obtain ⟨h2, e2⟩ := List.getElem?_eq_some_iff.mp hj
  subst e1 e2
  have p := List.pairwise_iff_getElem.mp (List.pairwise_map.mp T.up)
  exact p i j h1 h2 h
theorem Row.le (T : Row f n l) {i j : Nat} {u v : Int} (hi : l[i]? = some u) (hj : l[j]? = some v) (h : i ≤ j) : f u ≤ f v := by
  rcases Nat.lt_or_eq_of_le h with c | c
  · exact Int.le_of_lt (T.lt hi hj c)
  · subst c; rw [hi] at hj; cases hj; exact Int.le_refl _
theorem Row.zero (T : Row f n l) (R : Rim f y n) (n0 : 0 < n) : l[0]? = some 0 := by
  obtain ⟨k, hk, k0, k1⟩ := T.get n0
  obtain ⟨i, hi, e⟩ := T.at (k := 0) (by omega) (by omega)
  have h := T.le hk e (Nat.zero_le i)
  have h0 := R.f0
  have h1 := R.r k
  have := R.one k0 k1 (Int.le_refl 0) (by omega) (by omega)
  rw [hk, this]
/-- the first and the last one -/
theorem Row.ends (T : Row f n l) (R : Rim f y n) (n2 : 2 ≤ n) {A B : Int} (hA : l[1]? = some A) (hB : l[n - 1]? = some B) : 0 < A ∧ A < n ∧ 0 < B ∧ B < n ∧ (∀ k : Int, 0 < k → k < n → f A ≤ f k) ∧ ∀ k : Int, 0 < k → k < n → f k ≤ f B := by
  have h0 := T.zero R (by omega)
  have z := R.f0
  have mA := (T.mem A).mp (List.mem_of_getElem? hA)
  have mB := (T.mem B).mp (List.mem_of_getElem? hB)
  have lA := T.lt h0 hA (by omega)
  have lB := T.lt h0 hB (by omega)
  refine ⟨?_, mA.2, ?_, mB.2, fun k k0 k1 => ?_, fun k k0 k1 => ?_⟩
  · rcases Int.lt_or_le 0 A with c | c
    · exact c
    · have : A = 0 := by omega
      rw [this] at lA; omega
  · rcases Int.lt_or_le 0 B with c | c
    · exact c
    · have : B = 0 := by omega
      rw [this] at lB; omega
  · obtain ⟨i, hi, e⟩ := T.at (k := k) (by omega) k1
    refine T.le hA e ?_
    rcases Nat.eq_zero_or_pos i with c | c
    · subst c; rw [h0] at e; cases e; omega
    · exact c
  · obtain ⟨i, hi, e⟩ := T.at (k := k) (by omega) k1
    exact T.le e hB (by omega)
/-- what follows in the row is met first -/
theorem Row.next (T : Row f n l) (R : Rim f y n) (n2 : 2 ≤ n) {j : Nat} (hj : j < n) {k m : Int} (hk : l[j]? = some k) (hm : l[(j + 1) % n]? = some m) : Nx f n k m := by
  have mk := (T.mem k).mp (List.mem_of_getElem? hk)
  have mm := (T.mem m).mp (List.mem_of_getElem? hm)
  have rk := R.r k
  have rm := R.r m
  rcases Nat.lt_or_ge (j + 1) n with c | c
  · rw [Nat.mod_eq_of_lt c] at hm
    have lt := T.lt hk hm (by omega)
    refine ⟨mm.1, mm.2, fun e => by rw [e] at lt; omega, fun i i0 i1 i2 => ?_⟩
    obtain ⟨a, ha, e⟩ := T.at i0 i1
    have s1 := R.s m k
    have r1 := R.r (m - k)
    have s2 := R.s i k
    have r2 := R.r (i - k)
    have ri := R.r i
    rcases Nat.lt_or_ge j a with d | d
    · have := T.le hm e (by omega)
      omega
    · have := T.le e hk d
      have : f i ≠ f k := fun z => i2 (R.one i0 i1 mk.1 mk.2 z)
      omega
  · have e1 : j + 1 = n := by omega
    rw [e1, Nat.mod_self] at hm
    rw [T.zero R (by omega)] at hm
    cases hm
    have h0 := T.zero R (by omega)
    have lt := T.lt h0 hk (by omega)
    have z := R.f0
    refine ⟨by omega, by omega, fun e => by rw [← e] at lt; omega, fun i i0 i1 i2 => ?_⟩
    obtain ⟨a, ha, e⟩ := T.at i0 i1
    have le := T.le e hk (by omega)
    have : f i ≠ f k := fun z => i2 (R.one i0 i1 mk.1 mk.2 z)
    have s1 := R.s 0 k
    have r1 := R.r (0 - k)
    have s2 := R.s i k
    have r2 := R.r (i - k)
    have ri := R.r i
    omega
end
end Mt
set_option Elab.async false
set_option maxRecDepth 100000
set_option maxHeartbeats 1000000
set_option linter.all false
/-! sums of whole parts; how many places lie below; the first mark between two tops -/
namespace Mt
/-- the sum of (a * k + b) / m for k below n -/
def fsum (m a b : Int) : Nat → Int
  | 0 => 0
  | n + 1 => fsum m a b n + (a * (n : Int) + b) / m
theorem div_at {a m q r : Int} (e : a = m * q + r) (h0 : 0 ≤ r) (h1 : r < m) : a / m = q := by
  rw [e, Int.add_comm, Int.add_mul_ediv_left _ _ (by omega), Int.ediv_eq_zero_of_lt h0 h1, Int.zero_add]
theorem fsum_congr {m a b a' b' : Int} {n : Nat} (h : ∀ k : Int, 0 ≤ k → k < n → (a * k + b) / m = (a' * k + b') / m) : fsum m a b n = fsum m a' b' n := by
  induction n with
  | zero => rfl
  | succ n ih =>
    show fsum m a b n + _ = fsum m a' b' n + _
    rw [ih fun k h0 h1 => h k h0 (by omega), h n (by omega) (by omega)]
/-- whole slopes and shifts come out -/
theorem tri (n : Nat) : ((n : Int) + 1) * n / 2 = (n : Int) * (n - 1) / 2 + n := by
  have h : ((n : Int) + 1) * n = n * (n - 1) + n * 2 := by grind
  rw [h, Int.add_mul_ediv_right _ _ (by decide)]
theorem fsum_whole {m a b : Int} (m0 : 0 < m) (n : Nat) : fsum m a b n = (n : Int) * (n - 1) / 2 * (a / m) + n * (b / m) + fsum m (a % m) (b % m) n := by
  induction n with
  | zero => simp [fsum]
  | succ n ih =>
    show fsum m a b n + (a * (n : Int) + b) / m = _ + (fsum m (a % m) (b % m) n + (a % m * (n : Int) + b % m) / m)
    rw [ih]
    have h : (a * (n : Int) + b) / m = (a % m * (n : Int) + b % m) / m + (a / m * n + b / m) := by
      have e1 := Int.emod_add_mul_ediv a m
      have e2 := Int.emod_add_mul_ediv b m
      rw [← Int.add_mul_ediv_right _ _ (show m ≠ 0 by omega)]
      congr 1
      grind
    rw [h]
    have t := tri n
    rw [show (((n + 1 : Nat) : Int)) * (((n + 1 : Nat) : Int) - 1) / 2 = ((n : Int) + 1) * n / 2 by congr 1; push_cast; grind, t]
    push_cast
    grind
theorem fsum_up {a m b : Int} (a0 : 0 < a) (n : Nat) : fsum a m (b + a) n = fsum a m b n + n := by
  induction n with
  | zero => rfl
  | succ n ih =>
    show fsum a m (b + a) n + (m * (n : Int) + (b + a)) / a = fsum a m b n + (m * (n : Int) + b) / a + ((n + 1 : Nat) : Int)
    rw [ih, show m * (n : Int) + (b + a) = m * (n : Int) + b + 1 * a by omega, Int.add_mul_ediv_right _ _ (by omega)]
    push_cast
    omega
theorem fsum_head {a m b : Int} (n : Nat) : fsum a m b (n + 1) = b / a + fsum a m (b + m) n := by
  induction n with
  | zero => show 0 + (m * ((0 : Nat) : Int) + b) / a = b / a + 0; simp
  | succ n ih =>
    show fsum a m b (n + 1) + (m * ((n + 1 : Nat) : Int) + b) / a = b / a + (fsum a m (b + m) n + (m * (n : Int) + (b + m)) / a)
    rw [ih, show m * ((n + 1 : Nat) : Int) + b = m * (n : Int) + (b + m) by push_cast; grind]
    omega
/-- counted by rows in the place of columns -/
theorem fsum_turn {m a b : Int} (a0 : 0 < a) (am : a < m) (b0 : 0 ≤ b) (bm : b < m) (n : Nat) : fsum m a b n = fsum a m ((a * n + b) % m) ((a * n + b) / m).toNat := by
  have m0 : 0 < m := by omega
  induction n with
  | zero =>
    have e : a * ((0 : Nat) : Int) + b = b := by simp
    rw [e, Int.ediv_eq_zero_of_lt b0 bm]
    rfl
  | succ n ih =>
    show fsum m a b n + (a * (n : Int) + b) / m = _
    rw [ih]
    have y0 : 0 ≤ a * (n : Int) + b := by
      have := Int.mul_nonneg (show 0 ≤ a by omega) (show (0 : Int) ≤ n by omega); omega
    have e := Int.emod_add_mul_ediv (a * (n : Int) + b) m
    have r0 := Int.emod_nonneg (a * (n : Int) + b) (show m ≠ 0 by omega)
    have r1 := Int.emod_lt_of_pos (a * (n : Int) + b) m0
    have q0 : 0 ≤ (a * (n : Int) + b) / m := Int.ediv_nonneg y0 (by omega)
    have e3 : a * ((n + 1 : Nat) : Int) + b = a * (n : Int) + b + a := by push_cast; grind
    rw [e3]
    generalize a * (n : Int) + b = y at *
    generalize hq : y / m = q at *
    generalize hr : y % m = r at *
    obtain ⟨k, rfl⟩ := Int.eq_ofNat_of_zero_le q0
    rcases Int.lt_or_le (r + a) m with c | c
    · have d1 : (y + a) / m = (k : Int) := div_at (r := r + a) (by omega) (by omega) c
      have d2 : (y + a) % m = r + a := by
        have := Int.emod_add_mul_ediv (y + a) m
        rw [d1] at this; omega
      rw [d1, d2, Int.toNat_natCast, fsum_up a0]
    · have d1 : (y + a) / m = (k : Int) + 1 := div_at (r := r + a - m) (by rw [Int.mul_add]; omega) (by omega) (by omega)
      have d2 : (y + a) % m = r + a - m := by
        have := Int.emod_add_mul_ediv (y + a) m
        rw [d1, Int.mul_add] at this; omega
      rw [d1, d2, Int.toNat_natCast, show ((k : Int) + 1).toNat = k + 1 by omega, fsum_head, Int.ediv_eq_zero_of_lt (by omega) (by omega), show r + a - m + m = r + a by omega, fsum_up a0]
      omega
theorem fsum_zero {m b : Int} (b0 : 0 ≤ b) (bm : b < m) (n : Nat) : fsum m 0 b n = 0 := by
  induction n with
  | zero => rfl
  | succ n ih =>
    show fsum m 0 b n + (0 * (n : Int) + b) / m = 0
    rw [ih, Int.zero_mul, Int.zero_add, Int.zero_add, Int.ediv_eq_zero_of_lt b0 bm]
/-- one turn of the program's loop -/
theorem fsum_step {m a b : Int} (m0 : 0 < m) (a0 : 0 ≤ a) (b0 : 0 ≤ b) (n : Nat) : fsum m a b n = (n : Int) * (n - 1) / 2 * (a / m) + n * (b / m) + (if a % m = 0 then 0 else fsum (a % m) m ((a % m * n + b % m) % m) ((a % m * n + b % m) / m).toNat) := by
  rw [fsum_whole m0 n]
  have r0 := Int.emod_nonneg a (show m ≠ 0 by omega)
  have r1 := Int.emod_lt_of_pos a m0
  have s0 := Int.emod_nonneg b (show m ≠ 0 by omega)
  have s1 := Int.emod_lt_of_pos b m0
  split
  · rename_i c
    rw [c, fsum_zero s0 s1]
  · rename_i c
    rw [fsum_turn (by omega) r1 s0 s1]
/-- how many of the first n marks have a top below t -/
def below (x y t : Int) : Nat → Int
  | 0 => 0
  | n + 1 => below x y t n + if x * (n : Int) % y < t then 1 else 0
theorem below_fsum {x y t : Int} (y0 : 0 < y) (t0 : 0 ≤ t) (t1 : t ≤ y) (n : Nat) : below x y t n = n + fsum y x 0 n - fsum y x (y - t) n := by
  induction n with
  | zero => rfl
  | succ n ih =>
    show below x y t n + _ = ((n + 1 : Nat) : Int) + (fsum y x 0 n + (x * (n : Int) + 0) / y) - (fsum y x (y - t) n + (x * (n : Int) + (y - t)) / y)
    rw [ih]
    have e := Int.emod_add_mul_ediv (x * (n : Int)) y
    have r0 := Int.emod_nonneg (x * (n : Int)) (show y ≠ 0 by omega)
    have r1 := Int.emod_lt_of_pos (x * (n : Int)) y0
    rw [Int.add_zero]
    generalize x * (n : Int) = z at *
    generalize hq : z / y = q at *
    generalize z % y = r at *
    split
    · rename_i c
      rw [div_at (a := z + (y - t)) (q := q) (r := r + (y - t)) (by omega) (by omega) (by omega)]
      push_cast; omega
    · rename_i c
      rw [div_at (a := z + (y - t)) (q := q + 1) (r := r - t) (by rw [Int.mul_add]; omega) (by omega) (by omega)]
      push_cast; omega
/-! the first mark whose top lies from a to b -/
def Hit (s w a b m : Int) : Prop := 0 ≤ m ∧ a ≤ s * m % w ∧ s * m % w ≤ b
def Fst (s w a b m : Int) : Prop := Hit s w a b m ∧ ∀ m', Hit s w a b m' → m ≤ m'
/-- no less than so many slopes -/
theorem ceil_le {a s k : Int} (s0 : 0 < s) : -(-a / s) ≤ k ↔ a ≤ s * k := by
  have h := Int.le_ediv_iff_mul_le (a := -k) (b := -a) s0
  rw [Int.neg_mul, Int.mul_comm k s] at h
  constructor
  · intro z
    have := h.mp (by omega)
    omega
  · intro z
    have := h.mpr (by omega)
    omega
theorem ceil_at {a s : Int} (s0 : 0 < s) : a ≤ s * -(-a / s) ∧ s * (-(-a / s) - 1) < a := by
  refine ⟨(ceil_le s0).mp (Int.le_refl _), ?_⟩
  rcases Int.lt_or_le (s * (-(-a / s) - 1)) a with c | c
  · exact c
  · have := (ceil_le s0).mpr c
    omega
theorem ceil_is {a s c : Int} (s0 : 0 < s) (h1 : a ≤ s * c) (h2 : s * (c - 1) < a) : -(-a / s) = c := by
  have k1 := (ceil_le s0).mpr h1
  rcases Int.lt_or_le (-(-a / s)) c with d | d
  · have := (ceil_le (a := a) (k := c - 1) s0).mp (by omega)
    omega
  · omega
theorem neg_mod {a s c d : Int} (e : a = s * c - d) (d0 : 0 ≤ d) (ds : d < s) : -a % s = d := by
  have h : -a = d + s * (-c) := by rw [e]; grind
  rw [h, Int.add_mul_emod_self_left]
  exact Int.emod_eq_of_lt d0 ds
theorem fst_zero {s w a b : Int} (w0 : 0 < w) (ha : a ≤ 0) (hb : 0 ≤ b) : Fst s w a b 0 := by
  refine ⟨⟨Int.le_refl 0, ?_, ?_⟩, fun m' h => h.1⟩
  · rw [Int.mul_zero, Int.zero_emod]; exact ha
  · rw [Int.mul_zero, Int.zero_emod]; exact hb
theorem fst_turn {s w a b : Int} (s0 : 0 < s) (sw : s < w) (a0 : 0 < a) (bw : b < w) (h : -(-a / s) * s ≤ b) : Fst s w a b (-(-a / s)) := by
  obtain ⟨h1, h2⟩ := ceil_at (a := a) s0
  have c0 : 0 < -(-a / s) := by
    rcases Int.lt_or_le 0 (-(-a / s)) with c | c
    · exact c
    · have := Int.mul_nonpos_of_nonneg_of_nonpos (show 0 ≤ s by omega) c
      omega
  generalize -(-a / s) = c at *
  have hc : s * c ≤ b := by rw [Int.mul_comm]; exact h
  refine ⟨⟨by omega, ?_, ?_⟩, fun m' ⟨m0, k1, k2⟩ => ?_⟩
  · rw [Int.emod_eq_of_lt (by omega) (by omega)]; exact h1
  · rw [Int.emod_eq_of_lt (by omega) (by omega)]; exact hc
  · rcases Int.lt_or_le m' c with d | d
    · have e1 : s * m' ≤ s * (c - 1) := Int.mul_le_mul_of_nonneg_left (by omega) (by omega)
      have e2 : 0 ≤ s * m' := Int.mul_nonneg (by omega) m0
      rw [Int.emod_eq_of_lt e2 (by omega)] at k1
      omega
    · exact d
/-- turned: the turn is looked for as a mark is -/
theorem fst_back {s w a b t : Int} (s0 : 0 < s) (sw : s < w) (a0 : 0 < a) (ab : a ≤ b) (bw : b < w) (h : b < -(-a / s) * s) (T : Fst (w % s) s (-b % s) (-a % s) t) : Fst s w a b (-(-(a + w * t) / s)) := by
  obtain ⟨h1, h2⟩ := ceil_at (a := a) s0
  generalize -(-a / s) = c at *
  have w0 : 0 < w := by omega
  have hc : b < s * c := by rw [Int.mul_comm]; exact h
  have ec : s * (c - 1) = s * c - s := by rw [Int.mul_sub, Int.mul_one]
  rw [neg_mod (a := a) (c := c) (d := s * c - a) (by omega) (by omega) (by omega), neg_mod (a := b) (c := c) (d := s * c - b) (by omega) (by omega) (by omega)] at T
  obtain ⟨⟨t0, k1, k2⟩, least⟩ := T
  have red : ∀ t, w % s * t % s = w * t % s := fun t => by rw [Int.mul_emod, Int.emod_emod, ← Int.mul_emod]
  rw [red] at k1 k2
  have e := Int.emod_add_mul_ediv (w * t) s
  generalize hv : w * t % s = v at *
  generalize w * t / s = q at *
  have em : -(-(a + w * t) / s) = c + q := ceil_is s0 (by rw [Int.mul_add]; omega) (by rw [Int.mul_sub, Int.mul_add, Int.mul_one]; omega)
  have wt0 : 0 ≤ w * t := Int.mul_nonneg (by omega) t0
  rw [em]
  have es : s * (c + q) % w = s * (c + q) - w * t := by
    have z : s * (c + q) = (s * (c + q) - w * t) + w * t := by omega
    rw [z, Int.add_mul_emod_self_left]
    rw [show s * (c + q) - w * t + w * t - w * t = s * (c + q) - w * t by omega]
    exact Int.emod_eq_of_lt (by rw [Int.mul_add]; omega) (by rw [Int.mul_add]; omega)
  refine ⟨⟨?_, ?_, ?_⟩, fun m' ⟨m0, g1, g2⟩ => ?_⟩
  · rcases Int.lt_or_le (c + q) 0 with d | d
    · have := Int.mul_nonpos_of_nonneg_of_nonpos (show 0 ≤ s by omega) (show c + q ≤ 0 by omega)
      rw [Int.mul_add] at this
      omega
    · exact d
  · rw [es, Int.mul_add]; omega
  · rw [es, Int.mul_add]; omega
  · have f := Int.emod_add_mul_ediv (s * m') w
    have sm0 : 0 ≤ s * m' := Int.mul_nonneg (by omega) m0
    have t'0 : 0 ≤ s * m' / w := Int.ediv_nonneg sm0 (by omega)
    generalize s * m' % w = r at *
    generalize s * m' / w = t' at *
    have er : w * t' % s = s * c - r := by
      have z : w * t' = (s * c - r) + s * (m' - c) := by rw [Int.mul_sub]; omega
      rw [z, Int.add_mul_emod_self_left]
      exact Int.emod_eq_of_lt (by omega) (by omega)
    have lt := least t' ⟨t'0, by rw [red, er]; omega, by rw [red, er]; omega⟩
    have wtt : w * t ≤ w * t' := Int.mul_le_mul_of_nonneg_left lt (by omega)
    rw [← em]
    refine (ceil_le s0).mpr ?_
    omega
end Mt
set_option linter.all false
set_option maxRecDepth 100000
namespace Mt
/-! ranks: how many places are less than that of a mark -/
theorem filt_up {f : Int → Int} : ∀ {l : List Int} {i : Nat} {k : Int}, (l.map f).Pairwise (· < ·) → l[i]? = some k → (l.filter fun m => decide (f m < f k)).length = i
  | [], i, k, _, h => by simp at h
  | a :: l, 0, k, P, h => by
    rw [List.getElem?_cons_zero] at h
    cases h
    have P' := List.pairwise_cons.mp P
    rw [List.filter_cons_of_neg (by simp), List.filter_eq_nil_iff.mpr]
    · rfl
    · intro b hb
      have := P'.1 (f b) (List.mem_map.mpr ⟨b, hb, rfl⟩)
      simp
      omega
  | a :: l, i + 1, k, P, h => by
    rw [List.getElem?_cons_succ] at h
    have P' := List.pairwise_cons.mp P
    have := P'.1 (f k) (List.mem_map.mpr ⟨k, List.mem_of_getElem? h, rfl⟩)
    rw [List.filter_cons_of_pos (by simpa using this), List.length_cons, filt_up P'.2 h]
theorem filt_more {f : Int → Int} {t : Int} : ∀ {l : List Int} {i : Nat} {k : Int}, (l.map f).Pairwise (· < ·) → l[i]? = some k → f k < t → i < (l.filter fun m => decide (f m < t)).length
  | [], i, k, _, h, _ => by simp at h
  | a :: l, 0, k, P, h, g => by
    rw [List.getElem?_cons_zero] at h
    cases h
    rw [List.filter_cons_of_pos (by simpa using g), List.length_cons]
    omega
  | a :: l, i + 1, k, P, h, g => by
    rw [List.getElem?_cons_succ] at h
    have P' := List.pairwise_cons.mp P
    have := P'.1 (f k) (List.mem_map.mpr ⟨k, List.mem_of_getElem? h, rfl⟩)
    rw [List.filter_cons_of_pos (by simp; omega), List.length_cons]
    have := filt_more P'.2 h g
    omega
theorem below_filt (x y t : Int) (n : Nat) : below x y t n = (((iota n).filter fun m => decide (x * m % y < t)).length : Int) := by
  induction n with
  | zero => rfl
  | succ n ih =>
    show below x y t n + _ = _
    rw [iota_succ, List.filter_append, List.length_append, ih]
    by_cases c : x * (n : Int) % y < t
    · rw [if_pos c, List.filter_cons_of_pos (by simpa using c)]; simp
    · rw [if_neg c, List.filter_cons_of_neg (by simpa using c)]; simp
theorem below_mono {x y s t : Int} (h : s ≤ t) (n : Nat) : below x y s n ≤ below x y t n := by
  induction n with
  | zero => exact Int.le_refl _
  | succ n ih =>
    show below x y s n + _ ≤ below x y t n + _
    split <;> split <;> omega
theorem below_le (x y t : Int) (n : Nat) : 0 ≤ below x y t n ∧ below x y t n ≤ n := by
  induction n with
  | zero => exact ⟨Int.le_refl _, Int.le_refl _⟩
  | succ n ih =>
    show 0 ≤ below x y t n + _ ∧ below x y t n + _ ≤ ((n + 1 : Nat) : Int)
    push_cast
    split <;> omega
section
variable {x y : Int} {n : Nat} {l : List Int}
theorem Row.nodup {f : Int → Int} (T : Row f n l) : l.Nodup := by
  have h := T.up
  rw [List.pairwise_map] at h
  exact h.imp fun {a b} c e => by rw [e] at c; omega
theorem Row.perm {f : Int → Int} (T : Row f n l) : l.Perm (iota n) :=
  (List.perm_ext_iff_of_nodup T.nodup ((iota_pw n).imp fun {a b} c e => by omega)).mpr fun k => by rw [T.mem, iota_mem]
theorem Row.below (T : Row (fun k => x * k % y) n l) {i : Nat} {k : Int} (h : l[i]? = some k) : Mt.below x y (x * k % y) n = i := by
  rw [below_filt, ← (T.perm.filter _).length_eq, filt_up (f := fun k => x * k % y) T.up h]
theorem Row.more (T : Row (fun k => x * k % y) n l) {i : Nat} {k t : Int} (h : l[i]? = some k) (g : x * k % y < t) : (i : Int) < Mt.below x y t n := by
  rw [below_filt, ← (T.perm.filter _).length_eq]
  have := filt_more (f := fun k => x * k % y) T.up h g
  omega
end
/-- a rank is that of one mark -/
theorem rank_one {x y : Int} {n : Nat} (R : Rim (fun k => x * k % y) y n) {j k : Int} (j0 : 0 ≤ j) (j1 : j < n) (k0 : 0 ≤ k) (k1 : k < n) (e : below x y (x * j % y) n = below x y (x * k % y) n) : j = k := by
  obtain ⟨l, T⟩ := row_ex (f := fun k => x * k % y) (n := n) fun i j a b c d e => R.one a b c d e
  obtain ⟨a, ha, ea⟩ := T.at j0 j1
  obtain ⟨b, hb, eb⟩ := T.at k0 k1
  rw [T.below ea, T.below eb] at e
  have : a = b := by omega
  subst this
  rw [ea] at eb
  exact Option.some.inj eb
/-- each rank has its mark -/
theorem rank_ex {x y : Int} {n : Nat} (R : Rim (fun k => x * k % y) y n) {r : Int} (r0 : 0 ≤ r) (r1 : r < n) : ∃ k : Int, 0 ≤ k ∧ k < n ∧ below x y (x * k % y) n = r ∧ ∀ t, (below x y t n ≤ r ↔ t ≤ x * k % y) := by
  obtain ⟨l, T⟩ := row_ex (f := fun k => x * k % y) (n := n) fun i j a b c d e => R.one a b c d e
  obtain ⟨k, hk, k0, k1⟩ := T.get (i := r.toNat) (by omega)
  refine ⟨k, k0, k1, by rw [T.below hk]; omega, fun t => ⟨fun h => ?_, fun h => ?_⟩⟩
  · rcases Int.lt_or_le (x * k % y) t with c | c
    · have := T.more hk c
      omega
    · exact c
  · have := below_mono (x := x) (y := y) h n
    rw [T.below hk] at this
    omega
/-- behind a mark comes the one with the next rank -/
theorem rank_next {x y : Int} {n : Nat} (R : Rim (fun k => x * k % y) y n) (n2 : 2 ≤ n) {k m : Int} (k0 : 0 ≤ k) (k1 : k < n) (h : Nx (fun k => x * k % y) n k m) : below x y (x * m % y) n = (below x y (x * k % y) n + 1) % n := by
  obtain ⟨l, T⟩ := row_ex (f := fun k => x * k % y) (n := n) fun i j a b c d e => R.one a b c d e
  obtain ⟨i, hi, ei⟩ := T.at k0 k1
  obtain ⟨m', hm, m0, m1⟩ := T.get (i := (i + 1) % n) (Nat.mod_lt _ (by omega))
  have e := Nx.one R h (T.next R n2 hi ei hm)
  rw [e, T.below hm, T.below ei]
  rw [Int.natCast_emod]; rfl
/-- all of a few marks stand in their own order -/
theorem below_plain {x y k : Int} (x0 : 0 < x) : ∀ n : Nat, x * n ≤ y → 0 ≤ k → below x y (x * k) n = min k n
  | 0, _, k0 => by show (0 : Int) = min k 0; omega
  | n + 1, h, k0 => by
    push_cast at h
    rw [Int.mul_add, Int.mul_one] at h
    show below x y (x * k) n + _ = min k ((n + 1 : Nat) : Int)
    rw [below_plain x0 n (by omega) k0, Int.emod_eq_of_lt (Int.mul_nonneg (by omega) (by omega)) (by omega)]
    have e : x * (n : Int) < x * k ↔ (n : Int) < k := ⟨fun c => Int.lt_of_mul_lt_mul_left c (by omega), fun c => Int.mul_lt_mul_of_pos_left c x0⟩
    push_cast
    split <;> rename_i c <;> rw [e] at c <;> omega
theorem nx_plain {y n k : Int} (R : Rim (fun k => 1 * k % y) y n) (k0 : 0 ≤ k) (k1 : k + 1 < n) (y2 : 2 ≤ y) : Nx (fun k => 1 * k % y) n k (k + 1) := by
  refine ⟨by omega, k1, by omega, fun j j0 j1 j2 => ?_⟩
  have z := R.nz (k := j - k) (by omega) (by omega) (by omega)
  have r := R.r (j - k)
  have e : (1 : Int) * (k + 1 - k) % y = 1 := by rw [show k + 1 - k = 1 by omega, Int.one_mul]; exact Int.emod_eq_of_lt (by decide) (by omega)
  show 1 * (k + 1 - k) % y ≤ 1 * (j - k) % y
  rw [e]
  have z' : 1 * (j - k) % y ≠ 0 := z
  have r' : 0 ≤ 1 * (j - k) % y := r.1
  omega
/-- no mark of the first ones lies between one and the next one -/
theorem nx_between {x y n k m s : Int} (k0 : 0 ≤ k) (k1 : k < min n y) (y0 : 0 < y) (h : Nx (fun k => x * k % y) (min n y) k m) (s0 : 0 ≤ s) (s1 : s < n) : ¬ (0 < x * (s - k) % y ∧ x * (s - k) % y < x * (m - k) % y) := by
  rintro ⟨a, b⟩
  have e : x * (s - k) % y = x * (s % y - k) % y := by
    have := Int.emod_add_mul_ediv s y
    rw [show s - k = (s % y - k) + y * (s / y) by omega, Int.mul_add, ← Int.mul_assoc, Int.mul_comm x y, Int.mul_assoc, Int.add_mul_emod_self_left]
  rw [e] at a b
  have h1 := Int.emod_lt_of_pos s y0
  have h2 := Int.emod_nonneg s (show y ≠ 0 by omega)
  have h3 : s % y ≤ s := by
    rcases Int.lt_or_le s y with c | c
    · rw [Int.emod_eq_of_lt s0 c]; exact Int.le_refl _
    · omega
  rcases Int.decEq (s % y) k with c | c
  · have := h.2.2.2 (s % y) h2 (by rw [Int.min_def]; split <;> omega) c
    have this' : x * (m - k) % y ≤ x * (s % y - k) % y := this
    omega
  · rw [c, Int.sub_self, Int.mul_zero, Int.zero_emod] at a
    omega
end Mt
set_option linter.all false
set_option maxRecDepth 100000
namespace Mt
/-! the order of any number of marks: the first ones at its places -/
theorem first_in {p : Int → Bool} {k : Int} {n : Nat} (k0 : 0 ≤ k) (k1 : k < n) (h : p k = true) (no : ∀ j, 0 ≤ j → j < k → p j = false) : ((iota n).filter p)[0]? = some k := by
  induction n with
  | zero => omega
  | succ n ih =>
    rw [iota_succ, List.filter_append]
    rcases Int.lt_or_le k n with c | c
    · have e := ih c
      rw [List.getElem?_append_left]
      · exact e
      · exact (List.getElem?_eq_some_iff.mp e).1
    · have e : k = n := by omega
      have z : (iota n).filter p = [] := List.filter_eq_nil_iff.mpr fun j hj => by
        obtain ⟨j0, j1⟩ := iota_mem.mp hj
        rw [no j j0 (by omega)]
        simp
      rw [z, ← e]
      simp [h]
/-- few unlike numbers below a bound -/
theorem nodup_few {ks : List Int} {m : Nat} (nd : ks.Nodup) (h : ∀ k ∈ ks, 0 ≤ k ∧ k < m) : ks.length ≤ m := by
  have p : ks.Perm ((iota m).filter fun k => decide (k ∈ ks)) :=
    (List.perm_ext_iff_of_nodup nd ((List.Pairwise.filter _ ((iota_pw m).imp fun {a b} c e => by omega)))).mpr fun k => by
      rw [List.mem_filter, iota_mem, decide_eq_true_eq]
      exact ⟨fun z => ⟨h k z, z⟩, fun z => z.2⟩
  rw [p.length_eq]
  exact Nat.le_trans (List.length_filter_le _ _) (by rw [iota_len]; exact Nat.le_refl _)
/-- which marks stand first at the places, of any number of marks -/
theorem heads {x y : Int} {n N : Nat} (y0 : 0 < y) (co : Nat.gcd x.natAbs y.natAbs = 1) (eN : (N : Int) = min (n : Int) y) : ∃ l, Row (fun k => x * k % y) N l ∧ ord (fun k => x * k % y) (iota n) = l.map (fun k => grp (fun k => x * k % y) (iota n) (x * k % y)) ∧
    ∀ k ∈ l, (grp (fun k => x * k % y) (iota n) (x * k % y))[0]? = some k := by
  have Nn : (N : Int) ≤ n := by rw [eN]; exact Int.min_le_left _ _
  have Ny : (N : Int) ≤ y := by rw [eN]; exact Int.min_le_right _ _
  have R := rim_step (n := (N : Int)) y0 co Ny
  obtain ⟨l, L⟩ := row_ex (f := fun k => x * k % y) (n := N) fun i j a b c d e => R.one a b c d e
  have red : ∀ k : Int, 0 ≤ k → k < n → 0 ≤ k % y ∧ k % y < N ∧ x * (k % y) % y = x * k % y := fun k k0 k1 => by
    refine ⟨Int.emod_nonneg _ (by omega), ?_, by rw [Int.mul_emod, Int.emod_emod, ← Int.mul_emod]⟩
    have h1 := Int.emod_lt_of_pos k y0
    have h2 : k % y ≤ k := by
      rcases Int.lt_or_le k y with c | c
      · rw [Int.emod_eq_of_lt k0 c]; exact Int.le_refl _
      · omega
    rw [eN, Int.min_def]; split <;> omega
  refine ⟨l, L, ?_, fun k hk => ?_⟩
  · have e : sortU ((iota n).map fun k => x * k % y) = l.map fun k => x * k % y := strict_one (sortU_pw _) L.up fun v => by
      rw [sortU_mem, List.mem_map, List.mem_map]
      constructor
      · rintro ⟨k, hk, rfl⟩
        obtain ⟨k0, k1⟩ := iota_mem.mp hk
        obtain ⟨h0, h1, h2⟩ := red k k0 k1
        exact ⟨k % y, (L.mem _).mpr ⟨h0, h1⟩, h2⟩
      · rintro ⟨k, hk, rfl⟩
        obtain ⟨k0, k1⟩ := (L.mem k).mp hk
        exact ⟨k, iota_mem.mpr ⟨k0, by omega⟩, rfl⟩
    unfold ord
    rw [e, List.map_map]
    rfl
  · obtain ⟨k0, k1⟩ := (L.mem k).mp hk
    refine first_in k0 (by omega) (by simp) fun j j0 j1 => ?_
    rw [beq_eq_false_iff_ne]
    intro e
    have := R.one j0 (by omega) k0 k1 e
    omega
/-- what stands ahead of a mark in the row of the first ones -/
theorem Row.prev {f : Int → Int} {y : Int} {n : Nat} {l : List Int} (T : Row f n l) (R : Rim f y n) (n2 : 2 ≤ n) {j : Nat} (hj : j < n) {k m : Int} (hk : l[j]? = some k) (hm : l[(j + (n - 1)) % n]? = some m) : Pv f n k m := by
  have lt : (j + (n - 1)) % n < n := Nat.mod_lt _ (by omega)
  have e : ((j + (n - 1)) % n + 1) % n = j := by
    rw [Nat.mod_add_mod, show j + (n - 1) + 1 = j + n by omega, Nat.add_mod_right, Nat.mod_eq_of_lt hj]
  have mm := (T.mem m).mp (List.mem_of_getElem? hm)
  exact (T.next R n2 lt hm (by rw [e]; exact hk)).back R mm.1 mm.2
end Mt
set_option Elab.async false
set_option maxRecDepth 100000
set_option maxHeartbeats 2000000
set_option linter.all false
/-! where a row of marks breaks the three cases -/
namespace Mt
def nxt (l : List Int) (k : Int) : Int := l.getD ((l.idxOf k + 1) % l.length) 0
def badB (l : List Int) (k : Int) : Bool := decide (nxt l k ≠ behind l.length (nxt l 0) (l.getLastD 0) k)
def brk (l : List Int) : Option Int := (iota l.length).find? (badB l)
/-- all of 0 .. n - 1, beginning with 0 -/
structure Perm0 (l : List Int) : Prop where
  nd : l.Nodup
  mem : ∀ k, k ∈ l ↔ 0 ≤ k ∧ k < l.length
  hd : l.head? = some 0
theorem idx_at {l : List Int} (nd : l.Nodup) {j : Nat} {k : Int} (h : l[j]? = some k) : l.idxOf k = j := by
  obtain ⟨lt, e⟩ := List.getElem?_eq_some_iff.mp h
  induction l generalizing j with
  | nil => simp at lt
  | cons a l ih =>
    obtain ⟨n1, n2⟩ := List.nodup_cons.mp nd
    cases j with
    | zero =>
      have e : a = k := e
      rw [e]; simp
    | succ j =>
      have lt' : j < l.length := by simpa using lt
      have e' : l[j] = k := e
      have ne : a ≠ k := fun z => n1 (by rw [z, ← e']; exact List.getElem_mem lt')
      have ih' := ih n2 (j := j) (by rw [List.getElem?_eq_getElem lt', e']) lt' e'
      rw [List.idxOf_cons, show (a == k) = false by simpa using ne, cond_false, ih']
theorem nxt_at {l : List Int} (nd : l.Nodup) {j : Nat} {k : Int} (h : l[j]? = some k) : nxt l k = l.getD ((j + 1) % l.length) 0 := by
  unfold nxt
  rw [idx_at nd h]
theorem Perm0.pos {l : List Int} (P : Perm0 l) : 0 < l.length := by
  cases l with
  | nil => have := P.hd; cases this
  | cons a l => exact Nat.succ_pos _
theorem Perm0.zero {l : List Int} (P : Perm0 l) : l[0]? = some 0 := by
  have := P.hd
  rwa [List.head?_eq_getElem?] at this
theorem getD_lt {l : List Int} {j : Nat} (h : j < l.length) : l.getD j 0 = l[j] := by
  rw [List.getD_eq_getElem?_getD, List.getElem?_eq_getElem h]; rfl
theorem last_lt {l : List Int} (h : 0 < l.length) : l.getLastD 0 = l[l.length - 1] := by
  cases l with
  | nil => simp at h
  | cons a l => rw [List.getLastD_eq_getLast?, List.getLast?_eq_getElem?, List.getElem?_eq_getElem (by omega)]; rfl
theorem brk_first {l : List Int} {i : Nat} (hi : i < l.length) (ok : ∀ j : Nat, j < i → badB l j = false) (bad : badB l i = true) : brk l = some (i : Int) := by
  unfold brk iota
  rw [List.find?_map]
  have : (List.range l.length).find? (badB l ∘ Int.ofNat) = some i := by
    rw [List.find?_range_eq_some]
    exact ⟨bad, List.mem_range.mpr hi, fun j hj => by have := ok j hj; simp only [Function.comp]; show (!badB l (j : Int)) = true; rw [this]; rfl⟩
  rw [this]; rfl
theorem brk_none {l : List Int} (ok : ∀ j : Nat, j < l.length → badB l j = false) : brk l = none := by
  unfold brk
  rw [List.find?_eq_none]
  intro k m
  obtain ⟨k0, k1⟩ := iota_mem.mp m
  obtain ⟨n, rfl⟩ := Int.eq_ofNat_of_zero_le k0
  rw [ok n (by omega)]
  simp
theorem Row.perm0 {f : Int → Int} {n : Nat} {l : List Int} {y : Int} (T : Row f n l) (R : Rim f y n) (n0 : 0 < n) : Perm0 l :=
  ⟨T.nodup, fun k => by rw [T.mem, T.len], by rw [List.head?_eq_getElem?]; exact T.zero R n0⟩
theorem Row.whole {f : Int → Int} {n : Nat} {l : List Int} {y : Int} (T : Row f n l) (R : Rim f y n) (n0 : 0 < n) : brk l = none := by
  have nd := T.nodup
  have ln := T.len
  refine brk_none fun k hk => ?_
  rw [ln] at hk
  obtain ⟨j, hj, hjk⟩ := T.at (k := (k : Int)) (by omega) (by omega)
  have z0 := T.zero R n0
  unfold badB
  rw [decide_eq_false_iff_not, Classical.not_not, nxt_at nd hjk, nxt_at nd z0, ln]
  by_cases n1 : n = 1
  · subst n1
    have j0 : j = 0 := by omega
    have k0 : k = 0 := by omega
    subst j0 k0
    have el : l = [0] := by
      cases l with
      | nil => simp at ln
      | cons a r =>
        cases r with
        | nil => cases z0; rfl
        | cons b r => simp at ln
    rw [el]
    decide
  · have n2 : 2 ≤ n := by omega
    have e1 : (0 + 1) % n = 1 := Nat.mod_eq_of_lt (by omega)
    rw [e1]
    have h1 : l[1]? = some l[1] := List.getElem?_eq_getElem (by omega)
    have hB : l[n - 1]? = some (l[n - 1]'(by omega)) := List.getElem?_eq_getElem (by omega)
    obtain ⟨A0, A1, B0, B1, hA, hBB⟩ := T.ends R n2 h1 hB
    have g := gap R A0 A1 B0 B1 hA hBB (k := (k : Int)) (by omega) (by omega)
    have lt : (j + 1) % n < l.length := by rw [ln]; exact Nat.mod_lt _ n0
    have nx := T.next R n2 hj hjk (m := l[(j + 1) % n]) (List.getElem?_eq_getElem lt)
    have e := nx.one R g
    rw [getD_lt lt, getD_lt (show 1 < l.length by omega), last_lt (by omega)]
    have el : l[l.length - 1]'(by omega) = l[n - 1]'(by omega) := by congr 1; omega
    rw [el]
    exact e
/-- ascending by f above a -/
def up (f : Int → Int) : Int → List Int → Bool
  | _, [] => true
  | a, k :: l => if f k ≤ a then false else up f (f k) l
theorem up_pw {f : Int → Int} : ∀ {l : List Int} {a : Int}, up f a l = true → (l.map f).Pairwise (· < ·) ∧ ∀ k ∈ l, a < f k
  | [], _, _ => ⟨List.Pairwise.nil, fun k m => nomatch m⟩
  | k :: l, a, h => by
    unfold up at h
    split at h
    · cases h
    · rename_i c
      obtain ⟨i1, i2⟩ := up_pw h
      refine ⟨List.pairwise_cons.mpr ⟨fun v m => ?_, i1⟩, fun q m => ?_⟩
      · obtain ⟨q, mq, rfl⟩ := List.mem_map.mp m
        exact i2 q mq
      · rcases List.mem_cons.mp m with rfl | m
        · omega
        · have := i2 q m; omega
theorem up_row {x y : Int} {l : List Int} (P : Perm0 l) (s : Stp x y) (h : up (fun k => x * k % y) (-1) l = true) : brk l = none := by
  obtain ⟨pw, _⟩ := up_pw h
  have y0 : 0 < y := by have := s.p0; have := s.pq; omega
  have mnd : (l.map fun k => x * k % y).Nodup := pw.imp fun z e => by omega
  have small : ∀ v ∈ l.map fun k => x * k % y, 0 ≤ v ∧ v < (y.toNat : Nat) := fun v m => by
    obtain ⟨k, _, rfl⟩ := List.mem_map.mp m
    have h1 := Int.emod_nonneg (x * k) (show y ≠ 0 by omega)
    have h2 := Int.emod_lt_of_pos (x * k) y0
    show 0 ≤ x * k % y ∧ x * k % y < _
    omega
  have few := nodup_few mnd small
  rw [List.length_map] at few
  have R : Rim (fun k => x * k % y) y l.length := rim_step y0 (show Nat.gcd x.natAbs y.natAbs = 1 from s.co) (by omega)
  have inj : ∀ {i j : Int}, i ∈ l → j ∈ l → x * i % y = x * j % y → i = j := fun {i j} mi mj e => map_inj mnd mi mj e
  have T : Row (fun k => x * k % y) l.length l := ⟨rfl, P.mem, pw, by
    unfold ord
    have e1 : sortU ((iota l.length).map fun k => x * k % y) = l.map fun k => x * k % y := strict_one (sortU_pw _) pw fun v => by
      rw [sortU_mem, List.mem_map, List.mem_map]
      constructor
      · rintro ⟨k, m, e⟩; exact ⟨k, (P.mem k).mpr (iota_mem.mp m), e⟩
      · rintro ⟨k, m, e⟩; exact ⟨k, iota_mem.mpr ((P.mem k).mp m), e⟩
    rw [e1, List.map_map]
    refine List.map_congr_left fun k m => ?_
    show grp _ _ (x * k % y) = [k]
    unfold grp
    have pwl : ((iota l.length).filter fun j => (x * j % y == x * k % y)).Pairwise (· < ·) := (iota_pw _).filter _
    refine strict_one pwl (List.pairwise_singleton ..) fun v => ?_
    rw [List.mem_filter, List.mem_singleton, beq_iff_eq]
    constructor
    · rintro ⟨mv, e⟩; exact inj ((P.mem v).mpr (iota_mem.mp mv)) m e
    · rintro rfl; exact ⟨iota_mem.mpr ((P.mem v).mp m), rfl⟩⟩
  exact T.whole R P.pos
end Mt
set_option Elab.async false
set_option maxRecDepth 100000
set_option maxHeartbeats 2000000
set_option linter.all false
/-! the lot over points: which steps it holds -/
namespace Mt
theorem fold_out {x : Cut} : ∀ (es : List (Cut × Bool)) (acc : List Cut), (∀ e ∈ es, x.lt e.1 = true) → mem (es.foldl cstep acc) x = mem acc x
  | [], _, _ => rfl
  | e :: es, acc, h => by
    have h0 := h e List.mem_cons_self
    show mem (es.foldl cstep (cstep acc e)) x = _
    rw [fold_out es _ fun c m => h c (List.mem_cons_of_mem _ m)]
    unfold cstep
    split
    · rw [mem_app]
      show xor _ (xor (!x.lt e.1) false) = _
      rw [h0]; simp
    · rfl
theorem mem_in {x : Cut} : ∀ {acc : List Cut}, (∀ c ∈ acc, x.lt c = false) → mem acc x = odd acc.length
  | [], _ => rfl
  | c :: acc, h => by
    show xor (!x.lt c) (mem acc x) = !odd acc.length
    rw [h c List.mem_cons_self, mem_in fun e m => h e (List.mem_cons_of_mem _ m)]
    simp
theorem cstep_odd (acc : List Cut) (e : Cut × Bool) : odd (cstep acc e).length = e.2 := by
  unfold cstep
  split
  · rename_i h
    rw [odd_snoc]
    cases h1 : e.2 <;> cases h2 : odd acc.length <;> simp_all
  · rename_i h
    cases h1 : e.2 <;> cases h2 : odd acc.length <;> simp_all
theorem cstep_in {x : Cut} {acc : List Cut} {e : Cut × Bool} (h : ∀ c ∈ acc, x.lt c = false) (he : x.lt e.1 = false) : ∀ c ∈ cstep acc e, x.lt c = false := fun c m => by
  unfold cstep at m
  split at m
  · rcases List.mem_append.mp m with m | m
    · exact h c m
    · rw [List.mem_singleton.mp m]; exact he
  · exact h c m
theorem ends_out {x : Cut} {acc : List Cut} (h : x.lt last = true) : mem (ends acc) x = mem acc x := by
  unfold ends
  split
  · rw [mem_app]
    show xor _ (xor (!x.lt last) false) = _
    rw [h]; simp
  · rfl
/-- between two points next to each other it is as at their mediant -/
def Steady (f : Int → Int → Bool) : List (Int × Int) → Prop
  | a :: b :: r => (∀ p q, Stp p q → Lss a (p, q) → Lss (p, q) b → f p q = f (med a b).1 (med a b).2) ∧ Steady f (b :: r)
  | _ => True
theorem lss_or {a b : Int × Int} (fa : Frc a) (fb : Frc b) : Lss a b ∨ a = b ∨ Lss b a := by
  rcases Int.lt_trichotomy (a.1 * b.2) (b.1 * a.2) with h | h | h
  · exact .inl h
  · have := Cut.cross fa.d0 fb.d0 fa.co fb.co h
    exact .inr (.inl (Prod.ext this.1 this.2))
  · exact .inr (.inr h)
theorem lss_trans {a b c : Int × Int} (fa : Frc a) (fb : Frc b) (fc : Frc c) (h : Lss a b) (k : Lss b c) : Lss a c := Cut.mul_lt3 fa.d0 fb.d0 fc.d0 h k
theorem lss_irr {a : Int × Int} : ¬ Lss a a := fun h => by unfold Lss at h; omega
theorem Stp.frc {p q : Int} (s : Stp p q) : Frc (p, q) := ⟨s.p0, Int.le_of_lt s.pq, by have := s.p0; have := s.pq; show 0 < q; omega, s.co⟩
theorem at_lt {p q : Int} {a : Int × Int} {b : Bool} (h : Lss (p, q) a) : (at' p q).lt ⟨a.1, a.2, b⟩ = true := lss_lt h false b
theorem at_ge {p q : Int} {a : Int × Int} {b : Bool} (h : Lss a (p, q)) : (at' p q).lt ⟨a.1, a.2, b⟩ = false := by
  have h' : a.1 * q < p * a.2 := h
  unfold at' Cut.lt
  simp only
  rw [if_neg (fun z => by rw [z.1, z.2] at h'; omega), decide_eq_false]
  omega
theorem lot_fold {f : Int → Int → Bool} {p q : Int} (s : Stp p q) : ∀ {r : List (Int × Int)} {a : Int × Int} {acc : List Cut}, (∀ x ∈ a :: r, Frc x) → (a :: r).Pairwise Lss → (a :: r).getLast? = some (1, 1) → Steady f (a :: r) → ¬ Lss (p, q) a → (∀ c ∈ acc, (at' p q).lt c = false) →
    mem (ends ((evs f (a :: r)).foldl cstep acc)) (at' p q) = f p q
  | [], a, acc, v, _, l, _, n, _ => by
    have e : a = (1, 1) := Option.some.inj l
    subst e
    exact absurd (show p * 1 < 1 * q by have := s.pq; omega) n
  | b :: r, a, acc, v, pw, l, st, n, h => by
    have fa := v a List.mem_cons_self
    have fb := v b (List.mem_cons_of_mem _ List.mem_cons_self)
    have pw2 := List.pairwise_cons.mp pw
    have v2 : ∀ x ∈ b :: r, Frc x := fun x m => v x (List.mem_cons_of_mem _ m)
    have l2 : (b :: r).getLast? = some (1, 1) := by rw [← l]; rfl
    have e1ge : (at' p q).lt ⟨a.1, a.2, false⟩ = false := by
      rcases lss_or fa s.frc with k | k | k
      · exact at_ge k
      · rw [k]; exact Cut.irr _
      · exact absurd k n
    have up : Lss (p, q) b → ∀ e ∈ evs f (b :: r), (at' p q).lt e.1 = true := fun hb e me => by
      obtain ⟨_, _, _, i4⟩ := evs_all (f := f) v2 pw2.2 l2
      obtain ⟨x, mx, e1, e2⟩ := i4 e.1 (List.mem_append_left _ (List.mem_map_of_mem me))
      have ec : e.1 = ⟨x.1, x.2, e.1.b⟩ := by
        cases h : e.1 with | mk n d b => rw [h] at e1 e2; simp only at e1 e2; rw [e1, e2]
      rw [ec]
      rcases List.mem_cons.mp mx with rfl | mx
      · exact at_lt hb
      · exact at_lt (lss_trans s.frc fb (v2 x (List.mem_cons_of_mem _ mx)) hb ((List.pairwise_cons.mp pw2.2).1 x mx))
    have h1 := cstep_in (e := (⟨a.1, a.2, false⟩, f a.1 a.2)) h e1ge
    show mem (ends ((evs f (b :: r)).foldl cstep (cstep (cstep acc (⟨a.1, a.2, false⟩, f a.1 a.2)) (⟨a.1, a.2, true⟩, f (med a b).1 (med a b).2)))) (at' p q) = f p q
    rcases lss_or fa s.frc with k | k | k
    · have h2 := cstep_in (e := (⟨a.1, a.2, true⟩, f (med a b).1 (med a b).2)) h1 (at_ge k)
      by_cases hb : Lss (p, q) b
      · rw [ends_out s.lt, fold_out _ _ (up hb), mem_in h2, cstep_odd]
        exact (st.1 p q s k hb).symm
      · exact lot_fold s v2 pw2.2 l2 st.2 hb h2
    · have hb : Lss (p, q) b := by rw [← k]; exact pw2.1 b List.mem_cons_self
      have lt2 : (at' p q).lt ⟨a.1, a.2, true⟩ = true := by
        rw [k]
        unfold at' Cut.lt
        simp
      rw [ends_out s.lt, fold_out _ _ (up hb)]
      have e3 := fold_out (x := at' p q) [(⟨a.1, a.2, true⟩, f (med a b).1 (med a b).2)] (cstep acc (⟨a.1, a.2, false⟩, f a.1 a.2)) (fun e m => by rw [List.mem_singleton.mp m]; exact lt2)
      rw [show (cstep (cstep acc (⟨a.1, a.2, false⟩, f a.1 a.2)) (⟨a.1, a.2, true⟩, f (med a b).1 (med a b).2)) = [((⟨a.1, a.2, true⟩ : Cut), f (med a b).1 (med a b).2)].foldl cstep (cstep acc (⟨a.1, a.2, false⟩, f a.1 a.2)) from rfl, e3, mem_in h1, cstep_odd, k]
    · exact absurd k n
/-- the lot over points holds a step just if it fits -/
theorem mem_lot {f : Int → Int → Bool} {ps : List (Int × Int)} (h : Pts ps) (st : Steady f ps) {p q : Int} (s : Stp p q) : mem (lw (evs f ps)) (at' p q) = f p q := by
  cases ps with
  | nil => exact absurd h.hd (by simp)
  | cons a r =>
    have e : a = (0, 1) := Option.some.inj h.hd
    exact lot_fold s h.v h.asc h.ls st (fun z => by rw [e] at z; have z' : p * 1 < 0 * q := z; have := s.p0; omega) (fun c m => nomatch m)
end Mt
set_option Elab.async false
set_option maxRecDepth 100000
set_option maxHeartbeats 2000000
set_option linter.all false
/-! between two neighbouring points marks are met alike -/
namespace Mt
/-- whole turns of d by p/q are reached as those by u/v -/
def Turns (p q u v d : Int) : Prop := ∀ m : Int, m * q ≤ p * d ↔ m * v ≤ u * d
theorem Turns.fl {p q u v d : Int} (q0 : 0 < q) (v0 : 0 < v) (h : Turns p q u v d) : p * d / q = u * d / v := by
  have h1 : p * d / q ≤ u * d / v := (Int.le_ediv_iff_mul_le v0).mpr ((h _).mp ((Int.le_ediv_iff_mul_le q0).mp (Int.le_refl _)))
  have h2 : u * d / v ≤ p * d / q := (Int.le_ediv_iff_mul_le q0).mpr ((h _).mpr ((Int.le_ediv_iff_mul_le v0).mp (Int.le_refl _)))
  omega
theorem rest_le {p q d e : Int} : p * d % q ≤ p * e % q ↔ (p * e / q - p * d / q) * q ≤ p * (e - d) := by
  have a := Int.emod_def (p * d) q
  have b := Int.emod_def (p * e) q
  rw [Int.sub_mul, Int.mul_sub, a, b, Int.mul_comm (p * e / q), Int.mul_comm (p * d / q)]
  omega
theorem Turns.le {p q u v d e : Int} (q0 : 0 < q) (v0 : 0 < v) (hd : Turns p q u v d) (he : Turns p q u v e) (h : Turns p q u v (e - d)) : p * d % q ≤ p * e % q ↔ u * d % v ≤ u * e % v := by
  rw [rest_le, rest_le, hd.fl q0 v0, he.fl q0 v0]
  exact h _
theorem Turns.zero {p q u v : Int} (q0 : 0 < q) (v0 : 0 < v) : Turns p q u v 0 := fun m => by
  rw [Int.mul_zero, Int.mul_zero]
  constructor <;> intro h
  · have : m ≤ 0 := by
      rcases Int.lt_or_le 0 m with k | k
      · have := Int.mul_pos k q0; omega
      · exact k
    exact Int.mul_nonpos_of_nonpos_of_nonneg this (Int.le_of_lt v0)
  · have : m ≤ 0 := by
      rcases Int.lt_or_le 0 m with k | k
      · have := Int.mul_pos k v0; omega
      · exact k
    exact Int.mul_nonpos_of_nonpos_of_nonneg this (Int.le_of_lt q0)
/-- both fractions lie between t / c and t' / c, next to each other among multiples of 1 / k -/
structure Btw (c t t' p q : Int) : Prop where
  q0 : 0 < q
  lo : t * q < p * c
  hi : p * c < t' * q
  p0 : 0 ≤ p
  pq : p < q
theorem Btw.side {c t t' p q : Int} {k : Nat} (B : Btw c t t' p q) (c0 : 0 < c) (k0 : 0 < k) (j : Int) (hj : j * (k : Int) = c) (gap : ∀ m : Int, 0 ≤ m → m < k → m * j ≤ t ∨ t' ≤ m * j) (m : Int) :
    (m * q < (k : Int) * p ↔ (m < 0 ∨ (m < k ∧ m * j ≤ t))) ∧ m * q ≠ (k : Int) * p := by
  have kp : 0 ≤ (k : Int) * p := Int.mul_nonneg (by omega) B.p0
  rcases Int.lt_or_le m 0 with h | h
  · have : m * q < 0 := Int.mul_neg_of_neg_of_pos h B.q0
    exact ⟨⟨fun _ => .inl h, fun _ => by omega⟩, by omega⟩
  · rcases Int.lt_or_le m k with h2 | h2
    · have mc : m * j * (k : Int) = m * c := by rw [Int.mul_assoc, hj]
      rcases gap m h h2 with g | g
      · have e1 : m * j * k ≤ t * k := Int.mul_le_mul_of_nonneg_right g (by omega)
        have e2 : t * k * q < k * p * c := by
          have := Int.mul_lt_mul_of_pos_right B.lo (show 0 < (k : Int) by omega)
          have a : t * q * k = t * k * q := by rw [Int.mul_assoc, Int.mul_comm q, ← Int.mul_assoc]
          have b : p * c * k = k * p * c := by rw [Int.mul_comm (p * c), ← Int.mul_assoc]
          omega
        have e3 : m * c * q ≤ t * k * q := by rw [← mc]; exact Int.mul_le_mul_of_nonneg_right e1 (Int.le_of_lt B.q0)
        have e4 : m * q * c < k * p * c := by
          have a : m * c * q = m * q * c := by rw [Int.mul_assoc, Int.mul_comm c, ← Int.mul_assoc]
          omega
        have lt := Int.lt_of_mul_lt_mul_right e4 (Int.le_of_lt c0)
        exact ⟨⟨fun _ => .inr ⟨h2, g⟩, fun _ => lt⟩, by omega⟩
      · have e1 : t' * k ≤ m * j * k := Int.mul_le_mul_of_nonneg_right g (by omega)
        have e2 : k * p * c < t' * k * q := by
          have := Int.mul_lt_mul_of_pos_right B.hi (show 0 < (k : Int) by omega)
          have a : t' * q * k = t' * k * q := by rw [Int.mul_assoc, Int.mul_comm q, ← Int.mul_assoc]
          have b : p * c * k = k * p * c := by rw [Int.mul_comm (p * c), ← Int.mul_assoc]
          omega
        have e3 : t' * k * q ≤ m * c * q := by rw [← mc]; exact Int.mul_le_mul_of_nonneg_right e1 (Int.le_of_lt B.q0)
        have e4 : k * p * c < m * q * c := by
          have a : m * c * q = m * q * c := by rw [Int.mul_assoc, Int.mul_comm c, ← Int.mul_assoc]
          omega
        have lt := Int.lt_of_mul_lt_mul_right e4 (Int.le_of_lt c0)
        have no : ¬ m * j ≤ t := fun z => by
          have e5 : m * j * k ≤ t * k := Int.mul_le_mul_of_nonneg_right z (by omega)
          have e6 : t * k * q < k * p * c := by
            have := Int.mul_lt_mul_of_pos_right B.lo (show 0 < (k : Int) by omega)
            have a : t * q * k = t * k * q := by rw [Int.mul_assoc, Int.mul_comm q, ← Int.mul_assoc]
            have b : p * c * k = k * p * c := by rw [Int.mul_comm (p * c), ← Int.mul_assoc]
            omega
          have e7 : m * c * q ≤ t * k * q := by rw [← mc]; exact Int.mul_le_mul_of_nonneg_right e5 (Int.le_of_lt B.q0)
          have a : m * c * q = m * q * c := by rw [Int.mul_assoc, Int.mul_comm c, ← Int.mul_assoc]
          omega
        exact ⟨⟨fun z => by omega, fun z => by rcases z with z | z <;> omega⟩, by omega⟩
    · have e1 : (k : Int) * p < k * q := Int.mul_lt_mul_of_pos_left B.pq (by omega)
      have e2 : (k : Int) * q ≤ m * q := Int.mul_le_mul_of_nonneg_right h2 (Int.le_of_lt B.q0)
      exact ⟨⟨fun z => by omega, fun z => by omega⟩, by omega⟩
theorem Btw.turns {c t t' p q u v : Int} {k : Nat} (B : Btw c t t' p q) (C : Btw c t t' u v) (c0 : 0 < c) (k0 : 0 < k) (j : Int) (hj : j * (k : Int) = c) (gap : ∀ m : Int, 0 ≤ m → m < k → m * j ≤ t ∨ t' ≤ m * j) {d : Int} (hd : d.natAbs = k) : Turns p q u v d := fun m => by
  rcases Int.natAbs_eq d with e | e
  · rw [hd] at e
    subst e
    have a := B.side c0 k0 j hj gap m
    have b := C.side c0 k0 j hj gap m
    rw [Int.mul_comm p, Int.mul_comm u]
    constructor <;> intro h
    · have := b.1.mpr (a.1.mp (by have := a.2; omega)); omega
    · have := a.1.mpr (b.1.mp (by have := b.2; omega)); omega
  · rw [hd] at e
    subst e
    have a := B.side c0 k0 j hj gap (-m)
    have b := C.side c0 k0 j hj gap (-m)
    rw [Int.mul_neg, Int.mul_neg, Int.mul_comm p, Int.mul_comm u]
    rw [Int.neg_mul] at a b
    constructor <;> intro h
    · by_cases z : -(m * v) < k * u
      · have := a.1.mpr (b.1.mp z); omega
      · omega
    · by_cases z : -(m * q) < k * p
      · have := b.1.mpr (a.1.mp z); omega
      · omega
end Mt
namespace My
open Mt
/-- in which order its marks are met, by f -/
def met (f : Int → Int) : Int → List (List Int) → Bool
  | _, [] => true
  | a, g :: gs => match g with
    | [] => true
    | m :: ms => if f m ≤ a ∨ (m :: ms).any (fun k => decide (f k ≠ f m)) = true then false else met f (f m) gs
def isMet (gs : List (List Int)) (x y : Int) : Bool := met (fun k => (x * (k - gs.flatten.headD 0)).fmod y) (-1) gs
theorem met_alike {f g : Int → Int} : ∀ {gs : List (List Int)} {a b : Int}, (∀ x ∈ gs.flatten, ∀ y ∈ gs.flatten, f x ≤ f y ↔ g x ≤ g y) → (∀ x ∈ gs.flatten, f x ≤ a ↔ g x ≤ b) → met f a gs = met g b gs
  | [], _, _, _, _ => rfl
  | [] :: gs, _, _, _, _ => rfl
  | (m :: ms) :: gs, a, b, h, k => by
    have mm : m ∈ ((m :: ms) :: gs).flatten := by rw [List.flatten_cons]; exact List.mem_append_left _ List.mem_cons_self
    have ins : ∀ {x}, x ∈ m :: ms → x ∈ ((m :: ms) :: gs).flatten := fun hx => by rw [List.flatten_cons]; exact List.mem_append_left _ hx
    have out : ∀ {x}, x ∈ gs.flatten → x ∈ ((m :: ms) :: gs).flatten := fun hx => by rw [List.flatten_cons]; exact List.mem_append_right _ hx
    have e : (f m ≤ a ∨ (m :: ms).any (fun k => decide (f k ≠ f m)) = true) ↔ (g m ≤ b ∨ (m :: ms).any (fun k => decide (g k ≠ g m)) = true) := by
      rw [k m mm]
      have q : (m :: ms).any (fun k => decide (f k ≠ f m)) = (m :: ms).any (fun k => decide (g k ≠ g m)) := by
        rw [Bool.eq_iff_iff, List.any_eq_true, List.any_eq_true]
        constructor <;> rintro ⟨x, mx, hx⟩ <;> refine ⟨x, mx, decide_eq_true ?_⟩ <;> have hx := of_decide_eq_true hx <;> intro z
        · exact hx (Int.le_antisymm ((h x (ins mx) m mm).mpr (by omega)) ((h m mm x (ins mx)).mpr (by omega)))
        · exact hx (Int.le_antisymm ((h x (ins mx) m mm).mp (by omega)) ((h m mm x (ins mx)).mp (by omega)))
      rw [q]
    rw [met, met]
    simp only [e]
    split
    · rfl
    · exact met_alike (fun x hx y hy => h x (out hx) y (out hy)) (fun x hx => h x (out hx) m mm)
/-- the differences of its marks are among these numbers -/
def Within (gs : List (List Int)) (ns : List Nat) : Prop := ∀ x ∈ gs.flatten, ∀ y ∈ gs.flatten, x ≠ y → (x - y).natAbs ∈ ns
theorem isMet_alike {gs : List (List Int)} {ns : List Nat} {c t t' p q u v : Int} (W : Within gs ns) (ne : gs.flatten ≠ []) (B : Btw c t t' p q) (C : Btw c t t' u v) (c0 : 0 < c) (hk : ∀ k ∈ ns, 0 < k ∧ ∃ j : Int, j * (k : Int) = c ∧ ∀ m : Int, 0 ≤ m → m < k → m * j ≤ t ∨ t' ≤ m * j) : isMet gs p q = isMet gs u v := by
  have T : ∀ x ∈ gs.flatten, ∀ y ∈ gs.flatten, Turns p q u v (x - y) := fun x hx y hy => by
    by_cases e : x = y
    · subst e
      rw [Int.sub_self]
      exact Turns.zero B.q0 C.q0
    · obtain ⟨k0, j, hj, gap⟩ := hk _ (W x hx y hy e)
      exact B.turns C c0 k0 j hj gap rfl
  have hs : gs.flatten.headD 0 ∈ gs.flatten := by
    cases h : gs.flatten with
    | nil => exact absurd h ne
    | cons a l => exact List.mem_cons_self
  unfold isMet
  refine met_alike (fun x hx y hy => ?_) (fun x hx => ?_)
  · rw [Int.fmod_eq_emod_of_nonneg _ (Int.le_of_lt B.q0), Int.fmod_eq_emod_of_nonneg _ (Int.le_of_lt B.q0), Int.fmod_eq_emod_of_nonneg _ (Int.le_of_lt C.q0), Int.fmod_eq_emod_of_nonneg _ (Int.le_of_lt C.q0)]
    refine (T x hx _ hs).le B.q0 C.q0 (T y hy _ hs) ?_
    rw [show y - gs.flatten.headD 0 - (x - gs.flatten.headD 0) = y - x by omega]
    exact T y hy x hx
  · rw [Int.fmod_eq_emod_of_nonneg _ (Int.le_of_lt B.q0), Int.fmod_eq_emod_of_nonneg _ (Int.le_of_lt C.q0)]
    have h1 := Int.emod_nonneg (p * (x - gs.flatten.headD 0)) (show q ≠ 0 by have := B.q0; omega)
    have h2 := Int.emod_nonneg (u * (x - gs.flatten.headD 0)) (show v ≠ 0 by have := C.q0; omega)
    constructor <;> intro z <;> omega
/-- a fraction of c in lowest terms beside another one -/
theorem low_lt {t c p q : Int} (c0 : 0 < c) (h : Lss (lowQ t c) (p, q)) : t * q < p * c := by
  obtain ⟨g, g0, e1, e2, _, _⟩ := lowQ_ex (a := t) c0
  have h' : (lowQ t c).1 * q < p * (lowQ t c).2 := h
  have k := Int.mul_lt_mul_of_pos_right h' g0
  have a : (lowQ t c).1 * q * g = t * q := by rw [Int.mul_assoc, Int.mul_comm q, ← Int.mul_assoc, ← e1]
  have b : p * (lowQ t c).2 * g = p * c := by rw [Int.mul_assoc, ← e2]
  omega
theorem low_gt {t c p q : Int} (c0 : 0 < c) (h : Lss (p, q) (lowQ t c)) : p * c < t * q := by
  obtain ⟨g, g0, e1, e2, _, _⟩ := lowQ_ex (a := t) c0
  have h' : p * (lowQ t c).2 < (lowQ t c).1 * q := h
  have k := Int.mul_lt_mul_of_pos_right h' g0
  have a : (lowQ t c).1 * q * g = t * q := by rw [Int.mul_assoc, Int.mul_comm q, ← Int.mul_assoc, ← e1]
  have b : p * (lowQ t c).2 * g = p * c := by rw [Int.mul_assoc, ← e2]
  omega
theorem med_lss {a b : Int × Int} (fa : Frc a) (fb : Frc b) (l : Lss a b) : Lss a ((med a b).1, (med a b).2) ∧ Lss ((med a b).1, (med a b).2) b := by
  have d0 := fa.d0; have e0 := fb.d0
  obtain ⟨g, g0, e1, e2, b0, co⟩ := lowQ_ex (a := a.1 + b.1) (b := a.2 + b.2) (by omega)
  have l' : a.1 * b.2 < b.1 * a.2 := l
  have x : (lowQ (a.1 + b.1) (a.2 + b.2)).1 = (med a b).1 := rfl
  have y : (lowQ (a.1 + b.1) (a.2 + b.2)).2 = (med a b).2 := rfl
  rw [x] at e1; rw [y] at e2
  constructor
  · show a.1 * (med a b).2 < (med a b).1 * a.2
    have k : a.1 * (med a b).2 * g < (med a b).1 * a.2 * g := by
      have p1 : a.1 * (med a b).2 * g = a.1 * a.2 + a.1 * b.2 := by rw [Int.mul_assoc, ← e2, Int.mul_add]
      have p2 : (med a b).1 * a.2 * g = a.1 * a.2 + b.1 * a.2 := by rw [Int.mul_assoc, Int.mul_comm a.2, ← Int.mul_assoc, ← e1, Int.add_mul]
      omega
    exact Int.lt_of_mul_lt_mul_right k (Int.le_of_lt g0)
  · show (med a b).1 * b.2 < b.1 * (med a b).2
    have k : (med a b).1 * b.2 * g < b.1 * (med a b).2 * g := by
      have p1 : b.1 * (med a b).2 * g = b.1 * a.2 + b.1 * b.2 := by rw [Int.mul_assoc, ← e2, Int.mul_add]
      have p2 : (med a b).1 * b.2 * g = a.1 * b.2 + b.1 * b.2 := by rw [Int.mul_assoc, Int.mul_comm b.2, ← Int.mul_assoc, ← e1, Int.add_mul]
      omega
    exact Int.lt_of_mul_lt_mul_right k (Int.le_of_lt g0)
theorem steady_map {f : Int → Int → Bool} {c : Int} : ∀ {l : List Int}, (∀ A t t' B, l = A ++ t :: t' :: B → ∀ p q, Stp p q → Lss (lowQ t c) (p, q) → Lss (p, q) (lowQ t' c) → f p q = f (med (lowQ t c) (lowQ t' c)).1 (med (lowQ t c) (lowQ t' c)).2) → Steady f (l.map fun t => lowQ t c)
  | [], _ => trivial
  | [_], _ => trivial
  | t :: t' :: l, h => ⟨h [] t t' l rfl, steady_map (l := t' :: l) fun A s s' B e => h (t :: A) s s' B (by rw [e]; rfl)⟩
/-- between its points a row is met steadily -/
theorem met_steady {gs : List (List Int)} {ns : List Nat} {c : Nat} (W : Within gs ns) (ne : gs.flatten ≠ []) (c0 : 0 < c) (hd : ∀ k ∈ ns, 0 < k ∧ k ∣ c) : Steady (isMet gs) (wpts c ns) := by
  have P := wpts_pts c0 (fun k m => (hd k m).2)
  have ci : 0 < (c : Int) := by omega
  unfold wpts at P ⊢
  refine steady_map fun A t t' B e p q s l1 l2 => ?_
  have pw := sortU_pw (0 :: (c : Int) :: tops c ns)
  rw [e] at pw
  have mem : ∀ x, x ∈ (0 :: (c : Int) :: tops c ns) → x ∈ A ++ t :: t' :: B := fun x m => by rw [← e]; exact sortU_mem.mpr m
  have pt : ∀ x ∈ A ++ t :: t' :: B, Frc (lowQ x c) := fun x m => P.v _ (List.mem_map.mpr ⟨x, by rw [e]; exact m, rfl⟩)
  have fa := pt t (by simp)
  have fb := pt t' (by simp)
  have lt : Lss (lowQ t c) (lowQ t' c) := lss_trans fa s.frc fb l1 l2
  obtain ⟨m1, m2⟩ := med_lss fa fb lt
  have sm := (med_stp fa fb lt).1
  have gap : ∀ k ∈ ns, 0 < k ∧ ∃ j : Int, j * (k : Int) = c ∧ ∀ m : Int, 0 ≤ m → m < k → m * j ≤ t ∨ t' ≤ m * j := fun k mk => by
    obtain ⟨k0, dv⟩ := hd k mk
    refine ⟨k0, ((c / k : Nat) : Int), by exact_mod_cast Nat.div_mul_cancel dv, fun m h0 h1 => ?_⟩
    have mt : m * ((c / k : Nat) : Int) ∈ A ++ t :: t' :: B := by
      refine mem _ (List.mem_cons_of_mem _ (List.mem_cons_of_mem _ (List.mem_flatMap.mpr ⟨k, mk, List.mem_map.mpr ⟨m.toNat, List.mem_range.mpr (by omega), ?_⟩⟩)))
      rw [Int.mul_comm]
      congr 1
      omega
    obtain ⟨p1, p2, p3⟩ := List.pairwise_append.mp pw
    obtain ⟨p4, p5⟩ := List.pairwise_cons.mp p2
    obtain ⟨p6, p7⟩ := List.pairwise_cons.mp p5
    rcases List.mem_append.mp mt with a | a
    · have := p3 _ a t List.mem_cons_self; exact .inl (Int.le_of_lt this)
    · rcases List.mem_cons.mp a with a | a
      · exact .inl (Int.le_of_eq a)
      · rcases List.mem_cons.mp a with a | a
        · exact .inr (Int.le_of_eq a.symm)
        · exact .inr (Int.le_of_lt (p6 _ a))
  have q0 : 0 < q := by have := s.p0; have := s.pq; omega
  have v0 : 0 < (med (lowQ t c) (lowQ t' c)).2 := by have := sm.p0; have := sm.pq; omega
  exact isMet_alike W ne ⟨q0, low_lt ci l1, low_gt ci l2, s.p0, s.pq⟩ ⟨v0, low_lt ci m1, low_gt ci m2, sm.p0, sm.pq⟩ ci gap
/-- the differences of unlike marks -/
def diffs (ms : List Int) : List Int := ms.flatMap fun x => (ms.filter fun y => decide (x ≠ y)).map fun y => ((x - y).natAbs : Int)
theorem diffs_mem {ms : List Int} {v : Int} : v ∈ diffs ms ↔ ∃ x ∈ ms, ∃ y ∈ ms, x ≠ y ∧ v = ((x - y).natAbs : Int) := by
  unfold diffs
  rw [List.mem_flatMap]
  constructor
  · rintro ⟨x, hx, h⟩
    obtain ⟨y, hy, e⟩ := List.mem_map.mp h
    obtain ⟨m, ne⟩ := List.mem_filter.mp hy
    exact ⟨x, hx, y, m, of_decide_eq_true ne, e.symm⟩
  · rintro ⟨x, hx, y, hy, ne, e⟩
    exact ⟨x, hx, List.mem_map.mpr ⟨y, List.mem_filter.mpr ⟨hy, decide_eq_true ne⟩, e.symm⟩⟩
def waysOf (gs : List (List Int)) : List Nat := (sortU (diffs gs.flatten)).map Int.toNat
/-- the lot of the steps that meet a row so -/
def lotOf (gs : List (List Int)) : List Cut := lw (evs (isMet gs) (wpts (lcmA (waysOf gs)) (waysOf gs)))
/-- all numbers up to 40 divide it -/
def L40 : Nat := 5342931457063200
/-- a row that may stand: what the mathematics wants of it -/
structure RowM (gs : List (List Int)) : Prop where
  ne : gs.flatten ≠ []
  rng : ∀ m ∈ gs.flatten, 0 ≤ m ∧ m ≤ 40
theorem ways_ok {gs : List (List Int)} (R : RowM gs) : ∀ k ∈ waysOf gs, (0 < k ∧ k ≤ 40) ∧ k ∣ L40 := fun k m => by
  obtain ⟨z, mz, rfl⟩ := List.mem_map.mp m
  obtain ⟨x, hx, y, hy, ne, e⟩ := diffs_mem.mp (sortU_mem.mp mz)
  have a := R.rng x hx; have b := R.rng y hy
  have all : ∀ n : Fin 41, 1 ≤ n.val → n.val ∣ L40 := by decide +kernel
  rw [e, Int.toNat_natCast]
  exact ⟨⟨by omega, by omega⟩, all ⟨(x - y).natAbs, by omega⟩ (by show 1 ≤ (x - y).natAbs; omega)⟩
theorem ways_lcm {gs : List (List Int)} (R : RowM gs) : 0 < lcmA (waysOf gs) ∧ (∀ k ∈ waysOf gs, k ∣ lcmA (waysOf gs)) := by
  have dl : lcmA (waysOf gs) ∣ L40 := (lcm_fold (waysOf gs) 1).2.2 L40 (Nat.one_dvd _) fun q m => (ways_ok R q m).2
  exact ⟨Nat.pos_of_dvd_of_pos dl (by decide), (lcm_fold (waysOf gs) 1).2.1⟩
theorem lot_pts {gs : List (List Int)} (R : RowM gs) : Pts (wpts (lcmA (waysOf gs)) (waysOf gs)) := wpts_pts (ways_lcm R).1 (ways_lcm R).2
theorem lot_steady {gs : List (List Int)} (R : RowM gs) : Steady (isMet gs) (wpts (lcmA (waysOf gs)) (waysOf gs)) :=
  met_steady (fun x hx y hy ne => List.mem_map.mpr ⟨_, sortU_mem.mpr (diffs_mem.mpr ⟨x, hx, y, hy, ne, rfl⟩), Int.toNat_natCast _⟩) R.ne (ways_lcm R).1 fun k m => ⟨(ways_ok R k m).1.1, (ways_lcm R).2 k m⟩
/-- it holds a step just if this meets the row so -/
theorem lot_mem {gs : List (List Int)} (R : RowM gs) {p q : Int} (s : Stp p q) : mem (lotOf gs) (at' p q) = isMet gs p q := mem_lot (lot_pts R) (lot_steady R) s
end My
set_option Elab.async false
set_option linter.all false
set_option maxRecDepth 100000
set_option maxHeartbeats 8000000
set_option exponentiation.threshold 4000
namespace My
open PySem PySem.Spec PyProof.Rows L2 Gn Mt
abbrev s__are_ascending_marks : Stmt := top 68
abbrev s__check_row : Stmt := top 66
abbrev s__check_order : Stmt := top 67
abbrev s__is_met : Stmt := top 70
/-! rows of marks -/
theorem sc__are_ascending_marks : FnScope ["given", "mark", "at"] ["given"] (defScope s__are_ascending_marks) := ⟨rfl, rfl, rfl, by decide +kernel, rfl, by decide +kernel, by decide +kernel⟩
theorem sc__check_row : FnScope ["row", "met", "at", "marks", "mark"] ["row"] (defScope s__check_row) := ⟨rfl, rfl, rfl, by decide +kernel, rfl, by decide +kernel, by decide +kernel⟩
theorem sc__check_order : FnScope ["row", "marks", "place", "mark"] ["row"] (defScope s__check_order) := ⟨rfl, rfl, rfl, by decide +kernel, rfl, by decide +kernel, by decide +kernel⟩
theorem sc__is_met : FnScope ["row", "step", "top", "bottom", "start", "ahead", "marks", "ways", "mark", "way"] ["row", "step"] (defScope s__is_met) := ⟨rfl, rfl, rfl, by decide +kernel, rfl, by decide +kernel, by decide +kernel⟩
/-- an order of marks as it has to be -/
structure RowOk (gs : List (List Int)) : Prop where
  ne : gs ≠ []
  gne : ∀ g ∈ gs, g ≠ []
  asc : ∀ g ∈ gs, g.Pairwise (· < ·)
  rng : ∀ g ∈ gs, ∀ m ∈ g, 0 ≤ m ∧ m ≤ 40
  nd : gs.flatten.Nodup
  few : gs.flatten.length ≤ 41
theorem RowOk.row {gs : List (List Int)} (R : RowOk gs) : RowM gs where
  ne := by
    obtain ⟨g, r, eg⟩ : ∃ g r, gs = g :: r := by
      cases h : gs with
      | nil => exact absurd h R.ne
      | cons g r => exact ⟨g, r, rfl⟩
    have gn := R.gne g (by rw [eg]; exact List.mem_cons_self)
    rw [eg, List.flatten_cons]
    intro z
    exact gn (List.append_eq_nil_iff.mp z).1
  rng := fun m mm => by
    obtain ⟨g, mg', mm⟩ := List.mem_flatten.mp mm
    exact R.rng g mg' m mm
/-- its marks are the first ones, and 0 is its first one -/
structure OrdOk (gs : List (List Int)) : Prop extends RowOk gs where
  hd : gs.flatten.head? = some 0
  all : ∀ m ∈ gs.flatten, m < gs.flatten.length
section
variable {K : PySem.W.Frag} {H : Hp}
theorem row_inv {v : V} {gs : List (List Int)} (h : Dp K H v (ordD gs)) : ∃ a xs, v = .ref a ∧ SqT K H a xs ∧ DpAll K H xs (gs.map fun g => PyData.tuple (g.map PyData.int)) := tup_inv h
theorem ints_inv : ∀ {xs : List V} {g : List Int}, DpAll K H xs (g.map PyData.int) → xs = g.map V.int
  | _, [], h => by cases h; rfl
  | _, m :: g, h => by
    cases h with
    | cons a b =>
      cases a
      rw [ints_inv b]; rfl
theorem grp_inv {v : V} {g : List Int} (h : Dp K H v (.tuple (g.map PyData.int))) : ∃ a, v = .ref a ∧ SqT K H a (g.map V.int) := by
  obtain ⟨a, xs, rfl, h1, h2⟩ := tup_inv h
  rw [ints_inv h2] at h1
  exact ⟨a, rfl, h1⟩
end
theorem flat_ints (g : List Int) : (g.map V.int).all flatV = true := by
  rw [List.all_eq_true]
  intro x m
  obtain ⟨i, _, rfl⟩ := List.mem_map.mp m
  rfl
theorem eqV_int (i j : Int) : eqV (.int i) (.int j) = (i == j) := rfl
theorem inV_int (m : Int) (g : List Int) : inV (.int m) (g.map V.int) = decide (m ∈ g) := by
  unfold inV
  rw [Bool.eq_iff_iff, List.any_eq_true, decide_eq_true_eq]
  constructor
  · rintro ⟨x, mx, e⟩
    obtain ⟨i, mi, rfl⟩ := List.mem_map.mp mx
    have : i = m := by simpa [eqV_int] using e
    rw [← this]; exact mi
  · intro h
    exact ⟨.int m, List.mem_map.mpr ⟨m, h, rfl⟩, by simp [eqV_int]⟩
def spAsc (K : PySem.W.Frag) : Sp := fun vs H Q _ => ∃ (v : V) (g : List Int), vs = [v] ∧ Dp K H v (.tuple (g.map PyData.int)) ∧ g ≠ [] ∧ g.Pairwise (· < ·) ∧ (∀ m ∈ g, 0 ≤ m ∧ m ≤ 40) ∧ g.length ≤ 41 ∧ ∀ H', Same H H' → Q (.bl true) H'
def spRow (K : PySem.W.Frag) : Sp := fun vs H Q _ => ∃ (v : V) (gs : List (List Int)), vs = [v] ∧ Dp K H v (ordD gs) ∧ RowOk gs ∧ ∀ H', Same H H' → Q .non H'
def spOrd (K : PySem.W.Frag) : Sp := fun vs H Q _ => ∃ (v : V) (gs : List (List Int)), vs = [v] ∧ Dp K H v (ordD gs) ∧ OrdOk gs ∧ ∀ H', Same H H' → Q .non H'
def spMet (K : PySem.W.Frag) : Sp := fun vs H Q _ => ∃ (v st : V) (gs : List (List Int)) (x y : Int), vs = [v, st] ∧ Dp K H v (ordD gs) ∧ RowOk gs ∧ Dp K H st (frD (x, y)) ∧ Stp x y ∧ x.natAbs < 2 ^ 64 ∧ y.natAbs < 2 ^ 64 ∧ ∀ H', Same H H' → Q (.bl (isMet gs x y)) H'
/-- the built-ins that rows want -/
structure Br (mg : Str → Option Value) : Prop where
  c : Bc mg
  range : mg "range" = none
  all : mg "all" = none
  any : mg "any" = none
  max : mg "max" = none
  abs : mg "abs" = none
  sorted : mg "sorted" = none
  en : mg "enumerate" = none
  mm : ∃ tk, mg "MOST_MARK" = some (.int 40 tk)
section
variable {P : Program} {w : World} {K : PySem.W.Frag} {mg : Str → Option Value} {base : Heap}
theorem ok_asc {f fI fN : Addr} {fd fdI fdN : FuncData} (F : Fun K "_are_ascending_marks" "_are_ascending_marks" s__are_ascending_marks f fd) (B : Br mg) (D : Df K mg "is_integer" sIsInt ["given"] fI fdI) (N : Df K mg "is_number" sIsNum ["given", "least", "most"] fN fdN) : FnOk P w K mg base CX0 3 f fd ["given"] (spAsc K) := by
  have GN : FnOk P w K mg base CX0 2 fN fdN ["given", "least", "most"] spIsNum := ok_isNum N.F B.c D
  refine F.ok sc__are_ascending_marks (fun vs H Q E h => ?_) (fun cdv A outer s H vs Q E hr h => ?_)
  · obtain ⟨v, g, rfl, _⟩ := h
    rfl
  · obtain ⟨v, g, rfl, hv, ne, asc, rng, few, k⟩ := h
    obtain ⟨a, rfl, ha⟩ := grp_inv hv
    obtain ⟨tk, hmm⟩ := B.mm
    refine ⟨_, pss_cons (ps_if (PW.pt (pw_or (pt_not (pt_val (pe_callB (call_isi) (by rfl) B.c.isi (by decide +kernel) (pa_cons (pv 0) (pa_cons (pe_bltn (v := .ty "tuple") (by rfl) B.c.tuple (by decide +kernel) rfl) pa_nil))))) (pw_or1 (pt_not (pt_truth (pv 0) (by intro _; rfl)))))) (pss_one (ps_ret pe_bl)) pss_nil) (pss_cons (ps_if (pt_not (pt_val (pe_callB (cr_all rfl) (by rfl) B.all (by decide +kernel) (pa_cons (pe_lc (te := tCall spIsNum [] E0 (tCons (tVar 1) (tCons (tC (.int 0)) (tCons (tC (.int 40)) tNil)))) (own := [("mark", 1)]) (g := gName 1) (tt := tYes) rfl sc__are_ascending_marks.nd (pi_tup (pv 0)) (blkOk_by (N := ["given", "mark", "at"]) (sc := defScope s__are_ascending_marks) (by decide +kernel)) (fun _ _ _ _ _ => pg_name (i := 1) sc__are_ascending_marks.nd rfl (.inl rfl)) (fun _ _ _ _ _ => pts_nil) (fun _ _ _ _ _ => (pe_call GN hr (by rfl) N.g N.F.kp N.b .nil pass0 (pa_cons (pv 1) (pa_cons pe_int (pa_cons (pe_glob (v := .int 40) rfl hmm ⟨_, rfl⟩) pa_nil)))))) pa_nil)))) (pss_one (ps_ret pe_bl)) pss_nil) (pss_one (ps_ret (pe_callB (cr_all rfl) (by rfl) B.all (by decide +kernel) (pa_cons (pe_lc (te := tOp (fun x y H Q => ∃ i j, x = V.int i ∧ y = V.int j ∧ Q (.bl (decide (i < j))) H) (tOp (rIxT K) (tVar 0) (tOp (rI0 fun i j => .int (i - j)) (tVar 2) (tC (.int 1)))) (tOp (rIxT K) (tVar 0) (tVar 2))) (own := [("at", 2)]) (g := gName 2) (tt := tYes) rfl sc__are_ascending_marks.nd (pi_range2 (by rfl) B.range (pa_cons pe_int (pa_cons (pe_callB (call_len_seq) (by rfl) B.c.len (by decide +kernel) (pa_cons (pv 0) pa_nil)) pa_nil))) (blkOk_by (N := ["given", "mark", "at"]) (sc := defScope s__are_ascending_marks) (by decide +kernel)) (fun _ _ _ _ _ => pg_name (i := 2) sc__are_ascending_marks.nd rfl (.inl rfl)) (fun _ _ _ _ _ => pts_nil) (fun _ _ _ _ _ => (pe_cmpR op_lt (pe_ix ix_tup (pv 0) (pe_op op_sub (pv 2) pe_int) (fun _ _ => rfl)) (pe_ix ix_tup (pv 0) (pv 2) (fun _ _ => rfl)) (nomark _)))) pa_nil))))), ?_⟩
    refine ⟨_, rfl, .ref a, .ty "tuple", _, _, true, rfl, .ty "tuple", tyx_sqt ha, kit_ty (by decide +kernel), true, rfl, iteF ?_⟩
    have e0 : (g.map V.int).isEmpty = false := by cases g with | nil => exact absurd rfl ne | cons _ _ => rfl
    refine ⟨_, rfl, true, .inr (.inl ⟨_, ha, by rw [e0]; rfl⟩), iteF ?_⟩
    refine ⟨_, rfl, a, rfl, ⟨_, ha⟩, fun D nD => ?_⟩
    have s0 := same_put (o := HO.lst []) nD
    refine lc_tup (K := K) (a := a) (xs := g.map V.int) (fun i H' => H' D = some (.lst ((List.replicate i true).map V.bl)) ∧ Same H H') ⟨upd_same, s0⟩ (fun i H' _ ⟨_, e⟩ => sqT_same e ha) ?_ ?_
    · rintro i x H1 hi ⟨hD, e⟩
      rw [List.getElem?_map] at hi
      obtain ⟨m, hm, rfl⟩ := Option.map_eq_some_iff.mp hi
      have mm := List.mem_of_getElem? hm
      have li := (List.getElem?_eq_some_iff.mp hm).1
      refine ⟨rfl, _, rfl, m, 0, 40, rfl, (rng m mm).1, (rng m mm).2, _, hD, ?_, ?_, fun b o z => ?_⟩
      · rw [List.length_map, List.length_replicate]; exact small1000 (by omega)
      · rw [upd_same, List.replicate_succ', List.map_append]; rfl
      · rw [upd_ne (ne_of_none z nD)]; exact e _ _ z
    rintro H1 ⟨hD, e⟩
    refine ⟨D, _, rfl, SqL.of hD, ?_⟩
    have tr : (List.replicate (g.map V.int).length true).all id = true := by simp
    rw [tr]
    refine ⟨true, rfl, iteF ?_⟩
    have ha1 := sqT_same e ha
    refine ⟨_, rfl, a, _, rfl, .inr ha1, 1, _, rfl, ⟨by decide, by decide, by omega, ?_⟩, fun D2 nD2 => ?_⟩
    · rw [List.length_map]; omega
    have s2 := same_put (o := HO.lst []) nD2
    rw [List.length_map]
    refine lc_range (lo := 1) (n := ((g.length : Int) - 1).toNat) (fun i H' => H' D2 = some (.lst ((List.replicate i true).map V.bl)) ∧ Same H1 H') ⟨upd_same, s2⟩ ?_ ?_
    · rintro i H2 hi ⟨hD2, e2⟩
      have lt1 : i < g.length := by omega
      have lt2 : i + 1 < g.length := by omega
      have h1 : (g.map V.int)[i]? = some (.int g[i]) := by rw [List.getElem?_map, List.getElem?_eq_getElem lt1]; rfl
      have h2 : (g.map V.int)[i + 1]? = some (.int g[i + 1]) := by rw [List.getElem?_map, List.getElem?_eq_getElem lt2]; rfl
      have ha2 := sqT_same e2 ha1
      have lss : g[i] < g[i + 1] := List.pairwise_iff_getElem.mp asc i (i + 1) lt1 lt2 (by omega)
      refine ⟨rfl, _, rfl, _, rfl, _, _, rfl, rfl, a, _, _, _, rfl, rfl, ha2, at_of (j := i) (by omega) h1, _, rfl, _, rfl, a, _, _, _, rfl, rfl, ha2, at_of (j := i + 1) (by omega) h2, _, _, rfl, rfl, _, hD2, ?_, ?_, fun b o z => ?_⟩
      · rw [List.length_map, List.length_replicate]; exact small1000 (by omega)
      · rw [decide_eq_true lss, upd_same, List.replicate_succ', List.map_append]; rfl
      · rw [upd_ne (ne_of_none z nD2)]; exact e2 _ _ z
    · rintro H2 ⟨hD2, e2⟩
      refine ⟨D2, _, rfl, SqL.of hD2, ?_⟩
      have tr2 : (List.replicate ((g.length : Int) - 1).toNat true).all id = true := by simp
      rw [tr2]
      exact k H2 (e.trans e2)
theorem ok_row {f fI fN fA : Addr} {fd fdI fdN fdA : FuncData} (F : Fun K "_check_row" "_check_row" s__check_row f fd) (B : Br mg) (D : Df K mg "is_integer" sIsInt ["given"] fI fdI) (N : Df K mg "is_number" sIsNum ["given", "least", "most"] fN fdN) (Aa : Df K mg "_are_ascending_marks" s__are_ascending_marks ["given"] fA fdA) : FnOk P w K mg base CX0 4 f fd ["row"] (spRow K) := by
  have GA : FnOk P w K mg base CX0 3 fA fdA ["given"] (spAsc K) := ok_asc Aa.F B D N
  refine F.ok sc__check_row (fun vs H Q E h => ?_) (fun cdv A outer s H vs Q E hr h => ?_)
  · obtain ⟨v, gs, rfl, _⟩ := h
    rfl
  · obtain ⟨v, gs, rfl, hv, R, k⟩ := h
    obtain ⟨a, xs, rfl, ha, hx⟩ := row_inv hv
    have lx := dps_len hx
    rw [List.length_map] at lx
    refine ⟨_, pss_cons (ps_if (PW.pt (pw_or (pt_not (pt_val (pe_callB (call_isi) (by rfl) B.c.isi (by decide +kernel) (pa_cons (pv 0) (pa_cons (pe_bltn (v := .ty "tuple") (by rfl) B.c.tuple (by decide +kernel) rfl) pa_nil))))) (pw_or1 (pt_not (pt_truth (pv 0) (by intro _; rfl)))))) (pss_one (ps_never)) pss_nil) (pss_cons (ps_set (i := 1) sc__check_row.nd rfl (.inr rfl) (pe_lst pa_nil)) (pss_one (ps_for PassesOwn.never rfl (pi_enumT (by rfl) B.en (pa_cons (pv 0) pa_nil)) (pg_tup (by rfl) (pgs_cons (pg_name (i := 2) sc__check_row.nd rfl (.inl rfl)) (pgs_cons (pg_name (i := 3) sc__check_row.nd rfl (.inl rfl)) pgs_nil))) (pss_cons (ps_if (PW.pt (pw_or (pt_not (pt_val (pe_call GA hr (by rfl) Aa.g Aa.F.kp Aa.b .nil pass0 (pa_cons (pv 3) pa_nil)))) (pw_or1 (pt_val (pe_callB (cr_any rfl) (by rfl) B.any (by decide +kernel) (pa_cons (pe_lc (te := tOp (rIn K false) (tVar 4) (tVar 1)) (own := [("mark", 4)]) (g := gName 4) (tt := tYes) rfl sc__check_row.nd (pi_tup (pv 3)) (blkOk_by (N := ["row", "met", "at", "marks", "mark"]) (sc := defScope s__check_row) (by decide +kernel)) (fun _ _ _ _ _ => pg_name (i := 4) sc__check_row.nd rfl (.inl rfl)) (fun _ _ _ _ _ => pts_nil) (fun _ _ _ _ _ => (pe_cmpR op_in_seq (pv 4) (pv 1) (by rfl)))) pa_nil)))))) (pss_one (ps_never)) pss_nil) (pss_one (ps_expr (pe_bm PySem.F.plainAttrs_list PySem.F.slot_list_extend PySem.F.type_list_extend mt_extT (pv 1) (pa_cons (pv 3) pa_nil)))))))), ?_⟩
    refine ⟨_, rfl, .ref a, .ty "tuple", _, _, true, rfl, .ty "tuple", tyx_sqt ha, kit_ty (by decide +kernel), true, rfl, iteF ?_⟩
    have e0 : xs.isEmpty = false := by
      cases xs with
      | nil => exact absurd (List.eq_nil_of_length_eq_zero lx.symm) R.ne
      | cons _ _ => rfl
    refine ⟨_, rfl, true, .inr (.inl ⟨_, ha, by rw [e0]; rfl⟩), iteF ?_⟩
    refine ⟨Nat.zero_le _, fun D nD => ?_⟩
    have s0 := same_put (o := HO.lst []) nD
    have gD : upd H D (HO.lst []) D = some (.lst []) := upd_same
    generalize upd H D (HO.lst []) = H0 at *
    refine nxI ⟨_, rfl, a, xs, rfl, sqT_same s0 ha, for_en (K := K) (a := a) (xs := xs) (fun i σ H' => ∃ p q, σ = [some (.ref a), some (.ref D), p, q, none] ∧ H' D = some (.lst (((gs.take i).flatten).map V.int)) ∧ ∀ b o, b ≠ D → H0 b = some o → H' b = some o)
      ⟨none, none, rfl, gD, fun b o _ e => e⟩ (fun i σ H' ⟨_, _, _, _, kp⟩ => ?_) ?_ ?_⟩
    · rcases ha with (h | ⟨o, h⟩) | h
      · exact .inl (.inl (kp _ _ (ne_of_none h nD) (s0 _ _ h)))
      · exact .inl (.inr ⟨o, kp _ _ (ne_of_none h nD) (s0 _ _ h)⟩)
      · exact .inr h
    · rintro i x r σ H1 hi ⟨p, q, rfl, hD, kp⟩ nr
      have sH : Same H H1 := fun b o e => kp _ _ (ne_of_none e nD) (s0 _ _ e)
      obtain ⟨d, hd, dx⟩ := dps_get (dps_same sH _ _ hx) hi
      rw [List.getElem?_map] at hd
      obtain ⟨g, hg, rfl⟩ := Option.map_eq_some_iff.mp hd
      have mg' := List.mem_of_getElem? hg
      have sr := same_put (o := HO.tup [V.int (i : Nat), x]) nr
      have gr : upd H1 r (HO.tup [V.int (i : Nat), x]) r = some (.tup [V.int (i : Nat), x]) := upd_same
      have hDr := sr _ _ hD
      generalize upd H1 r (HO.tup [V.int (i : Nat), x]) = H2 at *
      have dx2 := dp_same sr _ _ dx
      have fl : gs.flatten = (gs.take i).flatten ++ (g ++ (gs.drop (i + 1)).flatten) := by
        have e1 : gs = gs.take i ++ (g :: gs.drop (i + 1)) := by
          have l := (List.getElem?_eq_some_iff.mp hg)
          rw [← l.2, List.getElem_cons_drop, List.take_append_drop]
        have e2 := congrArg List.flatten e1
        rw [List.flatten_append, List.flatten_cons] at e2
        exact e2
      have few := R.few
      have nd := R.nd
      rw [fl] at few nd
      rw [List.length_append, List.length_append] at few
      refine ⟨r, _, rfl, SqT.of gr, rfl, _, _, rfl, _, _, rfl, rfl, ?_⟩
      refine ⟨_, rfl, x, g, rfl, dx2, R.gne g mg', R.asc g mg', R.rng g mg', by omega, fun H3 s3 => ⟨true, rfl, iteF ?_⟩⟩
      have hD3 := s3 _ _ hDr
      obtain ⟨ga, rfl, hga⟩ := grp_inv (dp_same s3 _ _ dx2)
      refine ⟨_, rfl, ga, rfl, ⟨_, hga⟩, fun D2 nD2 => ?_⟩
      have s4 := same_put (o := HO.lst []) nD2
      refine lc_tup (K := K) (a := ga) (xs := g.map V.int) (fun j H' => H' D2 = some (.lst ((List.replicate j false).map V.bl)) ∧ Same H3 H') ⟨upd_same, s4⟩ (fun j H' _ ⟨_, e⟩ => sqT_same e hga) ?_ ?_
      · rintro j y H4 hj ⟨hD2, e4⟩
        rw [List.getElem?_map] at hj
        obtain ⟨m, hm, rfl⟩ := Option.map_eq_some_iff.mp hj
        have mm := List.mem_of_getElem? hm
        have lj := (List.getElem?_eq_some_iff.mp hm).1
        refine ⟨rfl, _, rfl, _, rfl, D, _, rfl, .inl (SqL.of (e4 _ _ hD3)), rfl, flat_ints _, _, hD2, ?_, ?_, fun b o z => ?_⟩
        · rw [List.length_map, List.length_replicate]; exact small1000 (by omega)
        · have no : decide (m ∈ (gs.take i).flatten) = false := decide_eq_false fun z => (List.nodup_append.mp nd).2.2 m z m (List.mem_append_left _ mm) rfl
          rw [if_neg (by decide), inV_int, no, upd_same, List.replicate_succ', List.map_append]; rfl
        · rw [upd_ne (ne_of_none z nD2)]; exact e4 _ _ z
      · rintro H4 ⟨hD2, e4⟩
        refine ⟨D2, _, rfl, SqL.of hD2, ?_⟩
        have fa : (List.replicate (g.map V.int).length false).any id = false := by simp
        rw [fa]
        refine ⟨false, rfl, iteF ?_⟩
        have hD4 := e4 _ _ hD3
        refine nxI ⟨_, rfl, .inl ⟨rfl, _, SqL.of hD4⟩, _, rfl, D, ga, _, _, rfl, rfl, hD4, sqT_same e4 hga, ?_, _, _, rfl, ?_, fun b o hb e => ?_⟩
        · rw [List.length_map, List.length_map]; exact Nat.le_of_lt (small1000 (by omega))
        · rw [upd_same, List.take_add_one, hg, List.flatten_append, List.map_append]
          simp
        · rw [upd_ne hb]
          exact e4 _ _ (s3 _ _ (sr _ _ (kp _ _ hb e)))
    · rintro σ H1 ⟨p, q, rfl, hD, kp⟩
      exact k H1 fun b o e => kp _ _ (ne_of_none e nD) (s0 _ _ e)
end
end My
set_option Elab.async false
set_option linter.all false
set_option maxRecDepth 100000
set_option maxHeartbeats 8000000
set_option exponentiation.threshold 4000
namespace My
open PySem PySem.Spec PyProof.Rows L2 Gn Mt
/-! orders: how they are checked, whether a step makes one -/
section
variable {P : Program} {w : World} {K : PySem.W.Frag} {mg : Str → Option Value} {base : Heap}
theorem ok_ord {f fI fN fA fR : Addr} {fd fdI fdN fdA fdR : FuncData} (F : Fun K "_check_order" "_check_order" s__check_order f fd) (B : Br mg) (D : Df K mg "is_integer" sIsInt ["given"] fI fdI) (N : Df K mg "is_number" sIsNum ["given", "least", "most"] fN fdN) (Aa : Df K mg "_are_ascending_marks" s__are_ascending_marks ["given"] fA fdA) (Rr : Df K mg "_check_row" s__check_row ["row"] fR fdR) : FnOk P w K mg base CX0 5 f fd ["row"] (spOrd K) := by
  have GR : FnOk P w K mg base CX0 4 fR fdR ["row"] (spRow K) := ok_row Rr.F B D N Aa
  refine F.ok sc__check_order (fun vs H Q E h => ?_) (fun cdv A outer s H vs Q E hr h => ?_)
  · obtain ⟨v, gs, rfl, _⟩ := h
    rfl
  · obtain ⟨v, gs, rfl, hv, R, k⟩ := h
    have hv0 := hv
    obtain ⟨a, xs, rfl, ha, hx⟩ := row_inv hv
    refine ⟨_, pss_cons (ps_expr (pe_call GR hr (by rfl) Rr.g Rr.F.kp Rr.b .nil pass0 (pa_cons (pv 0) pa_nil))) (pss_cons ((ps_setLc2 (i := 1) (te := tVar 3) (own := [("place", 2), ("mark", 3)]) (vs1 := [3]) (g := gName 2) (tt := tYes) (g1 := gName 3) (tt1 := tYes) (wi1 := iTup K (tVar 2)) rfl sc__check_order.nd rfl rfl (sw_true rfl rfl rfl (by decide +kernel)) (pi_tup (pv 0)) (blkOk_by (N := ["row", "marks", "place", "mark"]) (sc := defScope s__check_order) (by decide +kernel)) (by decide) (fun _ _ _ _ _ => pg_name (i := 2) sc__check_order.nd rfl (.inl rfl)) (fun _ _ _ _ _ => pts_nil) (fun _ _ _ _ _ => pi_tup (pv 2)) (fun _ _ _ _ _ => pg_name (i := 3) sc__check_order.nd rfl (.inl rfl)) (fun _ _ _ _ _ => pts_nil) (fun _ _ _ _ _ => pv 3))) (pss_one (ps_if (PW.pt (pw_or (pt_cmpR op_ge (pe_callB (cr_max rfl) (by rfl) B.max (by decide +kernel) (pa_cons (pv 1) pa_nil)) (pe_callB (call_len_seq) (by rfl) B.c.len (by decide +kernel) (pa_cons (pv 1) pa_nil)) (nomark _)) (pw_or1 (pt_cmpR op_ne (pe_ix ix_list (pv 1) pe_int (fun _ _ => rfl)) pe_int (nomark _))))) (pss_one (ps_never)) pss_nil))), ?_⟩
    refine ⟨_, rfl, .ref a, gs, rfl, hv0, R.toRowOk, fun H1 s1 => ?_⟩
    have ha1 := sqT_same s1 ha
    have hx1 := dps_same s1 _ _ hx
    refine ⟨_, rfl, a, rfl, ⟨_, ha1⟩, fun D nD => ?_⟩
    have s2 := same_put (o := HO.lst []) nD
    refine lc2_it (walk_tup (K := K) (a := a) (xs := xs)) (fun i H' => H' D = some (.lst (((gs.take i).flatten).map V.int)) ∧ Same H1 H') ⟨upd_same, s2⟩ (fun i H' _ ⟨_, e⟩ => sqT_same e ha1) ?_ ?_
    · rintro i x H2 H3 hi ⟨hD, e2⟩ ⟨rfl, hxi⟩
      obtain ⟨d, hd, dx⟩ := dps_get (dps_same e2 _ _ hx1) hxi
      rw [List.getElem?_map] at hd
      obtain ⟨g, hg, rfl⟩ := Option.map_eq_some_iff.mp hd
      obtain ⟨ag, rfl, hag⟩ := grp_inv dx
      have few := R.few
      have fl : ((gs.take i).flatten).length + g.length ≤ 41 := by
        have e1 : gs = gs.take i ++ (g :: gs.drop (i + 1)) := by
          have l := (List.getElem?_eq_some_iff.mp hg)
          rw [← l.2, List.getElem_cons_drop, List.take_append_drop]
        have e2 := congrArg (fun l => l.flatten.length) e1
        simp only [List.flatten_append, List.flatten_cons, List.length_append] at e2
        omega
      refine ⟨rfl, yesI ?_⟩
      refine ⟨_, rfl, ag, rfl, ⟨_, hag⟩, in1 (walk_tup (K := K) (a := ag) (xs := g.map V.int)) (fun j H' => H' D = some (.lst (((gs.take i).flatten ++ g.take j).map V.int)) ∧ Same H1 H') ⟨by simpa using hD, e2⟩ (fun j H' _ ⟨_, e⟩ => by
        have dx' := dps_at (dps_same e _ _ hx1) (i := i) (by rw [List.getElem?_map, hg]; rfl)
        obtain ⟨x', hx', dx'⟩ := dx'
        have ex : x' = .ref ag := Option.some.inj (hx'.symm.trans hxi)
        subst ex
        obtain ⟨ag', e', h'⟩ := grp_inv dx'
        cases e'
        exact h') ?_ ?_⟩
      · rintro j y H4 H5 hj ⟨hD4, e4⟩ ⟨rfl, hyj⟩
        rw [List.getElem?_map] at hyj
        obtain ⟨m, hm, rfl⟩ := Option.map_eq_some_iff.mp hyj
        have lj := (List.getElem?_eq_some_iff.mp hm).1
        refine ⟨rfl, yesI ⟨_, rfl, _, hD4, ?_, ?_, fun b o z => ?_⟩⟩
        · rw [List.length_map, List.length_append, List.length_take]; exact small1000 (by omega)
        · rw [upd_same, List.take_add_one, hm]
          simp only [List.map_append, List.append_assoc]; rfl
        · rw [upd_ne (ne_of_none z nD)]; exact e4 _ _ z
      · rintro H4 ⟨hD4, e4⟩
        refine ⟨?_, e4⟩
        rw [List.length_map, List.take_length] at hD4
        rw [hD4, List.take_add_one, hg, List.flatten_append]
        simp
    · rintro H2 ⟨hD, e2⟩
      have lx := dps_len hx
      rw [List.length_map] at lx
      rw [lx, List.take_length] at hD
      have ne : gs.flatten ≠ [] := fun z => by have := R.hd; rw [z] at this; cases this
      refine nxI ⟨_, rfl, D, gs.flatten, rfl, SqL.of hD, List.length_pos_iff.mpr ne, fun m mm _ => ?_⟩
      refine ⟨_, rfl, D, _, rfl, .inl (SqL.of hD), _, _, rfl, rfl, _, rfl, ?_⟩
      have lt := R.all m mm
      rw [List.length_map, decide_eq_false (show ¬ (m ≥ (gs.flatten.length : Int)) by omega)]
      refine iteF ⟨_, rfl, D, _, 0, .int 0, rfl, rfl, SqL.of hD, at_of (j := 0) rfl ?_, rfl, _, rfl, iteF (k H2 (s1.trans e2))⟩
      have h0 := R.hd
      cases hh : gs.flatten with
      | nil => exact absurd hh ne
      | cons c r => rw [hh] at h0; cases h0; rfl
theorem ok_met {f : Addr} {fd : FuncData} (F : Fun K "_is_met" "_is_met" s__is_met f fd) (B : Br mg) : FnOk P w K mg base CX0 1 f fd ["row", "step"] (spMet K) := by
  refine F.ok sc__is_met (fun vs H Q E h => ?_) (fun cdv A outer s H vs Q E hr h => ?_)
  · obtain ⟨v, st, gs, x, y, rfl, _⟩ := h
    rfl
  · obtain ⟨v, st, gs, x, y, rfl, hv, R, hst, Sx, xb, yb, k⟩ := h
    obtain ⟨a, xs, rfl, ha, hx⟩ := row_inv hv
    obtain ⟨ts, rfl, hts⟩ := fr_inv hst
    have lx := dps_len hx
    rw [List.length_map] at lx
    have y0 : y ≠ 0 := by have := Sx.p0; have := Sx.pq; omega
    refine ⟨_, pss_cons (ps_asg (pv 1) (pg_tup (by rfl) (pgs_cons (pg_name (i := 2) sc__is_met.nd rfl (.inr rfl)) (pgs_cons (pg_name (i := 3) sc__is_met.nd rfl (.inr rfl)) pgs_nil)))) (pss_cons (ps_set (i := 4) sc__is_met.nd rfl (.inr rfl) (pe_ix ix_tup (pe_ix ix_tup (pv 0) pe_int (fun _ _ => rfl)) pe_int (fun _ _ => rfl))) (pss_cons (ps_set (i := 5) sc__is_met.nd rfl (.inl rfl) (pe_un un_neg pe_int)) (pss_cons (ps_for PassesOwn.never rfl (pi_tup (pv 0)) (pg_name (i := 6) sc__is_met.nd rfl (.inl rfl)) (pss_cons (ps_set (i := 7) sc__is_met.nd rfl (.inr rfl) (pe_lc (te := tOp (rI (fun _ j => j ≠ 0) fun i j => .int (i.fmod j)) (tOp (fun x y H Q => ∃ i j, x = V.int i ∧ y = V.int j ∧ CMulW i j ∧ Q (.int (i * j)) H) (tVar 2) (tOp (rI0 fun i j => .int (i - j)) (tVar 8) (tVar 4))) (tVar 3)) (own := [("mark", 8)]) (g := gName 8) (tt := tYes) rfl sc__is_met.nd (pi_tup (pv 6)) (blkOk_by (N := ["row", "step", "top", "bottom", "start", "ahead", "marks", "ways", "mark", "way"]) (sc := defScope s__is_met) (by decide +kernel)) (fun _ _ _ _ _ => pg_name (i := 8) sc__is_met.nd rfl (.inl rfl)) (fun _ _ _ _ _ => pts_nil) (fun _ _ _ _ _ => (pe_op op_modN (pe_op op_mulW (pv 2) (pe_op op_sub (pv 8) (pv 4))) (pv 3))))) (pss_cons (ps_if (PW.pt (pw_or (pt_cmpR op_le (pe_ix ix_list (pv 7) pe_int (fun _ _ => rfl)) (pv 5) (nomark _)) (pw_or1 (pt_val (pe_callB (cr_any rfl) (by rfl) B.any (by decide +kernel) (pa_cons (pe_lc (te := tOp rNe (tVar 9) (tOp (rIxL K) (tVar 7) (tC (.int 0)))) (own := [("way", 9)]) (g := gName 9) (tt := tYes) rfl sc__is_met.nd (pi_list (pv 7)) (blkOk_by (N := ["row", "step", "top", "bottom", "start", "ahead", "marks", "ways", "mark", "way"]) (sc := defScope s__is_met) (by decide +kernel)) (fun _ _ _ _ _ => pg_name (i := 9) sc__is_met.nd rfl (.inl rfl)) (fun _ _ _ _ _ => pts_nil) (fun _ _ _ _ _ => (pe_cmpR op_ne (pv 9) (pe_ix ix_list (pv 7) pe_int (fun _ _ => rfl)) (nomark _)))) pa_nil)))))) (pss_one (ps_ret pe_bl)) pss_nil) (pss_one (ps_set (i := 5) sc__is_met.nd rfl (.inl rfl) (pe_ix ix_list (pv 7) pe_int (fun _ _ => rfl))))))) (pss_one (ps_ret pe_bl))))), ?_⟩
    refine ⟨_, rfl, ts, _, rfl, hts, rfl, _, _, rfl, _, _, rfl, rfl, ?_⟩
    obtain ⟨g0, rest, eg⟩ : ∃ g r, gs = g :: r := by
      cases h : gs with
      | nil => exact absurd h R.ne
      | cons g r => exact ⟨g, r, rfl⟩
    have g0m : g0 ∈ gs := by rw [eg]; exact List.mem_cons_self
    obtain ⟨m0, r0, em⟩ : ∃ m r, g0 = m :: r := by
      cases h : g0 with
      | nil => exact absurd h (R.gne g0 g0m)
      | cons m r => exact ⟨m, r, rfl⟩
    have st0 : gs.flatten.headD 0 = m0 := by rw [eg, em]; rfl
    have hm0 : 0 ≤ m0 ∧ m0 ≤ 40 := R.rng g0 g0m m0 (by rw [em]; exact List.mem_cons_self)
    have h0 : ∃ z, xs[0]? = some z ∧ Dp K H z (.tuple (g0.map PyData.int)) := dps_at hx (by rw [eg]; rfl)
    obtain ⟨z, hz, dz⟩ := h0
    obtain ⟨az, rfl, haz⟩ := grp_inv dz
    refine ⟨_, rfl, a, xs, 0, .ref az, rfl, rfl, ha, at_of (j := 0) rfl hz, az, _, 0, .int m0, rfl, rfl, haz, at_of (j := 0) rfl (by rw [em]; rfl), ?_⟩
    refine ⟨1, rfl, ?_⟩
    unfold isMet at k
    rw [st0] at k
    generalize hF : (fun k => (x * (k - m0)).fmod y) = φ at *
    refine nxI ⟨_, rfl, a, rfl, ⟨_, ha⟩, for_tup (K := K) (a := a) (xs := xs) (fun i σ H' => ∃ (b : Int) (u1 u2 : Option V), σ = [some (.ref a), some (.ref ts), some (.int x), some (.int y), some (.int m0), some (.int b), u1, u2, none, none] ∧ met φ (-1) gs = met φ b (gs.drop i) ∧ Same H H')
      ⟨-1, none, none, rfl, rfl, Same.refl _⟩ (fun i σ H' _ ⟨_, _, _, _, _, e⟩ => sqT_same e ha) ?_ ?_⟩
    · rintro i zz σ H1 hi ⟨b, u1, u2, rfl, em1, e1⟩
      obtain ⟨d, hd, dx⟩ := dps_get (dps_same e1 _ _ hx) hi
      rw [List.getElem?_map] at hd
      obtain ⟨g, hg, rfl⟩ := Option.map_eq_some_iff.mp hd
      have mg' := List.mem_of_getElem? hg
      obtain ⟨ag, rfl, hag⟩ := grp_inv dx
      have lg := (List.getElem?_eq_some_iff.mp hg)
      have dr : gs.drop i = g :: gs.drop (i + 1) := by rw [← lg.2, List.getElem_cons_drop]
      obtain ⟨c, r, ec⟩ : ∃ m r, g = m :: r := by
        cases h : g with
        | nil => exact absurd h (R.gne g mg')
        | cons m r => exact ⟨m, r, rfl⟩
      have fewg : g.length ≤ 41 := by
        have := R.few
        have z : g.length ≤ gs.flatten.length := (List.sublist_flatten_of_mem mg').length_le
        omega
      refine ⟨_, rfl, ag, rfl, ⟨_, hag⟩, fun D nD => ?_⟩
      have s2 := same_put (o := HO.lst []) nD
      refine lc_tup (K := K) (a := ag) (xs := g.map V.int) (fun j H' => H' D = some (.lst (((g.take j).map φ).map V.int)) ∧ Same H1 H') ⟨upd_same, s2⟩ (fun j H' _ ⟨_, e⟩ => sqT_same e hag) ?_ ?_
      · rintro j zj H2 hj ⟨hD, e2⟩
        rw [List.getElem?_map] at hj
        obtain ⟨m, hm, rfl⟩ := Option.map_eq_some_iff.mp hj
        have rm := R.rng g mg' m (List.mem_of_getElem? hm)
        refine ⟨rfl, _, rfl, _, rfl, _, rfl, _, _, rfl, rfl, _, _, rfl, rfl, wide_mul (a := 64) (b := 64) xb (by omega) (by decide) (by decide) (by decide), _, rfl, _, _, rfl, rfl, y0, _, hD, ?_, ?_, fun b o z => ?_⟩
        · rw [List.length_map, List.length_map, List.length_take]; exact small1000 (by omega)
        · rw [upd_same, List.take_add_one, hm, List.map_append, List.map_append]
          rw [← hF]; rfl
        · rw [upd_ne (ne_of_none z nD)]; exact e2 _ _ z
      rintro H2 ⟨hD, e2⟩
      rw [List.length_map, List.take_length] at hD
      have hDc : H2 D = some (.lst ((φ c :: r.map φ).map V.int)) := by rw [hD, ec]; rfl
      refine nxI ⟨_, rfl, D, _, 0, .int (φ c), rfl, rfl, SqL.of hDc, at_of (j := 0) rfl rfl, _, rfl, _, _, rfl, rfl, _, rfl, ?_⟩
      have mt : met φ b (g :: gs.drop (i + 1)) = if φ c ≤ b ∨ (c :: r).any (fun k => decide (φ k ≠ φ c)) = true then false else met φ (φ c) (gs.drop (i + 1)) := by rw [ec]; rfl
      have no : ∀ H', Same H1 H' → (φ c ≤ b ∨ (c :: r).any (fun k => decide (φ k ≠ φ c)) = true) → Q (.bl false) H' := fun H' sz z => by
        have q := k H' (e1.trans sz)
        rw [em1, dr, mt, if_pos z] at q
        exact q
      by_cases hle : φ c ≤ b
      · rw [decide_eq_true hle]
        exact iteT (iteT (no H2 e2 (.inl hle)))
      · rw [decide_eq_false hle]
        refine iteF ⟨_, rfl, D, rfl, ⟨_, SqL.of hDc⟩, fun D2 nD2 => ?_⟩
        have s3 := same_put (o := HO.lst []) nD2
        refine lc_list (K := K) (a := D) (xs := (φ c :: r.map φ).map V.int) (fun j H' => H' D2 = some (.lst ((((c :: r).take j).map fun k => decide (φ k ≠ φ c)).map V.bl)) ∧ Same H2 H') ⟨upd_same, s3⟩ (fun j H' _ ⟨_, e⟩ => SqL.of (e _ _ hDc)) ?_ ?_
        · rintro j zj H3 hj ⟨hD2, e3⟩
          have hj : (((c :: r).map φ).map V.int)[j]? = some zj := hj
          rw [List.getElem?_map, List.getElem?_map] at hj
          obtain ⟨wj, hwj, rfl⟩ := Option.map_eq_some_iff.mp hj
          obtain ⟨m, hm, rfl⟩ := Option.map_eq_some_iff.mp hwj
          refine ⟨rfl, _, rfl, _, rfl, D, _, 0, .int (φ c), rfl, rfl, SqL.of (e3 _ _ hDc), at_of (j := 0) rfl rfl, rfl, _, hD2, ?_, ?_, fun b o z => ?_⟩
          · rw [List.length_map, List.length_map, List.length_take]
            have : (c :: r).length = g.length := by rw [ec]
            exact small1000 (by omega)
          · have ei : (!decide (V.int (φ m) = V.int (φ c))) = decide (φ m ≠ φ c) := by
              by_cases h : φ m = φ c
              · rw [decide_eq_true (congrArg V.int h), decide_eq_false (fun z => z h)]; rfl
              · rw [decide_eq_false (fun z => h (V.int.inj z)), decide_eq_true h]; rfl
            rw [upd_same, List.take_add_one, hm, List.map_append, List.map_append, ei]; rfl
          · rw [upd_ne (ne_of_none z nD2)]; exact e3 _ _ z
        rintro H3 ⟨hD2, e3⟩
        have full : (c :: r).take ((φ c :: r.map φ).map V.int).length = c :: r := List.take_of_length_le (by simp)
        rw [full] at hD2
        refine ⟨D2, _, rfl, SqL.of hD2, ?_⟩
        have an : ((c :: r).map fun k => decide (φ k ≠ φ c)).any id = (c :: r).any (fun k => decide (φ k ≠ φ c)) := by rw [List.any_map]; rfl
        rw [an]
        refine ⟨_, rfl, ?_⟩
        refine ite2 (fun hc => no H3 (e2.trans e3) (.inr hc)) (fun hc => ?_)
        refine nxI ⟨_, rfl, D, _, 0, .int (φ c), rfl, rfl, SqL.of (e3 _ _ hDc), at_of (j := 0) rfl rfl, φ c, _, _, rfl, ?_, (e1.trans e2).trans e3⟩
        rw [em1, dr, mt, if_neg (fun z => z.elim hle hc)]
    · rintro σ H1 ⟨b, u1, u2, rfl, em1, e1⟩
      have : gs.drop xs.length = [] := List.drop_of_length_le (by omega)
      rw [this] at em1
      have q := k H1 e1
      rw [em1] at q
      exact q
end
end My
set_option Elab.async false
set_option linter.all false
set_option maxRecDepth 100000
set_option maxHeartbeats 8000000
set_option exponentiation.threshold 4000
namespace My
open PySem PySem.Spec PyProof.Rows L2 Gn Mt
abbrev s__steps_that_meet : Stmt := top 69
/-! the lot of the steps that make an order -/
theorem sc__steps_that_meet : FnScope ["row", "marks", "ways", "place", "mark", "other"] ["row"] (defScope s__steps_that_meet) := ⟨rfl, rfl, rfl, by decide +kernel, rfl, by decide +kernel, by decide +kernel⟩
def qM : Str := (envOfC "_steps_that_meet" (defScope s__steps_that_meet) 0 0 .none).qual ++ "<lambda>"
section
variable {P : Program} {w : World} {K : PySem.W.Frag} {mg : Str → Option Value} {base : Heap}
/-- as Fun.ok, the code object told -/
theorem okC {x qual : Str} {st : Stmt} {f : Addr} {fd : FuncData} {N ps : List Str} {k : Nat} {sp : Sp} (F : Fun K x qual st f fd) (S : FnScope N ps (defScope st)) (len : ∀ vs H Q E, sp vs H Q E → vs.length = ps.length)
    (body : ∀ (A : Around) (outer : List Env) (s : Shared) (H : Hp) (vs : List V) (Q : VK) (E : XK), Room k (A.deeper (envOfC qual (defScope st) s.heap.objs.size f fd.code)) → sp vs H Q E →
      ∃ t, PSs (cxOf CX0 P w K mg base N qual (defScope st) f fd.code A outer s H E).nox (defBody st) t ∧ t { nx := fun _ G => Q .non G, rt := Q } (start N vs) H) : FnOk P w K mg base CX0 (k + 1) f fd ps sp := by
  obtain ⟨_, _, _, _, _, _, cdv, _, _, rfl, lk, hcd⟩ := F.ex
  refine fn_of lk hcd S len fun A o s H vs Q E hr h => ?_
  obtain ⟨t, ht, q⟩ := body A o s H vs Q E hr h
  exact ⟨t, ht.nox, q⟩
end
mutual
theorem dp_ext {K : PySem.W.Frag} {H H' : Hp} (k : LamX.ExtN H H') : ∀ (d : PyData) (v : V), Dp K H v d → Dp K H' v d
  | .none, _, h => by cases h; exact .non
  | .bool b, _, h => by cases h; exact .bl b
  | .int i, _, h => by cases h; exact .int i
  | .str x, _, h => by cases h; exact .str x
  | .list ds, _, h => by
    cases h with
    | lst a b =>
      refine .lst ?_ (dps_ext k ds _ b)
      rcases a with (h | ⟨o, h⟩) | h
      · exact .inl (.inl (k _ _ h (fun ps z => by cases z)))
      · exact .inl (.inr ⟨o, k _ _ h (fun ps z => by cases z)⟩)
      · exact .inr h
  | .tuple ds, _, h => by
    cases h with
    | tup a b =>
      refine .tup ?_ (dps_ext k ds _ b)
      rcases a with (h | ⟨o, h⟩) | h
      · exact .inl (.inl (k _ _ h (fun ps z => by cases z)))
      · exact .inl (.inr ⟨o, k _ _ h (fun ps z => by cases z)⟩)
      · exact .inr h
  | .dict _, _, h => by cases h
theorem dps_ext {K : PySem.W.Frag} {H H' : Hp} (k : LamX.ExtN H H') : ∀ (ds : List PyData) (vs : List V), DpAll K H vs ds → DpAll K H' vs ds
  | [], _, h => by cases h; exact .nil
  | d :: ds, _, h => by cases h with | cons a b => exact .cons (dp_ext k d _ a) (dps_ext k ds _ b)
end
/-- how many of 0 to 40 are in it -/
def cnt (S : Int → Bool) : Nat := ((List.range 41).filter fun (v : Nat) => S (v : Int)).length
theorem cnt_le (S : Int → Bool) : cnt S ≤ 41 := by
  have := List.length_filter_le (fun (v : Nat) => S (v : Int)) (List.range 41)
  rw [List.length_range] at this
  exact this
theorem cnt_none : cnt (fun _ => false) = 0 := by decide
theorem cnt_add (S : Int → Bool) (c : Nat) (hc : c ≤ 40) : cnt (fun j => S j || decide (j = (c : Int))) = if S (c : Int) = true then cnt S else cnt S + 1 := by
  unfold cnt
  have f1 : ∀ (p : Nat → Bool) (n : Nat), (List.filter p [n]).length = if p n = true then 1 else 0 := fun p n => by
    unfold List.filter
    cases p n <;> rfl
  have gen : ∀ n : Nat, ((List.range n).filter fun (v : Nat) => S (v : Int) || decide ((v : Int) = (c : Int))).length = if S (c : Int) = true ∨ n ≤ c then ((List.range n).filter fun (v : Nat) => S (v : Int)).length else ((List.range n).filter fun (v : Nat) => S (v : Int)).length + 1 := by
    intro n
    induction n with
    | zero => rw [if_pos (.inr (Nat.zero_le _))]; rfl
    | succ n ih =>
      rw [List.range_succ, List.filter_append, List.filter_append, List.length_append, List.length_append, ih, f1, f1]
      generalize ((List.range n).filter fun (v : Nat) => S (v : Int)).length = L
      by_cases e : n = c
      · subst e
        have d : decide ((n : Int) = (n : Int)) = true := decide_eq_true rfl
        rw [d, Bool.or_true, if_pos (.inr (Nat.le_refl _)), if_pos rfl]
        by_cases hS : S (n : Int) = true
        · rw [if_pos hS, if_pos (.inl hS)]
        · rw [if_neg hS, if_neg (fun z => z.elim hS (by omega))]
      · have d : decide ((n : Int) = (c : Int)) = false := decide_eq_false (by omega)
        rw [d, Bool.or_false]
        generalize (if S (n : Int) = true then 1 else 0) = z
        by_cases hS : S (c : Int) = true
        · rw [if_pos (.inl hS), if_pos (.inl hS)]
        · by_cases l : n ≤ c
          · rw [if_pos (.inr l), if_pos (.inr (show n + 1 ≤ c by omega))]
          · rw [if_neg (fun z => z.elim hS l), if_neg (fun z => z.elim hS (show ¬ n + 1 ≤ c by omega))]
            omega
  have g := gen 41
  rw [g]
  by_cases hS : S (c : Int) = true
  · rw [if_pos (.inl hS), if_pos hS]
  · rw [if_neg (fun z => z.elim hS (by omega)), if_neg hS]
theorem wpts_small {c : Nat} {ns : List Nat} (c0 : 0 < c) (c1 : c < 2 ^ 62) (hd : ∀ k ∈ ns, k ∣ c) : ∀ p ∈ wpts c ns, p.1.natAbs < 2 ^ 62 ∧ p.2.natAbs < 2 ^ 62 := fun p m => by
  have f := (wpts_pts c0 hd).v p m
  obtain ⟨t, _, rfl⟩ := List.mem_map.mp m
  obtain ⟨g, g0, _, e2, b0, _⟩ := lowQ_ex (a := t) (show 0 < (c : Int) by omega)
  have le := f.le; have n0 := f.n0
  have : (lowQ t c).2 * 1 ≤ (lowQ t c).2 * g := Int.mul_le_mul_of_nonneg_left (by omega) (by omega)
  omega
theorem wpts_len {c : Nat} {ns : List Nat} : (wpts c ns).length ≤ ns.sum + 2 := by
  unfold wpts
  rw [List.length_map]
  have := sortU_len (0 :: (c : Int) :: tops c ns)
  have e : (0 :: (c : Int) :: tops c ns).length = (tops c ns).length + 2 := rfl
  rw [tops_len] at e
  omega
theorem sum_asc : ∀ {ns : List Int} {a b : Nat}, ns.Pairwise (· < ·) → (∀ k ∈ ns, (a : Int) ≤ k ∧ k ≤ b) → (ns.map Int.toNat).sum ≤ ((List.range (b + 1 - a)).map (· + a)).sum
  | [], a, b, _, _ => Nat.zero_le _
  | k :: ns, a, b, pw, h => by
    have hk := h k List.mem_cons_self
    obtain ⟨n, rfl⟩ := Int.eq_ofNat_of_zero_le (show 0 ≤ k by omega)
    have ih := sum_asc (ns := ns) (a := n + 1) (b := b) (List.pairwise_cons.mp pw).2 fun q m => by
      have := (List.pairwise_cons.mp pw).1 q m
      have := (h q (List.mem_cons_of_mem _ m)).2
      omega
    have n1 : n ≤ b := by omega
    have a1 : a ≤ n := by omega
    -- a .. b hold n and n + 1 .. b
    have cut : ∀ d : Nat, ((List.range (b + 1 - n)).map (· + n)).sum ≤ ((List.range (b + 1 - n + d)).map (· + (n - d))).sum ∨ n < d := by
      intro d
      induction d with
      | zero => exact .inl (Nat.le_refl _)
      | succ d ihd =>
        rcases ihd with q | q
        · by_cases l : n < d + 1
          · exact .inr l
          · refine .inl (Nat.le_trans q ?_)
            rw [show b + 1 - n + (d + 1) = (b + 1 - n + d) + 1 by omega, List.range_succ_eq_map, List.map_cons, List.map_map, List.sum_cons]
            have : ((fun x => x + (n - (d + 1))) ∘ Nat.succ) = fun x => x + (n - d) := by funext x; show x + 1 + (n - (d + 1)) = x + (n - d); omega
            rw [this]
            omega
        · exact .inr (by omega)
    have c2 := (cut (n - a)).resolve_right (by omega)
    rw [show b + 1 - n + (n - a) = b + 1 - a by omega, show n - (n - a) = a by omega] at c2
    refine Nat.le_trans ?_ c2
    have e : ((List.range (b + 1 - n)).map (· + n)).sum = n + ((List.range (b + 1 - (n + 1))).map (· + (n + 1))).sum := by
      rw [show b + 1 - n = (b + 1 - (n + 1)) + 1 by omega, List.range_succ_eq_map, List.map_cons, List.map_map, List.sum_cons]
      have : ((fun x => x + n) ∘ Nat.succ) = fun x => x + (n + 1) := by funext x; show x + 1 + n = x + (n + 1); omega
      rw [this]
      omega
    rw [e]
    show n + (ns.map Int.toNat).sum ≤ _
    omega
def spSteps (K : PySem.W.Frag) (C : Addr) (TT : List (Addr × Str)) : Sp := fun vs H Q _ => ∃ (v : V) (gs : List (List Int)), vs = [v] ∧ Dp K H v (ordD gs) ∧ RowOk gs ∧ LamX.Tabs TT H ∧
  ∀ u H', LamX.ExtN H H' → LamX.Tabs TT H' → LotAt K C H' u (lotOf gs) → Q u H'
/-- all that steps of orders want -/
structure St (P : Program) (w : World) (K : PySem.W.Frag) (mg : Str → Option Value) (base : Heap) where
  C : Addr
  fI : Addr
  fP : Addr
  fdI : FuncData
  fdP : FuncData
  T : LotC P w K mg C fI fP fdI fdP
  B : Bp K mg
  Bq : Bq mg
  Br : Br mg
  M : Pd K mg
  f_lot_where : Addr × FuncData
  d_lot_where : Df K mg "lot_where" s_lot_where ["points", "fits"] f_lot_where.1 f_lot_where.2
  f_whole_points : Addr × FuncData
  d_whole_points : Df K mg "whole_points" s_whole_points ["numbers"] f_whole_points.1 f_whole_points.2
  f__points : Addr × FuncData
  d__points : Df K mg "_points" s__points ["tops", "bottom"] f__points.1 f__points.2
  f__check_row : Addr × FuncData
  d__check_row : Df K mg "_check_row" s__check_row ["row"] f__check_row.1 f__check_row.2
  f__check_order : Addr × FuncData
  d__check_order : Df K mg "_check_order" s__check_order ["row"] f__check_order.1 f__check_order.2
  f__are_ascending_marks : Addr × FuncData
  d__are_ascending_marks : Df K mg "_are_ascending_marks" s__are_ascending_marks ["given"] f__are_ascending_marks.1 f__are_ascending_marks.2
  f__is_met : Addr × FuncData
  d__is_met : Df K mg "_is_met" s__is_met ["row", "step"] f__is_met.1 f__is_met.2
  f__steps_that_meet : Addr × FuncData
  d__steps_that_meet : Df K mg "_steps_that_meet" s__steps_that_meet ["row"] f__steps_that_meet.1 f__steps_that_meet.2
  f_num : Addr × FuncData
  d_num : Df K mg "is_number" sIsNum ["given", "least", "most"] f_num.1 f_num.2
  cc : Addr
  PP : Addr
  ec : f__steps_that_meet.2.code = .ref cc
  TB : LamX.TabB base mg cc PP
  TT : List (Addr × Str)
  mT : (PP, qM) ∈ TT
  oT : ∀ q ∈ TT, q.1 = PP → q.2 = qM
section
variable {P : Program} {w : World} {K : PySem.W.Frag} {mg : Str → Option Value} {base : Heap}
theorem ok_stepsMeet (S : St P w K mg base) : FnOk P w K mg base CX0 10 S.f__steps_that_meet.1 S.f__steps_that_meet.2 ["row"] (spSteps K S.C S.TT) := by
  have GW : FnOk P w K mg base CX0 3 S.f_whole_points.1 S.f_whole_points.2 ["numbers"] (spWhole K) := ok_whole S.d_whole_points.F S.B.c S.Bq S.M.d_low S.d__points
  have GM : FnOk P w K mg base CX0 1 S.f__is_met.1 S.f__is_met.2 ["row", "step"] (spMet K) := ok_met S.d__is_met.F S.Br
  refine okC S.d__steps_that_meet.F sc__steps_that_meet (fun vs H Q E h => ?_) (fun A outer s H vs Q E hr h => ?_)
  · obtain ⟨v, gs, rfl, _⟩ := h
    rfl
  · obtain ⟨v, gs, rfl, hv, R, hT, k⟩ := h
    have hv0 := hv
    obtain ⟨a, xs, rfl, ha, hx⟩ := row_inv hv
    have hr3 : Room 3 _ := hr.mono (by decide)
    have hr9 : Room (7 + 2) _ := hr
    refine ⟨_, pss_cons (ps_set (i := 1) sc__steps_that_meet.nd rfl (.inr rfl) (pe_lc2 (te := tVar 4) (own := [("place", 3), ("mark", 4)]) (vs1 := [4]) (g := gName 3) (tt := tYes) (g1 := gName 4) (tt1 := tYes) (wi1 := iTup K (tVar 3)) rfl sc__steps_that_meet.nd (pi_tup (pv 0)) (blkOk_by (N := ["row", "marks", "ways", "place", "mark", "other"]) (sc := defScope s__steps_that_meet) (by decide +kernel)) (by decide) (fun _ _ _ _ _ => pg_name (i := 3) sc__steps_that_meet.nd rfl (.inl rfl)) (fun _ _ _ _ _ => pts_nil) (fun _ _ _ _ _ => pi_tup (pv 3)) (fun _ _ _ _ _ => pg_name (i := 4) sc__steps_that_meet.nd rfl (.inl rfl)) (fun _ _ _ _ _ => pts_nil) (fun _ _ _ _ _ => pv 4)))
      (pss_cons (ps_set (i := 2) sc__steps_that_meet.nd rfl (.inl rfl) (pe_callB (cr_sortedSet rfl) (by rfl) S.Br.sorted (by decide +kernel) (pa_cons (pe_sc2 (te := tCB (fun xs H Q => ∃ i, xs = [V.int i] ∧ Q (.int (if i < 0 then -i else i)) H) (tCons (tOp (rI0 fun i j => .int (i - j)) (tVar 4) (tVar 5)) tNil)) (tc := tTest (tOp rNe (tVar 4) (tVar 5))) (own := [("mark", 4), ("other", 5)]) (vs1 := [5]) (g := gName 4) (g1 := gName 5) (wi1 := iList K (tVar 1)) rfl sc__steps_that_meet.nd (pi_list (pv 1)) (blkOk_by (N := ["row", "marks", "ways", "place", "mark", "other"]) (sc := defScope s__steps_that_meet) (by decide +kernel)) (by decide) (fun _ _ _ _ _ => ⟨pg_name (i := 4) sc__steps_that_meet.nd rfl (.inl rfl), pi_list (pv 1), pg_name (i := 5) sc__steps_that_meet.nd rfl (.inl rfl), pts_one (pt_cmpR op_ne (pv 4) (pv 5) (nomark _)), pe_callB call_abs (by rfl) S.Br.abs (by decide +kernel) (pa_cons (pe_op op_sub (pv 4) (pv 5)) pa_nil)⟩)) pa_nil)))
      (pss_one (ps_ret (pe_lamQ (T := S.TT) (sp := spWhere K S.C) (a0 := "points") (a := "fits") (pn := "step") (k := 7) (Ng := ["points", "fits", "cuts", "low", "high", "cut", "step"]) (tb := tCall (spMet K) [] E0 (tCons (tVar 0) (tCons (tVar 6) tNil)))
        (by rfl) S.d_lot_where.g S.d_lot_where.F S.d_lot_where.F.kp S.d_lot_where.b sc_lot_where rfl (.inl rfl) (fun cdv => gives_where (X := (cxOf CX0 P w K mg base ["row", "marks", "ways", "place", "mark", "other"] "_steps_that_meet" (defScope s__steps_that_meet) S.f__steps_that_meet.1 S.f__steps_that_meet.2.code A outer s H E).nox) (by decide) S.T S.B S.M) (show ("step" : Str) ∉ (["row", "marks", "ways", "place", "mark", "other"] : List Str) by decide +kernel)
        S.TB S.ec S.mT S.oT hr9 (lamP_by (sc := defScope s__steps_that_meet) (by decide +kernel)) rfl (fun _ _ _ _ _ _ => rfl) (pe_call GW hr3 (by rfl) S.d_whole_points.g S.d_whole_points.F.kp S.d_whole_points.b .nil pass0 (pa_cons (pv 2) pa_nil)) rfl
        (fun A2 o2 s2 H2 f2 c2 hr2 => pe_call GM (hr2.mono (by decide)) (by rfl) S.d__is_met.g S.d__is_met.F.kp S.d__is_met.b .nil pass0 (pa_cons (pv 0) (pa_cons (pv 6) pa_nil))))))), ?_⟩
    refine ⟨_, rfl, a, rfl, ⟨_, ha⟩, fun D nD => ?_⟩
    have s2 := same_put (o := HO.lst []) nD
    refine lc2_it (walk_tup (K := K) (a := a) (xs := xs)) (fun i H' => H' D = some (.lst (((gs.take i).flatten).map V.int)) ∧ Same H H') ⟨upd_same, s2⟩ (fun i H' _ ⟨_, e⟩ => sqT_same e ha) ?_ ?_
    · rintro i x H2 H3 hi ⟨hD, e2⟩ ⟨rfl, hxi⟩
      obtain ⟨d, hd, dx⟩ := dps_get (dps_same e2 _ _ hx) hxi
      rw [List.getElem?_map] at hd
      obtain ⟨g, hg, rfl⟩ := Option.map_eq_some_iff.mp hd
      obtain ⟨ag, rfl, hag⟩ := grp_inv dx
      have few := R.few
      have fl : ((gs.take i).flatten).length + g.length ≤ 41 := by
        have e1 : gs = gs.take i ++ (g :: gs.drop (i + 1)) := by
          have l := (List.getElem?_eq_some_iff.mp hg)
          rw [← l.2, List.getElem_cons_drop, List.take_append_drop]
        have e2 := congrArg (fun l => l.flatten.length) e1
        simp only [List.flatten_append, List.flatten_cons, List.length_append] at e2
        omega
      refine ⟨rfl, yesI ?_⟩
      refine ⟨_, rfl, ag, rfl, ⟨_, hag⟩, in1 (walk_tup (K := K) (a := ag) (xs := g.map V.int)) (fun j H' => H' D = some (.lst (((gs.take i).flatten ++ g.take j).map V.int)) ∧ Same H H') ⟨by simpa using hD, e2⟩ (fun j H' _ ⟨_, e⟩ => by
        have dx' := dps_at (dps_same e _ _ hx) (i := i) (by rw [List.getElem?_map, hg]; rfl)
        obtain ⟨x', hx', dx'⟩ := dx'
        have ex : x' = .ref ag := Option.some.inj (hx'.symm.trans hxi)
        subst ex
        obtain ⟨ag', e', h'⟩ := grp_inv dx'
        cases e'
        exact h') ?_ ?_⟩
      · rintro j y H4 H5 hj ⟨hD4, e4⟩ ⟨rfl, hyj⟩
        rw [List.getElem?_map] at hyj
        obtain ⟨m, hm, rfl⟩ := Option.map_eq_some_iff.mp hyj
        have lj := (List.getElem?_eq_some_iff.mp hm).1
        refine ⟨rfl, yesI ⟨_, rfl, _, hD4, ?_, ?_, fun b o z => ?_⟩⟩
        · rw [List.length_map, List.length_append, List.length_take]; exact small1000 (by omega)
        · rw [upd_same, List.take_add_one, hm]
          simp only [List.map_append, List.append_assoc]; rfl
        · rw [upd_ne (ne_of_none z nD)]; exact e4 _ _ z
      · rintro H4 ⟨hD4, e4⟩
        refine ⟨?_, e4⟩
        rw [List.length_map, List.take_length] at hD4
        rw [hD4, List.take_add_one, hg, List.flatten_append]
        simp
    rintro H2 ⟨hD, e2⟩
    have lx := dps_len hx
    rw [List.length_map] at lx
    rw [lx, List.take_length] at hD
    have s12 := e2
    obtain ⟨ms, ems⟩ : ∃ ms, ms = gs.flatten := ⟨_, rfl⟩
    rw [← ems] at hD
    have few : ms.length ≤ 41 := by rw [ems]; exact R.few
    have low : ∀ m ∈ ms, 0 ≤ m := fun m mm => by
      rw [ems] at mm
      obtain ⟨g, mg', mm⟩ := List.mem_flatten.mp mm
      exact (R.rng g mg' m mm).1
    have ten : ∀ m ∈ ms, m ≤ 40 := fun m mm => by
      rw [ems] at mm
      obtain ⟨g, mg', mm⟩ := List.mem_flatten.mp mm
      exact (R.rng g mg' m mm).2
    refine nxI ⟨_, rfl, D, rfl, ⟨_, SqL.of hD⟩, fun D2 nD2 => ?_⟩
    have s3 : Same H2 (upd H2 D2 (SetO w D2 (fun _ => false) 0)) := same_put nD2
    have absI : ∀ {p q : Int}, 0 ≤ p → p ≤ 40 → 0 ≤ q → q ≤ 40 → p ≠ q → ∃ c : Nat, (if p - q < 0 then -(p - q) else p - q) = (c : Int) ∧ 1 ≤ c ∧ c ≤ 40 := fun {p q} a b c d ne => by
      split
      · exact ⟨(-(p - q)).toNat, by omega, by omega, by omega⟩
      · exact ⟨(p - q).toNat, by omega, by omega, by omega⟩
    refine sc2_it (G1 := fun H => SqL K H D (ms.map V.int)) (Y1 := YAt (ms.map V.int)) (n1 := (ms.map V.int).length) (J1 := Itl K D) (walk_list (K := K) (a := D) (xs := ms.map V.int)) (fun _ _ => walk_list (K := K) (a := D) (xs := ms.map V.int))
      (fun i j H' => ∃ Sv, H' D2 = some (SetO w D2 Sv (cnt Sv)) ∧ (∀ v, Sv v = true → v ∈ diffs ms) ∧ (∀ (a b : Nat) (p q : Int), ms[a]? = some p → ms[b]? = some q → (a < i ∨ (a = i ∧ b < j)) → p ≠ q → Sv ((p - q).natAbs : Int) = true) ∧ Same H2 H') ⟨fun _ => false, (by rw [cnt_none]; exact upd_same), (fun v z => Bool.noConfusion z), (fun a b p q _ _ z => by omega), s3⟩ (fun i H' _ ⟨_, _, _, _, e⟩ => SqL.of (e _ _ hD)) (fun i j H' _ _ ⟨_, _, _, _, e⟩ => SqL.of (e _ _ hD)) (fun i H' _ ⟨Sv, z1, z2, z3, z4⟩ => ⟨Sv, z1, z2, (fun a b p q ha hb o ne => z3 a b p q ha hb (by have := (List.getElem?_eq_some_iff.mp hb).1; rw [List.length_map]; omega) ne), z4⟩) ?_ ?_ ?_ ?_ ?_ ?_ ?_
    · rintro i x H3 H4 hi ⟨Sv, hS, b1, w1, e3⟩ ⟨rfl, hxi⟩
      rw [List.getElem?_map] at hxi
      obtain ⟨p, hp, rfl⟩ := Option.map_eq_some_iff.mp hxi
      have pm := List.mem_of_getElem? hp
      refine ⟨rfl, _, rfl, D, rfl, ⟨_, SqL.of (e3 _ _ hD)⟩, rfl, ⟨Sv, hS, b1, w1, e3⟩, ?_⟩
      rintro j y H5 H6 hj ⟨Sw, hSw, b2, w2, e4⟩ ⟨rfl, hyj⟩
      rw [List.getElem?_map] at hyj
      obtain ⟨q, hq, rfl⟩ := Option.map_eq_some_iff.mp hyj
      have qm := List.mem_of_getElem? hq
      refine ⟨rfl, _, rfl, _, rfl, rfl, _, rfl, ?_⟩
      by_cases ne : p = q
      · rw [decide_eq_true (congrArg V.int ne)]
        refine ⟨Sw, hSw, b2, fun a b p' q' ha hb o ne' => ?_, e4⟩
        by_cases z : a = i ∧ b = j
        · obtain ⟨rfl, rfl⟩ := z
          rw [hp] at ha; rw [hq] at hb
          cases ha; cases hb
          exact absurd ne ne'
        · exact w2 a b p' q' ha hb (by omega) ne'
      · rw [decide_eq_false (fun z => ne (V.int.inj z))]
        obtain ⟨c, ec, c1, c2⟩ := absI (low p pm) (ten p pm) (low q qm) (ten q qm) ne
        refine ⟨_, rfl, _, rfl, _, _, rfl, rfl, p - q, rfl, _, Sw, cnt Sw, rfl, hSw, ?_, ?_⟩
        · have := cnt_le Sw
          have : scanBound = 4096 := rfl
          omega
        · refine ⟨fun j => Sw j || decide (j = if p - q < 0 then -(p - q) else p - q), ?_, fun v z => ?_, fun a b p' q' ha hb o ne' => ?_, fun b o z => ?_⟩
          · rw [ec, ← cnt_add Sw c (by omega)]
            exact upd_same
          · rw [Bool.or_eq_true, decide_eq_true_eq] at z
            rcases z with z | z
            · exact b2 v z
            · refine diffs_mem.mpr ⟨p, pm, q, qm, ne, ?_⟩
              rw [z]
              split <;> omega
          · rw [Bool.or_eq_true, decide_eq_true_eq]
            by_cases z : a = i ∧ b = j
            · obtain ⟨rfl, rfl⟩ := z
              rw [hp] at ha; rw [hq] at hb
              cases ha; cases hb
              right
              split <;> omega
            · exact .inl (w2 a b p' q' ha hb (by omega) ne')
          · rw [upd_ne (ne_of_none z nD2)]
            exact e4 _ _ z
    · rintro H3 ⟨Sv, hS, b1, w1, e3⟩
      refine ⟨D2, Sv, cnt Sv, rfl, hS, by have := cnt_le Sv; omega, fun ns p1 pw mem len np => ?_⟩
      have s4 := same_put (o := HO.lst (ns.map V.int)) np
      have g4 : upd H3 p1 (HO.lst (ns.map V.int)) p1 = some (.lst (ns.map V.int)) := upd_same
      generalize upd H3 p1 (HO.lst (ns.map V.int)) = H4 at *
      have rng : ∀ k ∈ ns, 1 ≤ k ∧ k ≤ 40 := fun k m => by
        obtain ⟨x, hx', y, hy', ne, e⟩ := diffs_mem.mp (b1 k ((mem k).mp m))
        have := low x hx'; have := low y hy'; have := ten x hx'; have := ten y hy'
        omega
      have ways : ns = sortU (diffs ms) := strict_one pw (sortU_pw _) fun v => by
        rw [sortU_mem, mem v]
        refine ⟨b1 v, fun z => ?_⟩
        obtain ⟨x, hx', y, hy', ne, e⟩ := diffs_mem.mp z
        obtain ⟨i1, h1, e1⟩ := List.getElem_of_mem hx'
        obtain ⟨i2, h2, e2⟩ := List.getElem_of_mem hy'
        rw [e]
        exact w1 i1 i2 x y (by rw [List.getElem?_eq_getElem h1, e1]) (by rw [List.getElem?_eq_getElem h2, e2]) (.inl (by rw [List.length_map]; exact h1)) ne
      have enat : ns.map V.int = (ns.map Int.toNat).map fun (k : Nat) => V.int (k : Int) := by
        rw [List.map_map]
        refine List.map_congr_left fun k m => ?_
        have := rng k m
        show V.int k = V.int ((k.toNat : Nat) : Int)
        rw [Int.toNat_of_nonneg (by omega)]
      have sums : (ns.map Int.toNat).sum ≤ 820 := Nat.le_trans (sum_asc (a := 1) (b := 40) pw fun k m => by have := rng k m; omega) (by decide +kernel)
      have ndv : ∀ k ∈ ns.map Int.toNat, 0 < k ∧ k ∣ L40 := fun k m => by
        obtain ⟨z, mz, rfl⟩ := List.mem_map.mp m
        have := rng z mz
        obtain ⟨n, rfl⟩ := Int.eq_ofNat_of_zero_le (show 0 ≤ z by omega)
        have n1 : 1 ≤ n := by omega
        have n2 : n ≤ 40 := by omega
        rw [Int.toNat_natCast]
        have all : ∀ n : Fin 41, 1 ≤ n.val → 0 < n.val ∧ n.val ∣ L40 := by decide +kernel
        exact all ⟨n, by omega⟩ n1
      have S4 : Same H H4 := fun b o z => s4 _ _ (e3 _ _ (s12 _ _ z))
      refine nxI ⟨_, rfl, p1, ns.map Int.toNat, L40, rfl, (by rw [← enat]; exact SqL.of g4), by omega, by decide, by decide, ndv, fun u H5 s5 du => ?_⟩
      have S5 := S4.trans s5
      have hw : ns.map Int.toNat = waysOf gs := by unfold waysOf; rw [ways, ems]
      generalize hns : ns.map Int.toNat = nn at *
      have dvl : ∀ q ∈ nn, q ∣ lcmA nn := (lcm_fold nn 1).2.1
      have dl : lcmA nn ∣ L40 := (lcm_fold nn 1).2.2 L40 (Nat.one_dvd _) fun q m => (ndv q m).2
      have l0 : 0 < lcmA nn := Nat.pos_of_dvd_of_pos dl (by decide)
      have l1 : lcmA nn < 2 ^ 62 := Nat.lt_of_le_of_lt (Nat.le_of_dvd (by decide) dl) (by decide)
      refine ⟨fun p hp => (hT p hp).ext S5, fun H6 e6 hT6 => ?_⟩
      have X6 : LamX.ExtN H H6 := (LamX.ExtN.of S5).trans e6
      refine ⟨wpts (lcmA nn) nn, isMet gs, dp_ext e6 _ _ du, wpts_pts l0 dvl, wpts_small l0 l1 dvl, Nat.le_trans wpts_len (by omega), fun z x y G sG dz stp xb yb Rk hR => ?_, fun z H7 s7 at7 => ?_⟩
      · exact ⟨_, rfl, _, rfl, .ref a, z, gs, x, y, rfl, dp_same sG _ _ (dp_ext X6 _ _ hv0), R, dz, stp, xb, yb, hR⟩
      · exact k z H7 (X6.trans (LamX.ExtN.of s7)) (fun p hp => (hT6 p hp).ext s7) (by rw [hw] at at7; exact at7)
    · exact fun τ H R R' m h => by
        obtain ⟨x, hx, b, eb, hb, r⟩ := h
        exact ⟨x, hx, b, eb, hb, m _ _ r⟩
    · exact fun x τ H R R' m h => m _ _ h
    · exact fun x τ H R R' m h => m _ _ h
    · exact fun τ H R R' m h => by
        obtain ⟨x, hx, y, hy, sc, b, eb, r⟩ := h
        exact ⟨x, hx, y, hy, sc, b, eb, m _ _ r⟩
    · exact fun τ H R R' m h => by
        obtain ⟨x, hx, y, hy, i, j, e1, e2, q, e3, r⟩ := h
        exact ⟨x, hx, y, hy, i, j, e1, e2, q, e3, m _ _ r⟩
end
end My
set_option Elab.async false
set_option linter.all false
set_option maxRecDepth 100000
set_option maxHeartbeats 4000000
/-! y = {k: v for t in xs} -/
namespace Gn
open PySem PySem.Spec PyProof.Rows L2
theorem sw_dict {kx vx : Expr} {gs : List Comprehension} {sc : Scope} {pc py : Pos} {y : Str} {n : Nat} {e : Env} (fn : e.scope.kind = .function) (lo : e.scope.names.lookup y = some .local) (ln : (py.line == pc.line) = true)
    (no : (sc.names.any fun (z, k) => z == y && (k == .local || k == .cell)) = false) : swapsWith (.DictComp kx vx gs sc pc) (some (.Name y py)) n e = pure true := by
  have k1 : e.kindOf y = some .local := lo
  have k2 : e.blockKind = .function := by unfold Env.blockKind; rw [fn]; rfl
  unfold swapsWith
  simp only [k1, k2, no, Expr.pos, ln]
  rfl
section
variable {X : Cx}
theorem ps_setDc {i : Nat} {y : Str} {py pc ps : Pos} {kx vx t0 i0 : Expr} {sc : Scope} {own : List (Str × Nat)} {wi : TI} {g : TG} {tk tv : TE} (calm : X.calm = true) (nd : X.N.Nodup) (at_ : X.N[i]? = some y) (lo : X.env.scope.names.lookup y = some .local)
    (sw : swapsWith (.DictComp kx vx [⟨t0, i0, [], 0⟩] sc pc) (some (.Name y py)) ps.line X.env = pure true) (src : PI X t0 i0 wi) (ok : BlkOk X.N X.env.scope sc own)
    (tgt : ∀ (s : Shared) (H : Hp) (C : Addr) (cl : List (Str × Addr)) (fp : List Addr), PG (X.blk s H sc (compEnvC sc cl C X.env) fp) t0 g) (key : ∀ (s : Shared) (H : Hp) (C : Addr) (cl : List (Str × Addr)) (fp : List Addr), PE (X.blk s H sc (compEnvC sc cl C X.env) fp) kx tk)
    (val : ∀ (s : Shared) (H : Hp) (C : Addr) (cl : List (Str × Addr)) (fp : List Addr), PE (X.blk s H sc (compEnvC sc cl C X.env) fp) vx tv) (fs : ∀ x, foldedSetIterable i0 X.env x = pure x := by intro _; rfl) :
    PS X (.Assign [.Name y py] (.DictComp kx vx [⟨t0, i0, [], 0⟩] sc pc) ps) (tAsg (tDc wi g tYes tk tv (own.map (·.2))) (gName i)) := by
  constructor
  intro pins s σ H D I want
  rw [exec_Assign_Name_used _ _ _ _ sw]
  refine wpAny_bind (wpAny_standAt (wpAny_bind ?_))
  change wpAny _ X.A (do let _ ← comprehension (.DictComp kx vx [⟨t0, i0, [], 0⟩] sc pc) sc X.env (firstIterPos [⟨t0, i0, [], 0⟩] pc) newDict false (eval i0 X.env) (some (assign (.Name y py) X.env))) _ _ s
  have want : tDc wi g tYes tk tv (own.map (·.2)) σ H (fun x G => gName i x σ G D.nx) := want
  refine wpAny_bind (thn (dc_core (Qf := fun _ t => SP X pins D .next t) calm nd I src ok tgt (fun _ _ _ _ _ => pts_nil) key val fs want fun L C t m G J q hn out => ?_) fun _ t z => wpAny_pure (wpAny_pure z))
  change wpAny _ _ (assign (.Name y py) X.env (.ref L)) _ _ _
  refine wpAny_assign_Name (store_ok2 (v := V.ref L) J nd at_ (.inl lo) rfl (fun t2 J2 ⟨a, sb, ha⟩ => ?_) (.inr lo))
  obtain ⟨z0, z1, z2, z3, z4, z5⟩ := out
  have ne : C ≠ a := by
    rcases ha with z | z
    · rw [z]; exact z1
    · exact fun e => z4 y a z e.symm
  exact ⟨m, hn.sameBut sb ne, fun h3 sb3 => ⟨_, G, J2.turned (t' := t2.toks) (fun b o hb e => (sb3.2 b hb).trans e) z0 z1 z3 z4 z5, q⟩⟩
end
/-- the reading of it over a walk -/
theorem dc_it {J : It} {n : Nat} {G : Hp → Prop} {Y : Nat → Hp → V → Hp → Prop} (w : Walk J n G Y) {g : TG} {tk tv : TE} {vs : List Nat} {σ : L2.St} {H1 : Hp} {D : Addr} {Qd : Hp → Prop} (Pv : Nat → Hp → Prop) (h0 : Pv 0 (upd H1 D (.dK []))) (hG : ∀ i H, i ≤ n → Pv i H → G H)
    (hs : ∀ i x H H', i < n → Pv i H → Y i H x H' → g x (wipe σ vs) H' fun τ H2 => wipe τ vs = wipe σ vs ∧ tYes τ H2 fun b H3 => if b = true then tk τ H3 fun y H4 => tv τ H4 fun z H5 => ∃ kvs k, y = kV k ∧ H5 D = some (.dK kvs) ∧ kvs.length < sizeLine ∧ Pv (i + 1) (upd H5 D (.dK (putK kvs k z))) else Pv (i + 1) H3) (hd : ∀ H, Pv n H → Qd H) :
    ∃ W : Nat → Nat → Hp → Prop, (∃ m, W 0 m (upd H1 D (.dK []))) ∧ ∀ i m H, W i m H →
      (J.stop i H ∧ Qd H) ∨ (J.go i H ∧ ∃ Nx : Hp → Prop, (∀ H', Nx H' → ∃ m', m' < m ∧ W (i + 1) m' H') ∧ ∀ x H', J.yld i H x H' → g x (wipe σ vs) H' fun σ2 H2 => wipe σ2 vs = wipe σ vs ∧ tYes σ2 H2 fun b H3 =>
        if b = true then tk σ2 H3 fun y H4 => tv σ2 H4 fun z H5 => ∃ kvs k, y = kV k ∧ H5 D = some (.dK kvs) ∧ kvs.length < sizeLine ∧ Nx (upd H5 D (.dK (putK kvs k z))) else Nx H3) := by
  refine ⟨fun i m H => m = n - i ∧ i ≤ n ∧ Pv i H, ⟨_, rfl, Nat.zero_le _, h0⟩, ?_⟩
  rintro i m H ⟨rfl, hi, p⟩
  have q := hG i H hi p
  by_cases lt : i < n
  · exact .inr ⟨w.goes i H lt q, Pv (i + 1), fun H' p' => ⟨n - (i + 1), by omega, rfl, lt, p'⟩, fun x H' y => hs i x H H' lt p (w.yields i H x H' lt q y)⟩
  · obtain rfl : i = n := by omega
    exact .inl ⟨w.stops H q, hd H p⟩
end Gn
set_option Elab.async false
set_option linter.all false
set_option maxRecDepth 100000
set_option maxHeartbeats 8000000
set_option exponentiation.threshold 4000
namespace My
open PySem PySem.Spec PyProof.Rows L2 Gn Mt
abbrev s_steps_of : Stmt := top 61
theorem sc_steps_of : FnScope ["row"] ["row"] (defScope s_steps_of) := ⟨rfl, rfl, rfl, by decide +kernel, rfl, by decide +kernel, by decide +kernel⟩
abbrev s_mark_behind : Stmt := top 56
theorem sc_mark_behind : FnScope ["mark", "many", "first", "last"] ["mark", "many", "first", "last"] (defScope s_mark_behind) := ⟨rfl, rfl, rfl, by decide +kernel, rfl, by decide +kernel, by decide +kernel⟩
abbrev s_broken_at : Stmt := top 65
abbrev s_steps_of_some : Stmt := top 62
theorem sc_steps_of_some : FnScope ["row"] ["row"] (defScope s_steps_of_some) := ⟨rfl, rfl, rfl, by decide +kernel, rfl, by decide +kernel, by decide +kernel⟩
/-! steps_of and broken_at -/
theorem sc_broken_at : FnScope ["row", "at", "marks", "ring", "many", "behind", "mark"] ["row"] (defScope s_broken_at) := ⟨rfl, rfl, rfl, by decide +kernel, rfl, by decide +kernel, by decide +kernel⟩
def optV : Option Int → V
  | none => .non
  | some k => .int k
def singles (l : List Int) : List (List Int) := l.map fun k => [k]
theorem flat_singles (l : List Int) : (singles l).flatten = l := by
  unfold singles
  induction l with
  | nil => rfl
  | cons a l ih => rw [List.map_cons, List.flatten_cons, ih]; rfl
/-- such a row is right -/
theorem singles_ok {l : List Int} (P : Perm0 l) (few : l.length ≤ 41) : OrdOk (singles l) where
  ne := by
    intro z
    have := congrArg List.flatten z
    rw [flat_singles] at this
    have hd := P.hd
    rw [this] at hd
    cases hd
  gne := fun g m => by obtain ⟨k, _, rfl⟩ := List.mem_map.mp m; exact List.cons_ne_nil _ _
  asc := fun g m => by obtain ⟨k, _, rfl⟩ := List.mem_map.mp m; exact List.pairwise_singleton ..
  rng := fun g m q mq => by
    obtain ⟨k, mk', rfl⟩ := List.mem_map.mp m
    rw [List.mem_singleton.mp mq]
    have := (P.mem k).mp mk'
    omega
  nd := by rw [flat_singles]; exact P.nd
  few := by rw [flat_singles]; exact few
  hd := by rw [flat_singles]; exact P.hd
  all := fun m h => by rw [flat_singles] at h ⊢; exact ((P.mem m).mp h).2
theorem putK_len (kvs : List (Key × V)) (k : Key) (v : V) : (putK kvs k v).length ≤ kvs.length + 1 := by
  unfold putK
  split
  · rw [List.length_map]; omega
  · rw [List.length_append]; exact Nat.le_refl _
def spBehind : Sp := fun vs H Q _ => ∃ k n a b : Int, vs = [.int k, .int n, .int a, .int b] ∧ Q (.int (behind n a b k)) H
/-- of an order: its marks are the first ones -/
def spStepsO (K : PySem.W.Frag) (C : Addr) (TT : List (Addr × Str)) : Sp := fun vs H Q _ => ∃ (v : V) (gs : List (List Int)), vs = [v] ∧ Dp K H v (ordD gs) ∧ OrdOk gs ∧ LamX.Tabs TT H ∧
  ∀ u H', LamX.ExtN H H' → LamX.Tabs TT H' → LotAt K C H' u (lotOf gs) → Q u H'
def spBroken (K : PySem.W.Frag) : Sp := fun vs H Q _ => ∃ (v : V) (l : List Int), vs = [v] ∧ Dp K H v (ordD (singles l)) ∧ Perm0 l ∧ l.length ≤ 41 ∧ ∀ H', Same H H' → Q (optV (brk l)) H'
section
variable {P : Program} {w : World} {K : PySem.W.Frag} {mg : Str → Option Value} {base : Heap}
theorem ok_stepsOf {f : Addr} {fd : FuncData} (F : Fun K "steps_of" "steps_of" s_steps_of f fd) (S : St P w K mg base) : FnOk P w K mg base CX0 11 f fd ["row"] (spStepsO K S.C S.TT) := by
  have GS : FnOk P w K mg base CX0 10 S.f__steps_that_meet.1 S.f__steps_that_meet.2 ["row"] (spSteps K S.C S.TT) := ok_stepsMeet S
  have GO : FnOk P w K mg base CX0 5 S.f__check_order.1 S.f__check_order.2 ["row"] (spOrd K) := ok_ord S.d__check_order.F S.Br S.M.d_int S.d_num S.d__are_ascending_marks S.d__check_row
  refine F.ok sc_steps_of (fun vs H Q E h => ?_) (fun cdv A outer s H vs Q E hr h => ?_)
  · obtain ⟨v, gs, rfl, _⟩ := h
    rfl
  · obtain ⟨v, gs, rfl, hv, R, hT, k⟩ := h
    have hr5 : Room 5 _ := hr.mono (by decide)
    refine ⟨_, pss_cons (ps_expr (pe_call GO hr5 (by rfl) S.d__check_order.g S.d__check_order.F.kp S.d__check_order.b .nil pass0 (pa_cons (pv 0) pa_nil))) (pss_one (ps_ret (pe_call GS hr (by rfl) S.d__steps_that_meet.g S.d__steps_that_meet.F.kp S.d__steps_that_meet.b .nil pass0 (pa_cons (pv 0) pa_nil)))), ?_⟩
    refine ⟨_, rfl, v, gs, rfl, hv, R, fun H1 s1 => ?_⟩
    exact ⟨_, rfl, v, gs, rfl, dp_same s1 _ _ hv, R.toRowOk, (fun p hp => (hT p hp).ext s1), fun u H' x t at_ => k u H' ((LamX.ExtN.of s1).trans x) t at_⟩
theorem ok_behind {f : Addr} {fd : FuncData} (F : Fun K "mark_behind" "mark_behind" s_mark_behind f fd) : FnOk P w K mg base CX0 1 f fd ["mark", "many", "first", "last"] spBehind := by
  refine F.ok sc_mark_behind (fun vs H Q E h => ?_) (fun cdv A outer s H vs Q E hr h => ?_)
  · obtain ⟨k, n, a, b, rfl, _⟩ := h
    rfl
  · obtain ⟨k, n, a, b, rfl, q⟩ := h
    refine ⟨_, pss_cons (ps_if (pt_cmpR op_lt (pv 0) (pe_op op_sub (pv 1) (pv 2)) (nomark _)) (pss_one (ps_ret (pe_op op_add (pv 0) (pv 2)))) pss_nil) (pss_cons (ps_if (pt_cmpR op_ge (pv 0) (pv 3) (nomark _)) (pss_one (ps_ret (pe_op op_sub (pv 0) (pv 3)))) pss_nil) (pss_one (ps_ret (pe_op op_sub (pe_op op_add (pv 0) (pv 2)) (pv 3))))), ?_⟩
    unfold behind at q
    refine ⟨_, rfl, _, rfl, _, rfl, _, _, rfl, rfl, _, _, rfl, rfl, _, rfl, ?_⟩
    refine ite2 (fun z => ?_) (fun z => ?_)
    · rw [if_pos (of_decide_eq_true z)] at q
      exact ⟨_, rfl, _, rfl, _, _, rfl, rfl, q⟩
    · rw [if_neg (fun y => z (decide_eq_true y))] at q
      refine ⟨_, rfl, _, rfl, _, _, rfl, rfl, _, rfl, ?_⟩
      refine ite2 (fun z2 => ?_) (fun z2 => ?_)
      · rw [if_pos (of_decide_eq_true z2)] at q
        exact ⟨_, rfl, _, rfl, _, _, rfl, rfl, q⟩
      · rw [if_neg (fun y => z2 (decide_eq_true y))] at q
        exact ⟨_, rfl, _, rfl, _, _, rfl, rfl, _, rfl, _, _, rfl, rfl, q⟩
theorem ok_broken {f fB : Addr} {fd fdB : FuncData} (F : Fun K "broken_at" "broken_at" s_broken_at f fd) (S : St P w K mg base) (Be : Df K mg "mark_behind" s_mark_behind ["mark", "many", "first", "last"] fB fdB) : FnOk P w K mg base CX0 6 f fd ["row"] (spBroken K) := by
  have GB : FnOk P w K mg base CX0 1 fB fdB ["mark", "many", "first", "last"] spBehind := ok_behind Be.F
  have GO : FnOk P w K mg base CX0 5 S.f__check_order.1 S.f__check_order.2 ["row"] (spOrd K) := ok_ord S.d__check_order.F S.Br S.M.d_int S.d_num S.d__are_ascending_marks S.d__check_row
  have B := S.Br
  refine F.ok sc_broken_at (fun vs H Q E h => ?_) (fun cdv A outer s H vs Q E hr h => ?_)
  · obtain ⟨v, l, rfl, _⟩ := h
    rfl
  · obtain ⟨v, l, rfl, hv, R, few, k⟩ := h
    have hv0 := hv
    obtain ⟨a, xs, rfl, ha, hx⟩ := row_inv hv
    have lx := dps_len hx
    rw [List.length_map] at lx
    have ls : (singles l).length = l.length := by unfold singles; rw [List.length_map]
    rw [ls] at lx
    have hr1 : Room 1 _ := hr.mono (by decide)
    have hu := hu_of hr
    have item : ∀ {H' : Hp} {i : Nat} {x : V}, Same H H' → xs[i]? = some x → ∃ m b, l[i]? = some m ∧ x = .ref b ∧ SqT K H' b [.int m] := fun {H' i x} sH hi => by
      obtain ⟨d, hd, dx⟩ := dps_get (dps_same sH _ _ hx) hi
      unfold singles at hd
      rw [List.map_map, List.getElem?_map] at hd
      obtain ⟨m, hm, rfl⟩ := Option.map_eq_some_iff.mp hd
      obtain ⟨b, rfl, hb⟩ := grp_inv (g := [m]) dx
      exact ⟨m, b, hm, rfl, hb⟩
    refine ⟨_, pss_cons (ps_expr (pe_call GO hr (by rfl) S.d__check_order.g S.d__check_order.F.kp S.d__check_order.b .nil pass0 (pa_cons (pv 0) pa_nil))) (pss_cons (ps_for PassesOwn.never rfl (pi_enumT (by rfl) B.en (pa_cons (pv 0) pa_nil)) (pg_tup (by rfl) (pgs_cons (pg_name (i := 1) sc_broken_at.nd rfl (.inl rfl)) (pgs_cons (pg_name (i := 2) sc_broken_at.nd rfl (.inl rfl)) pgs_nil))) (pss_one (ps_if (pt_cmpR op_gt (pe_callB (call_len_seq) (by rfl) B.c.len (by decide +kernel) (pa_cons (pv 2) pa_nil)) pe_int (nomark _)) (pss_one (ps_never)) pss_nil))) (pss_cons (ps_set (i := 3) sc_broken_at.nd rfl (.inr rfl) (pe_lc (te := tOp (rIxT K) (tVar 2) (tC (.int 0))) (own := [("marks", 2)]) (g := gName 2) (tt := tYes) rfl sc_broken_at.nd (pi_tup (pv 0)) (blkOk_by (N := ["row", "at", "marks", "ring", "many", "behind", "mark"]) (sc := defScope s_broken_at) (by decide +kernel)) (fun _ _ _ _ _ => pg_name (i := 2) sc_broken_at.nd rfl (.inl rfl)) (fun _ _ _ _ _ => pts_nil) (fun _ _ _ _ _ => (pe_ix ix_tup (pv 2) pe_int (fun _ _ => rfl))))) (pss_cons (ps_set (i := 4) sc_broken_at.nd rfl (.inl rfl) (pe_callB (call_len_seq) (by rfl) B.c.len (by decide +kernel) (pa_cons (pv 3) pa_nil))) (pss_cons ((ps_setDc (i := 5) (tk := tOp (rIxL K) (tVar 3) (tOp (rI0 fun i j => .int (i - j)) (tVar 1) (tC (.int 1)))) (tv := tOp (rIxL K) (tVar 3) (tVar 1)) (own := [("at", 1)]) (g := gName 1) rfl sc_broken_at.nd rfl rfl (sw_dict rfl rfl rfl (by decide +kernel)) (pi_range1 rfl B.range (pa_cons (pv 4) pa_nil)) (blkOk_by (N := ["row", "at", "marks", "ring", "many", "behind", "mark"]) (sc := defScope s_broken_at) (by decide +kernel)) (fun _ _ _ _ _ => pg_name (i := 1) sc_broken_at.nd rfl (.inl rfl)) (fun _ _ _ _ _ => (pe_ix ix_list (pv 3) (pe_op op_sub (pv 1) pe_int) (fun _ _ => rfl))) (fun _ _ _ _ _ => (pe_ix ix_list (pv 3) (pv 1) (fun _ _ => rfl))))) (pss_cons (ps_for PassesOwn.never rfl (pi_range1 rfl B.range (pa_cons (pv 4) pa_nil)) (pg_name (i := 6) sc_broken_at.nd rfl (.inl rfl)) (pss_one (ps_if (pt_cmpR op_ne (pe_dget hu (pv 5) (pv 6) (fun _ _ => rfl)) (pe_call GB hr1 (by rfl) Be.g Be.F.kp Be.b .nil pass0 (pa_cons (pv 6) (pa_cons (pv 4) (pa_cons (pe_dget hu (pv 5) pe_int (fun _ _ => rfl)) (pa_cons (pe_ix ix_list (pv 3) (pe_un un_neg pe_int) (fun _ _ => rfl)) pa_nil))))) (nomark _)) (pss_one (ps_ret (pv 6))) pss_nil))) (pss_one (ps_ret pe_non))))))), ?_⟩
    have n0 := R.pos
    refine ⟨_, rfl, .ref a, singles l, rfl, hv0, singles_ok R few, fun H1 s1 => ?_⟩
    refine ⟨_, rfl, a, xs, rfl, sqT_same s1 ha, for_en (K := K) (a := a) (xs := xs) (fun i σ H' => ∃ p q, σ = [some (.ref a), p, q, none, none, none, none] ∧ Same H H') ⟨none, none, rfl, s1⟩ (fun i σ H' ⟨_, _, _, e⟩ => sqT_same e ha) ?_ ?_⟩
    · rintro i x r σ H2 hi ⟨p, q, rfl, e⟩ nr
      have sr := same_put (o := HO.tup [V.int (i : Nat), x]) nr
      have gr : upd H2 r (HO.tup [V.int (i : Nat), x]) r = some (.tup [V.int (i : Nat), x]) := upd_same
      generalize upd H2 r (HO.tup [V.int (i : Nat), x]) = H3 at *
      obtain ⟨m, b, hm, rfl, hb⟩ := item (e.trans sr) hi
      refine ⟨r, _, rfl, SqT.of gr, rfl, _, _, rfl, _, _, rfl, rfl, ?_⟩
      exact ⟨_, rfl, b, _, rfl, .inr hb, _, _, rfl, rfl, _, rfl, iteF (nxI ⟨_, _, rfl, e.trans sr⟩)⟩
    rintro σ H2 ⟨p, q, rfl, e2⟩
    -- ring
    refine nxI ⟨_, rfl, a, rfl, ⟨_, sqT_same e2 ha⟩, fun D nD => ?_⟩
    have s3 := same_put (o := HO.lst []) nD
    refine lc_tup (K := K) (a := a) (xs := xs) (fun i H' => H' D = some (.lst ((l.take i).map V.int)) ∧ Same H2 H') ⟨upd_same, s3⟩ (fun i H' _ ⟨_, e⟩ => sqT_same (e2.trans e) ha) ?_ ?_
    · rintro i x H3 hi ⟨hD, e3⟩
      obtain ⟨m, b, hm, rfl, hb⟩ := item (e2.trans e3) hi
      refine ⟨rfl, _, rfl, b, _, 0, .int m, rfl, rfl, hb, at_of (j := 0) rfl rfl, _, hD, ?_, ?_, fun b o z => ?_⟩
      · rw [List.length_map, List.length_take]; exact small1000 (by omega)
      · rw [upd_same, List.take_add_one, hm, List.map_append]; rfl
      · rw [upd_ne (ne_of_none z nD)]; exact e3 _ _ z
    rintro H3 ⟨hD, e3⟩
    rw [lx, List.take_length] at hD
    refine nxI ⟨_, rfl, D, _, rfl, .inl (SqL.of hD), ?_⟩
    rw [List.length_map]
    -- behind
    have hat : ∀ {i : Nat}, i < l.length → (l.map V.int)[i]? = some (.int (l.getD i 0)) := fun {i} h => by rw [List.getElem?_map, List.getElem?_eq_getElem h, getD_lt h]; rfl
    have hlast : atI (l.map V.int) (-1) = some (.int (l.getLastD 0)) := by
      have ne : l ≠ [] := by intro z; rw [z] at n0; simp at n0
      have e : l.map V.int = (l.dropLast).map V.int ++ [V.int (l.getLast ne)] := by
        conv => lhs; rw [← List.dropLast_concat_getLast ne]
        rw [List.map_append]; rfl
      have e2 : l.getLastD 0 = l.getLast ne := by rw [List.getLastD_eq_getLast?, List.getLast?_eq_some_getLast ne]; rfl
      rw [e2]
      conv => lhs; rw [e]
      exact atI_last _ _
    have prev : ∀ {i : Nat}, i < l.length → atI (l.map V.int) ((i : Int) - 1) = some (.int (l.getD ((i + (l.length - 1)) % l.length) 0)) := fun {i} h => by
      by_cases z : i = 0
      · subst z
        rw [show ((0 : Nat) : Int) - 1 = -1 by omega, hlast, last_lt n0]
        have e : (0 + (l.length - 1)) % l.length = l.length - 1 := by rw [Nat.zero_add]; exact Nat.mod_eq_of_lt (by omega)
        rw [e, getD_lt (by omega)]
      · have e : (i + (l.length - 1)) % l.length = i - 1 := by
          rw [show i + (l.length - 1) = (i - 1) + l.length by omega, Nat.add_mod_right]
          exact Nat.mod_eq_of_lt (by omega)
        rw [e]
        exact at_of (j := i - 1) (by omega) (hat (by omega))
    have idx : ∀ {i j : Nat}, i < l.length → j < l.length → l.getD i 0 = l.getD j 0 → i = j := fun {i j} hi hj e => by
      rw [getD_lt hi, getD_lt hj] at e
      exact (List.getElem_inj R.nd).mp e
    refine nxI ⟨_, rfl, (l.length : Int), rfl, by omega, by omega, fun D2 nD2 => ?_⟩
    have s4 := same_put (o := HO.dK []) nD2
    refine dc_it (walk_range (lo := 0) (n := (l.length : Int).toNat)) (fun i H' => ∃ kvs, H' D2 = some (.dK kvs) ∧ kvs.length ≤ i ∧ (∀ j : Nat, j < i → valV kvs (Sum.inl (l.getD ((j + (l.length - 1)) % l.length) 0)) = some (.int (l.getD j 0))) ∧ Same H3 H') ⟨[], upd_same, Nat.le_refl _, (fun j hj => absurd hj (by omega)), s4⟩ (fun _ _ _ _ => trivial) ?_ ?_
    · rintro i x H4 H5 hi ⟨kvs, hK, kl, kv, e4⟩ ⟨rfl, rfl⟩
      have hi' : i < l.length := by omega
      refine ⟨rfl, yesI ?_⟩
      refine ⟨_, rfl, _, rfl, _, _, rfl, rfl, D, _, (i : Int) - 1, _, rfl, ?_, SqL.of (e4 _ _ hD), prev hi', ?_⟩
      · show V.int (0 + (i : Int) - 1) = _
        rw [Int.zero_add]
      refine ⟨_, rfl, _, rfl, D, _, (i : Int), _, rfl, ?_, SqL.of (e4 _ _ hD), at_of (j := i) (by omega) (hat hi'), ?_⟩
      · show V.int (0 + (i : Int)) = _
        rw [Int.zero_add]
      refine ⟨kvs, Sum.inl (l.getD ((i + (l.length - 1)) % l.length) 0), rfl, hK, small1000 (by omega), ?_⟩
      refine ⟨_, upd_same, ?_, fun j hj => ?_, fun b o z => ?_⟩
      · have := putK_len kvs (Sum.inl (l.getD ((i + (l.length - 1)) % l.length) 0)) (.int (l.getD i 0))
        omega
      · rw [valV_put]
        by_cases ej : j = i
        · subst ej
          rw [if_pos rfl]
        · rw [if_neg, kv j (by omega)]
          intro z
          have z := Sum.inl.inj z
          have m1 : (j + (l.length - 1)) % l.length < l.length := Nat.mod_lt _ n0
          have m2 : (i + (l.length - 1)) % l.length < l.length := Nat.mod_lt _ n0
          have z2 := idx m1 m2 z
          have q1 : (j + (l.length - 1)) % l.length = if j = 0 then l.length - 1 else j - 1 := by
            split
            · rename_i z; subst z; rw [Nat.zero_add]; exact Nat.mod_eq_of_lt (by omega)
            · rw [show j + (l.length - 1) = (j - 1) + l.length by omega, Nat.add_mod_right]; exact Nat.mod_eq_of_lt (by omega)
          have q2 : (i + (l.length - 1)) % l.length = if i = 0 then l.length - 1 else i - 1 := by
            split
            · rename_i z; subst z; rw [Nat.zero_add]; exact Nat.mod_eq_of_lt (by omega)
            · rw [show i + (l.length - 1) = (i - 1) + l.length by omega, Nat.add_mod_right]; exact Nat.mod_eq_of_lt (by omega)
          rw [q1, q2] at z2
          split at z2 <;> split at z2 <;> omega
      · rw [upd_ne (ne_of_none z nD2)]; exact e4 _ _ z
    rintro H4 ⟨kvs, hK, kl, kv, e4⟩
    have look : ∀ {m : Int}, m ∈ l → valV kvs (Sum.inl m) = some (.int (nxt l m)) := fun {m} mm => by
      obtain ⟨j, hj, e⟩ := List.getElem_of_mem mm
      have hjm : l[j]? = some m := by rw [List.getElem?_eq_getElem hj, e]
      have lt : (j + 1) % l.length < l.length := Nat.mod_lt _ n0
      have z := kv ((j + 1) % l.length) (by omega)
      have e3 : ((j + 1) % l.length + (l.length - 1)) % l.length = j := by
        rw [Nat.mod_add_mod, show j + 1 + (l.length - 1) = j + l.length by omega, Nat.add_mod_right]
        exact Nat.mod_eq_of_lt hj
      rw [e3, getD_lt hj, e] at z
      rw [z, nxt_at R.nd hjm]
    have z0 : (0 : Int) ∈ l := List.mem_of_getElem? R.zero
    have hD4 := e4 _ _ hD
    have s14 := (e2.trans e3).trans e4
    refine nxI ⟨_, rfl, (l.length : Int), rfl, by omega, by omega, for_range (lo := 0) (n := (l.length : Int).toNat) (fun i σ H' => ∃ p q r, σ = [some (.ref a), p, q, some (.ref D), some (.int (l.length : Int)), some (.ref D2), r] ∧ (∀ j : Nat, j < i → badB l j = false) ∧ Same H4 H')
      ⟨_, _, _, rfl, (fun j hj => absurd hj (by omega)), Same.refl _⟩ ?_ ?_⟩
    · rintro i σ H5 hi ⟨p1, q1, r1, rfl, ok, e5⟩
      have hi' : i < l.length := by omega
      have im : (i : Int) ∈ l := (R.mem i).mpr ⟨by omega, by omega⟩
      have hK5 := e5 _ _ hK
      rw [Int.zero_add]
      have g1 : DGet H5 D2 (.int (i : Int)) (some (.int (nxt l i))) := by
        have z := DGet.k (k := Sum.inl (i : Int)) hK5
        rw [look im] at z
        exact z
      have g0 : DGet H5 D2 (.int 0) (some (.int (nxt l 0))) := by
        have z := DGet.k (k := Sum.inl (0 : Int)) hK5
        rw [look z0] at z
        exact z
      refine ⟨_, rfl, _, rfl, D2, _, rfl, g1, ?_⟩
      refine ⟨_, rfl, _, rfl, _, rfl, D2, _, rfl, g0, ?_⟩
      refine ⟨_, rfl, 1, rfl, D, _, -1, _, rfl, rfl, SqL.of (e5 _ _ hD4), hlast, ?_⟩
      refine ⟨_, _, _, _, rfl, rfl, _, rfl, ?_⟩
      have eb : (!decide (V.int (nxt l i) = V.int (behind l.length (nxt l 0) (l.getLastD 0) i))) = badB l i := by
        unfold badB
        by_cases h : nxt l i = behind l.length (nxt l 0) (l.getLastD 0) i
        · rw [decide_eq_true (congrArg V.int h), decide_eq_false (fun z => z h)]; rfl
        · rw [decide_eq_false (fun z => h (V.int.inj z)), decide_eq_true h]; rfl
      rw [eb]
      refine ite2 (fun hc => ?_) (fun hc => ?_)
      · have q := k H5 (s14.trans e5)
        rw [brk_first hi' ok hc] at q
        exact ⟨_, rfl, q⟩
      · refine nxI ⟨_, _, _, rfl, fun j hj => ?_, e5⟩
        by_cases z : j = i
        · subst z; simpa using hc
        · exact ok j (by omega)
    · rintro σ H5 ⟨p1, q1, r1, rfl, ok, e5⟩
      have q := k H5 (s14.trans e5)
      rw [brk_none fun j hj => ok j (by omega)] at q
      exact q
theorem ok_stepsSome {f : Addr} {fd : FuncData} (F : Fun K "steps_of_some" "steps_of_some" s_steps_of_some f fd) (S : St P w K mg base) : FnOk P w K mg base CX0 11 f fd ["row"] (spSteps K S.C S.TT) := by
  have GS : FnOk P w K mg base CX0 10 S.f__steps_that_meet.1 S.f__steps_that_meet.2 ["row"] (spSteps K S.C S.TT) := ok_stepsMeet S
  have GR : FnOk P w K mg base CX0 4 S.f__check_row.1 S.f__check_row.2 ["row"] (spRow K) := ok_row S.d__check_row.F S.Br S.M.d_int S.d_num S.d__are_ascending_marks
  refine F.ok sc_steps_of_some (fun vs H Q E h => ?_) (fun cdv A outer s H vs Q E hr h => ?_)
  · obtain ⟨v, gs, rfl, _⟩ := h
    rfl
  · obtain ⟨v, gs, rfl, hv, R, hT, k⟩ := h
    have hr4 : Room 4 _ := hr.mono (by decide)
    refine ⟨_, pss_cons (ps_expr (pe_call GR hr4 (by rfl) S.d__check_row.g S.d__check_row.F.kp S.d__check_row.b .nil pass0 (pa_cons (pv 0) pa_nil))) (pss_one (ps_ret (pe_call GS hr (by rfl) S.d__steps_that_meet.g S.d__steps_that_meet.F.kp S.d__steps_that_meet.b .nil pass0 (pa_cons (pv 0) pa_nil)))), ?_⟩
    refine ⟨_, rfl, v, gs, rfl, hv, R, fun H1 s1 => ?_⟩
    exact ⟨_, rfl, v, gs, rfl, dp_same s1 _ _ hv, R, (fun p hp => (hT p hp).ext s1), fun u H' x t at_ => k u H' ((LamX.ExtN.of s1).trans x) t at_⟩
end
end My
set_option Elab.async false
set_option linter.all false
set_option maxRecDepth 100000
set_option maxHeartbeats 8000000
namespace My
open PySem PySem.Spec PyProof.Rows L2 Gn
/-! the program's questions, of arguments of any kind -/
abbrev sIsPart : Stmt := top 23
theorem scIsPart : FnScope ["given"] ["given"] (defScope sIsPart) := ⟨rfl, rfl, rfl, by decide +kernel, rfl, by decide +kernel, by decide +kernel⟩
def spAsk (K : PySem.W.Frag) (r : PyData → Bool) : Sp := fun vs H Q _ => ∃ v d, vs = [v] ∧ An K H v d ∧ Q (.bl (r d)) H
def spNumA (K : PySem.W.Frag) : Sp := fun vs H Q _ => ∃ (v : V) (d : PyData) (a b : Int), vs = [v, .int a, .int b] ∧ An K H v d ∧ Q (.bl (isNum d a b)) H
section
variable {P : Program} {w : World} {K : PySem.W.Frag} {mg : Str → Option Value} {base : Heap}
theorem ok_isIntA {f : Addr} {fd : FuncData} (F : Fun K "is_integer" "is_integer" sIsInt f fd) (B : Bc mg) : FnOk P w K mg base CX0 1 f fd ["given"] (spAsk K isInt) := by
  refine F.ok scIsInt (fun vs H Q E h => ?_) (fun cdv A outer s H vs Q E hr h => ?_)
  · obtain ⟨v, d, rfl, _⟩ := h
    rfl
  · obtain ⟨v, d, rfl, an, q⟩ := h
    refine ⟨_, pss_one (ps_ret (pe_and (pe_callB call_isi (by rfl) B.isi (by decide +kernel) (pa_cons (pv 0) (pa_cons (pe_bltn (v := .ty "int") (by rfl) B.int (by decide +kernel) rfl) pa_nil)))
      (pe_one (pe_not (pe_callB call_isi (by rfl) B.isi (by decide +kernel) (pa_cons (pv 0) (pa_cons (pe_bltn (v := .ty "bool") (by rfl) B.bool (by decide +kernel) rfl) pa_nil))))))), ?_⟩
    refine ⟨_, rfl, v, .ty "int", _, _, _, rfl, .ty "int", an.ty, kit_ty kit_int, _, rfl, ?_⟩
    cases ei : isIntB d with
    | false =>
      refine iteF ?_
      have e : isInt d = false := by cases d <;> first | rfl | cases ei
      rw [e] at q
      exact q
    | true =>
      refine iteT ⟨_, rfl, v, .ty "bool", _, _, _, rfl, .ty "bool", an.ty, kit_ty kit_bool, _, rfl, ?_⟩
      have e : isInt d = !(isBoolB d) := by cases d <;> first | rfl | cases ei
      rw [e] at q
      exact q
theorem ok_isNumA {f fI : Addr} {fd fdI : FuncData} (F : Fun K "is_number" "is_number" sIsNum f fd) (B : Bc mg) (D : Df K mg "is_integer" sIsInt ["given"] fI fdI) : FnOk P w K mg base CX0 2 f fd ["given", "least", "most"] (spNumA K) := by
  have GI : FnOk P w K mg base CX0 1 fI fdI ["given"] (spAsk K isInt) := ok_isIntA D.F B
  refine F.ok scIsNum (fun vs H Q E h => ?_) (fun cdv A outer s H vs Q E hr h => ?_)
  · obtain ⟨v, d, a, b, rfl, _⟩ := h
    rfl
  · obtain ⟨v, d, a, b, rfl, an, q⟩ := h
    refine ⟨_, pss_one (ps_ret (pe_and (pe_call GI hr (by rfl) D.g D.F.kp D.b .nil pass0 (pa_cons (pv 0) pa_nil)) (pe_one (pe_chain op_le op_le (pv 1) (pv 0) (pv 2))))), ?_⟩
    refine ⟨_, rfl, v, d, rfl, an, _, rfl, ?_⟩
    cases ei : isInt d with
    | false =>
      have e : isNum d a b = false := by cases d <;> first | rfl | cases ei
      rw [e] at q
      exact iteF q
    | true =>
      obtain ⟨i, rfl, rfl⟩ := an.isI ei
      refine iteT ⟨_, rfl, _, rfl, _, _, rfl, rfl, _, rfl, ?_⟩
      refine ite2 (fun hc => ?_) (fun hc => ?_)
      · have h1 : a ≤ i := of_decide_eq_true hc
        refine ⟨_, rfl, _, _, rfl, rfl, ?_⟩
        have e : isNum (.int i) a b = decide (i ≤ b) := by
          show decide (a ≤ i ∧ i ≤ b) = _
          rw [decide_eq_decide]; exact ⟨fun z => z.2, fun z => ⟨h1, z⟩⟩
        rw [e] at q
        exact q
      · have h1 : ¬ a ≤ i := fun z => hc (decide_eq_true z)
        have e : isNum (.int i) a b = false := decide_eq_false fun z => h1 z.1
        have e2 : decide (a ≤ i) = false := decide_eq_false h1
        rw [e] at q
        exact q
end
end My
set_option Elab.async false
set_option linter.all false
set_option maxRecDepth 100000
set_option maxHeartbeats 8000000
set_option exponentiation.threshold 2000
namespace My
open PySem PySem.Spec PyProof.Rows L2 L2H Gn
/-! the program's checks, of arguments of any kind: let in, or refused -/
/-- one of the class C is raised, v in its `given` -/
def Thrown (C : Addr) (v : V) (H : Hp) (E : XK) : Prop := ∀ d H', Same H H' → H d = none → H' d = some (.xd [("given", v)]) → E (.ref C) (some d) H'
/-- a check: nothing where it is right, else thrown -/
def spChk (K : PySem.W.Frag) (C : Addr) (r : PyData → Bool) : Sp := fun vs H Q E => ∃ v d, vs = [v] ∧ An K H v d ∧ (r d = true → Q .non H) ∧ (r d = false → Thrown C v H E)
def spChkN (K : PySem.W.Frag) (C : Addr) : Sp := fun vs H Q E => ∃ (v : V) (d : PyData) (a b : Int), vs = [v, .int a, .int b] ∧ An K H v d ∧ (isNum d a b = true → Q .non H) ∧ (isNum d a b = false → Thrown C v H E)
section
variable {P : Program} {w : World} {K : PySem.W.Frag} {mg : Str → Option Value} {base : Heap}
theorem ok_chNumA {f fN fI CN fE : Addr} {fd fdN fdI fdE : FuncData} (F : Fun K "check_number" "check_number" sChNum f fd) (B : Bc mg) (D : Df K mg "is_integer" sIsInt ["given"] fI fdI) (N : Df K mg "is_number" sIsNum ["given", "least", "most"] fN fdN) (T : OwE P w K mg base "InvalidNumber" ["given"] CN fE fdE) :
    FnOk P w K mg base (L2N.CX P w) 3 f fd ["given", "least", "most"] (spChkN K CN) := by
  have GN : FnOk P w K mg base CX0 2 fN fdN ["given", "least", "most"] (spNumA K) := ok_isNumA N.F B D
  refine okN F scChNum (fun vs H Q E h => ?_) (fun cdv A outer s H vs Q E hr h => ?_)
  · obtain ⟨v, d, a, b, rfl, _⟩ := h
    rfl
  · obtain ⟨v, d, a, b, rfl, an, q, e⟩ := h
    have hr2 : Room 2 _ := hr.mono (by decide)
    have tk : L2N.Takes (cxOf (L2N.CX P w) P w K mg base ["given", "least", "most"] "check_number" (defScope sChNum) f cdv A outer s H E) (fun C d _ G => E C d G) := L2N.takes_of rfl rfl rfl rfl
    refine ⟨_, pss_one (ps_if (pt_not (pt_val (pe_call GN hr (by rfl) N.g N.F.kp N.b .nil pass0 (pa_cons (pv 0) (pa_cons (pv 1) (pa_cons (pv 2) pa_nil))))))
      (pss_one (L2N.ps_raise rfl tk (pmk_exoN (dvs := []) T.own T.ini T.ty T.run hr2 T.b .nil pass0 (by rfl) T.g (pa_cons (pv 0) pa_nil)))) pss_nil), ?_⟩
    refine ⟨_, rfl, _, rfl, _, rfl, v, d, a, b, rfl, an, _, rfl, ?_⟩
    cases c : isNum d a b with
    | true => exact iteF (q c)
    | false =>
      refine iteT ?_
      exact thr_of (K := K) (C := CN) (n := "given") (i := 0) (x := v) T.own (T.no "given" (by simp)) rfl fun d H' s1 n1 h1 => e c d H' s1 n1 h1
end
end My
set_option Elab.async false
set_option linter.all false
set_option maxRecDepth 100000
set_option maxHeartbeats 8000000
set_option exponentiation.threshold 2000
namespace My
open PySem PySem.Spec PyProof.Rows L2 L2H Gn Mt
/-! what the law tells of an error -/
abbrev sLError : Stmt := top 83
abbrev sLClass : Stmt := top 84
abbrev sLField : Stmt := top 85
theorem scLClass : FnScope ["_law_e", "_law_sorts", "_law_found", "_law_word", "_law_fits_here"] ["_law_e"] (defScope sLClass) := ⟨rfl, rfl, rfl, by decide +kernel, rfl, by decide +kernel, by decide +kernel⟩
theorem scLField : FnScope ["_law_e"] ["_law_e"] (defScope sLField) := ⟨rfl, rfl, rfl, by decide +kernel, rfl, by decide +kernel, by decide +kernel⟩
theorem scLError : FnScope ["_law_act", "_law_found", "_law_e", "_law_bases", "_law_plain"] ["_law_act"] (defScope sLError) := ⟨rfl, rfl, rfl, by decide +kernel, rfl, by decide +kernel, by decide +kernel⟩
/-- the classes in the law's order -/
def nmOf : Nat → Str
  | 0 => "InvalidText" | 1 => "InvalidNumber" | 2 => "InvalidStep" | 3 => "InvalidArc" | 4 => "InvalidSighting" | 5 => "InvalidSightings" | 6 => "NotALot" | 7 => "InvalidPieces" | 8 => "InvalidOrder" | 9 => "InvalidIndex" | 10 => "NoStep" | 11 => "TooMany" | _ => "Broken"
def wdOf : Nat → Str
  | 0 => "text" | 1 => "number" | 2 => "step" | 3 => "arc" | 4 => "sighting" | 5 => "sightings" | 6 => "lot" | 7 => "pieces" | 8 => "order" | 9 => "index" | 10 => "none" | 11 => "many" | _ => "broken"
/-- what they have -/
def fdOf (i : Nat) : Option Str := if i = 5 ∨ i = 7 ∨ i = 8 ∨ i = 12 then some "index" else if i = 10 then none else if i = 11 then some "most" else some "given"
structure Er (mg : Str → Option Value) where
  c : Nat → Addr
  R0 : Addr
  R1 : Addr
  R2 : Addr
  g : ∀ i, i < 13 → mg (nmOf i) = some (.ref (c i))
  g0 : mg "NotRight" = some (.ref R0)
  g1 : mg "NotKnown" = some (.ref R1)
  g2 : mg "NotPossible" = some (.ref R2)
  v0 : mg "ValueError" = none
  v1 : mg "LookupError" = none
  v2 : mg "ArithmeticError" = none
  isi : mg "isinstance" = none
  len : mg "len" = none
/-- an error of the class that stands at i -/
structure Held (K : PySem.W.Frag) {mg : Str → Option Value} (B : Er mg) (D : Addr) (i0 : Nat) : Prop where
  ex : ExcC K D
  xf : XfC K D
  lt : i0 < 13
  one : ∀ i, i < 13 → PySem.W.kitOne K (.ref D) (.ref (B.c i)) = some (decide (i = i0))
  no : ∀ n, fdOf i0 = some n → PySem.W.findIn K (.ref D) n = some none
  bs : ∃ b0 b1 b2 : Bool, [b0, b1, b2].count true = 1 ∧ PySem.W.kitOne K (.ref D) (.ref B.R0) = some b0 ∧ PySem.W.kitOne K (.ref D) (.ref B.R1) = some b1 ∧ PySem.W.kitOne K (.ref D) (.ref B.R2) = some b2 ∧
    PySem.W.kitOne K (.ref D) (.type "ValueError") = some b0 ∧ PySem.W.kitOne K (.ref D) (.type "LookupError") = some b1 ∧ PySem.W.kitOne K (.ref D) (.type "ArithmeticError") = some b2
  ma : PySem.W.exmAny K (.ref D) [.ref B.R0, .ref B.R1, .ref B.R2] = some true
/-- what it has -/
def FldAt (H : Hp) (d : Option Addr) (i0 : Nat) (v : V) : Prop := match fdOf i0 with
  | none => v = .non
  | some n => ∃ dd fs, d = some dd ∧ H dd = some (.xd fs) ∧ fs.lookup n = some v
def DictAt (H : Hp) (d : Option Addr) : Prop := ∀ y, d = some y → ∃ fs, H y = some (.xd fs)
def spLClass (K : PySem.W.Frag) {mg : Str → Option Value} (B : Er mg) : Addr × Obj → Sp := fun p vs H Q _ => ∃ (D : Addr) (d : Option Addr) (i0 : Nat), vs = [.ref p.1] ∧ Zc (.ref D) d p.2 ∧ (∃ w, p.2.data = .fields w) ∧ Held K B D i0 ∧ DictAt H d ∧ ∀ H', Same H H' → Q (.str (wdOf i0)) H'
def spLField (K : PySem.W.Frag) {mg : Str → Option Value} (B : Er mg) : Addr × Obj → Sp := fun p vs H Q _ => ∃ (D : Addr) (d : Option Addr) (i0 : Nat) (v : V), vs = [.ref p.1] ∧ Zc (.ref D) d p.2 ∧ (∃ w, p.2.data = .fields w) ∧ Held K B D i0 ∧ DictAt H d ∧ FldAt H d i0 v ∧ ∀ H', Same H H' → Q v H'
theorem isP_of {K : PySem.W.Frag} {a C D : Addr} {d : Option Addr} {b : Bool} {H : Hp} {Q : VK} (X : ExcC K D) (hd : DictAt H d) (o : PySem.W.kitOne K (.ref D) (.ref C) = some b) (q : Q (.bl b) H) : rIsP K (.ref D) a d [.ref a, .ref C] H Q :=
  ⟨D, .ref C, .ref C, b, rfl, X, rfl, hd, fun u r => r, o, q⟩
theorem isPt_of {K : PySem.W.Frag} {a D : Addr} {n : String} {d : Option Addr} {b : Bool} {H : Hp} {Q : VK} (X : ExcC K D) (hd : DictAt H d) (o : PySem.W.kitOne K (.ref D) (.type n) = some b) (q : Q (.bl b) H) : rIsP K (.ref D) a d [.ref a, .ty n] H Q :=
  ⟨D, .ty n, .type n, b, rfl, X, rfl, hd, fun u r => r, o, q⟩
theorem DictAt.same {H H' : Hp} {d : Option Addr} (h : DictAt H d) (e : Same H H') : DictAt H' d := fun y z => by
  obtain ⟨fs, x⟩ := h y z
  exact ⟨fs, e _ _ x⟩
section
variable {P : Program} {w : World} {K : PySem.W.Frag} {mg : Str → Option Value} {base : Heap}
theorem ok_lclass {f : Addr} {fd : FuncData} (F : Fun K "_law_class" "_law_class" sLClass f fd) (B : Er mg) : FnP P w K mg base CX0 1 f fd ["_law_e"] (spLClass K B) := by
  refine funP F scLClass (fun p vs H Q E h => ?_) (fun cdv A outer s H vs Q E p hot hr h => ?_)
  · obtain ⟨D, d, i0, rfl, _⟩ := h
    rfl
  · obtain ⟨D, d, i0, rfl, hz, hf, hd, hD, q⟩ := h
    have mp : (p.1, p.2) ∈ (cxH CX0 P w K mg base ["_law_e", "_law_sorts", "_law_found", "_law_word", "_law_fits_here"] "_law_class" (defScope sLClass) f cdv A outer s H E p).pn := List.mem_cons_self
    refine ⟨_, pss_cons (ps_set (i := 1) scLClass.nd rfl (.inl rfl) (pe_lst (pa_cons (pe_lst (pa_cons pe_str (pa_cons (pe_callB (cr_isP mp hz hf) (by rfl) B.isi (by decide +kernel) (pa_cons (pv 0) (pa_cons (pe_glob (v := .ref (B.c 0)) rfl (B.g 0 (by decide)) rfl) pa_nil))) pa_nil))) (pa_cons (pe_lst (pa_cons pe_str (pa_cons (pe_callB (cr_isP mp hz hf) (by rfl) B.isi (by decide +kernel) (pa_cons (pv 0) (pa_cons (pe_glob (v := .ref (B.c 1)) rfl (B.g 1 (by decide)) rfl) pa_nil))) pa_nil))) pa_nil))))
      (pss_cons (ps_set (i := 1) scLClass.nd rfl (.inl rfl) (pe_op op_cat (pv 1) (pe_lst (pa_cons (pe_lst (pa_cons pe_str (pa_cons (pe_callB (cr_isP mp hz hf) (by rfl) B.isi (by decide +kernel) (pa_cons (pv 0) (pa_cons (pe_glob (v := .ref (B.c 2)) rfl (B.g 2 (by decide)) rfl) pa_nil))) pa_nil))) (pa_cons (pe_lst (pa_cons pe_str (pa_cons (pe_callB (cr_isP mp hz hf) (by rfl) B.isi (by decide +kernel) (pa_cons (pv 0) (pa_cons (pe_glob (v := .ref (B.c 3)) rfl (B.g 3 (by decide)) rfl) pa_nil))) pa_nil))) pa_nil)))))
      (pss_cons (ps_set (i := 1) scLClass.nd rfl (.inl rfl) (pe_op op_cat (pv 1) (pe_lst (pa_cons (pe_lst (pa_cons pe_str (pa_cons (pe_callB (cr_isP mp hz hf) (by rfl) B.isi (by decide +kernel) (pa_cons (pv 0) (pa_cons (pe_glob (v := .ref (B.c 4)) rfl (B.g 4 (by decide)) rfl) pa_nil))) pa_nil))) (pa_cons (pe_lst (pa_cons pe_str (pa_cons (pe_callB (cr_isP mp hz hf) (by rfl) B.isi (by decide +kernel) (pa_cons (pv 0) (pa_cons (pe_glob (v := .ref (B.c 5)) rfl (B.g 5 (by decide)) rfl) pa_nil))) pa_nil))) pa_nil)))))
      (pss_cons (ps_set (i := 1) scLClass.nd rfl (.inl rfl) (pe_op op_cat (pv 1) (pe_lst (pa_cons (pe_lst (pa_cons pe_str (pa_cons (pe_callB (cr_isP mp hz hf) (by rfl) B.isi (by decide +kernel) (pa_cons (pv 0) (pa_cons (pe_glob (v := .ref (B.c 6)) rfl (B.g 6 (by decide)) rfl) pa_nil))) pa_nil))) (pa_cons (pe_lst (pa_cons pe_str (pa_cons (pe_callB (cr_isP mp hz hf) (by rfl) B.isi (by decide +kernel) (pa_cons (pv 0) (pa_cons (pe_glob (v := .ref (B.c 7)) rfl (B.g 7 (by decide)) rfl) pa_nil))) pa_nil))) pa_nil)))))
      (pss_cons (ps_set (i := 1) scLClass.nd rfl (.inl rfl) (pe_op op_cat (pv 1) (pe_lst (pa_cons (pe_lst (pa_cons pe_str (pa_cons (pe_callB (cr_isP mp hz hf) (by rfl) B.isi (by decide +kernel) (pa_cons (pv 0) (pa_cons (pe_glob (v := .ref (B.c 8)) rfl (B.g 8 (by decide)) rfl) pa_nil))) pa_nil))) (pa_cons (pe_lst (pa_cons pe_str (pa_cons (pe_callB (cr_isP mp hz hf) (by rfl) B.isi (by decide +kernel) (pa_cons (pv 0) (pa_cons (pe_glob (v := .ref (B.c 9)) rfl (B.g 9 (by decide)) rfl) pa_nil))) pa_nil))) pa_nil)))))
      (pss_cons (ps_set (i := 1) scLClass.nd rfl (.inl rfl) (pe_op op_cat (pv 1) (pe_lst (pa_cons (pe_lst (pa_cons pe_str (pa_cons (pe_callB (cr_isP mp hz hf) (by rfl) B.isi (by decide +kernel) (pa_cons (pv 0) (pa_cons (pe_glob (v := .ref (B.c 10)) rfl (B.g 10 (by decide)) rfl) pa_nil))) pa_nil))) (pa_cons (pe_lst (pa_cons pe_str (pa_cons (pe_callB (cr_isP mp hz hf) (by rfl) B.isi (by decide +kernel) (pa_cons (pv 0) (pa_cons (pe_glob (v := .ref (B.c 11)) rfl (B.g 11 (by decide)) rfl) pa_nil))) pa_nil))) (pa_cons (pe_lst (pa_cons pe_str (pa_cons (pe_callB (cr_isP mp hz hf) (by rfl) B.isi (by decide +kernel) (pa_cons (pv 0) (pa_cons (pe_glob (v := .ref (B.c 12)) rfl (B.g 12 (by decide)) rfl) pa_nil))) pa_nil))) pa_nil))))))
      (pss_cons (ps_setLcH (i := 2) (g := gLst K 2 (gCons (gName 3) (gCons (gName 4) gNil))) (te := tVar 3) (tt := tTest (tVar 4)) (own := [("_law_word", 3), ("_law_fits_here", 4)]) (p := p) ⟨hot.1, hot.2⟩ mp scLClass.nd rfl rfl (sw_true rfl rfl rfl (by decide +kernel)) (pv 1) (blkOk_by (N := ["_law_e", "_law_sorts", "_law_found", "_law_word", "_law_fits_here"]) (sc := defScope sLClass) (by decide +kernel)) (fun _ _ _ _ _ S => pg_lstH S (pgs_cons (pg_name (i := 3) scLClass.nd rfl (.inl rfl)) (pgs_cons (pg_name (i := 4) scLClass.nd rfl (.inl rfl)) pgs_nil))) (fun _ _ _ _ _ _ => pts_one (pt_val (pv 4))) (fun _ _ _ _ _ _ => pv 3))
      (pss_one (ps_ret (pe_ifExp (pt_cmpR op_eq (pe_callB call_len_seq (by rfl) B.len PySem.boot_len (pa_cons (pv 2) pa_nil)) pe_int (nomark _)) (pe_ix ix_list (pv 2) pe_int (fun _ _ => rfl)) pe_str))))))))), ?_⟩
    dsimp only [gName, tSeq, tAsg]
    have S : Same H H := Same.refl H
    refine ⟨_, rfl, ?_⟩
    dsimp only [tCB, tCons, tC, tNil]
    refine isP_of hd.ex (hD.same S) (hd.one 0 (by decide)) ?_
    refine ⟨(by show 2 ≤ sizeLine; decide), fun a0 h0 => ?_⟩
    have e := same_put (o := HO.lst [.str "text", .bl (decide (0 = i0))]) h0
    have S := S.trans e
    have f0 : upd H a0 (HO.lst [.str "text", .bl (decide (0 = i0))]) a0 = some (HO.lst [.str "text", .bl (decide (0 = i0))]) := upd_same
    generalize upd H a0 (HO.lst [.str "text", .bl (decide (0 = i0))]) = G0 at *
    clear e
    refine ⟨_, rfl, ?_⟩
    dsimp only [tCB, tCons, tC, tNil]
    refine isP_of hd.ex (hD.same S) (hd.one 1 (by decide)) ?_
    refine ⟨(by show 2 ≤ sizeLine; decide), fun a1 h1 => ?_⟩
    have e := same_put (o := HO.lst [.str "number", .bl (decide (1 = i0))]) h1
    have f0 := e _ _ f0
    have S := S.trans e
    have f1 : upd G0 a1 (HO.lst [.str "number", .bl (decide (1 = i0))]) a1 = some (HO.lst [.str "number", .bl (decide (1 = i0))]) := upd_same
    generalize upd G0 a1 (HO.lst [.str "number", .bl (decide (1 = i0))]) = G1 at *
    clear e
    refine ⟨(by show 2 ≤ sizeLine; decide), fun b0 k0 => ?_⟩
    have e := same_put (o := HO.lst [.ref a0, .ref a1]) k0
    have f0 := e _ _ f0
    have f1 := e _ _ f1
    have S := S.trans e
    have fb : upd G1 b0 (HO.lst [.ref a0, .ref a1]) b0 = some (HO.lst [.ref a0, .ref a1]) := upd_same
    generalize upd G1 b0 (HO.lst [.ref a0, .ref a1]) = G2 at *
    clear e
    have fl := fb
    refine ⟨_, rfl, ?_⟩
    refine ⟨_, rfl, ?_⟩
    dsimp only [tCB, tCons, tC, tNil]
    refine isP_of hd.ex (hD.same S) (hd.one 2 (by decide)) ?_
    refine ⟨(by show 2 ≤ sizeLine; decide), fun a2 h2 => ?_⟩
    have e := same_put (o := HO.lst [.str "step", .bl (decide (2 = i0))]) h2
    have f0 := e _ _ f0
    have f1 := e _ _ f1
    have fl := e _ _ fl
    have S := S.trans e
    have f2 : upd G2 a2 (HO.lst [.str "step", .bl (decide (2 = i0))]) a2 = some (HO.lst [.str "step", .bl (decide (2 = i0))]) := upd_same
    generalize upd G2 a2 (HO.lst [.str "step", .bl (decide (2 = i0))]) = G3 at *
    clear e
    refine ⟨_, rfl, ?_⟩
    dsimp only [tCB, tCons, tC, tNil]
    refine isP_of hd.ex (hD.same S) (hd.one 3 (by decide)) ?_
    refine ⟨(by show 2 ≤ sizeLine; decide), fun a3 h3 => ?_⟩
    have e := same_put (o := HO.lst [.str "arc", .bl (decide (3 = i0))]) h3
    have f0 := e _ _ f0
    have f1 := e _ _ f1
    have f2 := e _ _ f2
    have fl := e _ _ fl
    have S := S.trans e
    have f3 : upd G3 a3 (HO.lst [.str "arc", .bl (decide (3 = i0))]) a3 = some (HO.lst [.str "arc", .bl (decide (3 = i0))]) := upd_same
    generalize upd G3 a3 (HO.lst [.str "arc", .bl (decide (3 = i0))]) = G4 at *
    clear e
    refine ⟨(by show 2 ≤ sizeLine; decide), fun b1 k1 => ?_⟩
    have e := same_put (o := HO.lst [.ref a2, .ref a3]) k1
    have f0 := e _ _ f0
    have f1 := e _ _ f1
    have f2 := e _ _ f2
    have f3 := e _ _ f3
    have fl := e _ _ fl
    have S := S.trans e
    have fb : upd G4 b1 (HO.lst [.ref a2, .ref a3]) b1 = some (HO.lst [.ref a2, .ref a3]) := upd_same
    generalize upd G4 b1 (HO.lst [.ref a2, .ref a3]) = G5 at *
    clear e
    refine ⟨b0, b1, [.ref a0, .ref a1], [.ref a2, .ref a3], rfl, rfl, fl, fb, (by show 4 ≤ sizeLine; decide), fun l1 m1 => ?_⟩
    have e := same_put (o := HO.lst ([.ref a0, .ref a1] ++ [.ref a2, .ref a3])) m1
    have f0 := e _ _ f0
    have f1 := e _ _ f1
    have f2 := e _ _ f2
    have f3 := e _ _ f3
    have S := S.trans e
    have fl : upd G5 l1 (HO.lst ([.ref a0, .ref a1] ++ [.ref a2, .ref a3])) l1 = some (HO.lst [.ref a0, .ref a1, .ref a2, .ref a3]) := upd_same
    generalize upd G5 l1 (HO.lst ([.ref a0, .ref a1] ++ [.ref a2, .ref a3])) = G6 at *
    clear e fb
    refine ⟨_, rfl, ?_⟩
    refine ⟨_, rfl, ?_⟩
    dsimp only [tCB, tCons, tC, tNil]
    refine isP_of hd.ex (hD.same S) (hd.one 4 (by decide)) ?_
    refine ⟨(by show 2 ≤ sizeLine; decide), fun a4 h4 => ?_⟩
    have e := same_put (o := HO.lst [.str "sighting", .bl (decide (4 = i0))]) h4
    have f0 := e _ _ f0
    have f1 := e _ _ f1
    have f2 := e _ _ f2
    have f3 := e _ _ f3
    have fl := e _ _ fl
    have S := S.trans e
    have f4 : upd G6 a4 (HO.lst [.str "sighting", .bl (decide (4 = i0))]) a4 = some (HO.lst [.str "sighting", .bl (decide (4 = i0))]) := upd_same
    generalize upd G6 a4 (HO.lst [.str "sighting", .bl (decide (4 = i0))]) = G7 at *
    clear e
    refine ⟨_, rfl, ?_⟩
    dsimp only [tCB, tCons, tC, tNil]
    refine isP_of hd.ex (hD.same S) (hd.one 5 (by decide)) ?_
    refine ⟨(by show 2 ≤ sizeLine; decide), fun a5 h5 => ?_⟩
    have e := same_put (o := HO.lst [.str "sightings", .bl (decide (5 = i0))]) h5
    have f0 := e _ _ f0
    have f1 := e _ _ f1
    have f2 := e _ _ f2
    have f3 := e _ _ f3
    have f4 := e _ _ f4
    have fl := e _ _ fl
    have S := S.trans e
    have f5 : upd G7 a5 (HO.lst [.str "sightings", .bl (decide (5 = i0))]) a5 = some (HO.lst [.str "sightings", .bl (decide (5 = i0))]) := upd_same
    generalize upd G7 a5 (HO.lst [.str "sightings", .bl (decide (5 = i0))]) = G8 at *
    clear e
    refine ⟨(by show 2 ≤ sizeLine; decide), fun b2 k2 => ?_⟩
    have e := same_put (o := HO.lst [.ref a4, .ref a5]) k2
    have f0 := e _ _ f0
    have f1 := e _ _ f1
    have f2 := e _ _ f2
    have f3 := e _ _ f3
    have f4 := e _ _ f4
    have f5 := e _ _ f5
    have fl := e _ _ fl
    have S := S.trans e
    have fb : upd G8 b2 (HO.lst [.ref a4, .ref a5]) b2 = some (HO.lst [.ref a4, .ref a5]) := upd_same
    generalize upd G8 b2 (HO.lst [.ref a4, .ref a5]) = G9 at *
    clear e
    refine ⟨l1, b2, [.ref a0, .ref a1, .ref a2, .ref a3], [.ref a4, .ref a5], rfl, rfl, fl, fb, (by show 6 ≤ sizeLine; decide), fun l2 m2 => ?_⟩
    have e := same_put (o := HO.lst ([.ref a0, .ref a1, .ref a2, .ref a3] ++ [.ref a4, .ref a5])) m2
    have f0 := e _ _ f0
    have f1 := e _ _ f1
    have f2 := e _ _ f2
    have f3 := e _ _ f3
    have f4 := e _ _ f4
    have f5 := e _ _ f5
    have S := S.trans e
    have fl : upd G9 l2 (HO.lst ([.ref a0, .ref a1, .ref a2, .ref a3] ++ [.ref a4, .ref a5])) l2 = some (HO.lst [.ref a0, .ref a1, .ref a2, .ref a3, .ref a4, .ref a5]) := upd_same
    generalize upd G9 l2 (HO.lst ([.ref a0, .ref a1, .ref a2, .ref a3] ++ [.ref a4, .ref a5])) = G10 at *
    clear e fb
    refine ⟨_, rfl, ?_⟩
    refine ⟨_, rfl, ?_⟩
    dsimp only [tCB, tCons, tC, tNil]
    refine isP_of hd.ex (hD.same S) (hd.one 6 (by decide)) ?_
    refine ⟨(by show 2 ≤ sizeLine; decide), fun a6 h6 => ?_⟩
    have e := same_put (o := HO.lst [.str "lot", .bl (decide (6 = i0))]) h6
    have f0 := e _ _ f0
    have f1 := e _ _ f1
    have f2 := e _ _ f2
    have f3 := e _ _ f3
    have f4 := e _ _ f4
    have f5 := e _ _ f5
    have fl := e _ _ fl
    have S := S.trans e
    have f6 : upd G10 a6 (HO.lst [.str "lot", .bl (decide (6 = i0))]) a6 = some (HO.lst [.str "lot", .bl (decide (6 = i0))]) := upd_same
    generalize upd G10 a6 (HO.lst [.str "lot", .bl (decide (6 = i0))]) = G11 at *
    clear e
    refine ⟨_, rfl, ?_⟩
    dsimp only [tCB, tCons, tC, tNil]
    refine isP_of hd.ex (hD.same S) (hd.one 7 (by decide)) ?_
    refine ⟨(by show 2 ≤ sizeLine; decide), fun a7 h7 => ?_⟩
    have e := same_put (o := HO.lst [.str "pieces", .bl (decide (7 = i0))]) h7
    have f0 := e _ _ f0
    have f1 := e _ _ f1
    have f2 := e _ _ f2
    have f3 := e _ _ f3
    have f4 := e _ _ f4
    have f5 := e _ _ f5
    have f6 := e _ _ f6
    have fl := e _ _ fl
    have S := S.trans e
    have f7 : upd G11 a7 (HO.lst [.str "pieces", .bl (decide (7 = i0))]) a7 = some (HO.lst [.str "pieces", .bl (decide (7 = i0))]) := upd_same
    generalize upd G11 a7 (HO.lst [.str "pieces", .bl (decide (7 = i0))]) = G12 at *
    clear e
    refine ⟨(by show 2 ≤ sizeLine; decide), fun b3 k3 => ?_⟩
    have e := same_put (o := HO.lst [.ref a6, .ref a7]) k3
    have f0 := e _ _ f0
    have f1 := e _ _ f1
    have f2 := e _ _ f2
    have f3 := e _ _ f3
    have f4 := e _ _ f4
    have f5 := e _ _ f5
    have f6 := e _ _ f6
    have f7 := e _ _ f7
    have fl := e _ _ fl
    have S := S.trans e
    have fb : upd G12 b3 (HO.lst [.ref a6, .ref a7]) b3 = some (HO.lst [.ref a6, .ref a7]) := upd_same
    generalize upd G12 b3 (HO.lst [.ref a6, .ref a7]) = G13 at *
    clear e
    refine ⟨l2, b3, [.ref a0, .ref a1, .ref a2, .ref a3, .ref a4, .ref a5], [.ref a6, .ref a7], rfl, rfl, fl, fb, (by show 8 ≤ sizeLine; decide), fun l3 m3 => ?_⟩
    have e := same_put (o := HO.lst ([.ref a0, .ref a1, .ref a2, .ref a3, .ref a4, .ref a5] ++ [.ref a6, .ref a7])) m3
    have f0 := e _ _ f0
    have f1 := e _ _ f1
    have f2 := e _ _ f2
    have f3 := e _ _ f3
    have f4 := e _ _ f4
    have f5 := e _ _ f5
    have f6 := e _ _ f6
    have f7 := e _ _ f7
    have S := S.trans e
    have fl : upd G13 l3 (HO.lst ([.ref a0, .ref a1, .ref a2, .ref a3, .ref a4, .ref a5] ++ [.ref a6, .ref a7])) l3 = some (HO.lst [.ref a0, .ref a1, .ref a2, .ref a3, .ref a4, .ref a5, .ref a6, .ref a7]) := upd_same
    generalize upd G13 l3 (HO.lst ([.ref a0, .ref a1, .ref a2, .ref a3, .ref a4, .ref a5] ++ [.ref a6, .ref a7])) = G14 at *
    clear e fb
    refine ⟨_, rfl, ?_⟩
    refine ⟨_, rfl, ?_⟩
    dsimp only [tCB, tCons, tC, tNil]
    refine isP_of hd.ex (hD.same S) (hd.one 8 (by decide)) ?_
    refine ⟨(by show 2 ≤ sizeLine; decide), fun a8 h8 => ?_⟩
    have e := same_put (o := HO.lst [.str "order", .bl (decide (8 = i0))]) h8
    have f0 := e _ _ f0
    have f1 := e _ _ f1
    have f2 := e _ _ f2
    have f3 := e _ _ f3
    have f4 := e _ _ f4
    have f5 := e _ _ f5
    have f6 := e _ _ f6
    have f7 := e _ _ f7
    have fl := e _ _ fl
    have S := S.trans e
    have f8 : upd G14 a8 (HO.lst [.str "order", .bl (decide (8 = i0))]) a8 = some (HO.lst [.str "order", .bl (decide (8 = i0))]) := upd_same
    generalize upd G14 a8 (HO.lst [.str "order", .bl (decide (8 = i0))]) = G15 at *
    clear e
    refine ⟨_, rfl, ?_⟩
    dsimp only [tCB, tCons, tC, tNil]
    refine isP_of hd.ex (hD.same S) (hd.one 9 (by decide)) ?_
    refine ⟨(by show 2 ≤ sizeLine; decide), fun a9 h9 => ?_⟩
    have e := same_put (o := HO.lst [.str "index", .bl (decide (9 = i0))]) h9
    have f0 := e _ _ f0
    have f1 := e _ _ f1
    have f2 := e _ _ f2
    have f3 := e _ _ f3
    have f4 := e _ _ f4
    have f5 := e _ _ f5
    have f6 := e _ _ f6
    have f7 := e _ _ f7
    have f8 := e _ _ f8
    have fl := e _ _ fl
    have S := S.trans e
    have f9 : upd G15 a9 (HO.lst [.str "index", .bl (decide (9 = i0))]) a9 = some (HO.lst [.str "index", .bl (decide (9 = i0))]) := upd_same
    generalize upd G15 a9 (HO.lst [.str "index", .bl (decide (9 = i0))]) = G16 at *
    clear e
    refine ⟨(by show 2 ≤ sizeLine; decide), fun b4 k4 => ?_⟩
    have e := same_put (o := HO.lst [.ref a8, .ref a9]) k4
    have f0 := e _ _ f0
    have f1 := e _ _ f1
    have f2 := e _ _ f2
    have f3 := e _ _ f3
    have f4 := e _ _ f4
    have f5 := e _ _ f5
    have f6 := e _ _ f6
    have f7 := e _ _ f7
    have f8 := e _ _ f8
    have f9 := e _ _ f9
    have fl := e _ _ fl
    have S := S.trans e
    have fb : upd G16 b4 (HO.lst [.ref a8, .ref a9]) b4 = some (HO.lst [.ref a8, .ref a9]) := upd_same
    generalize upd G16 b4 (HO.lst [.ref a8, .ref a9]) = G17 at *
    clear e
    refine ⟨l3, b4, [.ref a0, .ref a1, .ref a2, .ref a3, .ref a4, .ref a5, .ref a6, .ref a7], [.ref a8, .ref a9], rfl, rfl, fl, fb, (by show 10 ≤ sizeLine; decide), fun l4 m4 => ?_⟩
    have e := same_put (o := HO.lst ([.ref a0, .ref a1, .ref a2, .ref a3, .ref a4, .ref a5, .ref a6, .ref a7] ++ [.ref a8, .ref a9])) m4
    have f0 := e _ _ f0
    have f1 := e _ _ f1
    have f2 := e _ _ f2
    have f3 := e _ _ f3
    have f4 := e _ _ f4
    have f5 := e _ _ f5
    have f6 := e _ _ f6
    have f7 := e _ _ f7
    have f8 := e _ _ f8
    have f9 := e _ _ f9
    have S := S.trans e
    have fl : upd G17 l4 (HO.lst ([.ref a0, .ref a1, .ref a2, .ref a3, .ref a4, .ref a5, .ref a6, .ref a7] ++ [.ref a8, .ref a9])) l4 = some (HO.lst [.ref a0, .ref a1, .ref a2, .ref a3, .ref a4, .ref a5, .ref a6, .ref a7, .ref a8, .ref a9]) := upd_same
    generalize upd G17 l4 (HO.lst ([.ref a0, .ref a1, .ref a2, .ref a3, .ref a4, .ref a5, .ref a6, .ref a7] ++ [.ref a8, .ref a9])) = G18 at *
    clear e fb
    refine ⟨_, rfl, ?_⟩
    refine ⟨_, rfl, ?_⟩
    dsimp only [tCB, tCons, tC, tNil]
    refine isP_of hd.ex (hD.same S) (hd.one 10 (by decide)) ?_
    refine ⟨(by show 2 ≤ sizeLine; decide), fun a10 h10 => ?_⟩
    have e := same_put (o := HO.lst [.str "none", .bl (decide (10 = i0))]) h10
    have f0 := e _ _ f0
    have f1 := e _ _ f1
    have f2 := e _ _ f2
    have f3 := e _ _ f3
    have f4 := e _ _ f4
    have f5 := e _ _ f5
    have f6 := e _ _ f6
    have f7 := e _ _ f7
    have f8 := e _ _ f8
    have f9 := e _ _ f9
    have fl := e _ _ fl
    have S := S.trans e
    have f10 : upd G18 a10 (HO.lst [.str "none", .bl (decide (10 = i0))]) a10 = some (HO.lst [.str "none", .bl (decide (10 = i0))]) := upd_same
    generalize upd G18 a10 (HO.lst [.str "none", .bl (decide (10 = i0))]) = G19 at *
    clear e
    refine ⟨_, rfl, ?_⟩
    dsimp only [tCB, tCons, tC, tNil]
    refine isP_of hd.ex (hD.same S) (hd.one 11 (by decide)) ?_
    refine ⟨(by show 2 ≤ sizeLine; decide), fun a11 h11 => ?_⟩
    have e := same_put (o := HO.lst [.str "many", .bl (decide (11 = i0))]) h11
    have f0 := e _ _ f0
    have f1 := e _ _ f1
    have f2 := e _ _ f2
    have f3 := e _ _ f3
    have f4 := e _ _ f4
    have f5 := e _ _ f5
    have f6 := e _ _ f6
    have f7 := e _ _ f7
    have f8 := e _ _ f8
    have f9 := e _ _ f9
    have f10 := e _ _ f10
    have fl := e _ _ fl
    have S := S.trans e
    have f11 : upd G19 a11 (HO.lst [.str "many", .bl (decide (11 = i0))]) a11 = some (HO.lst [.str "many", .bl (decide (11 = i0))]) := upd_same
    generalize upd G19 a11 (HO.lst [.str "many", .bl (decide (11 = i0))]) = G20 at *
    clear e
    refine ⟨_, rfl, ?_⟩
    dsimp only [tCB, tCons, tC, tNil]
    refine isP_of hd.ex (hD.same S) (hd.one 12 (by decide)) ?_
    refine ⟨(by show 2 ≤ sizeLine; decide), fun a12 h12 => ?_⟩
    have e := same_put (o := HO.lst [.str "broken", .bl (decide (12 = i0))]) h12
    have f0 := e _ _ f0
    have f1 := e _ _ f1
    have f2 := e _ _ f2
    have f3 := e _ _ f3
    have f4 := e _ _ f4
    have f5 := e _ _ f5
    have f6 := e _ _ f6
    have f7 := e _ _ f7
    have f8 := e _ _ f8
    have f9 := e _ _ f9
    have f10 := e _ _ f10
    have f11 := e _ _ f11
    have fl := e _ _ fl
    have S := S.trans e
    have f12 : upd G20 a12 (HO.lst [.str "broken", .bl (decide (12 = i0))]) a12 = some (HO.lst [.str "broken", .bl (decide (12 = i0))]) := upd_same
    generalize upd G20 a12 (HO.lst [.str "broken", .bl (decide (12 = i0))]) = G21 at *
    clear e
    refine ⟨(by show 3 ≤ sizeLine; decide), fun b5 k5 => ?_⟩
    have e := same_put (o := HO.lst [.ref a10, .ref a11, .ref a12]) k5
    have f0 := e _ _ f0
    have f1 := e _ _ f1
    have f2 := e _ _ f2
    have f3 := e _ _ f3
    have f4 := e _ _ f4
    have f5 := e _ _ f5
    have f6 := e _ _ f6
    have f7 := e _ _ f7
    have f8 := e _ _ f8
    have f9 := e _ _ f9
    have f10 := e _ _ f10
    have f11 := e _ _ f11
    have f12 := e _ _ f12
    have fl := e _ _ fl
    have S := S.trans e
    have fb : upd G21 b5 (HO.lst [.ref a10, .ref a11, .ref a12]) b5 = some (HO.lst [.ref a10, .ref a11, .ref a12]) := upd_same
    generalize upd G21 b5 (HO.lst [.ref a10, .ref a11, .ref a12]) = G22 at *
    clear e
    refine ⟨l4, b5, [.ref a0, .ref a1, .ref a2, .ref a3, .ref a4, .ref a5, .ref a6, .ref a7, .ref a8, .ref a9], [.ref a10, .ref a11, .ref a12], rfl, rfl, fl, fb, (by show 13 ≤ sizeLine; decide), fun l5 m5 => ?_⟩
    have e := same_put (o := HO.lst ([.ref a0, .ref a1, .ref a2, .ref a3, .ref a4, .ref a5, .ref a6, .ref a7, .ref a8, .ref a9] ++ [.ref a10, .ref a11, .ref a12])) m5
    have f0 := e _ _ f0
    have f1 := e _ _ f1
    have f2 := e _ _ f2
    have f3 := e _ _ f3
    have f4 := e _ _ f4
    have f5 := e _ _ f5
    have f6 := e _ _ f6
    have f7 := e _ _ f7
    have f8 := e _ _ f8
    have f9 := e _ _ f9
    have f10 := e _ _ f10
    have f11 := e _ _ f11
    have f12 := e _ _ f12
    have S := S.trans e
    have fl : upd G22 l5 (HO.lst ([.ref a0, .ref a1, .ref a2, .ref a3, .ref a4, .ref a5, .ref a6, .ref a7, .ref a8, .ref a9] ++ [.ref a10, .ref a11, .ref a12])) l5 = some (HO.lst [.ref a0, .ref a1, .ref a2, .ref a3, .ref a4, .ref a5, .ref a6, .ref a7, .ref a8, .ref a9, .ref a10, .ref a11, .ref a12]) := upd_same
    generalize upd G22 l5 (HO.lst ([.ref a0, .ref a1, .ref a2, .ref a3, .ref a4, .ref a5, .ref a6, .ref a7, .ref a8, .ref a9] ++ [.ref a10, .ref a11, .ref a12])) = G23 at *
    clear e fb
    have all : ∀ (i : Nat) (v : V), ([.ref a0, .ref a1, .ref a2, .ref a3, .ref a4, .ref a5, .ref a6, .ref a7, .ref a8, .ref a9, .ref a10, .ref a11, .ref a12] : List V)[i]? = some v → i < 13 ∧ ∃ a, v = .ref a ∧ G23 a = some (.lst [.str (wdOf i), .bl (decide (i = i0))]) := by
      intro i v hv
      rcases i with _ | _ | _ | _ | _ | _ | _ | _ | _ | _ | _ | _ | _ | i
      · cases hv; exact ⟨by decide, a0, rfl, f0⟩
      · cases hv; exact ⟨by decide, a1, rfl, f1⟩
      · cases hv; exact ⟨by decide, a2, rfl, f2⟩
      · cases hv; exact ⟨by decide, a3, rfl, f3⟩
      · cases hv; exact ⟨by decide, a4, rfl, f4⟩
      · cases hv; exact ⟨by decide, a5, rfl, f5⟩
      · cases hv; exact ⟨by decide, a6, rfl, f6⟩
      · cases hv; exact ⟨by decide, a7, rfl, f7⟩
      · cases hv; exact ⟨by decide, a8, rfl, f8⟩
      · cases hv; exact ⟨by decide, a9, rfl, f9⟩
      · cases hv; exact ⟨by decide, a10, rfl, f10⟩
      · cases hv; exact ⟨by decide, a11, rfl, f11⟩
      · cases hv; exact ⟨by decide, a12, rfl, f12⟩
      · simp at hv
    refine ⟨_, rfl, l5, rfl, ⟨_, SqL.of fl⟩, fun D1 hD1 => ?_⟩
    refine lc_list (K := K) (a := l5) (xs := [.ref a0, .ref a1, .ref a2, .ref a3, .ref a4, .ref a5, .ref a6, .ref a7, .ref a8, .ref a9, .ref a10, .ref a11, .ref a12]) (fun j H2 => H2 D1 = some (.lst (((List.range j).filter fun i => decide (i = i0)).map fun i => V.str (wdOf i))) ∧ Same G23 H2) ⟨upd_same, same_put hD1⟩ (fun j H2 _ ⟨_, e⟩ => SqL.of (e _ _ fl)) ?_ ?_
    · rintro j v H2 hj ⟨h1, h2⟩
      obtain ⟨j13, a, rfl, ha⟩ := all j v hj
      refine ⟨a, _, rfl, SqL.of (h2 _ _ ha), rfl, _, _, rfl, _, _, rfl, rfl, ?_⟩
      refine ⟨rfl, _, rfl, _, rfl, ?_⟩
      have er : ((List.range (j + 1)).filter fun i => decide (i = i0)).map (fun i => V.str (wdOf i)) = ((List.range j).filter fun i => decide (i = i0)).map (fun i => V.str (wdOf i)) ++ (if j = i0 then [V.str (wdOf j)] else []) := by
        rw [List.range_succ, List.filter_append, List.map_append]
        congr 1
        by_cases c : j = i0
        · simp [c]
        · simp [c]
      refine ite2 (fun hc => ?_) (fun hc => ?_)
      · have c : j = i0 := of_decide_eq_true hc
        refine ⟨_, rfl, _, h1, ?_, ?_, fun b o e => ?_⟩
        · refine small1000 (Nat.le_trans (by rw [List.length_map]; exact List.length_filter_le _ _) (by rw [List.length_range]; omega))
        · rw [upd_same, er, if_pos c]
        · rw [upd_ne (ne_of_none e hD1)]
          exact h2 _ _ e
      · have c : ¬ j = i0 := fun z => hc (decide_eq_true z)
        exact ⟨by rw [er, if_neg c, List.append_nil]; exact h1, h2⟩
    · rintro H2 ⟨h1, h2⟩
      have e1 : ((List.range 13).filter fun i => decide (i = i0)) = [i0] := by
        have := hd.lt
        rcases i0 with _ | _ | _ | _ | _ | _ | _ | _ | _ | _ | _ | _ | _ | i0 <;> first | rfl | omega
      rw [show ([.ref a0, .ref a1, .ref a2, .ref a3, .ref a4, .ref a5, .ref a6, .ref a7, .ref a8, .ref a9, .ref a10, .ref a11, .ref a12] : List V).length = 13 from rfl, e1] at h1
      refine ⟨_, rfl, D1, _, rfl, .inl (SqL.of h1), rfl, _, rfl, iteT ?_⟩
      refine ⟨_, rfl, D1, _, 0, .str (wdOf i0), rfl, rfl, SqL.of h1, at_of (j := 0) rfl rfl, ?_⟩
      exact q _ (S.trans h2)
end
end My
set_option Elab.async false
set_option linter.all false
set_option maxRecDepth 100000
set_option maxHeartbeats 8000000
set_option exponentiation.threshold 2000
namespace My
open PySem PySem.Spec PyProof.Rows L2 L2H Gn Mt
theorem any_of {K : PySem.W.Frag} {mg : Str → Option Value} {B : Er mg} {D : Addr} {i0 : Nat} (h : Held K B D i0) : ∀ is : List Nat, (∀ i ∈ is, i < 13) → PySem.W.kitAny K (.ref D) (is.map fun i => Value.ref (B.c i)) = some (is.any fun i => decide (i = i0))
  | [], _ => rfl
  | i :: is, l => by
    rw [List.map_cons, List.any_cons]
    unfold PySem.W.kitAny
    rw [h.one i (l i (by simp))]
    cases decide (i = i0)
    · rw [Bool.false_or]; exact any_of h is fun j m => l j (by simp [m])
    · rfl
section
variable {P : Program} {w : World} {K : PySem.W.Frag} {mg : Str → Option Value} {base : Heap}
theorem ok_lfield {f : Addr} {fd : FuncData} (F : Fun K "_law_field" "_law_field" sLField f fd) (B : Er mg) : FnP P w K mg base CX0 1 f fd ["_law_e"] (spLField K B) := by
  refine funP F scLField (fun p vs H Q E h => ?_) (fun cdv A outer s H vs Q E p hot hr h => ?_)
  · obtain ⟨D, d, i0, v, rfl, _⟩ := h
    rfl
  · obtain ⟨D, d, i0, v, rfl, hz, hf, hd, hD, hv, q⟩ := h
    have mp : (p.1, p.2) ∈ (cxH CX0 P w K mg base ["_law_e"] "_law_field" (defScope sLField) f cdv A outer s H E p).pn := List.mem_cons_self
    refine ⟨_, pss_cons (ps_if (pt_val (pe_callB (cr_isPT mp hz hf) (by rfl) B.isi (by decide +kernel) (pa_cons (pv 0) (pa_cons (pe_tup (pa_cons (pe_glob (v := .ref (B.c 7)) rfl (B.g 7 (by decide)) rfl) (pa_cons (pe_glob (v := .ref (B.c 8)) rfl (B.g 8 (by decide)) rfl)
          (pa_cons (pe_glob (v := .ref (B.c 5)) rfl (B.g 5 (by decide)) rfl) (pa_cons (pe_glob (v := .ref (B.c 12)) rfl (B.g 12 (by decide)) rfl) pa_nil))))) pa_nil)))) (pss_one (ps_ret (pe_xfP mp hz hf (pv 0)))) pss_nil)
      (pss_cons (ps_if (pt_val (pe_callB (cr_isP mp hz hf) (by rfl) B.isi (by decide +kernel) (pa_cons (pv 0) (pa_cons (pe_glob (v := .ref (B.c 10)) rfl (B.g 10 (by decide)) rfl) pa_nil)))) (pss_one (ps_ret pe_non)) pss_nil)
      (pss_one (ps_ret (pe_ifExp (pt_val (pe_callB (cr_isP mp hz hf) (by rfl) B.isi (by decide +kernel) (pa_cons (pv 0) (pa_cons (pe_glob (v := .ref (B.c 11)) rfl (B.g 11 (by decide)) rfl) pa_nil)))) (pe_xfP mp hz hf (pv 0)) (pe_xfP mp hz hf (pv 0)))))), ?_⟩
    refine ⟨_, rfl, (by show 4 ≤ sizeLine; decide), fun tp ht => ?_⟩
    have s1 := same_put (o := HO.tup [.ref (B.c 7), .ref (B.c 8), .ref (B.c 5), .ref (B.c 12)]) ht
    have fld : ∀ (n : Str), fdOf i0 = some n → ∀ R : VK, (∀ H', Same H H' → R v H') → tXfP K p.1 (.ref D) d n (tVar 0) (start ["_law_e"] [.ref p.1]) (upd H tp (.tup [.ref (B.c 7), .ref (B.c 8), .ref (B.c 5), .ref (B.c 12)])) R := fun n hn R k => by
      unfold FldAt at hv
      rw [hn] at hv
      obtain ⟨dd, fs, rfl, h1, h2⟩ := hv
      exact ⟨.ref p.1, rfl, D, dd, fs, v, rfl, rfl, hd.xf, hd.no n hn, rfl, s1 _ _ h1, h2, k _ s1⟩
    refine ⟨D, tp, _, [.ref (B.c 7), .ref (B.c 8), .ref (B.c 5), .ref (B.c 12)], _, rfl, hd.ex, rfl, upd_same, ?_, hD.same s1, any_of hd [7, 8, 5, 12] (by decide), ?_⟩
    · exact .cons (.own _) (.cons (.own _) (.cons (.own _) (.cons (.own _) .nil)))
    refine ⟨_, rfl, ite2 (fun hc => ?_) (fun hc => ?_)⟩
    · refine fld "index" ?_ _ fun H' e => q _ e
      unfold fdOf
      rw [if_pos]
      simp at hc
      omega
    · have n1 : ¬ (i0 = 5 ∨ i0 = 7 ∨ i0 = 8 ∨ i0 = 12) := fun z => hc (by simp; omega)
      refine ⟨_, rfl, ?_⟩
      dsimp only [tCB, tCons, tC, tNil]
      refine isP_of hd.ex (hD.same s1) (hd.one 10 (by decide)) ⟨_, rfl, ite2 (fun h10 => ?_) (fun h10 => ?_)⟩
      · have e10 : 10 = i0 := of_decide_eq_true h10
        have : v = .non := by
          unfold FldAt fdOf at hv
          rw [if_neg n1, if_pos e10.symm] at hv
          exact hv
        rw [← this]
        exact q _ s1
      · have n10 : ¬ i0 = 10 := fun z => h10 (decide_eq_true z.symm)
        refine ⟨_, rfl, ?_⟩
        dsimp only [tCB, tCons, tC, tNil]
        refine isP_of hd.ex (hD.same s1) (hd.one 11 (by decide)) ⟨_, rfl, ite2 (fun h11 => ?_) (fun h11 => ?_)⟩
        · have e11 : 11 = i0 := of_decide_eq_true h11
          refine fld "most" ?_ _ fun H' e => q _ e
          unfold fdOf
          rw [if_neg n1, if_neg n10, if_pos e11.symm]
        · have n11 : ¬ i0 = 11 := fun z => h11 (decide_eq_true z.symm)
          refine fld "given" ?_ _ fun H' e => q _ e
          unfold fdOf
          rw [if_neg n1, if_neg n10, if_neg n11]
end
end My
set_option Elab.async false
set_option linter.all false
set_option maxRecDepth 100000
set_option maxHeartbeats 8000000
set_option exponentiation.threshold 2000
namespace My
open PySem PySem.Spec PyProof.Rows L2 L2H Gn Mt
/-- what is tried raises one of the package's errors, or returns -/
def RaisesAs (K : PySem.W.Frag) {mg : Str → Option Value} (B : Er mg) (Q : VK) : XK := fun C d G => ∃ (D : Addr) (i0 : Nat) (v : V), C = .ref D ∧ Held K B D i0 ∧ DictAt G d ∧ FldAt G d i0 v ∧ ∀ r G', Same G G' → r ≠ sysModules → G' r = some (.lst [.str (wdOf i0), v]) → Q (.ref r) G'
def TellsAs (Q : VK) : VK := fun v G => ∀ r G', Same G G' → G' r = some (.lst [.str "told", v]) → Q (.ref r) G'
def TTe (K : PySem.W.Frag) {mg : Str → Option Value} (B : Er mg) : (XK → Hp → VK → Prop) → Hp → VK → Prop := fun tl H Q =>
  ∀ (E' : XK) (Q' : VK), (∀ C d G, RaisesAs K B Q C d G → E' C d G) → (∀ v G, TellsAs Q v G → Q' v G) → tl E' H Q'
theorem takesN0 {X : Cx} : L2N.Takes X (fun _ _ _ _ => False) := fun _ _ ⟨_, _, _, _, _, _, _, _, _, _, _, _, _, _, _, _, z⟩ => z.elim
/-- _law_class(e), _law_field(e) within the handler -/
def tErrC (K : PySem.W.Frag) {mg : Str → Option Value} (B : Er mg) (x : Addr) (C : Value) (d : Option Addr) : TE := fun σ H Q => tVar 2 σ H fun y H1 => y = .ref x ∧ ∃ D i0, C = .ref D ∧ Held K B D i0 ∧ DictAt H1 d ∧ ∀ H', Same H1 H' → Q (.str (wdOf i0)) H'
def tErrF (K : PySem.W.Frag) {mg : Str → Option Value} (B : Er mg) (x : Addr) (C : Value) (d : Option Addr) : TE := fun σ H Q => tVar 2 σ H fun y H1 => y = .ref x ∧ ∃ D i0 v, C = .ref D ∧ Held K B D i0 ∧ DictAt H1 d ∧ FldAt H1 d i0 v ∧ ∀ H', Same H1 H' → Q v H'
def hnd0 : List Stmt → List Stmt
  | .Try _ (.ExceptHandler _ _ b _ :: _) _ _ _ :: _ => b
  | _ => []
abbrev NE : List Str := ["_law_act", "_law_found", "_law_e", "_law_bases", "_law_plain"]
abbrev cxE (X : Cx) (s : Shared) (H : Hp) (g : Addr) (cdv : Value) : Cx := (cxOf CX0 X.prog X.w X.K X.mg X.base NE "_law_error" (defScope sLError) g cdv X.A X.stack s H E0).nox
def tsErr (K : PySem.W.Frag) {mg : Str → Option Value} (B : Er mg) : Addr → Value → Option Addr → TS := fun x C d =>
  tSeq (tAsg (tLst (tCons (tCB (rIsP K C x d) (tCons (tVar 2) (tCons (tC (V.ref B.R0)) tNil))) (tCons (tCB (rIsP K C x d) (tCons (tVar 2) (tCons (tC (V.ref B.R1)) tNil))) (tCons (tCB (rIsP K C x d) (tCons (tVar 2) (tCons (tC (V.ref B.R2)) tNil))) tNil)))) (gName 3))
    (tSeq (tAsg (tLst (tCons (tCB (rIsP K C x d) (tCons (tVar 2) (tCons (tC (V.ty "ValueError")) tNil))) (tCons (tCB (rIsP K C x d) (tCons (tVar 2) (tCons (tC (V.ty "LookupError")) tNil))) (tCons (tCB (rIsP K C x d) (tCons (tVar 2) (tCons (tC (V.ty "ArithmeticError")) tNil))) tNil)))) (gName 4))
      (tRet (tLstZ (tCons (tIf (tAnd (tTest (tOp (rEqD K) (tVar 3) (tVar 4))) (tTest (tOp rEq (tBM K "list" (rCntB K) (tVar 3) (tCons (tC (V.bl true)) tNil)) (tC (V.int 1))))) (tErrC K B x C d) (tC (V.str "odd"))) (tCons (tErrF K B x C d) tNil)))))
section
variable {X : Cx}
theorem err_suite {g fC fF : Addr} {fdC fdF : FuncData} {cdv : Value} {s : Shared} {H : Hp} (B : Er X.mg) (CL : Df X.K X.mg "_law_class" sLClass ["_law_e"] fC fdC) (CF : Df X.K X.mg "_law_field" sLField ["_law_e"] fF fdF) (rH : RoomH 1 (cxE X s H g cdv).A)
    (x : Addr) (oe : Obj) (C : Value) (d : Option Addr) (pn : List (Addr × Obj)) (z : L2N.Zn C d oe) (hf : ∃ vs, oe.data = .fields vs) : PSs ((cxE X s H g cdv).suite x ((x, oe) :: pn)) (hnd0 (defBody sLError)) (tsErr X.K B x C d) := by
  have GC : FnP X.prog X.w X.K X.mg X.base CX0 1 fC fdC ["_law_e"] (spLClass X.K B) := ok_lclass CL.F B
  have GF : FnP X.prog X.w X.K X.mg X.base CX0 1 fF fdF ["_law_e"] (spLField X.K B) := ok_lfield CF.F B
  have hu : (cxE X s H g cdv).A.units + 64 < cLine := by have := rH.un; omega
  exact pss_cons (ps_set (i := 3) scLError.nd rfl (.inl rfl) (pe_lst (pa_cons (pe_callB (cr_isP (a := x) (oe := oe) List.mem_cons_self z.zc hf) (by rfl) B.isi (by decide +kernel) (pa_cons (pv 2) (pa_cons (pe_glob (v := .ref B.R0) rfl B.g0 rfl) pa_nil)))
          (pa_cons (pe_callB (cr_isP (a := x) (oe := oe) List.mem_cons_self z.zc hf) (by rfl) B.isi (by decide +kernel) (pa_cons (pv 2) (pa_cons (pe_glob (v := .ref B.R1) rfl B.g1 rfl) pa_nil)))
          (pa_cons (pe_callB (cr_isP (a := x) (oe := oe) List.mem_cons_self z.zc hf) (by rfl) B.isi (by decide +kernel) (pa_cons (pv 2) (pa_cons (pe_glob (v := .ref B.R2) rfl B.g2 rfl) pa_nil))) pa_nil)))))
        (pss_cons (ps_set (i := 4) scLError.nd rfl (.inl rfl) (pe_lst (pa_cons (pe_callB (cr_isP (a := x) (oe := oe) List.mem_cons_self z.zc hf) (by rfl) B.isi (by decide +kernel) (pa_cons (pv 2) (pa_cons (pe_bltn (v := .ty "ValueError") (by rfl) B.v0 (by decide +kernel) rfl) pa_nil)))
          (pa_cons (pe_callB (cr_isP (a := x) (oe := oe) List.mem_cons_self z.zc hf) (by rfl) B.isi (by decide +kernel) (pa_cons (pv 2) (pa_cons (pe_bltn (v := .ty "LookupError") (by rfl) B.v1 (by decide +kernel) rfl) pa_nil)))
          (pa_cons (pe_callB (cr_isP (a := x) (oe := oe) List.mem_cons_self z.zc hf) (by rfl) B.isi (by decide +kernel) (pa_cons (pv 2) (pa_cons (pe_bltn (v := .ty "ArithmeticError") (by rfl) B.v2 (by decide +kernel) rfl) pa_nil))) pa_nil)))))
        (pss_one (ps_ret (pe_lstZ (pa_cons (pe_ifExp (PW.pt (pw_and (pt_cmpR (op_eqD (X := (cxE X s H g cdv).suite x ((x, oe) :: pn)) hu) (pv 3) (pv 4) (nomark _)) (pw_and1 (pt_cmpR op_eq (pe_bm PySem.F.plainAttrs_list PySem.F.slot_list_count PySem.F.type_list_count mt_countB (pv 3) (pa_cons pe_bl pa_nil)) pe_int (nomark _)))))
            (PE.imp (t' := tErrC X.K B x C d) (pe_callP GC (q := (x, oe)) ⟨rH.dp, rH.un⟩ List.mem_cons_self ⟨rfl, hf.choose, hf.choose_spec, z.2.2 _ hf.choose_spec⟩ (by rfl) CL.g CL.F.kp CL.b pass0 (pa_cons (pv 2) pa_nil)) (fun σ G Q ⟨y, e1, e2, D, i0, e3, hd, hD, q⟩ => ⟨y, e1, D, d, i0, by rw [e2]; rfl, by rw [← e3]; exact z.zc, hf, hd, hD, q⟩)) pe_str)
          (pa_cons (PE.imp (t' := tErrF X.K B x C d) (pe_callP GF (q := (x, oe)) ⟨rH.dp, rH.un⟩ List.mem_cons_self ⟨rfl, hf.choose, hf.choose_spec, z.2.2 _ hf.choose_spec⟩ (by rfl) CF.g CF.F.kp CF.b pass0 (pa_cons (pv 2) pa_nil)) (fun σ G Q ⟨y, e1, e2, D, i0, v, e3, hd, hD, hv, q⟩ => ⟨y, e1, D, d, i0, v, by rw [e2]; rfl, by rw [← e3]; exact z.zc, hf, hd, hD, hv, q⟩)) pa_nil))))))
theorem err_reads {K : PySem.W.Frag} {mg : Str → Option Value} (B : Er mg) {x D : Addr} {d : Option Addr} {i0 : Nat} {v : V} {Dn : Ends} {u1 u2 u3 u4 : Option V} {G : Hp} (hd : Held K B D i0) (hD : DictAt G d) (hv : FldAt G d i0 v)
    (q : ∀ r G', Same G G' → r ≠ sysModules → G' r = some (.lst [.str (wdOf i0), v]) → Dn.rt (.ref r) G') : tsErr K B x (.ref D) d Dn [u1, u2, some (.ref x), u3, u4] G := by
  obtain ⟨b0, b1, b2, cnt, k0, k1, k2, l0, l1, l2⟩ := hd.bs
  have sh : SeqAt.shaped (PyData.list [.bool b0, .bool b1, .bool b2]) = true := by cases b0 <;> cases b1 <;> cases b2 <;> decide +kernel
  unfold tsErr
  dsimp only [tSeq, tAsg, gName]
  refine ⟨_, rfl, ?_⟩
  dsimp only [tCB, tCons, tC, tNil]
  refine isP_of hd.ex hD k0 ⟨_, rfl, ?_⟩
  dsimp only [tCB, tCons, tC, tNil]
  refine isP_of hd.ex hD k1 ⟨_, rfl, ?_⟩
  dsimp only [tCB, tCons, tC, tNil]
  refine isP_of hd.ex hD k2 ⟨(by show 3 ≤ sizeLine; decide), fun p1 h1 => ?_⟩
  have s1 := same_put (o := HO.lst [.bl b0, .bl b1, .bl b2]) h1
  have f1 : upd G p1 (HO.lst [.bl b0, .bl b1, .bl b2]) p1 = some (.lst ([b0, b1, b2].map V.bl)) := upd_same
  generalize upd G p1 (HO.lst [.bl b0, .bl b1, .bl b2]) = G1 at *
  refine ⟨_, rfl, ?_⟩
  dsimp only [tCB, tCons, tC, tNil]
  refine isPt_of hd.ex (hD.same s1) l0 ⟨_, rfl, ?_⟩
  dsimp only [tCB, tCons, tC, tNil]
  refine isPt_of hd.ex (hD.same s1) l1 ⟨_, rfl, ?_⟩
  dsimp only [tCB, tCons, tC, tNil]
  refine isPt_of hd.ex (hD.same s1) l2 ⟨(by show 3 ≤ sizeLine; decide), fun p2 h2 => ?_⟩
  have s2 := same_put (o := HO.lst [.bl b0, .bl b1, .bl b2]) h2
  have f2 : upd G1 p2 (HO.lst [.bl b0, .bl b1, .bl b2]) p2 = some (.lst ([b0, b1, b2].map V.bl)) := upd_same
  have f1 := s2 _ _ f1
  generalize upd G1 p2 (HO.lst [.bl b0, .bl b1, .bl b2]) = G2 at *
  have S2 := s1.trans s2
  refine ⟨_, rfl, _, rfl, .list [.bool b0, .bool b1, .bool b2], .list [.bool b0, .bool b1, .bool b2], .lst (SqL.of f1) (.cons (.bl b0) (.cons (.bl b1) (.cons (.bl b2) .nil))), .lst (SqL.of f2) (.cons (.bl b0) (.cons (.bl b1) (.cons (.bl b2) .nil))), sh, sh, _, rfl, ?_⟩
  rw [SeqAt.eqv_refl (PyData.list [.bool b0, .bool b1, .bool b2]) (by cases b0 <;> cases b1 <;> cases b2 <;> decide +kernel)]
  refine iteT ⟨_, rfl, .inl ⟨rfl, _, SqL.of f1⟩, p1, [b0, b1, b2], true, rfl, rfl, SqL.of f1, rfl, _, rfl, ?_⟩
  rw [cnt]
  refine iteT ⟨_, rfl, rfl, D, i0, rfl, hd, hD.same S2, fun G3 s3 => ?_⟩
  have S3 := S2.trans s3
  refine ⟨_, rfl, rfl, D, i0, v, rfl, hd, hD.same S3, ?_, fun G4 s4 => ?_⟩
  · unfold FldAt at hv ⊢
    cases e : fdOf i0 with
    | none => rw [e] at hv; exact hv
    | some n =>
      rw [e] at hv
      obtain ⟨dd, fs, h1, h2, h3⟩ := hv
      exact ⟨dd, fs, h1, S3 _ _ h2, h3⟩
  refine ⟨(by show 2 ≤ sizeLine; decide), fun r hr np => q r _ ((S3.trans s4).trans (same_put hr)) np upd_same⟩
theorem error_gives {g fC fF : Addr} {fdC fdF : FuncData} {q : Str} {k : Nat} (B : Er X.mg) (CL : Df X.K X.mg "_law_class" sLClass ["_law_e"] fC fdC) (CF : Df X.K X.mg "_law_field" sLField ["_law_e"] fF fdF) (cdv : Value) :
    GivesN X NE "_law_error" (defScope sLError) g cdv (defBody sLError) "_law_act" q k (TTe X.K B) := by
  intro f c s H Q tl act hc hr want
  have rH : RoomH 1 (cxE X s H g cdv).A := (roomH_of hr).mono (by omega)
  refine ⟨_, pss_cons (ps_try_triN (j := 2) (ts := tsErr X.K B) rfl rfl scLError.nd rfl rfl ⟨rfl, by decide, .inl B.g0⟩ ⟨rfl, by decide, .inl B.g1⟩ ⟨rfl, by decide, .inl B.g2⟩ takesN0
      (fun W pn xe tk _ => pss_one (ps_set (i := 1) scLError.nd rfl (.inl rfl) (act W pn xe _ _ tk))) (err_suite B CL CF rH))
    (pss_one (ps_ret (pe_lst (pa_cons pe_str (pa_cons (pv 1) pa_nil))))), ?_⟩
  dsimp only [gName, tSeq, tAsg]
  refine ⟨rfl, hc, want _ _ (fun C d G w => ?_) (fun v G w => ?_)⟩
  · obtain ⟨D, i0, v, rfl, hd, hD, hv, w⟩ := w
    exact ⟨true, hd.ma, fun _ x hx => err_reads B hd hD hv w, fun z => nomatch z⟩
  · refine ⟨_, rfl, (by show 2 ≤ sizeLine; decide), fun r hr' => ?_⟩
    exact w r _ (same_put hr') upd_same
end
end My
set_option Elab.async false
set_option linter.all false
set_option maxRecDepth 100000
set_option maxHeartbeats 8000000
set_option exponentiation.threshold 2000
namespace My
open PySem PySem.Spec PyProof.Rows L2 L2H Gn
/-! the law's own questions -/
abbrev sLNum : Stmt := top 82
theorem scLNum : FnScope ["_law_thing", "_law_low_here", "_law_high"] ["_law_thing", "_law_low_here", "_law_high"] (defScope sLNum) := ⟨rfl, rfl, rfl, by decide +kernel, rfl, by decide +kernel, by decide +kernel⟩
section
variable {P : Program} {w : World} {K : PySem.W.Frag} {mg : Str → Option Value} {base : Heap}
theorem ok_lNum {f : Addr} {fd : FuncData} (F : Fun K "_law_is_number" "_law_is_number" sLNum f fd) (B : Bc mg) : FnOk P w K mg base CX0 1 f fd ["_law_thing", "_law_low_here", "_law_high"] (spNumA K) := by
  refine F.ok scLNum (fun vs H Q E h => ?_) (fun cdv A outer s H vs Q E hr h => ?_)
  · obtain ⟨v, d, a, b, rfl, _⟩ := h
    rfl
  · obtain ⟨v, d, a, b, rfl, an, q⟩ := h
    refine ⟨_, pss_one (ps_ret (pe_and (pe_callB call_isi (by rfl) B.isi (by decide +kernel) (pa_cons (pv 0) (pa_cons (pe_bltn (v := .ty "int") (by rfl) B.int (by decide +kernel) rfl) pa_nil)))
      (pe_and (pe_not (pe_callB call_isi (by rfl) B.isi (by decide +kernel) (pa_cons (pv 0) (pa_cons (pe_bltn (v := .ty "bool") (by rfl) B.bool (by decide +kernel) rfl) pa_nil)))) (pe_one (pe_chain op_le op_le (pv 1) (pv 0) (pv 2)))))), ?_⟩
    refine ⟨_, rfl, v, .ty "int", _, _, _, rfl, .ty "int", an.ty, kit_ty kit_int, _, rfl, ?_⟩
    cases ei : isIntB d with
    | false =>
      have e : isNum d a b = false := by cases d <;> first | rfl | cases ei
      rw [e] at q
      exact iteF q
    | true =>
      refine iteT ⟨_, rfl, v, .ty "bool", _, _, _, rfl, .ty "bool", an.ty, kit_ty kit_bool, ?_⟩
      cases eb : isBoolB d with
      | true =>
        have e : isNum d a b = false := by cases d <;> first | rfl | cases eb
        rw [e] at q
        exact ⟨_, rfl, _, rfl, iteF q⟩
      | false =>
        have e3 : isInt d = true := by cases d <;> first | rfl | (cases ei; done) | (cases eb; done)
        obtain ⟨i, rfl, rfl⟩ := an.isI e3
        refine ⟨_, rfl, _, rfl, iteT ⟨_, rfl, _, rfl, _, _, rfl, rfl, _, rfl, ?_⟩⟩
        refine ite2 (fun hc => ?_) (fun hc => ?_)
        · have h1 : a ≤ i := of_decide_eq_true hc
          refine ⟨_, rfl, _, _, rfl, rfl, ?_⟩
          have e : isNum (.int i) a b = decide (i ≤ b) := by
            show decide (a ≤ i ∧ i ≤ b) = _
            rw [decide_eq_decide]; exact ⟨fun z => z.2, fun z => ⟨h1, z⟩⟩
          rw [e] at q
          exact q
        · have h1 : ¬ a ≤ i := fun z => hc (decide_eq_true z)
          have e : isNum (.int i) a b = false := decide_eq_false fun z => h1 z.1
          rw [e] at q
          exact q
end
end My
set_option Elab.async false
set_option linter.all false
set_option maxRecDepth 100000
set_option maxHeartbeats 8000000
set_option exponentiation.threshold 2000
namespace My
open PySem PySem.Spec PyProof.Rows L2 L2H Gn
/-! the law's own questions, what is due, whether it came -/
abbrev sLEnds : Stmt := top 86
abbrev sLDue : Stmt := top 87
theorem scLEnds : FnScope ["_law_found", "_law_dues"] ["_law_found", "_law_dues"] (defScope sLEnds) := ⟨rfl, rfl, rfl, by decide +kernel, rfl, by decide +kernel, by decide +kernel⟩
theorem scLDue : FnScope ["_law_word", "_law_thing", "_law_is_good"] ["_law_word", "_law_thing", "_law_is_good"] (defScope sLDue) := ⟨rfl, rfl, rfl, by decide +kernel, rfl, by decide +kernel, by decide +kernel⟩
/-- a list of such values, wherever it lies -/
def DuesAt (K : PySem.W.Frag) (H : Hp) (r : V) (ds : List PyData) : Prop := ∃ p xs, r = .ref p ∧ H p = some (.lst xs) ∧ AnAll K H xs ds
theorem DuesAt.same {K : PySem.W.Frag} {H H' : Hp} {r : V} {ds : List PyData} (e : Same H H') (h : DuesAt K H r ds) : DuesAt K H' r ds := by
  obtain ⟨p, xs, rfl, h, a⟩ := h
  exact ⟨p, xs, rfl, e _ _ h, a.same e⟩
/-- what is due where g says that it is right -/
def dueD (wd : Str) (d : PyData) (g : Bool) : List PyData := if g = true then [] else [.list [.str wd, d]]
def spDue (K : PySem.W.Frag) : Sp := fun vs H Q _ => ∃ (wd : Str) (v : V) (d : PyData) (g : Bool), vs = [.str wd, v, .bl g] ∧ An K H v d ∧ ∀ r H', Same H H' → DuesAt K H' r (dueD wd d g) → Q r H'
/-- small enough to be shown -/
structure Shw (d : PyData) : Prop where
  sh : d.showable = true
  dp : d.depth < 60
  ln : d.shown.length ≤ sizeLine
def spEnds (K : PySem.W.Frag) : Sp := fun vs H Q _ => ∃ (f : Addr) (u : V), vs = [.ref f, u] ∧ ((∃ (wd : Str) (r : V), DuesAt K H u [] ∧ H f = some (.lst [.str wd, r]) ∧ ∀ H', Same H H' → Q (.bl (decide (wd = "told"))) H') ∨
  ∃ (e d : PyData) (es : List PyData), DuesAt K H u (e :: es) ∧ (∃ ls, e = .list ls) ∧ An K H (.ref f) d ∧ Shw d ∧ Shw e ∧ ∀ H', Same H H' → Q (.bl (decide (d.shown = e.shown))) H')
section
variable {P : Program} {w : World} {K : PySem.W.Frag} {mg : Str → Option Value} {base : Heap}
theorem ok_due {f : Addr} {fd : FuncData} (F : Fun K "_law_due" "_law_due" sLDue f fd) : FnOk P w K mg base CX0 1 f fd ["_law_word", "_law_thing", "_law_is_good"] (spDue K) := by
  refine F.ok scLDue (fun vs H Q E h => ?_) (fun cdv A outer s H vs Q E hr h => ?_)
  · obtain ⟨wd, v, d, g, rfl, _⟩ := h
    rfl
  · obtain ⟨wd, v, d, g, rfl, an, q⟩ := h
    refine ⟨_, pss_one (ps_ret (pe_ifExp (pt_val (pv 2)) (pe_lstZ pa_nil) (pe_lst (pa_cons (pe_lstZ (pa_cons (pv 0) (pa_cons (pv 1) pa_nil))) pa_nil)))), ?_⟩
    refine ⟨_, rfl, g, rfl, ?_⟩
    cases g with
    | true =>
      refine iteT ⟨by decide, fun p hp np => ?_⟩
      exact q _ _ (same_put hp) ⟨p, [], rfl, upd_same, .nil⟩
    | false =>
      refine iteF ⟨_, rfl, _, rfl, (by show 2 ≤ sizeLine; decide), fun p hp np => ⟨(by show 1 ≤ sizeLine; decide), fun r hr' => ?_⟩⟩
      have s1 := same_put (o := .lst [.str wd, v]) hp
      have s2 := same_put (o := .lst [.ref p]) hr'
      exact q _ _ (s1.trans s2) ⟨r, [.ref p], rfl, upd_same, .cons (.lst (s2 _ _ upd_same) np (.cons (.str wd) (.cons (an.same (s1.trans s2)) .nil))) .nil⟩
theorem ok_ends {f : Addr} {fd : FuncData} (F : Fun K "_law_ends_right" "_law_ends_right" sLEnds f fd) (rp : mg "repr" = none) : FnG P w K mg base CX0 1 f fd ["_law_found", "_law_dues"] (spEnds K) := by
  refine funG0 F scLEnds (fun vs H Q E h => ?_) (fun cdv A outer s H vs Q E hg hr h => ?_)
  · obtain ⟨f, u, rfl, _⟩ := h
    rfl
  · obtain ⟨f, u, rfl, b⟩ := h
    have hu : (A.deeper (envOfC "_law_ends_right" (defScope sLEnds) s.heap.objs.size _ cdv)).units + 64 < cLine := hr.units
    refine ⟨_, pss_one (ps_ret (pe_ifExp (pt_cmpR (op_neNil (Nat.lt_of_le_of_lt (Nat.le_add_right _ 64) hu)) (pv 1) (pe_lst pa_nil) (nomark _))
      (pe_cmpR op_eq (pe_callB (cr_reprA hg hu) (by rfl) rp (by decide +kernel) (pa_cons (pv 0) pa_nil)) (pe_callB (cr_reprA hg hu) (by rfl) rp (by decide +kernel) (pa_cons (pe_ix ix_list (pv 1) pe_int (fun _ _ => rfl)) pa_nil)) (nomark _))
      (pe_cmpR op_eq (pe_ix ix_list (pv 0) pe_int (fun _ _ => rfl)) pe_str (nomark _)))), ?_⟩
    rcases b with ⟨wd, r, ⟨p, xs, rfl, hp, all⟩, hf, q⟩ | ⟨e, d, es, ⟨p, xs, rfl, hp, all⟩, ⟨ls, rfl⟩, an, sd, se, q⟩
    · cases all
      refine ⟨_, rfl, (by show 0 ≤ sizeLine; decide), fun z hz => ?_⟩
      have s1 := same_put (o := .lst []) hz
      refine ⟨p, z, [], rfl, rfl, .inl (.inl (s1 _ _ hp)), .inl (.inl upd_same), _, rfl, iteF ?_⟩
      refine ⟨_, rfl, _, _, 0, .str wd, rfl, rfl, .inl (.inl (s1 _ _ hf)), at_of (j := 0) rfl rfl, ?_⟩
      have e : decide (V.str wd = V.str "told") = decide (wd = "told") := by rw [decide_eq_decide, V.str.injEq]
      refine ⟨rfl, ?_⟩
      rw [e]
      exact q _ s1
    · cases all with
      | cons h1 h2 =>
        refine ⟨_, rfl, (by show 0 ≤ sizeLine; decide), fun z hz => ?_⟩
        have s1 := same_put (o := .lst []) hz
        refine ⟨p, z, _, rfl, rfl, .inl (.inl (s1 _ _ hp)), .inl (.inl upd_same), _, rfl, iteT ?_⟩
        refine ⟨_, rfl, f, d, rfl, an.same s1, sd.sh, sd.dp, sd.ln, ?_⟩
        cases h1 with
        | lst h0 ne t =>
          refine ⟨_, rfl, p, _, 0, _, rfl, rfl, .inl (.inl (s1 _ _ hp)), at_of (j := 0) rfl rfl, _, _, rfl, .lst (s1 _ _ h0) ne (t.same s1), se.sh, se.dp, se.ln, ?_⟩
          have e : decide (V.str d.shown = V.str (PyData.list ls).shown) = decide (d.shown = (PyData.list ls).shown) := by rw [decide_eq_decide, V.str.injEq]
          refine ⟨rfl, ?_⟩
          rw [e]
          exact q _ s1
end
end My
set_option Elab.async false
set_option linter.all false
set_option maxRecDepth 100000
set_option maxHeartbeats 8000000
set_option exponentiation.threshold 4000
namespace My
open PySem PySem.Spec PyProof.Rows L2 Gn Mt
/-! rows of marks, any data: what of them is wrong -/
def toI : PyData → Int
  | .int i => i
  | _ => 0
def adjB : List Int → Bool
  | a :: b :: r => decide (a < b) && adjB (b :: r)
  | _ => true
theorem adj_pw : ∀ {g : List Int}, adjB g = true ↔ g.Pairwise (· < ·)
  | [] => by simp [adjB]
  | [a] => by simp [adjB]
  | a :: b :: r => by
    rw [adjB, Bool.and_eq_true, decide_eq_true_eq, adj_pw (g := b :: r), List.pairwise_cons (a := a)]
    constructor
    · rintro ⟨h, h2⟩
      refine ⟨fun x m => ?_, h2⟩
      rcases List.mem_cons.mp m with rfl | m
      · exact h
      · exact Int.lt_trans h ((List.pairwise_cons.mp h2).1 x m)
    · rintro ⟨h1, h2⟩
      exact ⟨h1 b List.mem_cons_self, h2⟩
theorem adj_range : ∀ (g : List Int), ((List.range (g.length - 1)).map fun i => decide (g.getD i 0 < g.getD (i + 1) 0)).all id = adjB g
  | [] => rfl
  | [a] => rfl
  | a :: b :: r => by
    have ih := adj_range (b :: r)
    show ((List.range (r.length + 1)).map _).all id = _
    rw [List.range_succ_eq_map, List.map_cons, List.all_cons, List.map_map]
    rw [adjB, ← ih]
    rfl
def ascD : PyData → Bool
  | .tuple ds => !ds.isEmpty && (ds.all (fun d => isNum d 0 40) && adjB (ds.map toI))
  | _ => false
def gI : PyData → List Int
  | .tuple ds => ds.map toI
  | _ => []
theorem nums_at : ∀ {ds : List PyData}, ds.all (fun d => isNum d 0 40) = true → ds = (ds.map toI).map PyData.int ∧ ∀ m ∈ ds.map toI, 0 ≤ m ∧ m ≤ 40
  | [], _ => ⟨rfl, fun m h => by cases h⟩
  | d :: ds, h => by
    rw [List.all_cons, Bool.and_eq_true] at h
    obtain ⟨e, r⟩ := nums_at h.2
    cases d with
    | int i =>
      have hi : 0 ≤ i ∧ i ≤ 40 := of_decide_eq_true h.1
      refine ⟨?_, fun m mm => ?_⟩
      · rw [List.map_cons, List.map_cons, ← e]; rfl
      · rw [List.map_cons] at mm
        rcases List.mem_cons.mp mm with rfl | mm
        · exact hi
        · exact r m mm
    | _ => exact absurd h.1 (by simp [isNum])
theorem asc_of {d : PyData} (h : ascD d = true) : d = .tuple ((gI d).map PyData.int) ∧ gI d ≠ [] ∧ (gI d).Pairwise (· < ·) ∧ ∀ m ∈ gI d, 0 ≤ m ∧ m ≤ 40 := by
  cases d with
  | tuple ds =>
    have h : (!ds.isEmpty && (ds.all (fun d => isNum d 0 40) && adjB (ds.map toI))) = true := h
    rw [Bool.and_eq_true, Bool.and_eq_true] at h
    obtain ⟨h1, h2, h3⟩ := h
    obtain ⟨e, r⟩ := nums_at h2
    refine ⟨congrArg PyData.tuple e, fun z => ?_, adj_pw.mp h3, r⟩
    have z : ds.map toI = [] := z
    rw [List.map_eq_nil_iff] at z
    subst z
    cases h1
  | _ => cases h
/-- none of these met yet -/
def freshB (met g : List Int) : Bool := g.all fun m => decide (m ∉ met)
def scanW : List Int → Nat → List PyData → Option Nat
  | _, _, [] => none
  | met, j, d :: ds => if (ascD d && freshB met (gI d)) = true then scanW (met ++ gI d) (j + 1) ds else some j
/-- nothing wrong: none; else the index of what is, none for no such tuple -/
def rowW : PyData → Option (Option Nat)
  | .tuple ds => if ds.isEmpty = true then some none else (scanW [] 0 ds).map some
  | _ => some none
theorem fresh_nd {met g : List Int} (nd : met.Nodup) (pw : g.Pairwise (· < ·)) (f : freshB met g = true) : (met ++ g).Nodup := by
  rw [List.nodup_append]
  refine ⟨nd, pw.imp (fun h z => by rw [z] at h; exact Int.lt_irrefl _ h), fun a ma b mb z => ?_⟩
  subst z
  exact of_decide_eq_true (List.all_eq_true.mp f a mb) ma
theorem few_of : ∀ (n : Nat) {l : List Int}, l.Nodup → (∀ m ∈ l, 0 ≤ m ∧ m < (n : Int)) → l.length ≤ n
  | 0, l, _, h => by
    cases l with
    | nil => exact Nat.zero_le _
    | cons a l => have := h a List.mem_cons_self; omega
  | n + 1, l, nd, h => by
    have nd2 := nd.erase (n : Int)
    have := few_of n nd2 (fun m mm => by
      have h1 := (nd.mem_erase_iff).mp mm
      have h2 := h m h1.2
      have ne := h1.1
      omega)
    have l2 := List.length_erase (a := (n : Int)) (l := l)
    split at l2 <;> omega
theorem scan_none : ∀ {ds : List PyData} {met : List Int} {j : Nat}, met.Nodup → scanW met j ds = none →
    ∃ gs : List (List Int), ds = gs.map (fun g => PyData.tuple (g.map PyData.int)) ∧ (∀ g ∈ gs, g ≠ [] ∧ g.Pairwise (· < ·) ∧ ∀ m ∈ g, 0 ≤ m ∧ m ≤ 40) ∧ (met ++ gs.flatten).Nodup
  | [], met, j, nd, _ => ⟨[], rfl, (fun g h => by cases h), by simpa using nd⟩
  | d :: ds, met, j, nd, h => by
    rw [scanW] at h
    split at h
    · rename_i c
      rw [Bool.and_eq_true] at c
      obtain ⟨e, ne, pw, rg⟩ := asc_of c.1
      obtain ⟨gs, e2, all, n2⟩ := scan_none (fresh_nd nd pw c.2) h
      refine ⟨gI d :: gs, ?_, fun g mg => ?_, ?_⟩
      · rw [List.map_cons, ← e2, ← e]
      · rcases List.mem_cons.mp mg with rfl | mg
        · exact ⟨ne, pw, rg⟩
        · exact all g mg
      · rw [List.flatten_cons, ← List.append_assoc]
        exact n2
    · cases h
theorem row_of {d : PyData} (h : rowW d = none) : ∃ gs, d = ordD gs ∧ RowOk gs := by
  cases d with
  | tuple ds =>
    have h : (if ds.isEmpty = true then some none else (scanW [] 0 ds).map some) = none := h
    split at h
    · cases h
    · rename_i ne
      rw [Option.map_eq_none_iff] at h
      obtain ⟨gs, e, all, nd⟩ := scan_none List.nodup_nil h
      rw [List.nil_append] at nd
      have rg : ∀ m ∈ gs.flatten, 0 ≤ m ∧ m ≤ 40 := fun m mm => by
        obtain ⟨g, mg, mm⟩ := List.mem_flatten.mp mm
        exact (all g mg).2.2 m mm
      refine ⟨gs, by rw [e]; rfl, ⟨fun z => ne (by rw [e, z]; rfl), fun g mg => (all g mg).1, fun g mg => (all g mg).2.1, fun g mg => (all g mg).2.2, nd, few_of 41 nd fun m mm => ?_⟩⟩
      have := rg m mm
      omega
  | _ => cases h
theorem flats_ints : ∀ g : List Int, flat.flats (g.map PyData.int) = true
  | [] => by simp only [List.map_nil, flat.flats]
  | i :: g => by
    rw [List.map_cons]
    simp only [flat.flats, flat, Bool.true_and]
    exact flats_ints g
theorem flat_ord (gs : List (List Int)) : flat (ordD gs) = true := by
  unfold ordD
  simp only [flat]
  induction gs with
  | nil => simp only [List.map_nil, flat.flats]
  | cons g gs ih =>
    rw [List.map_cons]
    simp only [flat.flats, flat, Bool.and_eq_true]
    exact ⟨flats_ints g, ih⟩
/-- tuples are short -/
def Sz1 (d : PyData) : Prop := ∀ ds, d = .tuple ds → ds.length ≤ 60
def Sz (d : PyData) : Prop := ∀ ds, d = .tuple ds → ds.length ≤ 60 ∧ ∀ e ∈ ds, Sz1 e
/-- one of the class C is raised, v as its index -/
def ThrownI (C : Addr) (v : V) (H : Hp) (E : XK) : Prop := ∀ d H', Same H H' → H d = none → H' d = some (.xd [("index", v)]) → E (.ref C) (some d) H'
theorem ThrownI.same {C : Addr} {v : V} {H H1 : Hp} {E : XK} (t : ThrownI C v H E) (s : Same H H1) : ThrownI C v H1 E := fun d H' s2 n h => t d H' (s.trans s2) (s.free n) h
def ixV : Option Nat → V
  | none => .non
  | some j => .int (j : Nat)
def ixD : Option Nat → PyData
  | none => .none
  | some j => .int (j : Nat)
/-- such a one raised, its attribute written as it is -/
theorem thr_c {K : PySem.W.Frag} {C : Addr} {n : Str} {x : V} {σ : L2.St} {H : Hp} {Q : XK} (T : OwC K C) (no : PySem.W.findIn K (.ref C) n = some none)
    (k : ∀ d H', Same H H' → H d = none → H' d = some (.xd [(n, x)]) → Q (.ref C) (some d) H') : tThr C (spIni K [n]) [] (tCons (tC x) tNil) σ H Q := by
  refine ⟨Nat.le_of_ble_eq_true rfl, fun a ha => ⟨a, C, [x], rfl, rfl, T, fun f hf => by rw [List.mem_singleton.mp hf]; exact no, upd_same, fun H2 bt kt => ⟨rfl, .inl ?_⟩⟩⟩
  rcases kt with ⟨z, _⟩ | ⟨d, hd, h1, h2⟩
  · cases z
  · have da : d ≠ a := fun z => by
      rw [z, upd_same] at hd
      cases hd
    have hd1 : H d = none := by
      rw [upd_ne da] at hd
      exact hd
    refine ⟨d, _, h1, h2, hd1, k d _ (fun b o z => ?_) hd1 upd_same⟩
    rw [upd_ne (ne_of_none z hd1), del_ne (ne_of_none z ha)]
    exact bt b o (ne_of_none z ha) (by rw [upd_ne (ne_of_none z ha)]; exact z)
theorem anAll_get {K : PySem.W.Frag} {H : Hp} : ∀ {vs : List V} {ds : List PyData} {i : Nat} {x : V}, AnAll K H vs ds → vs[i]? = some x → ∃ d, ds[i]? = some d ∧ An K H x d
  | _, _, 0, x, .cons h _, e => ⟨_, rfl, by cases e; exact h⟩
  | _, _, i + 1, x, .cons _ t, e => by
    obtain ⟨d, e2, h⟩ := anAll_get (i := i) t (by simpa using e)
    exact ⟨d, by simpa using e2, h⟩
theorem anInts {K : PySem.W.Frag} {H : Hp} : ∀ {xs : List V} {g : List Int}, AnAll K H xs (g.map PyData.int) → xs = g.map V.int
  | _, [], h => by cases h; rfl
  | _, m :: g, h => by
    cases h with
    | cons a b =>
      cases a
      rw [anInts b]; rfl
def spAscX (K : PySem.W.Frag) : Sp := fun vs H Q _ => ∃ v d, vs = [v] ∧ An K H v d ∧ Sz1 d ∧ ∀ H', Same H H' → Q (.bl (ascD d)) H'
def spRowX (K : PySem.W.Frag) (C : Addr) : Sp := fun vs H Q E => ∃ v d, vs = [v] ∧ An K H v d ∧ Sz d ∧ (rowW d = none → ∀ H', Same H H' → Q .non H') ∧ (∀ w, rowW d = some w → ThrownI C (ixV w) H E)
section
variable {P : Program} {w : World} {K : PySem.W.Frag} {mg : Str → Option Value} {base : Heap}
theorem ok_ascX {f fI fN : Addr} {fd fdI fdN : FuncData} (F : Fun K "_are_ascending_marks" "_are_ascending_marks" s__are_ascending_marks f fd) (B : Br mg) (D : Df K mg "is_integer" sIsInt ["given"] fI fdI) (N : Df K mg "is_number" sIsNum ["given", "least", "most"] fN fdN) : FnOk P w K mg base CX0 3 f fd ["given"] (spAscX K) := by
  have GN : FnOk P w K mg base CX0 2 fN fdN ["given", "least", "most"] (spNumA K) := ok_isNumA N.F B.c D
  refine F.ok sc__are_ascending_marks (fun vs H Q E h => ?_) (fun cdv A outer s H vs Q E hr h => ?_)
  · obtain ⟨v, d, rfl, _⟩ := h
    rfl
  · obtain ⟨v, d, rfl, an, sz, k⟩ := h
    obtain ⟨tk, hmm⟩ := B.mm
    refine ⟨_, pss_cons (ps_if (PW.pt (pw_or (pt_not (pt_val (pe_callB (call_isi) (by rfl) B.c.isi (by decide +kernel) (pa_cons (pv 0) (pa_cons (pe_bltn (v := .ty "tuple") (by rfl) B.c.tuple (by decide +kernel) rfl) pa_nil))))) (pw_or1 (pt_not (pt_truth (pv 0) (by intro _; rfl)))))) (pss_one (ps_ret pe_bl)) pss_nil) (pss_cons (ps_if (pt_not (pt_val (pe_callB (cr_all rfl) (by rfl) B.all (by decide +kernel) (pa_cons (pe_lc (te := tCall (spNumA K) [] E0 (tCons (tVar 1) (tCons (tC (.int 0)) (tCons (tC (.int 40)) tNil)))) (own := [("mark", 1)]) (g := gName 1) (tt := tYes) rfl sc__are_ascending_marks.nd (pi_tup (pv 0)) (blkOk_by (N := ["given", "mark", "at"]) (sc := defScope s__are_ascending_marks) (by decide +kernel)) (fun _ _ _ _ _ => pg_name (i := 1) sc__are_ascending_marks.nd rfl (.inl rfl)) (fun _ _ _ _ _ => pts_nil) (fun _ _ _ _ _ => (pe_call GN hr (by rfl) N.g N.F.kp N.b .nil pass0 (pa_cons (pv 1) (pa_cons pe_int (pa_cons (pe_glob (v := .int 40) rfl hmm ⟨_, rfl⟩) pa_nil)))))) pa_nil)))) (pss_one (ps_ret pe_bl)) pss_nil) (pss_one (ps_ret (pe_callB (cr_all rfl) (by rfl) B.all (by decide +kernel) (pa_cons (pe_lc (te := tOp (fun x y H Q => ∃ i j, x = V.int i ∧ y = V.int j ∧ Q (.bl (decide (i < j))) H) (tOp (rIxT K) (tVar 0) (tOp (rI0 fun i j => .int (i - j)) (tVar 2) (tC (.int 1)))) (tOp (rIxT K) (tVar 0) (tVar 2))) (own := [("at", 2)]) (g := gName 2) (tt := tYes) rfl sc__are_ascending_marks.nd (pi_range2 (by rfl) B.range (pa_cons pe_int (pa_cons (pe_callB (call_len_seq) (by rfl) B.c.len (by decide +kernel) (pa_cons (pv 0) pa_nil)) pa_nil))) (blkOk_by (N := ["given", "mark", "at"]) (sc := defScope s__are_ascending_marks) (by decide +kernel)) (fun _ _ _ _ _ => pg_name (i := 2) sc__are_ascending_marks.nd rfl (.inl rfl)) (fun _ _ _ _ _ => pts_nil) (fun _ _ _ _ _ => (pe_cmpR op_lt (pe_ix ix_tup (pv 0) (pe_op op_sub (pv 2) pe_int) (fun _ _ => rfl)) (pe_ix ix_tup (pv 0) (pv 2) (fun _ _ => rfl)) (nomark _)))) pa_nil))))), ?_⟩
    refine ⟨_, rfl, v, .ty "tuple", _, _, _, rfl, .ty "tuple", an.ty, kit_ty kit_tup, _, rfl, ?_⟩
    cases et : isTupB d with
    | false =>
      have e : ascD d = false := by cases d <;> first | rfl | cases et
      rw [e] at k
      exact iteT (k _ (Same.refl _))
    | true =>
      refine iteF ?_
      obtain ⟨a, xs, ds, rfl, rfl, hT, all⟩ := an.isT et
      have ha : SqT K H a xs := SqT.of hT
      have l := dpAll_len all
      have z60 := sz ds rfl
      have ev : ascD (.tuple ds) = (!ds.isEmpty && (ds.all (fun d => isNum d 0 40) && adjB (ds.map toI))) := rfl
      rw [ev] at k
      cases ee : ds.isEmpty with
      | true =>
        have x0 : xs = [] := List.eq_nil_of_length_eq_zero (by rw [l, List.isEmpty_iff.mp ee]; rfl)
        subst x0
        rw [ee] at k
        exact ⟨_, rfl, false, .inr (.inl ⟨_, ha, rfl⟩), iteT (k _ (Same.refl _))⟩
      | false =>
        have e0 : xs.isEmpty = false := by
          cases xs with
          | nil => rw [List.eq_nil_of_length_eq_zero l.symm] at ee; cases ee
          | cons _ _ => rfl
        rw [ee, Bool.not_false, Bool.true_and] at k
        refine ⟨_, rfl, true, .inr (.inl ⟨_, ha, by rw [e0]; rfl⟩), iteF ?_⟩
        refine ⟨_, rfl, a, rfl, ⟨_, ha⟩, fun D nD => ?_⟩
        have s0 := same_put (o := HO.lst []) nD
        refine lc_tup (K := K) (a := a) (xs := xs) (fun i H' => H' D = some (.lst (((ds.take i).map fun d => isNum d 0 40).map V.bl)) ∧ Same H H') ⟨upd_same, s0⟩ (fun i H' _ ⟨_, e⟩ => sqT_same e ha) ?_ ?_
        · rintro i x H1 hi ⟨hD, e⟩
          obtain ⟨p, hp, anx⟩ := anAll_get all hi
          refine ⟨rfl, _, rfl, x, p, 0, 40, rfl, anx.same e, _, hD, ?_, ?_, fun b o z => ?_⟩
          · rw [List.length_map, List.length_map, List.length_take]; exact small1000 (by omega)
          · rw [upd_same, List.take_add_one, hp, List.map_append, List.map_append]; rfl
          · rw [upd_ne (ne_of_none z nD)]; exact e _ _ z
        rintro H1 ⟨hD, e⟩
        rw [l, List.take_length] at hD
        refine ⟨D, _, rfl, SqL.of hD, ?_⟩
        have tr : (ds.map fun d => isNum d 0 40).all id = ds.all (fun d => isNum d 0 40) := by rw [List.all_map]; rfl
        rw [tr]
        cases ea : ds.all (fun d => isNum d 0 40) with
        | false =>
          rw [ea] at k
          exact ⟨_, rfl, iteT (k _ e)⟩
        | true =>
          rw [ea, Bool.true_and] at k
          refine ⟨_, rfl, iteF ?_⟩
          obtain ⟨ed, rng⟩ := nums_at ea
          have ex : xs = (ds.map toI).map V.int := anInts (by rw [← ed]; exact all)
          have lg : (ds.map toI).length = ds.length := List.length_map _
          generalize ds.map toI = g at *
          subst ex
          have ha1 := sqT_same e ha
          refine ⟨_, rfl, a, _, rfl, .inr ha1, 1, _, rfl, ⟨by decide, by decide, by omega, ?_⟩, fun D2 nD2 => ?_⟩
          · rw [List.length_map]; omega
          have s2 := same_put (o := HO.lst []) nD2
          rw [List.length_map]
          refine lc_range (lo := 1) (n := ((g.length : Int) - 1).toNat) (fun i H' => H' D2 = some (.lst (((List.range i).map fun i => decide (g.getD i 0 < g.getD (i + 1) 0)).map V.bl)) ∧ Same H1 H') ⟨upd_same, s2⟩ ?_ ?_
          · rintro i H2 hi ⟨hD2, e2⟩
            have lt1 : i < g.length := by omega
            have lt2 : i + 1 < g.length := by omega
            have h1 : (g.map V.int)[i]? = some (.int g[i]) := by rw [List.getElem?_map, List.getElem?_eq_getElem lt1]; rfl
            have h2 : (g.map V.int)[i + 1]? = some (.int g[i + 1]) := by rw [List.getElem?_map, List.getElem?_eq_getElem lt2]; rfl
            have ha2 := sqT_same e2 ha1
            refine ⟨rfl, _, rfl, _, rfl, _, _, rfl, rfl, a, _, _, _, rfl, rfl, ha2, at_of (j := i) (by omega) h1, _, rfl, _, rfl, a, _, _, _, rfl, rfl, ha2, at_of (j := i + 1) (by omega) h2, _, _, rfl, rfl, _, hD2, ?_, ?_, fun b o z => ?_⟩
            · rw [List.length_map, List.length_map, List.length_range]; exact small1000 (by omega)
            · rw [upd_same, List.range_succ, List.map_append, List.map_append, List.map_singleton, getD_lt lt1, getD_lt lt2]; rfl
            · rw [upd_ne (ne_of_none z nD2)]; exact e2 _ _ z
          · rintro H2 ⟨hD2, e2⟩
            refine ⟨D2, _, rfl, SqL.of hD2, ?_⟩
            rw [show ((g.length : Int) - 1).toNat = g.length - 1 by omega, adj_range]
            exact k H2 (e.trans e2)
theorem ok_rowX {f fI fN fA CO fE : Addr} {fd fdI fdN fdA fdE : FuncData} (F : Fun K "_check_row" "_check_row" s__check_row f fd) (B : Br mg) (D : Df K mg "is_integer" sIsInt ["given"] fI fdI) (N : Df K mg "is_number" sIsNum ["given", "least", "most"] fN fdN) (Aa : Df K mg "_are_ascending_marks" s__are_ascending_marks ["given"] fA fdA) (T : OwE P w K mg base "InvalidOrder" ["index"] CO fE fdE) : FnOk P w K mg base (L2N.CX P w) 4 f fd ["row"] (spRowX K CO) := by
  have GA : FnOk P w K mg base CX0 3 fA fdA ["given"] (spAscX K) := ok_ascX Aa.F B D N
  refine okN F sc__check_row (fun vs H Q E h => ?_) (fun cdv A outer s H vs Q E hr h => ?_)
  · obtain ⟨v, d, rfl, _⟩ := h
    rfl
  · obtain ⟨v, d, rfl, an, sz, k, e⟩ := h
    have hr2 : Room 2 _ := hr.mono (by decide)
    have tk : L2N.Takes (cxOf (L2N.CX P w) P w K mg base ["row", "met", "at", "marks", "mark"] "_check_row" (defScope s__check_row) f cdv A outer s H E) (fun C d _ G => E C d G) := L2N.takes_of rfl rfl rfl rfl
    refine ⟨_, pss_cons (ps_if (PW.pt (pw_or (pt_not (pt_val (pe_callB (call_isi) (by rfl) B.c.isi (by decide +kernel) (pa_cons (pv 0) (pa_cons (pe_bltn (v := .ty "tuple") (by rfl) B.c.tuple (by decide +kernel) rfl) pa_nil))))) (pw_or1 (pt_not (pt_truth (pv 0) (by intro _; rfl)))))) (pss_one (L2N.ps_raise rfl tk (pmk_exoN (dvs := []) T.own T.ini T.ty T.run hr2 T.b .nil pass0 (by rfl) T.g (pa_cons pe_non pa_nil)))) pss_nil) (pss_cons (ps_set (i := 1) sc__check_row.nd rfl (.inr rfl) (pe_lst pa_nil)) (pss_one (ps_for PassesOwn.leaving rfl (pi_enumT (by rfl) B.en (pa_cons (pv 0) pa_nil)) (pg_tup (by rfl) (pgs_cons (pg_name (i := 2) sc__check_row.nd rfl (.inl rfl)) (pgs_cons (pg_name (i := 3) sc__check_row.nd rfl (.inl rfl)) pgs_nil))) (pss_cons (ps_if (PW.pt (pw_or (pt_not (pt_val (pe_call GA hr (by rfl) Aa.g Aa.F.kp Aa.b .nil pass0 (pa_cons (pv 3) pa_nil)))) (pw_or1 (pt_val (pe_callB (cr_any rfl) (by rfl) B.any (by decide +kernel) (pa_cons (pe_lc (te := tOp (rIn K false) (tVar 4) (tVar 1)) (own := [("mark", 4)]) (g := gName 4) (tt := tYes) rfl sc__check_row.nd (pi_tup (pv 3)) (blkOk_by (N := ["row", "met", "at", "marks", "mark"]) (sc := defScope s__check_row) (by decide +kernel)) (fun _ _ _ _ _ => pg_name (i := 4) sc__check_row.nd rfl (.inl rfl)) (fun _ _ _ _ _ => pts_nil) (fun _ _ _ _ _ => (pe_cmpR op_in_seq (pv 4) (pv 1) (by rfl)))) pa_nil)))))) (pss_one (L2N.ps_raise rfl tk (pmk_exoN (dvs := []) T.own T.ini T.ty T.run hr2 T.b .nil pass0 (by rfl) T.g (pa_cons (pv 2) pa_nil)))) pss_nil) (pss_one (ps_expr (pe_bm PySem.F.plainAttrs_list PySem.F.slot_list_extend PySem.F.type_list_extend mt_extT (pv 1) (pa_cons (pv 3) pa_nil)))))))), ?_⟩
    refine ⟨_, rfl, v, .ty "tuple", _, _, _, rfl, .ty "tuple", an.ty, kit_ty kit_tup, _, rfl, ?_⟩
    cases et : isTupB d with
    | false =>
      have ew : rowW d = some none := by cases d <;> first | rfl | cases et
      exact iteT (thr_c T.own (T.no "index" (by simp)) (e _ ew))
    | true =>
      refine iteF ?_
      obtain ⟨a, xs, ds, rfl, rfl, hT, all⟩ := an.isT et
      have ha : SqT K H a xs := SqT.of hT
      have l := dpAll_len all
      have z60 := (sz ds rfl).1
      cases ee : ds.isEmpty with
      | true =>
        have x0 : xs = [] := List.eq_nil_of_length_eq_zero (by rw [l, List.isEmpty_iff.mp ee]; rfl)
        subst x0
        have ew : rowW (.tuple ds) = some none := by rw [rowW, if_pos ee]
        exact ⟨_, rfl, false, .inr (.inl ⟨_, ha, rfl⟩), iteT (thr_c T.own (T.no "index" (by simp)) (e _ ew))⟩
      | false =>
        have e0 : xs.isEmpty = false := by
          cases xs with
          | nil => rw [List.eq_nil_of_length_eq_zero l.symm] at ee; cases ee
          | cons _ _ => rfl
        have rw0 : rowW (.tuple ds) = (scanW [] 0 ds).map some := by rw [rowW, if_neg (by rw [ee]; decide)]
        rw [rw0] at k e
        refine ⟨_, rfl, true, .inr (.inl ⟨_, ha, by rw [e0]; rfl⟩), iteF ?_⟩
        refine ⟨Nat.zero_le _, fun D nD => ?_⟩
        have s0 := same_put (o := HO.lst []) nD
        have gD : upd H D (HO.lst []) D = some (.lst []) := upd_same
        generalize upd H D (HO.lst []) = H0 at *
        refine nxI ⟨_, rfl, a, xs, rfl, sqT_same s0 ha, for_en (K := K) (a := a) (xs := xs) (fun i σ H' => ∃ p q met, σ = [some (.ref a), some (.ref D), p, q, none] ∧ H' D = some (.lst (met.map V.int)) ∧ met.Nodup ∧ (∀ m ∈ met, 0 ≤ m ∧ m ≤ 40) ∧ scanW [] 0 ds = scanW met i (ds.drop i) ∧ ∀ b o, b ≠ D → H0 b = some o → H' b = some o)
          ⟨none, none, [], rfl, gD, List.nodup_nil, (fun m h => by cases h), rfl, fun b o _ e => e⟩ (fun i σ H' ⟨_, _, _, _, _, _, _, _, kp⟩ => ?_) ?_ ?_⟩
        · rcases ha with (h | ⟨o, h⟩) | h
          · exact .inl (.inl (kp _ _ (ne_of_none h nD) (s0 _ _ h)))
          · exact .inl (.inr ⟨o, kp _ _ (ne_of_none h nD) (s0 _ _ h)⟩)
          · exact .inr h
        · rintro i x r σ H1 hi ⟨p, q, met, rfl, hD, nd, rg, sc, kp⟩ nr
          have sH : Same H H1 := fun b o e => kp _ _ (ne_of_none e nD) (s0 _ _ e)
          obtain ⟨pd, hp, anx⟩ := anAll_get all hi
          have szp : Sz1 pd := (sz ds rfl).2 pd (List.mem_of_getElem? hp)
          have dr : ds.drop i = pd :: ds.drop (i + 1) := by
            have l := List.getElem?_eq_some_iff.mp hp
            rw [← l.2, List.getElem_cons_drop]
          rw [dr, scanW] at sc
          have sr := same_put (o := HO.tup [V.int (i : Nat), x]) nr
          have gr : upd H1 r (HO.tup [V.int (i : Nat), x]) r = some (.tup [V.int (i : Nat), x]) := upd_same
          have hDr := sr _ _ hD
          generalize upd H1 r (HO.tup [V.int (i : Nat), x]) = H2 at *
          have few : met.length ≤ 41 := few_of 41 nd fun m mm => by have := rg m mm; omega
          have thr : ∀ H', Same H H' → ¬ (ascD pd && freshB met (gI pd)) = true → ThrownI CO (.int (i : Nat)) H' E := fun H' s z => by
            rw [if_neg z] at sc
            exact (e (some i) (by rw [sc]; rfl)).same s
          refine ⟨r, _, rfl, SqT.of gr, rfl, _, _, rfl, _, _, rfl, rfl, ?_⟩
          refine ⟨_, rfl, x, pd, rfl, (anx.same sH).same sr, szp, fun H3 s3 => ?_⟩
          have S3 := (sH.trans sr).trans s3
          cases ea : ascD pd with
          | false =>
            have z : ¬ (ascD pd && freshB met (gI pd)) = true := by rw [ea, Bool.false_and]; exact Bool.false_ne_true
            exact ⟨_, rfl, iteT (thr_of (i := 2) T.own (T.no "index" (by simp)) rfl (thr _ S3 z))⟩
          | true =>
            refine ⟨_, rfl, iteF ?_⟩
            have hD3 := s3 _ _ hDr
            obtain ⟨ep, ne, pw, rng⟩ := asc_of ea
            rw [ea, Bool.true_and] at sc thr
            have any3 : An K H3 x pd := (anx.same sH).same (sr.trans s3)
            rw [ep] at any3
            obtain ⟨ga, ys, es, rfl, ee2, hga, all2⟩ := any3.isT rfl
            have ee3 := (PyData.tuple.inj ee2).symm
            subst ee3
            have ey := anInts all2
            subst ey
            have lg : (gI pd).length ≤ 60 := by have := szp _ ep; rw [List.length_map] at this; exact this
            generalize gI pd = g at *
            have hgs : SqT K H3 ga (g.map V.int) := SqT.of hga
            refine ⟨_, rfl, ga, rfl, ⟨_, hgs⟩, fun D2 nD2 => ?_⟩
            have s4 := same_put (o := HO.lst []) nD2
            refine lc_tup (K := K) (a := ga) (xs := g.map V.int) (fun j H' => H' D2 = some (.lst (((g.take j).map fun m => decide (m ∈ met)).map V.bl)) ∧ Same H3 H') ⟨upd_same, s4⟩ (fun j H' _ ⟨_, e⟩ => sqT_same e hgs) ?_ ?_
            · rintro j y H4 hj ⟨hD2, e4⟩
              rw [List.getElem?_map] at hj
              obtain ⟨m, hm, rfl⟩ := Option.map_eq_some_iff.mp hj
              refine ⟨rfl, _, rfl, _, rfl, D, _, rfl, .inl (SqL.of (e4 _ _ hD3)), rfl, flat_ints _, _, hD2, ?_, ?_, fun b o z => ?_⟩
              · rw [List.length_map, List.length_map, List.length_take]; exact small1000 (by omega)
              · rw [if_neg (by decide), inV_int, upd_same, List.take_add_one, hm, List.map_append, List.map_append]; rfl
              · rw [upd_ne (ne_of_none z nD2)]; exact e4 _ _ z
            · rintro H4 ⟨hD2, e4⟩
              rw [List.length_map, List.take_length] at hD2
              refine ⟨D2, _, rfl, SqL.of hD2, ?_⟩
              have fa : (g.map fun m => decide (m ∈ met)).any id = !freshB met g := by
                unfold freshB
                rw [List.any_map, List.not_all_eq_any_not]
                congr 1
                funext m
                by_cases h : m ∈ met <;> simp [h]
              rw [fa]
              cases ef : freshB met g with
              | false =>
                exact ⟨_, rfl, iteT (thr_of (i := 2) T.own (T.no "index" (by simp)) rfl (thr _ (S3.trans e4) (by rw [ef]; decide)))⟩
              | true =>
                refine ⟨_, rfl, iteF ?_⟩
                have hD4 := e4 _ _ hD3
                rw [ef, if_pos rfl] at sc
                refine nxI ⟨_, rfl, .inl ⟨rfl, _, SqL.of hD4⟩, _, rfl, D, ga, _, _, rfl, rfl, hD4, sqT_same e4 hgs, ?_, _, _, met ++ g, rfl, ?_, fresh_nd nd pw ef, fun m mm => ?_, sc, fun b o hb e => ?_⟩
                · rw [List.length_map, List.length_map]; exact Nat.le_of_lt (small1000 (by omega))
                · rw [upd_same, List.map_append]
                · exact (List.mem_append.mp mm).elim (rg m) (rng m)
                · rw [upd_ne hb]
                  exact e4 _ _ (s3 _ _ (sr _ _ (kp _ _ hb e)))
        · rintro σ H1 ⟨p, q, met, rfl, hD, nd, rg, sc, kp⟩
          rw [List.drop_of_length_le (by omega), scanW] at sc
          exact k (by rw [sc]; rfl) H1 fun b o e => kp _ _ (ne_of_none e nD) (s0 _ _ e)
end
end My
set_option Elab.async false
set_option linter.all false
set_option maxRecDepth 100000
set_option maxHeartbeats 4000000
/-! two promises of one def, one that never throws and one that does, put together -/
namespace Gn
open PySem PySem.Spec PyProof.Rows L2
section
variable {P : Program} {w : World} {K : PySem.W.Frag} {mg : Str → Option Value} {base : Heap} {CX : CXT} {k : Nat} {f : Addr} {fd : FuncData} {ps : List Str} {sp sp' : Sp}
theorem cr_up {outer : List Env} {H : Hp} {s s' : Shared} {Q : VK} {E : XK} {r : Result} (h : CR CX0 outer P w H s Q E r s') : CR CX outer P w H s Q E r s' := by
  match r, h with
  | .ok (.ret u), h => exact h
  | .error e, h => exact False.elim h
theorem okUp (F : FnOk P w K mg base CX0 k f fd ps sp) : FnOk P w K mg base CX k f fd ps sp :=
  ⟨F.len, fun A o s H a us vs Q E hr e hb hv h => codeAny_mono (F.run A o s H a us vs Q E hr e hb hv h) fun _ _ z => cr_up z⟩
theorem fgUp (F : FnG P w K mg base CX0 k f fd ps sp) : FnG P w K mg base CX k f fd ps sp :=
  ⟨F.len, fun A o s H a us vs Q E hg hr e hb hv h => codeAny_mono (F.run A o s H a us vs Q E hg hr e hb hv h) fun _ _ z => cr_up z⟩
def spOr (a b : Sp) : Sp := fun vs H Q E => a vs H Q E ∨ b vs H Q E
theorem okOr (F : FnOk P w K mg base CX k f fd ps sp) (G : FnOk P w K mg base CX k f fd ps sp') : FnOk P w K mg base CX k f fd ps (spOr sp sp') :=
  ⟨fun vs H Q E h => h.elim (F.len vs H Q E) (G.len vs H Q E), fun A o s H a us vs Q E hr e hb hv h => h.elim (fun h => F.run A o s H a us vs Q E hr e hb hv h) fun h => G.run A o s H a us vs Q E hr e hb hv h⟩
theorem fgOr (F : FnG P w K mg base CX k f fd ps sp) (G : FnG P w K mg base CX k f fd ps sp') : FnG P w K mg base CX k f fd ps (spOr sp sp') :=
  ⟨fun vs H Q E h => h.elim (F.len vs H Q E) (G.len vs H Q E), fun A o s H a us vs Q E hg hr e hb hv h => h.elim (fun h => F.run A o s H a us vs Q E hg hr e hb hv h) fun h => G.run A o s H a us vs Q E hg hr e hb hv h⟩
/-- what is refused, the rest never gone through -/
theorem okBad {x qual : Str} {st : Stmt} {f : Addr} {fd : FuncData} {N ps : List Str} {k : Nat} {sp : Sp} (F : Fun K x qual st f fd) (S : FnScope N ps (defScope st)) (len : ∀ vs H Q E, sp vs H Q E → vs.length = ps.length)
    (body : ∀ (cdv : Value) (A : Around) (outer : List Env) (s : Shared) (H : Hp) (vs : List V) (Q : VK) (E : XK), Room k (A.deeper (envOfC qual (defScope st) s.heap.objs.size f cdv)) → sp vs H Q E →
      L2N.Takes (cxOf (L2N.CX P w) P w K mg base N qual (defScope st) f cdv A outer s H E) (fun C d _ G => E C d G) →
      ∃ t, PSs (cxOf (L2N.CX P w) P w K mg base N qual (defScope st) f cdv A outer s H E) (defBody st) t ∧ t { nx := fun _ G => Q .non G, rt := Q } (start N vs) H) : FnOk P w K mg base (L2N.CX P w) (k + 1) f fd ps sp :=
  okN F S len fun cdv A outer s H vs Q E hr h => body cdv A outer s H vs Q E hr h (L2N.takes_of rfl rfl rfl rfl)
end
end Gn
set_option Elab.async false
set_option linter.all false
set_option maxRecDepth 100000
set_option maxHeartbeats 8000000
set_option exponentiation.threshold 4000
namespace My
open PySem PySem.Spec PyProof.Rows L2 Gn Mt
/-! orders, any data: refused, or let in -/
/-- of a right row: nothing but the first marks, beginning with 0 -/
def ordB (gs : List (List Int)) : Bool := gs.flatten.all (fun m => decide (m < gs.flatten.length)) && decide (gs.flatten.head? = some 0)
theorem ord_of {gs : List (List Int)} (R : RowOk gs) (h : ordB gs = true) : OrdOk gs := by
  unfold ordB at h
  rw [Bool.and_eq_true] at h
  exact { toRowOk := R, hd := of_decide_eq_true h.2, all := fun m mm => of_decide_eq_true (List.all_eq_true.mp h.1 m mm) }
/-- an order: what happens, the first wrong thing refused -/
def spOrdX (K : PySem.W.Frag) (C : Addr) : Sp := fun vs H Q E => ∃ v d, vs = [v] ∧ An K H v d ∧ Sz d ∧ (∀ w, rowW d = some w → ThrownI C (ixV w) H E) ∧
  (rowW d = none → ∀ gs, d = ordD gs → RowOk gs → (ordB gs = false → ThrownI C .non H E) ∧ (ordB gs = true → ∀ H', Same H H' → Q .non H'))
def Told (H : Hp) (Q : VK) : Prop := ∀ r H', Same H H' → Q r H'
def ToldT (TT : List (Addr × Str)) (H : Hp) (Q : VK) : Prop := ∀ u H', LamX.ExtN H H' → LamX.Tabs TT H' → Q u H'
/-- steps_of_some, steps_of -/
def spSomeC (K : PySem.W.Frag) (C : Addr) (TT : List (Addr × Str)) : Sp := fun vs H Q E => ∃ v d, vs = [v] ∧ An K H v d ∧ Sz d ∧ LamX.Tabs TT H ∧ (∀ w, rowW d = some w → ThrownI C (ixV w) H E) ∧ (rowW d = none → ToldT TT H Q)
def spOfC (K : PySem.W.Frag) (C : Addr) (TT : List (Addr × Str)) : Sp := fun vs H Q E => ∃ v d, vs = [v] ∧ An K H v d ∧ Sz d ∧ LamX.Tabs TT H ∧ (∀ w, rowW d = some w → ThrownI C (ixV w) H E) ∧
  (rowW d = none → ∀ gs, d = ordD gs → RowOk gs → (ordB gs = false → ThrownI C .non H E) ∧ (ordB gs = true → ToldT TT H Q))
/-- the first group of more than one -/
def manyAt : Nat → List (List Int) → Option Nat
  | _, [] => none
  | j, g :: gs => if g.length > 1 then some j else manyAt (j + 1) gs
def spBrC (K : PySem.W.Frag) (C : Addr) : Sp := fun vs H Q E => ∃ v d, vs = [v] ∧ An K H v d ∧ Sz d ∧ (∀ w, rowW d = some w → ThrownI C (ixV w) H E) ∧
  (rowW d = none → ∀ gs, d = ordD gs → RowOk gs → (ordB gs = false → ThrownI C .non H E) ∧ (ordB gs = true → (∀ j, manyAt 0 gs = some j → ThrownI C (.int (j : Nat)) H E) ∧ (manyAt 0 gs = none → Told H Q)))
theorem many_none : ∀ {gs : List (List Int)} {j : Nat}, (∀ g ∈ gs, g ≠ []) → manyAt j gs = none → ∃ l : List Int, gs = singles l
  | [], j, _, _ => ⟨[], rfl⟩
  | g :: gs, j, ne, h => by
    rw [manyAt] at h
    split at h
    · cases h
    · rename_i c
      obtain ⟨l, e⟩ := many_none (fun g m => ne g (List.mem_cons_of_mem _ m)) h
      have n0 := ne g List.mem_cons_self
      match g, n0, c with
      | [m], _, _ => exact ⟨m :: l, by rw [e]; rfl⟩
      | a :: b :: r, _, c => exact absurd (by simp) c
theorem map_inj1 {α β : Type} {f : α → β} (hf : ∀ x y, f x = f y → x = y) : ∀ {a b : List α}, a.map f = b.map f → a = b
  | [], [], _ => rfl
  | [], _ :: _, h => by cases h
  | _ :: _, [], h => by cases h
  | x :: a, y :: b, h => by
    rw [List.map_cons, List.map_cons, List.cons.injEq] at h
    rw [hf _ _ h.1, map_inj1 hf h.2]
theorem ordD_inj {a b : List (List Int)} (h : ordD a = ordD b) : a = b :=
  map_inj1 (fun _ _ e => map_inj1 (fun _ _ e => PyData.int.inj e) (PyData.tuple.inj e)) (PyData.tuple.inj h)
theorem perm_of {l : List Int} (O : OrdOk (singles l)) : Perm0 l := by
  have nd := O.nd
  have all := O.all
  have hd := O.hd
  have low : ∀ m ∈ l, 0 ≤ m := fun m mm => (O.rng [m] (List.mem_map.mpr ⟨m, mm, rfl⟩) m (by simp)).1
  rw [flat_singles] at nd all hd
  refine ⟨nd, fun k => ⟨fun m => ⟨low k m, all k m⟩, fun ⟨k0, k1⟩ => ?_⟩, hd⟩
  by_cases c : k ∈ l
  · exact c
  · have := few_of l.length (l := k :: l) (List.nodup_cons.mpr ⟨c, nd⟩) (fun m mm => by
      rcases List.mem_cons.mp mm with rfl | mm
      · exact ⟨k0, k1⟩
      · exact ⟨low m mm, all m mm⟩)
    rw [List.length_cons] at this
    omega
section
variable {P : Program} {w : World} {K : PySem.W.Frag} {mg : Str → Option Value} {base : Heap}
theorem okImp {CX : CXT} {k : Nat} {f : Addr} {fd : FuncData} {ps : List Str} {sp sp' : Sp} (F : FnOk P w K mg base CX k f fd ps sp) (i : ∀ vs H Q E, sp' vs H Q E → sp vs H Q E) : FnOk P w K mg base CX k f fd ps sp' :=
  ⟨fun vs H Q E h => F.len vs H Q E (i _ _ _ _ h), fun A o s H a us vs Q E hr e hb hv h => F.run A o s H a us vs Q E hr e hb hv (i _ _ _ _ h)⟩
/-- the class of what is refused here -/
structure Io (P : Program) (w : World) (K : PySem.W.Frag) (mg : Str → Option Value) (base : Heap) where
  s : St P w K mg base
  CO : Addr
  eO : Addr × FuncData
  tO : OwE P w K mg base "InvalidOrder" ["index"] CO eO.1 eO.2
theorem c_row (M : Io P w K mg base) : FnOk P w K mg base (L2N.CX P w) 4 M.s.f__check_row.1 M.s.f__check_row.2 ["row"] (spRowX K M.CO) := ok_rowX M.s.d__check_row.F M.s.Br M.s.M.d_int M.s.d_num M.s.d__are_ascending_marks M.tO
theorem c_ord (M : Io P w K mg base) : FnOk P w K mg base (L2N.CX P w) 5 M.s.f__check_order.1 M.s.f__check_order.2 ["row"] (spOrdX K M.CO) := by
  have GR := c_row M
  have B := M.s.Br
  have T := M.tO
  refine okN M.s.d__check_order.F sc__check_order (fun vs H Q E h => ?_) (fun cdv A outer s H vs Q E hr h => ?_)
  · obtain ⟨v, d, rfl, _⟩ := h
    rfl
  · obtain ⟨v, d, rfl, an, sz, e, k⟩ := h
    have hr2 : Room 2 _ := hr.mono (by decide)
    have tk : L2N.Takes (cxOf (L2N.CX P w) P w K mg base ["row", "marks", "place", "mark"] "_check_order" (defScope s__check_order) M.s.f__check_order.1 cdv A outer s H E) (fun C d _ G => E C d G) := L2N.takes_of rfl rfl rfl rfl
    refine ⟨_, pss_cons (ps_expr (pe_callS GR hr (by rfl) M.s.d__check_row.g M.s.d__check_row.F.kp M.s.d__check_row.b (fun σ => L2N.passAt tk σ) (pa_cons (pv 0) pa_nil))) (pss_cons ((ps_setLc2 (i := 1) (te := tVar 3) (own := [("place", 2), ("mark", 3)]) (vs1 := [3]) (g := gName 2) (tt := tYes) (g1 := gName 3) (tt1 := tYes) (wi1 := iTup K (tVar 2)) rfl sc__check_order.nd rfl rfl (sw_true rfl rfl rfl (by decide +kernel)) (pi_tup (pv 0)) (blkOk_by (N := ["row", "marks", "place", "mark"]) (sc := defScope s__check_order) (by decide +kernel)) (by decide) (fun _ _ _ _ _ => pg_name (i := 2) sc__check_order.nd rfl (.inl rfl)) (fun _ _ _ _ _ => pts_nil) (fun _ _ _ _ _ => pi_tup (pv 2)) (fun _ _ _ _ _ => pg_name (i := 3) sc__check_order.nd rfl (.inl rfl)) (fun _ _ _ _ _ => pts_nil) (fun _ _ _ _ _ => pv 3))) (pss_one (ps_if (PW.pt (pw_or (pt_cmpR op_ge (pe_callB (cr_max rfl) (by rfl) B.max (by decide +kernel) (pa_cons (pv 1) pa_nil)) (pe_callB (call_len_seq) (by rfl) B.c.len (by decide +kernel) (pa_cons (pv 1) pa_nil)) (nomark _)) (pw_or1 (pt_cmpR op_ne (pe_ix ix_list (pv 1) pe_int (fun _ _ => rfl)) pe_int (nomark _))))) (pss_one (L2N.ps_raise rfl tk (pmk_exoN (dvs := []) T.own T.ini T.ty T.run hr2 T.b .nil pass0 (by rfl) T.g (pa_cons pe_non pa_nil)))) pss_nil))), ?_⟩
    refine ⟨_, rfl, v, d, rfl, an, sz, fun er H1 s1 => ?_, e⟩
    obtain ⟨gs, rfl, R⟩ := row_of er
    obtain ⟨kf, kt⟩ := k er gs rfl R
    have hv := an.dp (flat_ord gs)
    obtain ⟨a, xs, rfl, ha, hx⟩ := row_inv hv
    have ha1 := sqT_same s1 ha
    have hx1 := dps_same s1 _ _ hx
    refine ⟨_, rfl, a, rfl, ⟨_, ha1⟩, fun D nD => ?_⟩
    have s2 := same_put (o := HO.lst []) nD
    refine lc2_it (walk_tup (K := K) (a := a) (xs := xs)) (fun i H' => H' D = some (.lst (((gs.take i).flatten).map V.int)) ∧ Same H1 H') ⟨upd_same, s2⟩ (fun i H' _ ⟨_, e⟩ => sqT_same e ha1) ?_ ?_
    · rintro i x H2 H3 hi ⟨hD, e2⟩ ⟨rfl, hxi⟩
      obtain ⟨d, hd, dx⟩ := dps_get (dps_same e2 _ _ hx1) hxi
      rw [List.getElem?_map] at hd
      obtain ⟨g, hg, rfl⟩ := Option.map_eq_some_iff.mp hd
      obtain ⟨ag, rfl, hag⟩ := grp_inv dx
      have few := R.few
      have fl : ((gs.take i).flatten).length + g.length ≤ 41 := by
        have e1 : gs = gs.take i ++ (g :: gs.drop (i + 1)) := by
          have l := (List.getElem?_eq_some_iff.mp hg)
          rw [← l.2, List.getElem_cons_drop, List.take_append_drop]
        have e2 := congrArg (fun l => l.flatten.length) e1
        simp only [List.flatten_append, List.flatten_cons, List.length_append] at e2
        omega
      refine ⟨rfl, yesI ?_⟩
      refine ⟨_, rfl, ag, rfl, ⟨_, hag⟩, in1 (walk_tup (K := K) (a := ag) (xs := g.map V.int)) (fun j H' => H' D = some (.lst (((gs.take i).flatten ++ g.take j).map V.int)) ∧ Same H1 H') ⟨by simpa using hD, e2⟩ (fun j H' _ ⟨_, e⟩ => by
        have dx' := dps_at (dps_same e _ _ hx1) (i := i) (by rw [List.getElem?_map, hg]; rfl)
        obtain ⟨x', hx', dx'⟩ := dx'
        have ex : x' = .ref ag := Option.some.inj (hx'.symm.trans hxi)
        subst ex
        obtain ⟨ag', e', h'⟩ := grp_inv dx'
        cases e'
        exact h') ?_ ?_⟩
      · rintro j y H4 H5 hj ⟨hD4, e4⟩ ⟨rfl, hyj⟩
        rw [List.getElem?_map] at hyj
        obtain ⟨m, hm, rfl⟩ := Option.map_eq_some_iff.mp hyj
        have lj := (List.getElem?_eq_some_iff.mp hm).1
        refine ⟨rfl, yesI ⟨_, rfl, _, hD4, ?_, ?_, fun b o z => ?_⟩⟩
        · rw [List.length_map, List.length_append, List.length_take]; exact small1000 (by omega)
        · rw [upd_same, List.take_add_one, hm]
          simp only [List.map_append, List.append_assoc]; rfl
        · rw [upd_ne (ne_of_none z nD)]; exact e4 _ _ z
      · rintro H4 ⟨hD4, e4⟩
        refine ⟨?_, e4⟩
        rw [List.length_map, List.take_length] at hD4
        rw [hD4, List.take_add_one, hg, List.flatten_append]
        simp
    · rintro H2 ⟨hD, e2⟩
      have lx := dps_len hx
      rw [List.length_map] at lx
      rw [lx, List.take_length] at hD
      have S2 := s1.trans e2
      have ne : gs.flatten ≠ [] := fun z => by
        cases h : gs with
        | nil => exact R.ne h
        | cons g r =>
          rw [h, List.flatten_cons, List.append_eq_nil_iff] at z
          exact R.gne g (by rw [h]; exact List.mem_cons_self) z.1
      have thr : ordB gs = false → ThrownI M.CO .non H2 E := fun z => (kf z).same S2
      refine nxI ⟨_, rfl, D, gs.flatten, rfl, SqL.of hD, List.length_pos_iff.mpr ne, fun m mm le => ?_⟩
      refine ⟨_, rfl, D, _, rfl, .inl (SqL.of hD), _, _, rfl, rfl, _, rfl, ?_⟩
      rw [List.length_map]
      by_cases c : m ≥ (gs.flatten.length : Int)
      · rw [decide_eq_true c]
        refine iteT (iteT (thr_c T.own (T.no "index" (by simp)) (thr ?_)))
        unfold ordB
        rw [Bool.and_eq_false_iff]
        refine .inl ?_
        rw [List.all_eq_false]
        exact ⟨m, mm, by simp only [decide_eq_true_eq]; omega⟩
      · rw [decide_eq_false c]
        have all : gs.flatten.all (fun m => decide (m < gs.flatten.length)) = true := List.all_eq_true.mpr fun x mx => decide_eq_true (by have := le x mx; omega)
        obtain ⟨h0, r0, eh⟩ : ∃ h r, gs.flatten = h :: r := by
          cases h : gs.flatten with
          | nil => exact absurd h ne
          | cons a r => exact ⟨a, r, rfl⟩
        refine iteF ⟨_, rfl, D, _, 0, .int h0, rfl, rfl, SqL.of hD, at_of (j := 0) rfl (by rw [eh]; rfl), rfl, _, rfl, ?_⟩
        have ob : ordB gs = decide (h0 = 0) := by
          unfold ordB
          rw [all, Bool.true_and, eh, decide_eq_decide]
          exact ⟨fun z => Option.some.inj z, fun z => congrArg some z⟩
        by_cases z : h0 = 0
        · have e1 : (!decide (V.int h0 = V.int 0)) = false := by rw [decide_eq_true (congrArg V.int z)]; rfl
          rw [e1]
          exact iteF (kt (by rw [ob]; exact decide_eq_true z) H2 S2)
        · have e1 : (!decide (V.int h0 = V.int 0)) = true := by rw [decide_eq_false (fun y => z (V.int.inj y))]; rfl
          rw [e1]
          exact iteT (thr_c T.own (T.no "index" (by simp)) (thr (by rw [ob]; exact decide_eq_false z)))
theorem c_some {f : Addr} {fd : FuncData} (F : Fun K "steps_of_some" "steps_of_some" s_steps_of_some f fd) (M : Io P w K mg base) : FnOk P w K mg base (L2N.CX P w) 11 f fd ["row"] (spSomeC K M.CO M.s.TT) := by
  have GR := c_row M
  refine okImp (okOr (okUp (ok_stepsSome F M.s)) (okBad (sp := fun vs H Q E => ∃ v d, vs = [v] ∧ An K H v d ∧ Sz d ∧ ∃ w, rowW d = some w ∧ ThrownI M.CO (ixV w) H E) F sc_steps_of_some (fun vs H Q E h => ?_) (fun cdv A outer s H vs Q E hr h tk => ?_))) ?_
  · obtain ⟨v, d, rfl, _⟩ := h
    rfl
  · obtain ⟨v, d, rfl, an, sz, w, ew, t⟩ := h
    have hr4 : Room 4 _ := hr.mono (by decide)
    refine ⟨_, pss_cons (ps_expr (pe_callS GR hr4 (by rfl) M.s.d__check_row.g M.s.d__check_row.F.kp M.s.d__check_row.b (fun σ => L2N.passAt tk σ) (pa_cons (pv 0) pa_nil))) pss_never, ?_⟩
    exact ⟨_, rfl, v, d, rfl, an, sz, (fun z => nomatch ew.symm.trans z), fun w' z => by cases ew.symm.trans z; exact t⟩
  · rintro vs H Q E ⟨v, d, rfl, an, sz, T, e, k⟩
    cases er : rowW d with
    | some w => exact .inr ⟨v, d, rfl, an, sz, w, er, e w er⟩
    | none =>
      obtain ⟨gs, rfl, R⟩ := row_of er
      exact .inl ⟨v, gs, rfl, an.dp (flat_ord gs), R, T, fun u H' x t _ => k er u H' x t⟩
theorem c_of {f : Addr} {fd : FuncData} (F : Fun K "steps_of" "steps_of" s_steps_of f fd) (M : Io P w K mg base) : FnOk P w K mg base (L2N.CX P w) 11 f fd ["row"] (spOfC K M.CO M.s.TT) := by
  have GO := c_ord M
  refine okImp (okOr (okUp (ok_stepsOf F M.s)) (okBad (sp := fun vs H Q E => ∃ v d, vs = [v] ∧ An K H v d ∧ Sz d ∧ (∀ w, rowW d = some w → ThrownI M.CO (ixV w) H E) ∧ (rowW d = none → ∀ gs, d = ordD gs → RowOk gs → ordB gs = false ∧ ThrownI M.CO .non H E)) F sc_steps_of (fun vs H Q E h => ?_) (fun cdv A outer s H vs Q E hr h tk => ?_))) ?_
  · obtain ⟨v, d, rfl, _⟩ := h
    rfl
  · obtain ⟨v, d, rfl, an, sz, e, t⟩ := h
    have hr5 : Room 5 _ := hr.mono (by decide)
    refine ⟨_, pss_cons (ps_expr (pe_callS GO hr5 (by rfl) M.s.d__check_order.g M.s.d__check_order.F.kp M.s.d__check_order.b (fun σ => L2N.passAt tk σ) (pa_cons (pv 0) pa_nil))) pss_never, ?_⟩
    exact ⟨_, rfl, v, d, rfl, an, sz, e, fun er gs eg R => ⟨fun _ => (t er gs eg R).2, fun z => nomatch (t er gs eg R).1.symm.trans z⟩⟩
  · rintro vs H Q E ⟨v, d, rfl, an, sz, T, e, k⟩
    cases er : rowW d with
    | some w => exact .inr ⟨v, d, rfl, an, sz, e, fun z => nomatch er.symm.trans z⟩
    | none =>
      obtain ⟨gs, rfl, R⟩ := row_of er
      cases eo : ordB gs with
      | false => exact .inr ⟨v, _, rfl, an, sz, e, fun _ gs' eg R' => (by
          obtain rfl := ordD_inj eg
          exact ⟨eo, (k er gs rfl R).1 eo⟩)⟩
      | true => exact .inl ⟨v, gs, rfl, an.dp (flat_ord gs), ord_of R eo, T, fun u H' x t _ => (k er gs rfl R).2 eo u H' x t⟩
theorem c_broken {f fB : Addr} {fd fdB : FuncData} (F : Fun K "broken_at" "broken_at" s_broken_at f fd) (M : Io P w K mg base) (Be : Df K mg "mark_behind" s_mark_behind ["mark", "many", "first", "last"] fB fdB) : FnOk P w K mg base (L2N.CX P w) 6 f fd ["row"] (spBrC K M.CO) := by
  have GO := c_ord M
  have B := M.s.Br
  have T := M.tO
  refine okImp (okOr (okUp (ok_broken F M.s Be)) (okBad (sp := fun vs H Q E => ∃ v d, vs = [v] ∧ An K H v d ∧ Sz d ∧ (∀ w, rowW d = some w → ThrownI M.CO (ixV w) H E) ∧
      (rowW d = none → ∀ gs, d = ordD gs → RowOk gs → (ordB gs = false → ThrownI M.CO .non H E) ∧ (ordB gs = true → ∃ j, manyAt 0 gs = some j ∧ ThrownI M.CO (.int (j : Nat)) H E))) F sc_broken_at (fun vs H Q E h => ?_) (fun cdv A outer s H vs Q E hr h tk => ?_))) ?_
  · obtain ⟨v, d, rfl, _⟩ := h
    rfl
  · obtain ⟨v, d, rfl, an, sz, e, t⟩ := h
    have hr2 : Room 2 _ := hr.mono (by decide)
    refine ⟨_, pss_cons (ps_expr (pe_callS GO hr (by rfl) M.s.d__check_order.g M.s.d__check_order.F.kp M.s.d__check_order.b (fun σ => L2N.passAt tk σ) (pa_cons (pv 0) pa_nil))) (pss_cons (ps_for PassesOwn.leaving rfl (pi_enumT (by rfl) B.en (pa_cons (pv 0) pa_nil)) (pg_tup (by rfl) (pgs_cons (pg_name (i := 1) sc_broken_at.nd rfl (.inl rfl)) (pgs_cons (pg_name (i := 2) sc_broken_at.nd rfl (.inl rfl)) pgs_nil))) (pss_one (ps_if (pt_cmpR op_gt (pe_callB (call_len_seq) (by rfl) B.c.len (by decide +kernel) (pa_cons (pv 2) pa_nil)) pe_int (nomark _)) (pss_one (L2N.ps_raise rfl tk (pmk_exoN (dvs := []) T.own T.ini T.ty T.run hr2 T.b .nil pass0 (by rfl) T.g (pa_cons (pv 1) pa_nil)))) pss_nil))) pss_never), ?_⟩
    refine ⟨_, rfl, v, d, rfl, an, sz, e, fun er gs eg R => ⟨fun z => (t er gs eg R).1 z, fun z H1 s1 => ?_⟩⟩
    subst eg
    obtain ⟨j0, ej, tj⟩ := (t er gs rfl R).2 z
    have hv := an.dp (flat_ord gs)
    obtain ⟨a, xs, rfl, ha, hx⟩ := row_inv hv
    have lx := dps_len hx
    rw [List.length_map] at lx
    refine nxI ⟨_, rfl, a, xs, rfl, sqT_same s1 ha, for_en (K := K) (a := a) (xs := xs) (fun i σ H' => ∃ p q, σ = [some (.ref a), p, q, none, none, none, none] ∧ manyAt 0 gs = manyAt i (gs.drop i) ∧ Same H H') ⟨none, none, rfl, rfl, s1⟩ (fun i σ H' ⟨_, _, _, _, e⟩ => sqT_same e ha) ?_ ?_⟩
    · rintro i x r σ H2 hi ⟨p, q, rfl, em, eH⟩ nr
      have sr := same_put (o := HO.tup [V.int (i : Nat), x]) nr
      have gr : upd H2 r (HO.tup [V.int (i : Nat), x]) r = some (.tup [V.int (i : Nat), x]) := upd_same
      generalize upd H2 r (HO.tup [V.int (i : Nat), x]) = H3 at *
      have S3 := eH.trans sr
      obtain ⟨d, hd, dx⟩ := dps_get (dps_same S3 _ _ hx) hi
      rw [List.getElem?_map] at hd
      obtain ⟨g, hg, rfl⟩ := Option.map_eq_some_iff.mp hd
      obtain ⟨ga, rfl, hga⟩ := grp_inv dx
      have dr : gs.drop i = g :: gs.drop (i + 1) := by
        have l := List.getElem?_eq_some_iff.mp hg
        rw [← l.2, List.getElem_cons_drop]
      rw [dr, manyAt] at em
      refine ⟨r, _, rfl, SqT.of gr, rfl, _, _, rfl, _, _, rfl, rfl, ?_⟩
      refine ⟨_, rfl, ga, _, rfl, .inr hga, _, _, rfl, rfl, _, rfl, ?_⟩
      rw [List.length_map]
      by_cases c : (g.length : Int) > 1
      · rw [decide_eq_true c]
        rw [if_pos (show g.length > 1 by omega), ej] at em
        cases em
        exact iteT (thr_of (i := 1) T.own (T.no "index" (by simp)) rfl (tj.same S3))
      · rw [decide_eq_false c]
        rw [if_neg (show ¬ g.length > 1 by omega)] at em
        exact iteF (nxI ⟨_, _, rfl, em, S3⟩)
    · rintro σ H2 ⟨p, q, rfl, em, eH⟩
      rw [List.drop_of_length_le (by omega), manyAt, ej] at em
      cases em
  · rintro vs H Q E ⟨v, d, rfl, an, sz, e, k⟩
    cases er : rowW d with
    | some w => exact .inr ⟨v, d, rfl, an, sz, e, fun z => nomatch er.symm.trans z⟩
    | none =>
      obtain ⟨gs, rfl, R⟩ := row_of er
      have kk := k er gs rfl R
      cases eo : ordB gs with
      | false => exact .inr ⟨v, _, rfl, an, sz, e, fun _ gs' eg R' => (by
          obtain rfl := ordD_inj eg
          exact ⟨kk.1, fun z => nomatch eo.symm.trans z⟩)⟩
      | true =>
        cases em : manyAt 0 gs with
        | some j => exact .inr ⟨v, _, rfl, an, sz, e, fun _ gs' eg R' => (by
            obtain rfl := ordD_inj eg
            exact ⟨kk.1, fun _ => ⟨j, em, (kk.2 eo).1 j em⟩⟩)⟩
        | none =>
          obtain ⟨l, rfl⟩ := many_none R.gne em
          have O := ord_of R eo
          have fl := flat_singles l
          refine .inl ⟨v, l, rfl, an.dp (flat_ord _), perm_of O, (by have := R.few; rw [fl] at this; exact this), fun H' s => (kk.2 eo).2 em _ _ s⟩
end
end My
set_option Elab.async false
set_option linter.all false
set_option maxRecDepth 100000
set_option maxHeartbeats 4000000
/-! xs[i] read for xs[i] op= e; range(i, j, c) upwards -/
namespace Gn
open PySem PySem.Spec PyProof.Rows L2
theorem get_list {X : Cx} : PGet X (rIxL X.K) := by
  intro pins s σ H o i ov iv Q I ro ri h
  obtain ⟨p, xs, k, z, rfl, rfl, hq, he, q⟩ := h
  cases ro
  obtain ⟨t, rfl⟩ := ri
  obtain ⟨its, r, pl, hz⟩ := I.list hq
  obtain ⟨j, h1, h2, h3, h4, h5⟩ := atI_get he
  obtain ⟨w, ew, rw'⟩ := r.get h2
  have hl := r.length
  have hn := line63
  have fin : EP X pins σ Q w s := ⟨z, H, I, rw', q⟩
  by_cases h0 : 0 ≤ k
  · have hj : k.toNat = j := by
      rw [seqIndex_of h0 h5] at h1
      exact Option.some.inj h1
    exact wpAny_getItem_list pl.isList h0 (by omega) (by rw [hj]; simpa using ew) fin
  · have hj : (k + (its.toArray.size : Int)).toNat = j := by
      rw [seqIndex_neg (by omega) h4] at h1
      rw [List.size_toArray, ← hl]
      exact Option.some.inj h1
    exact wpAny_getItem_list_neg pl.isList (by omega) (by rw [List.size_toArray] <;> omega) (by omega) (by rw [hj]; simpa using ew) fin
theorem RgC.up {a b c : Int} (c0 : 0 < c) (c1 : c < 1073741824) (ha : 0 ≤ a) (hb : b < 2 ^ 61) (ab : a < b) : RgC a b c ((b - a - 1) / c + 1).toNat := by
  have n0 : 0 ≤ (b - a - 1) / c := Int.ediv_nonneg (by omega) (by omega)
  have n1 : (b - a - 1) / c ≤ b - a - 1 := Int.ediv_le_self c (by omega)
  have e : Builtin.Range.rangeSize a b c = (b - a - 1) / c + 1 := by
    unfold Builtin.Range.rangeSize
    rw [if_pos c0, if_pos ab]
  refine ⟨by omega, by omega, ?_, by rw [e]; omega⟩
  unfold Builtin.Range.small
  rw [e, if_pos c0]
  simp only [Builtin.Range.rangeFitsLong, Bool.and_eq_true, Bool.or_eq_true, decide_eq_true_eq]
  refine ⟨⟨⟨⟨by omega, by omega⟩, by omega⟩, by omega⟩, .inr ⟨by omega, by omega⟩⟩
/-- its places stay below the end -/
theorem RgC.lt {a b c : Int} {i : Nat} (c0 : 0 < c) (ab : a < b) (hi : i < ((b - a - 1) / c + 1).toNat) : a + (i : Nat) * c < b := by
  have n0 : 0 ≤ (b - a - 1) / c := Int.ediv_nonneg (by omega) (by omega)
  have h : (i : Int) ≤ (b - a - 1) / c := by omega
  have h2 := Int.mul_le_mul_of_nonneg_right h (Int.le_of_lt c0)
  have h3 := Int.ediv_mul_le (b - a - 1) (show c ≠ 0 by omega)
  omega
end Gn
set_option Elab.async false
set_option linter.all false
set_option maxRecDepth 100000
set_option maxHeartbeats 8000000
set_option exponentiation.threshold 4000
namespace My
open PySem PySem.Spec PyProof.Rows L2 Gn Mt
abbrev s_how_many_orders : Stmt := top 63
abbrev s__how_many_tops : Stmt := top 71
abbrev s_all_orders : Stmt := top 64
/-! numbers of orders: refused, or told -/
theorem sc_how_many_orders : FnScope ["count"] ["count"] (defScope s_how_many_orders) := ⟨rfl, rfl, rfl, by decide +kernel, rfl, by decide +kernel, by decide +kernel⟩
theorem sc__how_many_tops : FnScope ["most", "many", "prime", "bottom"] ["most"] (defScope s__how_many_tops) := ⟨rfl, rfl, rfl, by decide +kernel, rfl, by decide +kernel, by decide +kernel⟩
theorem sc_all_orders : FnScope ["count", "points", "rows", "low", "high", "step", "row"] ["count"] (defScope s_all_orders) := ⟨rfl, rfl, rfl, by decide +kernel, rfl, by decide +kernel, by decide +kernel⟩
theorem lt65 {k : Nat} {A : Around} (h : Room k A) : A.units + 65 < cLine := by have := h.un; omega
def spTops : Sp := fun vs H Q _ => ∃ m : Int, vs = [.int m] ∧ 1 ≤ m ∧ m ≤ 2000 ∧ ∀ (r : Addr) (ns : List Int) H', Same H H' → H' r = some (.lst (ns.map V.int)) → ns.length = (m + 1).toNat → Q (.ref r) H'
/-- 1 let in, and so many at most -/
def spHmo : Sp := fun vs H Q _ => ∃ n : Int, vs = [.int n] ∧ 1 ≤ n ∧ n ≤ 2000 ∧ Told H Q
def spAll1 : Sp := fun vs H Q _ => vs = [.int 1] ∧ Told H Q
def spNum (K : PySem.W.Frag) (C : Addr) (most : Int) (ok : Int → Prop) : Sp := fun vs H Q E => ∃ v d, vs = [v] ∧ An K H v d ∧ (isNum d 1 most = false → Thrown C v H E) ∧ (isNum d 1 most = true → (∀ n, d = .int n → ok n) ∧ Told H Q)
/-- what they want -/
structure No (P : Program) (w : World) (K : PySem.W.Frag) (mg : Str → Option Value) (base : Heap) where
  o : Io P w K mg base
  bo : Bo mg
  range : mg "range" = none
  list : mg "list" = none
  sum : mg "sum" = none
  zip : mg "zip" = none
  mc : ∃ tk, mg "MOST_COUNTED" = some (.int 2000 tk)
  ml : ∃ tk, mg "MOST_LISTED" = some (.int 12 tk)
  ft : Addr × FuncData
  dt : Df K mg "_how_many_tops" s__how_many_tops ["most"] ft.1 ft.2
  fr : Addr × FuncData
  dr : Df K mg "is_fraction" sIsFr ["given"] fr.1 fr.2
  fs : Addr × FuncData
  ds : Df K mg "is_step" sIsStep ["given"] fs.1 fs.2
  fc : Addr × FuncData
  dc : Df K mg "check_step" sChStep ["given"] fc.1 fc.2
  fn : Addr × FuncData
  dn : Df K mg "check_number" sChNum ["given", "least", "most"] fn.1 fn.2
  fo : Addr × FuncData
  dod : Df K mg "order" sOrder ["step", "count"] fo.1 fo.2
  CN : Addr
  eN : Addr × FuncData
  tN : OwE P w K mg base "InvalidNumber" ["given"] CN eN.1 eN.2
theorem num_of {n a b : Int} (h1 : a ≤ n) (h2 : n ≤ b) : isNum (.int n) a b = true := decide_eq_true ⟨h1, h2⟩
theorem num_at {K : PySem.W.Frag} {H : Hp} {v : V} {d : PyData} {a b : Int} (h : An K H v d) (e : isNum d a b = true) : ∃ i, v = .int i ∧ d = .int i ∧ a ≤ i ∧ i ≤ b := by
  cases h with
  | int i =>
    have z : decide (a ≤ i ∧ i ≤ b) = true := e
    exact ⟨i, rfl, rfl, (of_decide_eq_true z).1, (of_decide_eq_true z).2⟩
  | _ => cases e
section
variable {P : Program} {w : World} {K : PySem.W.Frag} {mg : Str → Option Value} {base : Heap}
theorem ok_tops {f : Addr} {fd : FuncData} (F : Fun K "_how_many_tops" "_how_many_tops" s__how_many_tops f fd) (M : No P w K mg base) : FnOk P w K mg base CX0 1 f fd ["most"] spTops := by
  refine F.ok sc__how_many_tops (fun vs H Q E h => ?_) (fun cdv A outer s H vs Q E hr h => ?_)
  · obtain ⟨m, rfl, _⟩ := h
    rfl
  · obtain ⟨m, rfl, m1, m2, k⟩ := h
    refine ⟨_, pss_cons (ps_set (i := 1) sc__how_many_tops.nd rfl (.inl rfl) (pe_listRg rfl (by rfl) M.list (prg_1 (by rfl) M.range (pe_op op_add (pv 0) pe_int)))) (pss_cons (ps_for PassesOwn.never rfl (pi_range2 (by rfl) M.range (pa_cons pe_int (pa_cons (pe_op op_add (pv 0) pe_int) pa_nil))) (pg_name (i := 2) sc__how_many_tops.nd rfl (.inl rfl)) (pss_one (ps_if (pt_cmpR op_eq (pe_ix ix_list (pv 1) (pv 2) (fun _ _ => rfl)) (pv 2) (nomark _)) (pss_one (ps_for PassesOwn.never rfl (pi_range3 (by rfl) M.range (pa_cons (pv 2) (pa_cons (pe_op op_add (pv 0) pe_int) (pa_cons (pv 2) pa_nil)))) (pg_name (i := 3) sc__how_many_tops.nd rfl (.inl rfl)) (pss_one (ps_augS (pv 1) (pv 3) get_list (pe_op op_fdiv (pe_ix ix_list (pv 1) (pv 3) (fun _ _ => rfl)) (pv 2)) ip_sub set_list)))) pss_nil))) (pss_one (ps_ret (pv 1)))), ?_⟩
    refine ⟨_, rfl, _, _, rfl, rfl, _, rfl, RgOk.of_le (by decide) (by omega) (by decide) (by omega), fun D nD => ?_⟩
    have s0 := same_put (o := HO.lst (rgV 0 (m + 1))) nD
    obtain ⟨ns0, e0, l0, b0⟩ : ∃ ns : List Int, rgV 0 (m + 1) = ns.map V.int ∧ ns.length = (m + 1).toNat ∧ ∀ x ∈ ns, 0 ≤ x ∧ x ≤ 2000 := by
      refine ⟨(List.range ((m + 1) - 0).toNat).map fun (i : Nat) => (0 + (i : Int)), ?_, ?_, fun x hx => ?_⟩
      · unfold rgV; rw [List.map_map]; rfl
      · rw [List.length_map, List.length_range]; omega
      · obtain ⟨i, hi, rfl⟩ := List.mem_map.mp hx
        have := List.mem_range.mp hi
        omega
    rw [e0] at s0 ⊢
    have gD : upd H D (HO.lst (ns0.map V.int)) D = some (.lst (ns0.map V.int)) := upd_same
    generalize upd H D (HO.lst (ns0.map V.int)) = H0 at *
    have keep : ∀ {H' : Hp} (_ : ∀ b o, b ≠ D → H0 b = some o → H' b = some o), Same H H' := fun kp b o e => kp _ _ (ne_of_none e nD) (s0 _ _ e)
    refine nxI ⟨_, rfl, _, _, rfl, rfl, 2, _, rfl, ⟨by decide, by decide, by omega, by omega⟩, for_range (lo := 2) (n := (m + 1 - 2).toNat) (fun i σ H' => ∃ p q ns, σ = [some (.int m), some (.ref D), p, q] ∧ H' D = some (.lst (ns.map V.int)) ∧ ns.length = (m + 1).toNat ∧ (∀ x ∈ ns, 0 ≤ x ∧ x ≤ 2000) ∧ ∀ b o, b ≠ D → H0 b = some o → H' b = some o)
      ⟨none, none, ns0, rfl, gD, l0, b0, fun b o _ e => e⟩ ?_ ?_⟩
    · rintro i σ H1 hi ⟨p, q, ns, rfl, hD, ln, bn, kp⟩
      have lt : 2 + i < ns.length := by omega
      have at0 : atI (ns.map V.int) (2 + (i : Int)) = some (.int ns[2 + i]) := at_of (j := 2 + i) (by omega) (by rw [List.getElem?_map, List.getElem?_eq_getElem lt]; rfl)
      refine ⟨_, rfl, _, rfl, D, _, _, _, rfl, rfl, SqL.of hD, at0, _, rfl, rfl, ?_⟩
      refine ⟨_, rfl, ite2 (fun hc => ?_) (fun hc => nxI ⟨_, _, ns, rfl, hD, ln, bn, kp⟩)⟩
      refine ⟨_, rfl, _, rfl, _, _, rfl, rfl, _, rfl, 2 + (i : Int), m + 1, 2 + (i : Int), _, rfl, RgC.up (by omega) (by omega) (by omega) (by omega) (by omega), ?_⟩
      refine for_rangeC (fun j σ H' => ∃ q ns, σ = [some (.int m), some (.ref D), some (.int (2 + (i : Int))), q] ∧ H' D = some (.lst (ns.map V.int)) ∧ ns.length = (m + 1).toNat ∧ (∀ x ∈ ns, 0 ≤ x ∧ x ≤ 2000) ∧ ∀ b o, b ≠ D → H0 b = some o → H' b = some o)
        ⟨q, ns, rfl, hD, ln, bn, kp⟩ ?_ ?_
      · rintro j σ H2 hj ⟨q2, ns2, rfl, hD2, ln2, bn2, kp2⟩
        have lt2 := RgC.lt (show (0 : Int) < 2 + (i : Int) by omega) (by omega) hj
        have ge2 : (0 : Int) ≤ 2 + (i : Int) + (j : Nat) * (2 + (i : Int)) := by
          have := Int.mul_nonneg (Int.natCast_nonneg j) (show (0 : Int) ≤ 2 + (i : Int) by omega)
          omega
        generalize 2 + (i : Int) + (j : Nat) * (2 + (i : Int)) = z at lt2 ge2 ⊢
        obtain ⟨u, rfl⟩ := Int.eq_ofNat_of_zero_le ge2
        have ul : u < ns2.length := by omega
        have xb := bn2 ns2[u] (List.getElem_mem ul)
        have at1 : atI (ns2.map V.int) (u : Int) = some (.int ns2[u]) := at_of (j := u) rfl (by rw [List.getElem?_map, List.getElem?_eq_getElem ul]; rfl)
        have ixu : ixN (ns2.map V.int).length (u : Int) = some u := by
          rw [List.length_map]
          unfold ixN
          rw [if_pos (by omega)]
          simp
          omega
        have d0 : 0 ≤ ns2[u] / (2 + (i : Int)) := Int.ediv_nonneg xb.1 (by omega)
        have d1 : ns2[u] / (2 + (i : Int)) ≤ ns2[u] := Int.ediv_le_self _ xb.1
        refine ⟨_, rfl, _, rfl, D, _, _, _, rfl, rfl, SqL.of hD2, at1, ?_⟩
        refine ⟨_, rfl, _, rfl, D, _, _, _, rfl, rfl, SqL.of hD2, at1, _, rfl, _, _, rfl, rfl, ⟨by omega, by omega⟩, ?_⟩
        refine ⟨_, _, rfl, rfl, D, _, _, u, rfl, rfl, hD2, ixu, _, ns2.set u (ns2[u] - ns2[u] / (2 + (i : Int))), rfl, ?_, ?_, fun x hx => ?_, fun b o hb e => ?_⟩
        · rw [upd_same, List.map_set]
        · rw [List.length_set]; exact ln2
        · rcases List.mem_or_eq_of_mem_set hx with hx | rfl
          · exact bn2 x hx
          · omega
        · rw [upd_ne hb]; exact kp2 _ _ hb e
      · rintro σ H2 ⟨q2, ns2, rfl, hD2, ln2, bn2, kp2⟩
        exact nxI ⟨_, _, ns2, rfl, hD2, ln2, bn2, kp2⟩
    · rintro σ H1 ⟨p, q, ns, rfl, hD, ln, bn, kp⟩
      exact nxI ⟨_, rfl, k D ns H1 (keep kp) hD ln⟩
theorem ok_hmo {f : Addr} {fd : FuncData} (F : Fun K "how_many_orders" "how_many_orders" s_how_many_orders f fd) (M : No P w K mg base) : FnOk P w K mg base CX0 4 f fd ["count"] spHmo := by
  have GN : FnOk P w K mg base CX0 3 M.fn.1 M.fn.2 ["given", "least", "most"] spChNum := ok_chNum M.dn.F M.bo.c M.o.s.M.d_int M.o.s.d_num
  have GT : FnOk P w K mg base CX0 1 M.ft.1 M.ft.2 ["most"] spTops := ok_tops M.dt.F M
  refine F.ok sc_how_many_orders (fun vs H Q E h => ?_) (fun cdv A outer s H vs Q E hr h => ?_)
  · obtain ⟨n, rfl, _⟩ := h
    rfl
  · obtain ⟨n, rfl, n1, n2, k⟩ := h
    obtain ⟨tk, hm⟩ := M.mc
    have hr1 : Room 1 _ := hr.mono (by decide)
    refine ⟨_, pss_cons (ps_expr (pe_call GN hr (by rfl) M.dn.g M.dn.F.kp M.dn.b .nil pass0 (pa_cons (pv 0) (pa_cons pe_int (pa_cons (pe_glob (v := .int 2000) rfl hm ⟨_, rfl⟩) pa_nil))))) (pss_cons (ps_if (pt_cmpR op_eq (pv 0) pe_int (nomark _)) (pss_one (ps_ret pe_int)) pss_nil) (pss_one (ps_ret (pe_op op_mul pe_int (pe_callB (cr_sum rfl) (by rfl) M.sum (by decide +kernel) (pa_cons (pe_slice sl_list (pe_call GT hr1 (by rfl) M.dt.g M.dt.F.kp M.dt.b .nil pass0 (pa_cons (pe_op op_sub (pv 0) pe_int) pa_nil)) (po_some pe_int) po_none) pa_nil)))))), ?_⟩
    refine ⟨_, rfl, n, 1, 2000, rfl, n1, n2, ?_⟩
    refine ⟨_, rfl, rfl, _, rfl, ?_⟩
    refine ite2 (fun _ => k _ _ (Same.refl _)) (fun hc => ?_)
    have ne : n ≠ 1 := fun z => hc (decide_eq_true (congrArg V.int z))
    refine nxI ⟨_, rfl, _, _, rfl, rfl, n - 1, rfl, by omega, by omega, fun r ns H1 s1 hr ln => ?_⟩
    refine ⟨1, rfl, r, _, rfl, SqL.of hr, fun p np => ?_⟩
    rw [cut_from1, ← List.map_drop]
    have s2 := same_put (o := HO.lst ((ns.drop 1).map V.int)) np
    refine ⟨p, _, rfl, SqL.of upd_same, _, _, rfl, rfl, ?_, k _ _ (s1.trans s2)⟩
    exact .inl ⟨by decide, by decide⟩
theorem ok_all1 {f : Addr} {fd : FuncData} (F : Fun K "all_orders" "all_orders" s_all_orders f fd) (M : No P w K mg base) : FnOk P w K mg base CX0 6 f fd ["count"] spAll1 := by
  have GN : FnOk P w K mg base CX0 3 M.fn.1 M.fn.2 ["given", "least", "most"] spChNum := ok_chNum M.dn.F M.bo.c M.o.s.M.d_int M.o.s.d_num
  have GW : FnOk P w K mg base CX0 3 M.o.s.f_whole_points.1 M.o.s.f_whole_points.2 ["numbers"] (spWhole K) := ok_whole M.o.s.d_whole_points.F M.o.s.B.c M.o.s.Bq M.o.s.M.d_low M.o.s.d__points
  have GM : FnOk P w K mg base CX0 2 M.o.s.M.f_mediant.1 M.o.s.M.f_mediant.2 ["low", "high"] (spMed K) := ok_med M.o.s.M.d_mediant.F M.o.s.B.c M.o.s.M.d_low
  have GO : FnOk P w K mg base CX0 5 M.fo.1 M.fo.2 ["step", "count"] (spOrder K) := ok_order M.dod.F M.bo M.o.s.M.d_int M.dr M.ds M.dc M.dn M.o.s.d_num
  refine F.ok sc_all_orders (fun vs H Q E h => ?_) (fun cdv A outer s H vs Q E hr h => ?_)
  · obtain ⟨rfl, _⟩ := h
    rfl
  · obtain ⟨rfl, k⟩ := h
    obtain ⟨tk, hm⟩ := M.ml
    have hu := hu_of hr
    have hr2 : Room 2 _ := hr.mono (by decide)
    have hr3 : Room 3 _ := hr.mono (by decide)
    refine ⟨_, pss_cons (ps_expr (pe_call GN hr3 (by rfl) M.dn.g M.dn.F.kp M.dn.b .nil pass0 (pa_cons (pv 0) (pa_cons pe_int (pa_cons (pe_glob (v := .int 12) rfl hm ⟨_, rfl⟩) pa_nil))))) (pss_cons (ps_set (i := 1) sc_all_orders.nd rfl (.inl rfl) (pe_call GW hr3 (by rfl) M.o.s.d_whole_points.g M.o.s.d_whole_points.F.kp M.o.s.d_whole_points.b .nil pass0 (pa_cons (pe_listRg rfl (by rfl) M.list (prg_2 (by rfl) M.range pe_int (pv 0))) pa_nil))) (pss_cons (ps_set (i := 2) sc_all_orders.nd rfl (.inl rfl) (pe_lst pa_nil)) (pss_cons (ps_for PassesOwn.never rfl (pi_zip (by rfl) M.zip (pa_cons (pv 1) (pa_cons (pe_slice sl_list (pv 1) (po_some pe_int) po_none) pa_nil))) (pg_tup (by rfl) (pgs_cons (pg_name (i := 3) sc_all_orders.nd rfl (.inl rfl)) (pgs_cons (pg_name (i := 4) sc_all_orders.nd rfl (.inl rfl)) pgs_nil))) (pss_one (ps_for PassesOwn.never rfl (pi_tup (pe_tup (pa_cons (pv 3) (pa_cons (pe_call GM hr2 (by rfl) M.o.s.M.d_mediant.g M.o.s.M.d_mediant.F.kp M.o.s.M.d_mediant.b .nil pass0 (pa_cons (pv 3) (pa_cons (pv 4) pa_nil))) pa_nil)))) (pg_name (i := 5) sc_all_orders.nd rfl (.inl rfl)) (pss_cons (ps_set (i := 6) sc_all_orders.nd rfl (.inl rfl) (pe_call GO hr (by rfl) M.dod.g M.dod.F.kp M.dod.b .nil pass0 (pa_cons (pv 5) (pa_cons (pv 0) pa_nil)))) (pss_one (ps_if (pt_cmpR (op_notInD (lt65 hr)) (pv 6) (pv 2) (by rfl)) (pss_one (ps_expr (pe_bm PySem.F.plainAttrs_list PySem.F.slot_list_append PySem.F.type_list_append mt_append (pv 2) (pa_cons (pv 6) pa_nil)))) pss_nil)))))) (pss_one (ps_ret (pe_callTy cr_tupL (by rfl) M.bo.c.tuple (by decide +kernel) (pa_cons (pv 2) pa_nil))))))), ?_⟩
    refine ⟨_, rfl, 1, 1, 12, rfl, by decide, by decide, ?_⟩
    refine nxI ⟨_, rfl, _, _, rfl, rfl, RgOk.of_le (by decide) (by decide) (by decide) (by decide), fun q0 nq => ?_⟩
    have t0 := same_put (o := HO.lst (rgV 1 1)) nq
    have g0 : upd H q0 (HO.lst (rgV 1 1)) q0 = some (.lst []) := upd_same
    generalize upd H q0 (HO.lst (rgV 1 1)) = Hq at *
    refine ⟨q0, [], 1, rfl, SqL.of g0, by decide, by decide, by decide, (fun k hk => by cases hk), fun pv H1 s1 hv => ?_⟩
    have ew : wpts (lcmA []) [] = [(0, 1), (1, 1)] := by decide +kernel
    rw [ew] at hv
    obtain ⟨l, xs, rfl, hq, hx⟩ := lst_inv hv
    obtain ⟨a, b, rfl, da, db⟩ : ∃ a b, xs = [a, b] ∧ Dp K H1 a (frD (0, 1)) ∧ Dp K H1 b (frD (1, 1)) := by
      cases hx with
      | cons da r => cases r with
        | cons db r => cases r with
          | nil => exact ⟨_, _, rfl, da, db⟩
    refine ⟨Nat.zero_le _, fun D nD => ?_⟩
    have s2 := same_put (o := HO.lst []) nD
    have gD : upd H1 D (HO.lst []) D = some (.lst []) := upd_same
    generalize upd H1 D (HO.lst []) = H2 at *
    refine nxI ⟨_, rfl, _, rfl, 1, rfl, l, _, rfl, s2.seq hq, fun p1 np => ?_⟩
    rw [cut_from1]
    have s3 := same_put (o := HO.lst ([a, b].drop 1)) np
    have gp : upd H2 p1 (HO.lst ([a, b].drop 1)) p1 = some (.lst [b]) := upd_same
    generalize upd H2 p1 (HO.lst ([a, b].drop 1)) = H3 at *
    have gD3 := s3 _ _ gD
    have npD : p1 ≠ D := fun z => by rw [z, gD] at np; cases np
    have S13 := s2.trans s3
    have keepL : ∀ H' : Hp, (∀ b o, b ≠ D → H3 b = some o → H' b = some o) → SqL K H' l [a, b] := fun H' kp => by
      rcases hq with (h | ⟨o, h⟩) | h
      · exact .inl (.inl (kp _ _ (ne_of_none h nD) (S13 _ _ h)))
      · exact .inl (.inr ⟨o, kp _ _ (ne_of_none h nD) (S13 _ _ h)⟩)
      · exact .inr h
    have S1 : ∀ {H' : Hp}, (∀ b o, b ≠ D → H3 b = some o → H' b = some o) → Same H1 H' := fun kp b o e => kp _ _ (ne_of_none e nD) (S13 _ _ e)
    have rep : ∀ n : Nat, n ≤ 2 → SeqAt.shaped (.list (List.replicate n (ordD [[0]]))) = true := fun n h => by
      match n, h with
      | 0, _ => decide +kernel
      | 1, _ => decide +kernel
      | 2, _ => decide +kernel
    refine ⟨l, p1, [a, b], [b], rfl, keepL _ (fun _ _ _ e => e), SqL.of gp, for_it (walk_zip (K := K) (a := l) (b := p1) (xs := [a, b]) (ys := [b]) (n := 1) rfl)
      (fun i σ H' => ∃ (u1 u2 u3 u4 : Option V) (ys : List V), σ = [some (.int 1), some (.ref l), some (.ref D), u1, u2, u3, u4] ∧ H' D = some (.lst ys) ∧ ys.length ≤ 2 * i ∧ DpAll K H' ys (List.replicate ys.length (ordD [[0]])) ∧ ∀ b o, b ≠ D → H3 b = some o → H' b = some o)
      ⟨none, none, none, none, [], rfl, gD3, Nat.le_refl _, .nil, fun b o _ e => e⟩ (fun i σ H' _ ⟨_, _, _, _, _, _, _, _, _, kp⟩ => ⟨keepL H' kp, SqL.of (kp _ _ npD gp)⟩) ?_ ?_⟩
    · rintro i x σ H4 H5 hi ⟨u1, u2, u3, u4, ys, rfl, hD, ly, hys, kp⟩ ⟨r, a', b', rfl, nr, rfl, ha, hb⟩
      have i0 : i = 0 := by omega
      subst i0
      cases (show some a = some a' from ha)
      cases (show some b = some b' from hb)
      have sr := same_put (o := HO.tup [a, b]) nr
      have gr : upd H4 r (HO.tup [a, b]) r = some (.tup [a, b]) := upd_same
      have hDr := sr _ _ hD
      have hys5 := dps_same sr _ _ hys
      generalize upd H4 r (HO.tup [a, b]) = H5 at *
      have da5 := dp_same ((S1 kp).trans sr) _ _ da
      have db5 := dp_same ((S1 kp).trans sr) _ _ db
      refine ⟨r, _, rfl, SqT.of gr, rfl, _, _, rfl, _, _, rfl, rfl, ?_⟩
      refine ⟨_, rfl, _, rfl, _, rfl, a, b, (0, 1), (1, 1), rfl, da5, db5, by decide, by decide, by decide, fun m H6 s6 dm => ?_⟩
      refine ⟨(by show 2 ≤ sizeLine; decide), fun t nt => ?_⟩
      have s7 := same_put (o := HO.tup [a, V.ref m]) nt
      have gt : upd H6 t (HO.tup [a, V.ref m]) t = some (.tup [a, V.ref m]) := upd_same
      generalize upd H6 t (HO.tup [a, V.ref m]) = H7 at *
      have S57 := s6.trans s7
      have da7 := dp_same S57 _ _ da5
      have dm7 := dp_same s7 _ _ dm
      have hD7 := S57 _ _ hDr
      have hys7 := dps_same S57 _ _ hys5
      have ntD : t ≠ D := fun z => by rw [z] at nt; rw [s6 _ _ hDr] at nt; cases nt
      refine ⟨t, rfl, ⟨_, SqT.of gt⟩, for_tup (K := K) (a := t) (xs := [a, V.ref m]) (fun j σ H' => ∃ (u3 u4 : Option V) (ys : List V), σ = [some (.int 1), some (.ref l), some (.ref D), some a, some b, u3, u4] ∧ H' D = some (.lst ys) ∧ ys.length ≤ j ∧ DpAll K H' ys (List.replicate ys.length (ordD [[0]])) ∧ ButL H7 H' ∧ ∀ b o, b ≠ D → H7 b = some o → H' b = some o)
        ⟨u3, u4, ys, rfl, hD7, by omega, hys7, (fun b o _ e => e), fun b o _ e => e⟩ (fun j σ H' _ ⟨_, _, _, _, _, _, _, _, kq⟩ => SqT.of (kq _ _ ntD gt)) ?_ ?_⟩
      · rintro j z σ H8 hj ⟨w3, w4, zs, rfl, hD8, lz, hzs, bl, kq⟩
        have em : med (0, 1) (1, 1) = (1, 2) := by decide +kernel
        rw [em] at dm7
        obtain ⟨tz, x, y, rfl, dz, pz⟩ : ∃ tz x y, z = .ref tz ∧ Dp K H7 z (frD (x, y)) ∧ ((x, y) = (0, 1) ∨ (x, y) = (1, 2)) := by
          match j, hj with
          | 0, hj =>
            cases hj
            obtain ⟨ta, rfl, _⟩ := fr_inv da7
            exact ⟨ta, 0, 1, rfl, da7, .inl rfl⟩
          | 1, hj =>
            cases hj
            exact ⟨m, 1, 2, rfl, dm7, .inr rfl⟩
        have jl : j < 2 := (List.getElem?_eq_some_iff.mp hj).1
        have dz8 := dp_butL bl _ _ rfl dz
        obtain ⟨tz', e', hz⟩ := fr_inv dz8
        cases e'
        have st : IsStep x y := by rcases pz with e | e <;> cases e <;> exact ⟨by decide, by decide, by decide⟩
        have eo : ord (fun k => (x * k).fmod y) (iota 1) = [[0]] := by rcases pz with e | e <;> cases e <;> decide +kernel
        refine ⟨_, rfl, _, rfl, tz, x, y, 1, rfl, ⟨hz, st⟩, by decide, by decide, fun r9 H9 s9 n9 o9 => ?_⟩
        have o9 : OrdAt H9 r9 [[0]] := by
          have q := o9
          rw [show (1 : Int).toNat = 1 from rfl, eo] at q
          exact q
        have hD9 := s9 _ _ hD8
        have hz9 := dps_same s9 _ _ hzs
        refine nxI ⟨_, rfl, _, rfl, ordD [[0]], List.replicate zs.length (ordD [[0]]), o9.dp, .lst (SqL.of hD9) hz9, by decide +kernel, rep _ (by omega), _, rfl, ite2 (fun hc => ?_) (fun hc => ?_)⟩
        · refine ⟨_, rfl, .inl ⟨rfl, _, SqL.of hD9⟩, _, rfl, D, _, _, rfl, rfl, hD9, small1000 (by omega), ?_⟩
          refine nxI ⟨_, _, zs ++ [.ref r9], rfl, upd_same, by rw [List.length_append]; exact Nat.succ_le_succ lz, ?_, fun b o n e => butL_upd hD9 b o n (s9 _ _ (bl b o n e)), fun b o hb e => by rw [upd_ne hb]; exact s9 _ _ (kq _ _ hb e)⟩
          rw [List.length_append]
          show DpAll _ _ _ (List.replicate (zs.length + 1) _)
          rw [List.replicate_succ']
          exact dps_snoc (dps_upd hD9 (noLs_iff.mpr fun d m => by rw [(List.mem_replicate.mp m).2]; rfl) hz9) (dp_upd hD9 rfl o9.dp)
        · exact nxI ⟨_, _, zs, rfl, hD9, by omega, hz9, fun b o n e => s9 _ _ (bl b o n e), fun b o hb e => s9 _ _ (kq _ _ hb e)⟩
      · rintro σ H8 ⟨w3, w4, zs, rfl, hD8, lz, hzs, bl, kq⟩
        refine nxI ⟨_, _, _, _, zs, rfl, hD8, lz, hzs, fun c o hc e => ?_⟩
        exact kq _ _ hc (S57 _ _ (sr _ _ (kp _ _ hc e)))
    · rintro σ H4 ⟨u1, u2, u3, u4, ys, rfl, hD, ly, hys, kp⟩
      refine nxI ⟨_, rfl, D, _, rfl, SqL.of hD, fun r nr => ?_⟩
      exact k _ _ ((t0.trans s1).trans ((S1 kp).trans (same_put nr)))
end
end My
set_option Elab.async false
set_option linter.all false
set_option maxRecDepth 100000
set_option maxHeartbeats 4000000
/-! t[::-1], t a tuple; set(a tuple of ints) -/
namespace Gn
open PySem PySem.Spec PyProof.Rows L2
theorem turn_adjust (n : Nat) : Builtin.Slice.slicePlaces (Builtin.Slice.sliceAdjust none none (-1) (n : Int)).1 (Builtin.Slice.sliceAdjust none none (-1) (n : Int)).2 (-1) = n ∧ (Builtin.Slice.sliceAdjust none none (-1) (n : Int)).1 = (n : Int) - 1 := by
  have a : (Builtin.Slice.sliceAdjust none none (-1) (n : Int)) = ((n : Int) - 1, -1) := by
    simp only [Builtin.Slice.sliceAdjust, show ((-1 : Int) < 0) = True by decide, if_true]
  rw [a]
  refine ⟨?_, rfl⟩
  unfold Builtin.Slice.slicePlaces
  simp only [show ((-1 : Int) > 0) = False by decide, if_false, show (-(-1) : Int) = 1 by decide, Int.ediv_one]
  split <;> omega
theorem turn_pick (xs : Array Value) : ((List.range xs.size).filterMap fun (m : Nat) => xs[(((xs.size : Nat) : Int) - 1 + (m : Int) * (-1)).toNat]?).toArray = xs.toList.reverse.toArray := by
  congr 1
  have g : ∀ k, k ≤ xs.size → ((List.range k).filterMap fun (m : Nat) => xs[(((xs.size : Nat) : Int) - 1 + (m : Int) * (-1)).toNat]?) = xs.toList.reverse.take k := by
    intro k
    induction k with
    | zero => intro _; rfl
    | succ k ih =>
      intro hk
      have i1 : (((xs.size : Nat) : Int) - 1 + (k : Int) * (-1)).toNat = xs.size - 1 - k := by omega
      have i2 : xs.size - 1 - k < xs.size := by omega
      have hl : k < xs.toList.reverse.length := by rw [List.length_reverse, Array.length_toList]; omega
      rw [List.range_succ, List.filterMap_append, ih (by omega), List.take_add_one, List.getElem?_eq_getElem hl]
      congr 1
      simp only [List.filterMap_cons, List.filterMap_nil, i1, Array.getElem?_eq_getElem i2, Option.toList]
      congr 1
      rw [List.getElem_reverse]
      simp only [Array.length_toList, Array.getElem_toList]
  rw [g _ (Nat.le_refl _)]
  refine List.take_of_length_le ?_
  rw [List.length_reverse, Array.length_toList]
  exact Nat.le_refl _
section
variable {prog : Program} {w : World} {A : Around} {E : Value → Shared → Prop} {s : Shared}
theorem turn_item {t sl : Addr} {its : Array Value} {vl vu vs : Value} {Q : Value → Shared → Prop} (ht : IsTup s.heap t its) (hs : s.heap.IsSliceOf sl vl vu vs) (pl : IsPart vl none) (pu : IsPart vu none) (ps : IsPart vs (some (-1)))
    (h : Q (.ref s.heap.objs.size) { s with heap := s.heap.push { cls := .type "tuple", data := .seq its.toList.reverse.toArray } }) (hz : its.size ≤ sizeLine) : wpAny (model prog w) A (getItem (.ref t) (.ref sl)) Q E s := by
  have hfit : sizeOk (.seq its.toList.reverse.toArray) := by
    show its.toList.reverse.toArray.size ≤ sizeLine
    rw [List.size_toArray, List.length_reverse, Array.length_toList]; exact hz
  obtain ⟨os, hos, hcs, hds⟩ := id hs
  unfold getItem
  try with_reducible refine wpAny_holding ?_
  first | refine wpAny_bind (wpAny_pure ?_) | skip
  refine wpAny_bind (wpAny_sequenceKey ht.typeIs (by decide) (wpAny_bind (wpAny_callSpecial?_slot (name := Str.ofString "__getitem__") ht.typeIs PyProof.Rows.slot_tuple_getitem (wpAny_call_entry PyProof.Rows.slot_tuple_getitem ht.typeIs PyProof.Rows.entry_tuple_getitem ?_ (PyProof.Rows.args_tuple_getitem _ _)))))
  show wpAny _ _ (Builtin.Tuple.tupleItemsOf (.ref t) >>= _) _ _ s
  refine wpAny_bind (PyProof.Rows.tupleItemsOf_ ht (wpAny_bind (wpAny_typeOf (show s.TypeIs (.ref sl) "slice" from ⟨os, hos, hcs⟩) ?_)))
  rw [if_pos (by decide)]
  refine wpAny_bind ?_
  unfold Builtin.Slice.sliceApplied Builtin.Slice.sliceFields
  refine wpAny_bind (wpAny_bind (wpAny_field hos hds (x := vl) rfl (wpAny_bind (wpAny_field hos hds (x := vu) rfl (wpAny_bind (wpAny_field hos hds (x := vs) rfl (wpAny_pure (wpAny_bind (HT.slicePart_ ps ?_)))))))))
  show wpAny _ _ (if ((-1 : Int) == 0) = true then _ else _) _ _ s
  rw [if_neg (by decide)]
  refine wpAny_bind (HT.slicePart_ pl (wpAny_bind (HT.slicePart_ pu (wpAny_bind (wpAny_pure ?_)))))
  have e1 := (turn_adjust its.size).1
  have e2 := (turn_adjust its.size).2
  show wpAny _ _ (pure ((Builtin.Slice.sliceAdjust none none (-1) (its.size : Int)).1, (-1 : Int), Builtin.Slice.slicePlaces (Builtin.Slice.sliceAdjust none none (-1) (its.size : Int)).1 (Builtin.Slice.sliceAdjust none none (-1) (its.size : Int)).2 (-1))) _ _ s
  rw [e1, e2]
  refine wpAny_pure ?_
  have no : ¬ ((((its.size : Nat) : Int) - 1 == 0 && (-1 : Int) == 1 && its.size == its.size) = true) := by
    rw [show ((-1 : Int) == 1) = false by decide]; simp
  show wpAny _ _ (if ((((its.size : Nat) : Int) - 1 == 0 && (-1 : Int) == 1 && its.size == its.size) = true) then _ else _) _ _ s
  rw [if_neg no, turn_pick]
  first
    | exact wpAny_bind (m := Builtin.Tuple.tupleExact _) (wpAny_newObj_type (wpAny_pure ⟨_, rfl, wpAny_pure h⟩) hfit)
    | exact wpAny_bind (wpAny_bind (m := Builtin.Tuple.tupleExact _) (wpAny_newObj_type (wpAny_pure ⟨_, rfl, wpAny_pure h⟩) hfit))
    | exact wpAny_bind (wpAny_bind (m := Builtin.Tuple.tupleExact _) (wpAny_newObj_type (wpAny_pure (wpAny_pure ⟨_, rfl, wpAny_pure h⟩)) hfit))
end
def tTurn (K : PySem.W.Frag) (te : TE) : TE := fun σ H Q => te σ H fun x H1 => ∃ a xs, x = .ref a ∧ SqT K H1 a xs ∧ ∀ p, H1 p = none → Q (.ref p) (upd H1 p (.tup xs.reverse))
section
variable {X : Cx}
theorem pe_turn {e : Expr} {te : TE} {k : Nat} {p1 p2 p3 pos : Pos} (he : PE X e te) : PE X (.Subscript e (.Slice none none (some (.UnaryOp .USub (.Constant (.int 1) k p1) p2)) p3) pos) (tTurn X.K te) := by
  refine ⟨fun pins s σ H Q I h => ?_⟩
  refine Subscript_ (thn (he.run pins s σ H _ I h) fun v s1 ⟨x, H1, I1, r1, q1⟩ => ?_)
  obtain ⟨a, xs, ex, hx, q⟩ := q1
  subst ex
  cases r1
  have hst : PO X (some (.UnaryOp .USub (.Constant (.int 1) k p1) p2)) (tPart (tUn (rU fun i => .int (-i)) (tC (.int 1)))) := po_some (pe_un un_neg pe_int)
  refine wpAny_Slice (thn (po_none.run pins s1 σ H1 (fun o H2 => o = none ∧ H2 = H1) I1 ⟨rfl, rfl⟩) fun vl s2 ⟨l, H2, I2, pl, el, e2⟩ => ?_)
  subst el e2
  refine thn (po_none.run pins s2 σ H2 (fun o H3 => o = none ∧ H3 = H2) I2 ⟨rfl, rfl⟩) fun vu s3 ⟨u, H3, I3, pu, eu, e3⟩ => ?_
  subst eu e3
  refine thn (hst.run pins s3 σ H3 (fun o H4 => o = some (-1) ∧ H4 = H3) I3 ⟨1, rfl, -1, rfl, rfl, rfl⟩) fun vs s4 ⟨o, H4, I4, ps, eo, e4⟩ => ?_
  subst eo e4
  have I5 : Inv X pins σ H4 { s4 with heap := s4.heap.push { cls := .type "slice", data := .fields #[vl, vu, vs] } } := I4.kept (t' := s4.toks) fun b ob q => Heap.get?_push_of_some _ q
  obtain ⟨its, r, ht, hz⟩ := I5.tuple hx
  have hlen := r.length
  show wpAny (model X.prog X.w) X.A (subscriptTail e (.Slice none none (some (.UnaryOp .USub (.Constant (.int 1) k p1) p2)) p3) (.ref a) (.ref s4.heap.objs.size)) (EP X pins σ Q) X.xe { s4 with heap := s4.heap.push { cls := .type "slice", data := .fields #[vl, vu, vs] } }
  refine tail_any (ops := [.ref a, .ref s4.heap.objs.size]) ht.typeIs (PyProof.Rows.slot_tuple_getitem.lookup) ?_ (by with_unfolding_all rfl)
  refine turn_item ht (Heap.IsSliceOf.new _ vl vu vs) pl pu ps ?_ (by rw [List.size_toArray]; omega)
  refine ⟨.ref _, _, I5.laid (t' := s4.toks) (o := .tup xs.reverse) (fun b ob q => Heap.get?_push_of_some _ q) (Nat.le_refl _) ?_, rfl, q _ (I5.hok.fresh (Nat.le_refl _))⟩
  exact ⟨by rw [List.length_reverse]; omega, _, r.reverse, ⟨_, Heap.get?_push_size _ rfl, rfl, _, rfl⟩⟩
/-- set(t), t a tuple of ints -/
def rSetT (K : PySem.W.Frag) (w : World) : List V → Hp → VK → Prop := fun xs H Q => ∃ (l : Addr) (ns : List Int), xs = [.ref l] ∧ SqT K H l (ns.map V.int) ∧ ns.length ≤ 1000 ∧ ∀ p c, H p = none → c ≤ ns.length → Q (.ref p) (upd H p (SetO w p (fun j => decide (j ∈ ns)) c))
theorem cr_setT (hc : X.calm = true) : CallR X (.type "set") (rSetT X.K X.w) := by
  intro pins s σ H xs us Q I r h
  obtain ⟨l, ns, rfl, hl, hf, q⟩ := h
  rw [Vals.ref1 r]
  obtain ⟨its, rv, tp, hz⟩ := I.tuple hl
  refine call_set_tupI ns (I.ok.hd hc) tp (by simpa using intsAre_of rv) (by unfold scanBound; omega) fun h' tk c hS hcn k => ?_
  exact ⟨.ref s.heap.objs.size, _, I.laid (t' := tk) k (Nat.le_refl _) (setO_new hS), rfl, q _ c (I.hok.fresh (Nat.le_refl _)) hcn⟩
end
end Gn
set_option Elab.async false
set_option linter.all false
set_option maxRecDepth 100000
set_option maxHeartbeats 8000000
set_option exponentiation.threshold 4000
namespace My
open PySem PySem.Spec PyProof.Rows L2 Gn Mt
abbrev s__law_wrong : Stmt := top 88
/-! numbers of orders, any data: refused, or told -/
def spNumC (K : PySem.W.Frag) (C : Addr) (most : Int) (ok : PyData → Prop) : Sp := fun vs H Q E => ∃ v d, vs = [v] ∧ An K H v d ∧ (isNum d 1 most = false → Thrown C v H E) ∧ (isNum d 1 most = true → ok d ∧ Told H Q)
section
variable {P : Program} {w : World} {K : PySem.W.Frag} {mg : Str → Option Value} {base : Heap}
theorem c_hmo {f : Addr} {fd : FuncData} (F : Fun K "how_many_orders" "how_many_orders" s_how_many_orders f fd) (M : No P w K mg base) : FnOk P w K mg base (L2N.CX P w) 4 f fd ["count"] (spNumC K M.CN 2000 fun _ => True) := by
  have GN : FnOk P w K mg base (L2N.CX P w) 3 M.fn.1 M.fn.2 ["given", "least", "most"] (spChkN K M.CN) := ok_chNumA M.dn.F M.bo.c M.o.s.M.d_int M.o.s.d_num M.tN
  refine okImp (okOr (okUp (ok_hmo F M)) (okBad (sp := fun vs H Q E => ∃ v d, vs = [v] ∧ An K H v d ∧ isNum d 1 2000 = false ∧ Thrown M.CN v H E) F sc_how_many_orders (fun vs H Q E h => ?_) (fun cdv A outer s H vs Q E hr h tk => ?_))) ?_
  · obtain ⟨v, d, rfl, _⟩ := h
    rfl
  · obtain ⟨v, d, rfl, an, ew, t⟩ := h
    obtain ⟨tk0, hm⟩ := M.mc
    refine ⟨_, pss_cons (ps_expr (pe_callS GN hr (by rfl) M.dn.g M.dn.F.kp M.dn.b (fun σ => L2N.passAt tk σ) (pa_cons (pv 0) (pa_cons pe_int (pa_cons (pe_glob (v := .int 2000) rfl hm ⟨_, rfl⟩) pa_nil))))) pss_never, ?_⟩
    exact ⟨_, rfl, v, d, 1, 2000, rfl, an, (fun z => nomatch ew.symm.trans z), fun _ => t⟩
  · rintro vs H Q E ⟨v, d, rfl, an, e, k⟩
    cases er : isNum d 1 2000 with
    | false => exact .inr ⟨v, d, rfl, an, er, e er⟩
    | true =>
      obtain ⟨i, rfl, rfl, i1, i2⟩ := num_at an er
      exact .inl ⟨i, rfl, i1, i2, (k er).2⟩
theorem c_all {f : Addr} {fd : FuncData} (F : Fun K "all_orders" "all_orders" s_all_orders f fd) (M : No P w K mg base) : FnOk P w K mg base (L2N.CX P w) 6 f fd ["count"] (spNumC K M.CN 12 fun d => d = .int 1) := by
  have GN : FnOk P w K mg base (L2N.CX P w) 3 M.fn.1 M.fn.2 ["given", "least", "most"] (spChkN K M.CN) := ok_chNumA M.dn.F M.bo.c M.o.s.M.d_int M.o.s.d_num M.tN
  refine okImp (okOr (okUp (ok_all1 F M)) (okBad (sp := fun vs H Q E => ∃ v d, vs = [v] ∧ An K H v d ∧ isNum d 1 12 = false ∧ Thrown M.CN v H E) F sc_all_orders (fun vs H Q E h => ?_) (fun cdv A outer s H vs Q E hr h tk => ?_))) ?_
  · obtain ⟨v, d, rfl, _⟩ := h
    rfl
  · obtain ⟨v, d, rfl, an, ew, t⟩ := h
    obtain ⟨tk0, hm⟩ := M.ml
    have hr3 : Room 3 _ := hr.mono (by decide)
    refine ⟨_, pss_cons (ps_expr (pe_callS GN hr3 (by rfl) M.dn.g M.dn.F.kp M.dn.b (fun σ => L2N.passAt tk σ) (pa_cons (pv 0) (pa_cons pe_int (pa_cons (pe_glob (v := .int 12) rfl hm ⟨_, rfl⟩) pa_nil))))) pss_never, ?_⟩
    exact ⟨_, rfl, v, d, 1, 12, rfl, an, (fun z => nomatch ew.symm.trans z), fun _ => t⟩
  · rintro vs H Q E ⟨v, d, rfl, an, e, k⟩
    cases er : isNum d 1 12 with
    | false => exact .inr ⟨v, d, rfl, an, er, e er⟩
    | true =>
      obtain ⟨rfl, t⟩ := k er
      obtain ⟨i, rfl, e', i1, i2⟩ := num_at an er
      cases e'
      exact .inl ⟨rfl, t⟩
end
/-! what the law draws: rows of short tuples, and such -/
def atomB : PyData → Bool
  | .none => true
  | .bool _ => true
  | .int i => decide (i.natAbs < 2 ^ 60)
  | _ => false
def g1B : PyData → Bool
  | .tuple es => decide (es.length ≤ 9) && es.all atomB
  | .list es => decide (es.length ≤ 2) && es.all atomB
  | d => atomB d
def bB : PyData → Bool
  | .tuple ds => decide (ds.length ≤ 30) && ds.all g1B
  | .list ds => decide (ds.length ≤ 30) && ds.all (fun d => isTupB d && g1B d)
  | .none => true
  | _ => false
theorem sm_atom {d : PyData} (h : atomB d = true) : Sm 1921 0 d := by
  cases d with
  | none => exact ⟨by decide +kernel, by decide +kernel, by decide +kernel, by decide +kernel⟩
  | bool b => cases b <;> exact ⟨by decide +kernel, by decide +kernel, by decide +kernel, by decide +kernel⟩
  | int i => exact Sm.int (Nat.lt_of_lt_of_le (of_decide_eq_true h) (Nat.pow_le_pow_right (by decide) (by decide)))
  | _ => cases h
theorem smUp {c c' e e' : Nat} {d : PyData} (h : Sm c e d) (hc : c ≤ c') (he : e ≤ e') : Sm c' e' d := ⟨h.sh, Nat.le_trans h.ln hc, Nat.le_trans h.dp he, h.cl⟩
theorem sm_g1 {d : PyData} (h : g1B d = true) : Sm (9 * (1921 + 2) + 3) (0 + 1) d := by
  cases d with
  | tuple es =>
    have h : (decide (es.length ≤ 9) && es.all atomB) = true := h
    rw [Bool.and_eq_true] at h
    exact Sm.tup (fun e m => sm_atom (List.all_eq_true.mp h.2 e m)) (of_decide_eq_true h.1)
  | list es =>
    have h : (decide (es.length ≤ 2) && es.all atomB) = true := h
    rw [Bool.and_eq_true] at h
    exact Sm.lst (fun e m => sm_atom (List.all_eq_true.mp h.2 e m)) (by have := of_decide_eq_true h.1; omega)
  | none => exact smUp (sm_atom (d := .none) h) (by decide) (by decide)
  | bool b => exact smUp (sm_atom (d := .bool b) h) (by decide) (by decide)
  | int i => exact smUp (sm_atom (d := .int i) h) (by decide) (by decide)
  | _ => cases h
theorem sh_g1 {d : PyData} (h : g1B d = true) : SeqAt.shaped d = true := (sm_g1 h).shaped (by decide)
theorem sh_b {d : PyData} (h : bB d = true) : SeqAt.shaped d = true := by
  cases d with
  | tuple es =>
    have h : (decide (es.length ≤ 30) && es.all g1B) = true := h
    rw [Bool.and_eq_true] at h
    exact (Sm.tup (fun e m => sm_g1 (List.all_eq_true.mp h.2 e m)) (of_decide_eq_true h.1)).shaped (by decide)
  | list es =>
    have h : (decide (es.length ≤ 30) && es.all (fun d => isTupB d && g1B d)) = true := h
    rw [Bool.and_eq_true] at h
    exact (Sm.lst (fun e m => sm_g1 (by have := List.all_eq_true.mp h.2 e m; rw [Bool.and_eq_true] at this; exact this.2)) (of_decide_eq_true h.1)).shaped (by decide)
  | none => exact ((sm_atom (d := .none) rfl).shaped (by decide))
  | _ => cases h
theorem flats_all : ∀ {ds : List PyData}, (∀ d ∈ ds, flat d = true) → flat.flats ds = true
  | [], _ => by simp only [flat.flats]
  | d :: ds, h => by
    simp only [flat.flats, Bool.and_eq_true]
    exact ⟨h d List.mem_cons_self, flats_all fun x m => h x (List.mem_cons_of_mem _ m)⟩
theorem fl_atom {d : PyData} (h : atomB d = true) : flat d = true := by
  cases d with
  | none => simp only [flat]
  | bool b => simp only [flat]
  | int i => simp only [flat]
  | _ => cases h
theorem fl_g1 {d : PyData} (h : g1B d = true) : flat d = true := by
  cases d with
  | tuple es =>
    have h : (decide (es.length ≤ 9) && es.all atomB) = true := h
    rw [Bool.and_eq_true] at h
    simp only [flat]
    exact flats_all fun e m => fl_atom (List.all_eq_true.mp h.2 e m)
  | list es =>
    have h : (decide (es.length ≤ 2) && es.all atomB) = true := h
    rw [Bool.and_eq_true] at h
    simp only [flat]
    exact flats_all fun e m => fl_atom (List.all_eq_true.mp h.2 e m)
  | none => simp only [flat]
  | bool b => simp only [flat]
  | int i => simp only [flat]
  | _ => cases h
theorem fl_b {d : PyData} (h : bB d = true) : flat d = true := by
  cases d with
  | tuple es =>
    have h : (decide (es.length ≤ 30) && es.all g1B) = true := h
    rw [Bool.and_eq_true] at h
    simp only [flat]
    exact flats_all fun e m => fl_g1 (List.all_eq_true.mp h.2 e m)
  | list es =>
    have h : (decide (es.length ≤ 30) && es.all (fun d => isTupB d && g1B d)) = true := h
    rw [Bool.and_eq_true] at h
    simp only [flat]
    exact flats_all fun e m => fl_g1 (by have := List.all_eq_true.mp h.2 e m; rw [Bool.and_eq_true] at this; exact this.2)
  | none => simp only [flat]
  | _ => cases h
theorem sz1_g1 {d : PyData} (h : g1B d = true) : Sz1 d := fun ds e => by
  subst e
  have h : (decide (ds.length ≤ 9) && ds.all atomB) = true := h
  rw [Bool.and_eq_true] at h
  have := of_decide_eq_true h.1
  omega
theorem sz_b {d : PyData} (h : bB d = true) : Sz d := fun ds e => by
  subst e
  have h : (decide (ds.length ≤ 30) && ds.all g1B) = true := h
  rw [Bool.and_eq_true] at h
  have := of_decide_eq_true h.1
  exact ⟨by omega, fun e m => sz1_g1 (List.all_eq_true.mp h.2 e m)⟩
theorem b_at {ds : List PyData} (h : bB (.tuple ds) = true) {d : PyData} (m : d ∈ ds) : g1B d = true := by
  have h : (decide (ds.length ≤ 30) && ds.all g1B) = true := h
  rw [Bool.and_eq_true] at h
  exact List.all_eq_true.mp h.2 d m
theorem b_len {ds : List PyData} (h : bB (.tuple ds) = true) : ds.length ≤ 30 := by
  have h : (decide (ds.length ≤ 30) && ds.all g1B) = true := h
  rw [Bool.and_eq_true] at h
  exact of_decide_eq_true h.1
/-! the law's own look at it -/
theorem sc__law_wrong : FnScope ["_law_thing", "_law_gone", "_law_j", "_law_group", "_law_k"] ["_law_thing"] (defScope s__law_wrong) := ⟨rfl, rfl, rfl, by decide +kernel, rfl, by decide +kernel, by decide +kernel⟩
def wrongL (d : PyData) : List PyData := match rowW d with
  | none => []
  | some w => [ixD w]
theorem an_ix {K : PySem.W.Frag} {H : Hp} : ∀ w : Option Nat, An K H (ixV w) (ixD w)
  | none => .non
  | some j => .int _
def spWrL (K : PySem.W.Frag) : Sp := fun vs H Q _ => ∃ v d, vs = [v] ∧ An K H v d ∧ bB d = true ∧ ∀ r H', Same H H' → DuesAt K H' r (wrongL d) → Q r H'
structure Bw (mg : Str → Option Value) : Prop where
  c : Bc mg
  range : mg "range" = none
  sorted : mg "sorted" = none
  set : mg "set" = none
  list : mg "list" = none
theorem eqvAll_nil (ds : List PyData) : PyData.eqvAll ds [] = ds.isEmpty := by cases ds <;> rfl
theorem eqv_ints : ∀ {a b : List Int}, PyData.eqvAll (a.map PyData.int) (b.map PyData.int) = decide (a = b)
  | [], [] => rfl
  | [], _ :: _ => rfl
  | _ :: _, [] => rfl
  | x :: a, y :: b => by
    show (x == y && PyData.eqvAll (a.map PyData.int) (b.map PyData.int)) = _
    rw [eqv_ints]
    by_cases h : x = y
    · subst h
      by_cases h2 : a = b <;> simp [h2]
    · simp [h]
theorem strict_self {a b : List Int} (hb : b.Pairwise (· < ·)) (m : ∀ k, k ∈ b ↔ k ∈ a) : decide (a = b) = adjB a := by
  by_cases h : a = b
  · rw [decide_eq_true h, adj_pw.mpr (h ▸ hb)]
  · rw [decide_eq_false h]
    cases e : adjB a with
    | false => rfl
    | true => exact absurd (strict_one (adj_pw.mp e) hb fun v => (m v).symm) h
section
variable {P : Program} {w : World} {K : PySem.W.Frag} {mg : Str → Option Value} {base : Heap}
theorem ok_wrL {f fN : Addr} {fd fdN : FuncData} (F : Fun K "_law_wrong" "_law_wrong" s__law_wrong f fd) (B : Bw mg) (N : Df K mg "_law_is_number" sLNum ["_law_thing", "_law_low_here", "_law_high"] fN fdN) : FnOk P w K mg base CX0 6 f fd ["_law_thing"] (spWrL K) := by
  have GN : FnOk P w K mg base CX0 1 fN fdN ["_law_thing", "_law_low_here", "_law_high"] (spNumA K) := ok_lNum N.F B.c
  refine F.ok sc__law_wrong (fun vs H Q E h => ?_) (fun cdv A outer s H vs Q E hr h => ?_)
  · obtain ⟨v, d, rfl, _⟩ := h
    rfl
  · obtain ⟨v, d, rfl, an, hb, k⟩ := h
    have hu := hr.units
    have hr1 : Room 1 _ := hr.mono (by decide)
    refine ⟨_, pss_cons (ps_if (PW.pt (pw_or (pt_not (pt_val (pe_callB (call_isi) (by rfl) B.c.isi (by decide +kernel) (pa_cons (pv 0) (pa_cons (pe_bltn (v := .ty "tuple") (by rfl) B.c.tuple (by decide +kernel) rfl) pa_nil))))) (pw_or1 (pt_cmpR (op_eqD hu) (pv 0) (pe_tup pa_nil) (nomark _))))) (pss_one (ps_ret (pe_lst (pa_cons pe_non pa_nil)))) pss_nil) (pss_cons (ps_set (i := 1) sc__law_wrong.nd rfl (.inr rfl) (pe_lst pa_nil)) (pss_cons (ps_for PassesOwn.never rfl (pi_range1 rfl B.range (pa_cons (pe_callB (call_len_seq) (by rfl) B.c.len (by decide +kernel) (pa_cons (pv 0) pa_nil)) pa_nil)) (pg_name (i := 2) sc__law_wrong.nd rfl (.inl rfl)) (pss_cons (ps_set (i := 3) sc__law_wrong.nd rfl (.inl rfl) (pe_ix ix_tup (pv 0) (pv 2) (fun _ _ => rfl))) (pss_cons (ps_if (PW.pt (pw_or (pt_not (pt_val (pe_callB (call_isi) (by rfl) B.c.isi (by decide +kernel) (pa_cons (pv 3) (pa_cons (pe_bltn (v := .ty "tuple") (by rfl) B.c.tuple (by decide +kernel) rfl) pa_nil))))) (pw_or (pt_cmpR (op_eqD hu) (pv 3) (pe_tup pa_nil) (nomark _)) (pw_or1 (pt_cmpR (op_neNil (Nat.lt_of_le_of_lt (Nat.le_add_right _ 64) hu)) (pe_lc (te := tVar 4) (own := [("_law_k", 4)]) (g := gName 4) rfl sc__law_wrong.nd (pi_tup (pv 3)) (blkOk_by (N := ["_law_thing", "_law_gone", "_law_j", "_law_group", "_law_k"]) (sc := defScope s__law_wrong) (by decide +kernel)) (fun _ _ _ _ _ => pg_name (i := 4) sc__law_wrong.nd rfl (.inl rfl)) (fun _ _ _ _ _ => pts_one (pt_not (pt_val (pe_call GN hr1 (by rfl) N.g N.F.kp N.b .nil pass0 (pa_cons (pv 4) (pa_cons pe_int (pa_cons pe_int pa_nil))))))) (fun _ _ _ _ _ => (pv 4))) (pe_lst pa_nil) (nomark _)))))) (pss_one (ps_ret (pe_lst (pa_cons (pv 2) pa_nil)))) pss_nil) (pss_cons (ps_if (PW.pt (pw_or (pt_cmpR (op_neD hu) (pe_callTy call_list_of (by rfl) B.list (by decide +kernel) (pa_cons (pv 3) pa_nil)) (pe_callB (cr_sortedSetN rfl) (by rfl) B.sorted (by decide +kernel) (pa_cons (pe_callTy (cr_setT rfl) (by rfl) B.set (by decide +kernel) (pa_cons (pv 3) pa_nil)) pa_nil)) (nomark _)) (pw_or1 (pt_cmpR (op_neNil (Nat.lt_of_le_of_lt (Nat.le_add_right _ 64) hu)) (pe_lc (te := tVar 4) (own := [("_law_k", 4)]) (g := gName 4) (tt := tTest (tOp (rIn K false) (tVar 4) (tVar 1))) rfl sc__law_wrong.nd (pi_tup (pv 3)) (blkOk_by (N := ["_law_thing", "_law_gone", "_law_j", "_law_group", "_law_k"]) (sc := defScope s__law_wrong) (by decide +kernel)) (fun _ _ _ _ _ => pg_name (i := 4) sc__law_wrong.nd rfl (.inl rfl)) (fun _ _ _ _ _ => pts_one (pt_cmpR op_in_seq (pv 4) (pv 1) (by rfl))) (fun _ _ _ _ _ => (pv 4))) (pe_lst pa_nil) (nomark _))))) (pss_one (ps_ret (pe_lst (pa_cons (pv 2) pa_nil)))) pss_nil) (pss_one (ps_set (i := 1) sc__law_wrong.nd rfl (.inr rfl) (pe_op op_cat (pv 1) (pe_callTy call_list_of (by rfl) B.list (by decide +kernel) (pa_cons (pv 3) pa_nil))))))))) (pss_one (ps_ret (pe_lst pa_nil))))), ?_⟩
    have ret1 : ∀ (x : Option Nat) (H' : Hp), Same H H' → rowW d = some x → ∀ r, H' r = none → Q (.ref r) (upd H' r (.lst [ixV x])) := fun x H' s e r nr =>
      k _ _ (s.trans (same_put nr)) ⟨r, [ixV x], rfl, upd_same, by unfold wrongL; rw [e]; exact .cons (an_ix x) .nil⟩
    refine ⟨_, rfl, v, .ty "tuple", _, _, _, rfl, .ty "tuple", an.ty, kit_ty kit_tup, _, rfl, ?_⟩
    cases et : isTupB d with
    | false =>
      have ew : rowW d = some none := by cases d <;> first | rfl | cases et
      exact iteT ⟨by decide, ret1 none H (Same.refl _) ew⟩
    | true =>
      refine iteF ?_
      obtain ⟨a, xs, ds, rfl, rfl, hT, all⟩ := an.isT et
      have ha : SqT K H a xs := SqT.of hT
      have l := dpAll_len all
      have l10 := b_len hb
      refine ⟨_, rfl, (by show 0 ≤ sizeLine; decide), fun z0 n0 => ?_⟩
      have t0 := same_put (o := HO.tup []) n0
      have g0 : upd H z0 (HO.tup []) z0 = some (.tup []) := upd_same
      generalize upd H z0 (HO.tup []) = Hz at *
      refine ⟨_, .tuple [], (an.same t0).dp (fl_b hb), .tup (SqT.of g0) .nil, sh_b hb, by decide +kernel, _, rfl, ?_⟩
      have ev : PyData.eqv (.tuple ds) (.tuple []) = ds.isEmpty := eqvAll_nil ds
      rw [ev]
      cases ee : ds.isEmpty with
      | true =>
        have ew : rowW (.tuple ds) = some none := by rw [rowW, if_pos ee]
        exact iteT ⟨by decide, ret1 none Hz t0 ew⟩
      | false =>
        have rw0 : rowW (.tuple ds) = (scanW [] 0 ds).map some := by rw [rowW, if_neg (by rw [ee]; decide)]
        refine iteF ⟨by decide, fun G nG => ?_⟩
        have s0 := same_put (o := HO.lst []) nG
        have gG : upd Hz G (HO.lst []) G = some (.lst []) := upd_same
        generalize upd Hz G (HO.lst []) = H0 at *
        have S0 := t0.trans s0
        refine nxI ⟨_, rfl, a, xs, rfl, .inr (sqT_same S0 ha), (xs.length : Int), rfl, by omega, by omega, for_range (lo := 0) (n := (xs.length : Int).toNat) (fun i σ H' => ∃ p q D met, σ = [some (.ref a), some (.ref D), p, q, none] ∧ H' D = some (.lst (met.map V.int)) ∧ met.Nodup ∧ (∀ m ∈ met, 0 ≤ m ∧ m ≤ 40) ∧ scanW [] 0 ds = scanW met i (ds.drop i) ∧ Same H H')
          ⟨none, none, G, [], rfl, gG, List.nodup_nil, (fun m h => by cases h), rfl, S0⟩ ?_ ?_⟩
        · rintro i σ H1 hi ⟨p, q, D, met, rfl, hD, nd, rg, sc, sH⟩
          have ix : i < xs.length := by omega
          obtain ⟨x, hx⟩ : ∃ x, xs[i]? = some x := ⟨_, List.getElem?_eq_getElem ix⟩
          obtain ⟨pd, hp, anx⟩ := anAll_get all hx
          have gp := b_at hb (List.mem_of_getElem? hp)
          have dr : ds.drop i = pd :: ds.drop (i + 1) := by
            have l := List.getElem?_eq_some_iff.mp hp
            rw [← l.2, List.getElem_cons_drop]
          rw [dr, scanW] at sc
          have few : met.length ≤ 41 := few_of 41 nd fun m mm => by have := rg m mm; omega
          have bad : ¬ (ascD pd && freshB met (gI pd)) = true → ∀ H', Same H H' → ∀ r, H' r = none → Q (.ref r) (upd H' r (.lst [.int (i : Nat)])) := fun z H' s r nr => by
            rw [if_neg z] at sc
            exact ret1 (some i) H' s (by rw [rw0, sc]; rfl) r nr
          rw [Int.zero_add]
          refine ⟨_, rfl, _, rfl, a, xs, _, x, rfl, rfl, sqT_same sH ha, at_of (j := i) rfl hx, ?_⟩
          refine nxI ⟨_, rfl, x, .ty "tuple", _, _, _, rfl, .ty "tuple", (anx.same sH).ty, kit_ty kit_tup, _, rfl, ?_⟩
          cases ept : isTupB pd with
          | false =>
            have z : ¬ (ascD pd && freshB met (gI pd)) = true := by
              have : ascD pd = false := by cases pd <;> first | rfl | cases ept
              rw [this, Bool.false_and]; exact Bool.false_ne_true
            exact iteT ⟨_, rfl, (by show 1 ≤ sizeLine; decide), bad z H1 sH⟩
          | true =>
            refine iteF ?_
            obtain ⟨ga, ys, es, rfl, rfl, hga, all2⟩ := anx.isT ept
            have ly := dpAll_len all2
            have le9 := sz1_g1 gp es rfl
            have hga1 := sH _ _ hga
            refine ⟨_, rfl, (by show 0 ≤ sizeLine; decide), fun z1 n1 => ?_⟩
            have t1 := same_put (o := HO.tup []) n1
            have g1 : upd H1 z1 (HO.tup []) z1 = some (.tup []) := upd_same
            have hD2 := t1 _ _ hD
            generalize upd H1 z1 (HO.tup []) = H2 at *
            have S2 := sH.trans t1
            refine ⟨_, .tuple [], (anx.same S2).dp (fl_g1 gp), .tup (SqT.of g1) .nil, sh_g1 gp, by decide +kernel, _, rfl, ?_⟩
            have ev : PyData.eqv (.tuple es) (.tuple []) = es.isEmpty := eqvAll_nil es
            rw [ev]
            have av : ascD (.tuple es) = (!es.isEmpty && (es.all (fun d => isNum d 0 40) && adjB (es.map toI))) := rfl
            rw [av] at sc bad
            cases ee2 : es.isEmpty with
            | true =>
              exact iteT ⟨_, rfl, (by show 1 ≤ sizeLine; decide), bad (by rw [ee2]; exact Bool.false_ne_true) H2 S2⟩
            | false =>
              rw [ee2, Bool.not_false, Bool.true_and] at sc bad
              have hga2 := S2 _ _ hga
              refine iteF ⟨_, rfl, ga, rfl, ⟨_, SqT.of hga2⟩, fun E1 nE => ?_⟩
              have s3 := same_put (o := HO.lst []) nE
              refine lc_tup (K := K) (a := ga) (xs := ys) (fun j H' => (∃ zs : List V, H' E1 = some (.lst zs) ∧ zs.length ≤ j ∧ zs.isEmpty = (es.take j).all (fun d => isNum d 0 40)) ∧ Same H2 H') ⟨⟨[], upd_same, Nat.le_refl _, rfl⟩, s3⟩ (fun j H' _ ⟨_, e⟩ => SqT.of (e _ _ hga2)) ?_ ?_
              · rintro j y H3 hj ⟨⟨zs, hE, lz, ez⟩, e3⟩
                obtain ⟨py, hpy, any⟩ := anAll_get all2 hj
                have jl : j < ys.length := (List.getElem?_eq_some_iff.mp hj).1
                refine ⟨rfl, _, rfl, y, py, 0, 40, rfl, any.same (S2.trans e3), _, rfl, ?_⟩
                have tk : (es.take (j + 1)).all (fun d => isNum d 0 40) = ((es.take j).all (fun d => isNum d 0 40) && isNum py 0 40) := by
                  rw [List.take_add_one, hpy, List.all_append]; simp
                cases en : isNum py 0 40 with
                | true => exact iteF ⟨⟨zs, hE, Nat.le_succ_of_le lz, by rw [tk, en, Bool.and_true]; exact ez⟩, e3⟩
                | false =>
                  refine iteT ⟨_, rfl, zs, hE, small1000 (by omega), ⟨zs ++ [y], upd_same, by rw [List.length_append]; exact Nat.succ_le_succ lz, by rw [tk, en, Bool.and_false]; cases zs <;> rfl⟩, fun b o e => ?_⟩
                  rw [upd_ne (ne_of_none e nE)]
                  exact e3 _ _ e
              rintro H3 ⟨⟨zs, hE, lz, ez⟩, e3⟩
              rw [ly, List.take_length] at ez
              refine ⟨(by show 0 ≤ sizeLine; decide), fun z2 n2 => ?_⟩
              have t2 := same_put (o := HO.lst []) n2
              have g2 : upd H3 z2 (HO.lst []) z2 = some (.lst []) := upd_same
              have hE2 := t2 _ _ hE
              have hD3 := t2 _ _ (e3 _ _ hD2)
              generalize upd H3 z2 (HO.lst []) = H4 at *
              have S4 := (S2.trans e3).trans t2
              refine ⟨E1, z2, zs, rfl, rfl, SqL.of hE2, SqL.of g2, _, rfl, ?_⟩
              rw [ez]
              cases ea : es.all (fun d => isNum d 0 40) with
              | false => exact iteT ⟨_, rfl, (by show 1 ≤ sizeLine; decide), bad (by rw [ea]; exact Bool.false_ne_true) H4 S4⟩
              | true =>
                rw [ea, Bool.true_and] at sc bad
                obtain ⟨ed, rng⟩ := nums_at ea
                have gi : gI (.tuple es) = es.map toI := rfl
                rw [gi] at sc bad
                have ey : ys = (es.map toI).map V.int := anInts (by rw [← ed]; exact all2)
                have lg : (es.map toI).length = es.length := List.length_map _
                generalize es.map toI = g at *
                subst ey
                have hga4 : SqT K H4 ga (g.map V.int) := SqT.of (S4 _ _ hga)
                refine iteF (nxI ⟨_, rfl, ga, _, rfl, .inr hga4, fun l1 m1 => ?_⟩)
                have t3 := same_put (o := HO.lst (g.map V.int)) m1
                have g3 : upd H4 l1 (HO.lst (g.map V.int)) l1 = some (.lst (g.map V.int)) := upd_same
                have hD5 := t3 _ _ hD3
                generalize upd H4 l1 (HO.lst (g.map V.int)) = H5 at *
                refine ⟨_, rfl, ga, g, rfl, sqT_same t3 hga4, by omega, fun sp c ns hc => ?_⟩
                have t4 := same_put (o := SetO w sp (fun j => decide (j ∈ g)) c) ns
                refine ⟨sp, _, c, rfl, upd_same, fun ks l2 kpw kmem kln m2 => ?_⟩
                have t5 := same_put (o := HO.lst (ks.map V.int)) m2
                generalize hH6 : upd (upd H5 sp _) l2 (HO.lst (ks.map V.int)) = H6
                have g5 : H6 l2 = some (.lst (ks.map V.int)) := by rw [← hH6]; exact upd_same
                have S46 : Same H5 H6 := by rw [← hH6]; exact t4.trans t5
                have hD6 := S46 _ _ hD5
                have S6 := (S4.trans t3).trans S46
                have kin : ∀ k, k ∈ ks ↔ k ∈ g := fun k => by rw [kmem k, decide_eq_true_eq]
                have lg' : g.length = es.length := by rw [ed, List.length_map]
                have smI : ∀ {q : List Int}, (∀ m ∈ q, 0 ≤ m ∧ m ≤ 40) → q.length ≤ 60 → SeqAt.shaped (.list (q.map PyData.int)) = true := fun {q} h h9 =>
                  (Sm.lst (n := 60) (c := 1921) (e := 0) (fun e m => by
                    obtain ⟨i, hi, rfl⟩ := List.mem_map.mp m
                    have := h i hi
                    exact Sm.int (Nat.lt_of_lt_of_le (show i.natAbs < 2 ^ 6 by omega) (Nat.pow_le_pow_right (by decide) (by decide)))) (by rw [List.length_map]; exact h9)).shaped (by decide)
                refine ⟨.list (g.map PyData.int), .list (ks.map PyData.int), .lst (SqL.of (S46 _ _ g3)) (dp_ints g), .lst (SqL.of g5) (dp_ints ks), smI rng (by omega), smI (fun m mm => rng m ((kin m).mp mm)) (by omega), _, rfl, ?_⟩
                have eq1 : PyData.eqv (.list (g.map PyData.int)) (.list (ks.map PyData.int)) = adjB g := eqv_ints.trans (strict_self kpw kin)
                rw [eq1]
                cases eadj : adjB g with
                | false => exact iteT ⟨_, rfl, (by show 1 ≤ sizeLine; decide), bad (by rw [eadj]; exact Bool.false_ne_true) H6 S6⟩
                | true =>
                  rw [eadj, Bool.true_and] at sc bad
                  have hga6 : SqT K H6 ga (g.map V.int) := SqT.of (S6 _ _ hga)
                  refine iteF ⟨_, rfl, ga, rfl, ⟨_, hga6⟩, fun E2 nE2 => ?_⟩
                  have s7 := same_put (o := HO.lst []) nE2
                  refine lc_tup (K := K) (a := ga) (xs := g.map V.int) (fun j H' => (∃ zs : List V, H' E2 = some (.lst zs) ∧ zs.length ≤ j ∧ zs.isEmpty = freshB met (g.take j)) ∧ Same H6 H') ⟨⟨[], upd_same, Nat.le_refl _, rfl⟩, s7⟩ (fun j H' _ ⟨_, e⟩ => sqT_same e hga6) ?_ ?_
                  · rintro j y H7 hj ⟨⟨zs, hE, lz, ez⟩, e7⟩
                    rw [List.getElem?_map] at hj
                    obtain ⟨m, hm, rfl⟩ := Option.map_eq_some_iff.mp hj
                    have jl := (List.getElem?_eq_some_iff.mp hm).1
                    refine ⟨rfl, _, rfl, _, rfl, D, _, rfl, .inl (SqL.of (e7 _ _ hD6)), rfl, flat_ints _, _, rfl, ?_⟩
                    rw [if_neg (by decide), inV_int]
                    have tk : freshB met (g.take (j + 1)) = (freshB met (g.take j) && decide (m ∉ met)) := by
                      unfold freshB
                      rw [List.take_add_one, hm, List.all_append]; simp
                    by_cases c : m ∈ met
                    · rw [decide_eq_true c]
                      refine iteT ⟨_, rfl, zs, hE, small1000 (by omega), ⟨zs ++ [.int m], upd_same, by rw [List.length_append]; exact Nat.succ_le_succ lz, by rw [tk, decide_eq_false (fun z => z c), Bool.and_false]; cases zs <;> rfl⟩, fun b o e => ?_⟩
                      rw [upd_ne (ne_of_none e nE2)]
                      exact e7 _ _ e
                    · rw [decide_eq_false c]
                      exact iteF ⟨⟨zs, hE, Nat.le_succ_of_le lz, by rw [tk, decide_eq_true c, Bool.and_true]; exact ez⟩, e7⟩
                  rintro H7 ⟨⟨zs, hE, lz, ez⟩, e7⟩
                  rw [List.length_map, List.take_length] at ez
                  refine ⟨(by show 0 ≤ sizeLine; decide), fun z8 n8 => ?_⟩
                  have t8 := same_put (o := HO.lst []) n8
                  have g8 : upd H7 z8 (HO.lst []) z8 = some (.lst []) := upd_same
                  have hE8 := t8 _ _ hE
                  have hD8 := t8 _ _ (e7 _ _ hD6)
                  generalize upd H7 z8 (HO.lst []) = H8 at *
                  have S8 := (S6.trans e7).trans t8
                  refine ⟨E2, z8, zs, rfl, rfl, SqL.of hE8, SqL.of g8, _, rfl, ?_⟩
                  rw [ez]
                  cases ef : freshB met g with
                  | false => exact iteT ⟨_, rfl, (by show 1 ≤ sizeLine; decide), bad (by rw [ef]; exact Bool.false_ne_true) H8 S8⟩
                  | true =>
                    rw [ef, if_pos rfl] at sc
                    have hga8 : SqT K H8 ga (g.map V.int) := SqT.of (S8 _ _ hga)
                    refine iteF (nxI ⟨_, rfl, _, rfl, ga, _, rfl, .inr hga8, fun l9 n9 => ?_⟩)
                    have t9 := same_put (o := HO.lst (g.map V.int)) n9
                    refine ⟨D, l9, _, _, rfl, rfl, t9 _ _ hD8, upd_same, ?_, fun pn np => ?_⟩
                    · rw [List.length_map, List.length_map]; exact Nat.le_of_lt (small1000 (by omega))
                    · exact nxI ⟨_, _, pn, met ++ g, rfl, by rw [upd_same, List.map_append], fresh_nd nd (adj_pw.mp eadj) ef, (fun m mm => (List.mem_append.mp mm).elim (rg m) (rng m)), sc, (S8.trans t9).trans (same_put np)⟩
        · rintro σ H1 ⟨p, q, D, met, rfl, hD, nd, rg, sc, sH⟩
          rw [List.drop_of_length_le (by omega), scanW] at sc
          refine nxI ⟨by decide, fun r nr => k _ _ (sH.trans (same_put nr)) ⟨r, [], rfl, upd_same, ?_⟩⟩
          unfold wrongL
          rw [rw0, sc]
          exact .nil
end
end My
set_option Elab.async false
set_option linter.all false
set_option maxRecDepth 100000
set_option maxHeartbeats 4000000
/-! list(x): its place told not to be that of the modules' dict; pieces of tuples -/
namespace Gn
open PySem PySem.Spec PyProof.Rows L2
section
variable {X : Cx}
theorem call_list_ofZ : CallR X (.type "list") (fun xs H Q => ∃ p ys, xs = [.ref p] ∧ (SqL X.K H p ys ∨ SqT X.K H p ys) ∧ ∀ l, H l = none → l ≠ sysModules → Q (.ref l) (upd H l (.lst ys))) := by
  intro pins s σ H xs us Q I r h
  obtain ⟨p, ys, rfl, hq, q⟩ := h
  obtain ⟨u, rfl, rx⟩ := vals1 r
  cases rx
  have fin : ∀ (its : List Value), Vals ys its → ys.length ≤ sizeLine → ∀ (h' : Heap) (c' : Nat), (∀ b o', s.heap.get? b = some o' → h'.get? b = some o') →
      h'.get? s.heap.objs.size = some { cls := .type "list", dict := none, data := .seq its.toArray c', slots := #[] } → EP X pins σ Q (.ref s.heap.objs.size) { s with heap := h' } := fun its r' hz h' c' kp e =>
    ⟨.ref s.heap.objs.size, _, I.laid (t' := s.toks) kp (Nat.le_refl _) (show ObjOk X.prog X.w _ h' _ (.lst ys) from ⟨hz, its, c', r', e⟩), rfl, q _ (I.hok.fresh (Nat.le_refl _)) (Nat.ne_of_gt I.big)⟩
  rcases hq with hq | hq
  · obtain ⟨its, r', pl, hz⟩ := I.list hq
    have hlen := r'.length
    obtain ⟨o, ho, hc, n, hd⟩ := pl.isList
    exact call_list_seq p (.inl rfl) ho hc hd (fun h' c' kp e => fin its r' hz h' c' kp e) (by simp only [List.size_toArray] <;> omega)
  · obtain ⟨its, r', pl, hz⟩ := I.tuple hq
    have hlen := r'.length
    obtain ⟨o, ho, hc, n, hd⟩ := pl
    exact call_list_seq p (.inr rfl) ho hc hd (fun h' c' kp e => fin its r' hz h' c' kp e) (by simp only [List.size_toArray] <;> omega)
end
theorem anAll_drop {K : PySem.W.Frag} {H : Hp} : ∀ {xs : List V} {ds : List PyData} (k : Nat), AnAll K H xs ds → AnAll K H (xs.drop k) (ds.drop k)
  | _, _, 0, h => h
  | _, _, k + 1, .nil => .nil
  | _, _, k + 1, .cons _ t => anAll_drop k t
theorem anAll_take {K : PySem.W.Frag} {H : Hp} : ∀ {xs : List V} {ds : List PyData} (k : Nat), AnAll K H xs ds → AnAll K H (xs.take k) (ds.take k)
  | _, _, 0, h => by rw [List.take_zero, List.take_zero]; exact .nil
  | _, _, k + 1, .nil => .nil
  | _, _, k + 1, .cons h t => .cons h (anAll_take k t)
theorem anAll_app {K : PySem.W.Frag} {H : Hp} : ∀ {xs ys : List V} {ds es : List PyData}, AnAll K H xs ds → AnAll K H ys es → AnAll K H (xs ++ ys) (ds ++ es)
  | _, _, _, _, .nil, h => h
  | _, _, _, _, .cons h t, h2 => .cons h (anAll_app t h2)
theorem anAll_rev {K : PySem.W.Frag} {H : Hp} : ∀ {xs : List V} {ds : List PyData}, AnAll K H xs ds → AnAll K H xs.reverse ds.reverse
  | _, _, .nil => .nil
  | _, _, .cons h t => by
    rw [List.reverse_cons, List.reverse_cons]
    exact anAll_app (anAll_rev t) (.cons h .nil)
/-- a tuple of such data, its items out of some, not too many -/
def TupOf (K : PySem.W.Frag) (H : Hp) (c : Addr) (n : Nat) (ok : PyData → Prop) : Prop := ∃ xs ds, H c = some (.tup xs) ∧ AnAll K H xs ds ∧ ds.length ≤ n ∧ ∀ d ∈ ds, ok d
theorem TupOf.same {K : PySem.W.Frag} {H H' : Hp} {c : Addr} {n : Nat} {ok : PyData → Prop} (h : TupOf K H c n ok) (s : Same H H') : TupOf K H' c n ok := by
  obtain ⟨xs, ds, h1, h2, h3, h4⟩ := h
  exact ⟨xs, ds, s _ _ h1, h2.same s, h3, h4⟩
theorem anAll_ln {K : PySem.W.Frag} {H : Hp} {xs : List V} {ds : List PyData} (h : AnAll K H xs ds) : xs.length = ds.length := dpAll_len h
theorem sl_any {K : PySem.W.Frag} {H : Hp} {a : Addr} {n : Nat} {ok : PyData → Prop} {lo hi : Option Int} {Q : VK} (h : TupOf K H a n ok) (k : ∀ c H', Same H H' → TupOf K H' c n ok → Q (.ref c) H') : rSlA K (.ref a) lo hi H Q := by
  have h0 := h
  obtain ⟨xs, ds, h1, h2, h3, h4⟩ := h
  refine ⟨a, xs, rfl, SqT.of h1, fun _ => k a H (Same.refl _) h0, fun _ p np => ?_⟩
  have s := same_put (o := HO.tup (cutV xs lo hi)) np
  refine k p _ s ⟨cutV xs lo hi, (ds.drop (HT.sIx xs.length 0 lo)).take (HT.sIx xs.length xs.length hi - HT.sIx xs.length 0 lo), upd_same, (anAll_take _ (anAll_drop _ h2)).same s, ?_, fun d m => h4 d (List.mem_of_mem_drop (List.mem_of_mem_take m))⟩
  rw [List.length_take, List.length_drop]
  omega
theorem cat_any {K : PySem.W.Frag} {H : Hp} {a b : Addr} {n m : Nat} {ok : PyData → Prop} {Q : VK} (h : TupOf K H a n ok) (h' : TupOf K H b m ok) (nm : n + m ≤ 1000) (k : ∀ c H', Same H H' → TupOf K H' c (n + m) ok → Q (.ref c) H') : rCatA K (.ref a) (.ref b) H Q := by
  obtain ⟨xs, ds, h1, h2, h3, h4⟩ := h
  obtain ⟨ys, es, g1, g2, g3, g4⟩ := h'
  have l1 := anAll_ln h2
  have l2 := anAll_ln g2
  refine ⟨a, b, xs, ys, rfl, rfl, SqT.of h1, SqT.of g1, Nat.le_of_lt (small1000 (by omega)), fun _ => k b H (Same.refl _) ⟨ys, es, g1, g2, by omega, g4⟩, fun _ _ => k a H (Same.refl _) ⟨xs, ds, h1, h2, by omega, h4⟩, fun _ _ p np => ?_⟩
  have s := same_put (o := HO.tup (xs ++ ys)) np
  refine k p _ s ⟨xs ++ ys, ds ++ es, upd_same, anAll_app (h2.same s) (g2.same s), by rw [List.length_append]; omega, fun d m => (List.mem_append.mp m).elim (h4 d) (g4 d)⟩
end Gn
set_option Elab.async false
set_option linter.all false
set_option maxRecDepth 100000
set_option maxHeartbeats 8000000
set_option exponentiation.threshold 4000
namespace My
open PySem PySem.Spec PyProof.Rows L2 Gn Mt
abbrev s__law_bent : Stmt := top 89
/-! rows bent by the law -/
theorem sc__law_bent : FnScope ["_law_tin_here", "_law_line_here", "_law_way", "_law_at", "_law_odd"] ["_law_tin_here", "_law_line_here"] (defScope s__law_bent) := ⟨rfl, rfl, rfl, by decide +kernel, rfl, by decide +kernel, by decide +kernel⟩
def isA (K : PySem.W.Frag) (d : PyData) : Fact := fun H v => An K H v d
theorem lasts_A {K : PySem.W.Frag} {d : PyData} : Lasts (isA K d) := fun _ _ _ e h => An.same e h
theorem lastsAll_A {K : PySem.W.Frag} {ds : List PyData} : LastsAll (ds.map (isA K)) := fun q h => by
  obtain ⟨d, _, rfl⟩ := List.mem_map.mp h
  exact lasts_A
theorem allF_A {K : PySem.W.Frag} {H : Hp} : ∀ {ds : List PyData} {vs : List V}, AllF (ds.map (isA K)) H vs → AnAll K H vs ds
  | [], vs, h => by
    have e : vs = [] := h
    subst e
    exact .nil
  | d :: ds, v :: vs, h => .cons h.1 (allF_A h.2)
section
variable {K : PySem.W.Frag} {σ : L2.St} {H : Hp} {d : PyData} {ds : List PyData} {te : TE} {ta : TA}
/-- ints, texts and the like as they are -/
def plain : V → Option PyData
  | .non => some .none
  | .bl b => some (.bool b)
  | .int i => some (.int i)
  | .str x => some (.str x)
  | _ => none
theorem fa_c (v : V) (h : plain v = some d := by rfl) : Fm (tC v) σ H (isA K d) := fun H1 _ Q q => q v H1 (Same.refl _) (by
  cases v with
  | non => cases h; exact .non
  | bl b => cases h; exact .bl b
  | int i => cases h; exact .int i
  | str x => cases h; exact .str x
  | _ => cases h)
theorem fa_neg {i : Int} : Fm (tUn (rU fun i => .int (-i)) (tC (.int i))) σ H (isA K (.int (-i))) := fun H1 _ Q q => ⟨i, rfl, q _ H1 (Same.refl _) (.int _)⟩
structure FmD (K : PySem.W.Frag) (ta : TA) (σ : L2.St) (H : Hp) (ds : List PyData) : Prop where
  fm : FmA ta σ H (ds.map (isA K))
theorem faA_nil : FmD K tNil σ H [] := ⟨fmA_nil⟩
theorem faA_cons (h : Fm te σ H (isA K d)) (hs : FmD K ta σ H ds) : FmD K (tCons te ta) σ H (d :: ds) := ⟨fmA_cons lasts_A h hs.fm⟩
theorem fa_tup (hl : ds.length ≤ 1000) (hs : FmD K ta σ H ds) : Fm (tTup ta) σ H (isA K (.tuple ds)) := fun H1 e Q q => hs.fm H1 e _ fun vs H2 e2 rs =>
  ⟨by rw [rs.len, List.length_map, sizeLine_eq]; omega, fun p hp => q _ _ (e2.trans (same_put hp)) (.tup upd_same ((allF_A rs).same (same_put hp)))⟩
theorem fa_lst (hl : ds.length ≤ 1000) (hs : FmD K ta σ H ds) : Fm (tLstZ ta) σ H (isA K (.list ds)) := fun H1 e Q q => hs.fm H1 e _ fun vs H2 e2 rs =>
  ⟨by rw [rs.len, List.length_map, sizeLine_eq]; omega, fun p hp np => q _ _ (e2.trans (same_put hp)) (.lst upd_same np ((allF_A rs).same (same_put hp)))⟩
end
mutual
theorem an_sipN {K : PySem.W.Frag} {H H' : Hp} {t : Addr} (T : Tin H t) (e : Sipped H H' t) : ∀ {v : V} {d : PyData}, An K H v d → noL d = true → An K H' v d
  | _, _, .non, _ => .non
  | _, _, .bl b, _ => .bl b
  | _, _, .int i, _ => .int i
  | _, _, .str x, _ => .str x
  | _, _, .lst _ _ _, f => by unfold noL at f; cases f
  | _, _, .tup (a := a) h s, f => by
    unfold noL at f
    refine .tup (e.2 _ _ h fun z => ?_) (anAll_sipN T e s f)
    obtain ⟨_, _, _, ht, _⟩ := T
    rw [z, ht] at h
    cases h
  | _, _, .dct _, f => by unfold noL at f; cases f
theorem anAll_sipN {K : PySem.W.Frag} {H H' : Hp} {t : Addr} (T : Tin H t) (e : Sipped H H' t) : ∀ {vs : List V} {ds : List PyData}, AnAll K H vs ds → noLs ds = true → AnAll K H' vs ds
  | _, _, .nil, _ => .nil
  | _, _, .cons h s, f => by
    unfold noLs at f
    rw [Bool.and_eq_true] at f
    exact .cons (an_sipN T e h f.1) (anAll_sipN T e s f.2)
end
/-- draws leave it -/
def sipB : PyData → Bool
  | .list ds => (ds.length != 3 || ds.all isTupB) && noLs ds
  | d => noL d
theorem an_sipB {K : PySem.W.Frag} {H H' : Hp} {t : Addr} (T : Tin H t) (e : Sipped H H' t) {v : V} {d : PyData} (h : An K H v d) (f : sipB d = true) : An K H' v d := by
  cases h with
  | lst h n s =>
    rename_i a xs ds
    have f : ((ds.length != 3 || ds.all isTupB) && noLs ds) = true := f
    rw [Bool.and_eq_true] at f
    refine .lst (e.2 _ _ h fun z => ?_) n (anAll_sipN T e s f.2)
    obtain ⟨_, _, _, ht, _⟩ := T
    rw [z, ht] at h
    cases h
    have l := dpAll_len s
    have f1 := f.1
    rw [← l] at f1
    have f1 : ds.all isTupB = true := by simpa using f1
    cases s with
    | cons h1 s => cases h1; exact absurd f1 (by simp [isTupB])
  | non => exact .non
  | bl b => exact .bl b
  | int i => exact .int i
  | str x => exact .str x
  | tup h s => exact an_sipN T e (.tup h s) f
  | dct h => exact an_sipN T e (.dct h) f
/-- groups of a line -/
def okG (d : PyData) : Prop := isTupB d = true ∧ g1B d = true ∧ noL d = true
def ok1 (d : PyData) : Prop := g1B d = true
theorem _root_.Gn.TupOf.imp {K : PySem.W.Frag} {H : Hp} {c : Addr} {n : Nat} {ok ok' : PyData → Prop} (h : TupOf K H c n ok) (i : ∀ d, ok d → ok' d) : TupOf K H c n ok' := by
  obtain ⟨xs, ds, h1, h2, h3, h4⟩ := h
  exact ⟨xs, ds, h1, h2, h3, fun d m => i d (h4 d m)⟩
theorem tupOf_sip {K : PySem.W.Frag} {H H' : Hp} {t c : Addr} {n : Nat} (T : Tin H t) (e : Sipped H H' t) (h : TupOf K H c n okG) : TupOf K H' c n okG := by
  obtain ⟨xs, ds, h1, h2, h3, h4⟩ := h
  refine ⟨xs, ds, e.2 _ _ h1 fun z => ?_, anAll_sipN T e h2 (noLs_iff.mpr fun d m => (h4 d m).2.2), h3, h4⟩
  obtain ⟨_, _, _, ht, _⟩ := T
  rw [z, ht] at h1
  cases h1
theorem tupOf_b {K : PySem.W.Frag} {H : Hp} {c : Addr} {n : Nat} (h : TupOf K H c n ok1) (n30 : n ≤ 30) : ∃ ds, An K H (.ref c) (.tuple ds) ∧ bB (.tuple ds) = true := by
  obtain ⟨xs, ds, h1, h2, h3, h4⟩ := h
  refine ⟨ds, .tup h1 h2, ?_⟩
  show (decide (ds.length ≤ 30) && ds.all g1B) = true
  rw [Bool.and_eq_true]
  exact ⟨decide_eq_true (by omega), List.all_eq_true.mpr h4⟩
def oddD (d0 : PyData) : List PyData := [.tuple [], .tuple [.int 41], .tuple [.int (-1)], .tuple [.bool true], .tuple [.int 3, .int 2], .tuple [.int 2, .int 2], .list [.int 0], .int 0, .none, d0, .tuple [.int 39]]
theorem odd_ok {d0 d : PyData} (h : okG d0) (m : d ∈ oddD d0) : g1B d = true ∧ sipB d = true := by
  unfold oddD at m
  simp only [List.mem_cons, List.mem_nil_iff, or_false] at m
  rcases m with rfl | rfl | rfl | rfl | rfl | rfl | rfl | rfl | rfl | rfl | rfl
  all_goals first | (exact ⟨by decide +kernel, by decide +kernel⟩) | skip
  refine ⟨h.2.1, ?_⟩
  cases d with
  | tuple es => exact h.2.2
  | _ => exact absurd h.1 (by simp [isTupB])
def tOdd (K : PySem.W.Frag) : TA := tCons (tTup tNil) (tCons (tTup (tCons (tC (.int 41)) tNil)) (tCons (tTup (tCons (tUn (rU fun i => .int (-i)) (tC (.int 1))) tNil)) (tCons (tTup (tCons (tC (.bl true)) tNil)) (tCons (tTup (tCons (tC (.int 3)) (tCons (tC (.int 2)) tNil))) (tCons (tTup (tCons (tC (.int 2)) (tCons (tC (.int 2)) tNil))) (tCons (tLstZ (tCons (tC (.int 0)) tNil)) (tCons (tC (.int 0)) (tCons (tC .non) (tCons (tOp (rIxT K) (tVar 1) (tC (.int 0))) (tCons (tTup (tCons (tC (.int 39)) tNil)) tNil))))))))))
theorem fm_odd {K : PySem.W.Frag} {σ : L2.St} {H : Hp} {r : Addr} {x0 : V} {xs : List V} {d0 : PyData} (hσ : σ[1]? = some (some (.ref r))) (hr : H r = some (.tup (x0 :: xs))) (a0 : An K H x0 d0) : FmD K (tOdd K) σ H (oddD d0) := by
  unfold tOdd oddD
  exact (faA_cons (fa_tup (by decide) faA_nil) (faA_cons (fa_tup (by decide) (faA_cons (fa_c (.int 41)) faA_nil)) (faA_cons (fa_tup (by decide) (faA_cons fa_neg faA_nil)) (faA_cons (fa_tup (by decide) (faA_cons (fa_c (.bl true)) faA_nil)) (faA_cons (fa_tup (by decide) (faA_cons (fa_c (.int 3)) (faA_cons (fa_c (.int 2)) faA_nil))) (faA_cons (fa_tup (by decide) (faA_cons (fa_c (.int 2)) (faA_cons (fa_c (.int 2)) faA_nil))) (faA_cons (fa_lst (by decide) (faA_cons (fa_c (.int 0)) faA_nil)) (faA_cons (fa_c (.int 0)) (faA_cons (fa_c .non)
    (faA_cons (fun H1 e Q q => ⟨_, hσ, r, _, 0, x0, rfl, rfl, SqT.of (e _ _ hr), at_of (j := 0) rfl rfl, q x0 H1 (Same.refl _) (a0.same e)⟩) (faA_cons (fa_tup (by decide) (faA_cons (fa_c (.int 39)) faA_nil)) faA_nil)))))))))))
theorem np {σ : L2.St} {H : Hp} {Q : Option Int → Hp → Prop} (h : Q none H) : tNoPart σ H Q := h
def spBent (K : PySem.W.Frag) : Sp := fun vs H Q _ => ∃ t r, vs = [.ref t, .ref r] ∧ Tin H t ∧ (∃ x0 xs d0 ds, H r = some (.tup (x0 :: xs)) ∧ AnAll K H (x0 :: xs) (d0 :: ds) ∧ ds.length ≤ 7 ∧ ∀ d ∈ d0 :: ds, okG d) ∧ ∀ v d H', bB d = true → An K H' v d → Sipped H H' t → Q v H'
section
variable {P : Program} {w : World} {K : PySem.W.Frag} {mg : Str → Option Value} {base : Heap}
theorem ok_bent {f fS fP : Addr} {fd fdS fdP : FuncData} (F : Fun K "_law_bent" "_law_bent" s__law_bent f fd) (B : Bl mg) (li : mg "list" = none) (S : Df K mg "_law_sip" sSip ["_law_tin_here", "_law_top"] fS fdS) (Pk : Df K mg "_law_pick" sPick ["_law_tin_here", "_law_menu"] fP fdP) : FnOk P w K mg base CX0 3 f fd ["_law_tin_here", "_law_line_here"] (spBent K) := by
  have GS : FnOk P w K mg base CX0 1 fS fdS ["_law_tin_here", "_law_top"] spSip := ok_sip S.F B
  have GP : FnOk P w K mg base CX0 2 fP fdP ["_law_tin_here", "_law_menu"] spPick := ok_pick Pk.F B S
  refine F.ok sc__law_bent (fun vs H Q E h => ?_) (fun cdv A outer s H vs Q E hr h => ?_)
  · obtain ⟨t, r, rfl, _⟩ := h
    rfl
  · obtain ⟨t, r, rfl, T0, ⟨x0, xs, d0, ds, hr0, al0, l7, ok0⟩, k⟩ := h
    have hr1 : Room 1 _ := hr.mono (by decide)
    refine ⟨_, pss_cons (ps_par (i := 2) (j := 3) (by rfl) sc__law_bent.nd rfl rfl (by decide) rfl rfl (pa_cons (pe_call GS hr1 (by rfl) S.g S.F.kp S.b .nil pass0 (pa_cons (pv 0) (pa_cons pe_int pa_nil))) (pa_cons (pe_call GS hr1 (by rfl) S.g S.F.kp S.b .nil pass0 (pa_cons (pv 0) (pa_cons (pe_callB (call_len_seq) (by rfl) B.len (by decide +kernel) (pa_cons (pv 1) pa_nil)) pa_nil))) pa_nil)) (by rfl)) (pss_cons (ps_if (pt_cmpR op_lt (pv 2) pe_int (nomark _)) (pss_cons (ps_set (i := 4) sc__law_bent.nd rfl (.inl rfl) (pe_lst (t := tOdd K) (by unfold tOdd; exact (pa_cons (pe_tup pa_nil) (pa_cons (pe_tup (pa_cons pe_int pa_nil)) (pa_cons (pe_tup (pa_cons (pe_un un_neg pe_int) pa_nil)) (pa_cons (pe_tup (pa_cons pe_bl pa_nil)) (pa_cons (pe_tup (pa_cons pe_int (pa_cons pe_int pa_nil))) (pa_cons (pe_tup (pa_cons pe_int (pa_cons pe_int pa_nil))) (pa_cons (pe_lstZ (pa_cons pe_int pa_nil)) (pa_cons pe_int (pa_cons pe_non (pa_cons (pe_ix ix_tup (pv 1) pe_int (fun _ _ => rfl)) (pa_cons (pe_tup (pa_cons pe_int pa_nil)) pa_nil)))))))))))))) (pss_one (ps_ret (pe_op op_catA (pe_op op_catA (pe_slice sl_tupA (pv 1) po_none (po_some (pv 3))) (pe_tup (pa_cons (pe_call GP hr (by rfl) Pk.g Pk.F.kp Pk.b .nil pass0 (pa_cons (pv 0) (pa_cons (pv 4) pa_nil))) pa_nil))) (pe_slice sl_tupA (pv 1) (po_some (pe_op op_add (pv 3) pe_int)) po_none))))) pss_nil) (pss_cons (ps_if (pt_cmpR op_eq (pv 2) pe_int (nomark _)) (pss_one (ps_ret (pe_op op_catA (pe_slice sl_tupA (pv 1) po_none (po_some (pv 3))) (pe_slice sl_tupA (pv 1) (po_some (pe_op op_add (pv 3) pe_int)) po_none)))) pss_nil) (pss_one (ps_ret (pe_ifExp (pt_cmpR op_eq (pv 2) pe_int (nomark _)) (pe_call GP hr (by rfl) Pk.g Pk.F.kp Pk.b .nil pass0 (pa_cons (pv 0) (pa_cons (pe_lst (pa_cons (pe_callTy call_list_ofZ (by rfl) li (by decide +kernel) (pa_cons (pv 1) pa_nil)) (pa_cons (pe_tup pa_nil) (pa_cons pe_non (pa_cons (pe_op op_catA (pe_slice sl_tupA (pv 1) (po_some pe_int) po_none) (pe_slice sl_tupA (pv 1) po_none (po_some pe_int))) (pa_cons (pe_ix ix_tup (pv 1) pe_int (fun _ _ => rfl)) (pa_cons (pe_turn (pv 1)) pa_nil))))))) pa_nil))) (pv 1)))))), ?_⟩
    have ok1G : ∀ d, okG d → ok1 d := fun d h => h.2.1
    have line : ∀ {G : Hp}, Sipped H G t → TupOf K G r 8 okG := fun s => tupOf_sip T0 s ⟨_, _, hr0, al0, by show ds.length + 1 ≤ 8; omega, ok0⟩
    have atr : ∀ {G : Hp}, Sipped H G t → G r = some (.tup (x0 :: xs)) := fun s => s.2 _ _ hr0 fun z => by
      obtain ⟨_, _, _, ht, _⟩ := T0
      rw [z, ht] at hr0
      cases hr0
    have a0 : ∀ {G : Hp}, Sipped H G t → An K G x0 d0 := fun s => by
      cases al0 with
      | cons h _ => exact an_sipN T0 s h (ok0 d0 List.mem_cons_self).2.2
    refine ⟨_, rfl, t, 8, rfl, T0, by decide, by decide, fun way H1 w0 w1 s1 => ?_⟩
    refine ⟨_, rfl, _, rfl, r, _, rfl, .inr (SqT.of (atr s1)), t, _, rfl, s1.1, by show (0 : Int) < ((xs.length + 1 : Nat) : Int); omega, ?_, fun at0 H2 p0 p1 s2 => ?_⟩
    · have := dpAll_len al0
      have e : (2 : Nat) ^ 100 > 1000 := by decide
      show (((x0 :: xs).length : Nat) : Int).natAbs < 2 ^ 100
      rw [this]
      show ((ds.length + 1 : Nat) : Int).natAbs < 2 ^ 100
      omega
    have S2 := s1.trans s2
    refine ⟨_, _, rfl, nxI ⟨_, rfl, _, _, rfl, rfl, _, rfl, ?_⟩⟩
    refine ite2 (fun hc => ?_) (fun hc => nxI ⟨_, rfl, rfl, _, rfl, ite2 (fun hc2 => ?_) (fun hc2 => nxI ⟨_, rfl, rfl, _, rfl, ite2 (fun hc3 => ?_) (fun hc3 => ?_)⟩)⟩)
    · unfold tSeq tAsg
      have fm := fm_lst (lastsAll_A) (by rw [List.length_map]; exact (by decide : 11 ≤ 1000)) (FmD.fm (fm_odd (K := K) (σ := (List.set (start ["_law_tin_here", "_law_line_here", "_law_way", "_law_at", "_law_odd"] [V.ref t, V.ref r]) 2 (some (V.int way))).set 3 (some (V.int at0))) rfl (atr S2) (a0 S2)))
      refine fm H2 (Same.refl _) _ fun v1 H3 e3 l1 => ?_
      unfold gName
      obtain ⟨m, vs, rfl, hm, af⟩ := l1
      have al : AnAll K H3 vs (oddD d0) := allF_A af
      have lv : vs.length = 11 := (dpAll_len al).trans (by unfold oddD; rfl)
      have S3 := S2.trans (Sipped.ofSame S2.1 e3)
      have mt : m ≠ t := fun z => by
        obtain ⟨_, _, _, ht, _⟩ := S3.1
        rw [z, ht] at hm
        cases hm
        cases lv
      refine nxI ⟨_, rfl, _, rfl, _, rfl, sl_any (line S3) fun c1 H4 s4 T4 => ?_⟩
      have S4 := S3.trans (Sipped.ofSame S3.1 s4)
      refine ⟨_, rfl, _, rfl, t, m, vs, rfl, S4.1, s4 _ _ hm, mt, by omega, by omega, fun x H5 hx s5 => ?_⟩
      have S5 := S4.trans s5
      obtain ⟨i, hi⟩ := List.getElem?_of_mem hx
      obtain ⟨dx, hdx, anx⟩ := anAll_get (al.same s4) hi
      obtain ⟨g1x, sbx⟩ := odd_ok (ok0 d0 List.mem_cons_self) (List.mem_of_getElem? hdx)
      have anx5 := an_sipB S4.1 s5 anx sbx
      refine ⟨(by show 1 ≤ sizeLine; decide), fun p np0 => ?_⟩
      have s6 := same_put (o := HO.tup [x]) np0
      have T6 : TupOf K (upd H5 p (HO.tup [x])) p 1 ok1 := ⟨[x], [dx], upd_same, .cons (anx5.same s6) .nil, Nat.le_refl _, fun d m => by rw [List.mem_singleton.mp m]; exact g1x⟩
      refine cat_any (((tupOf_sip S4.1 s5 T4).same s6).imp ok1G) T6 (by decide) fun c2 H7 s7 T7 => ?_
      have S7 := S5.trans (Sipped.ofSame S5.1 (s6.trans s7))
      refine ⟨_, rfl, _, rfl, _, _, rfl, rfl, _, rfl, np (sl_any (line S7) fun c3 H8 s8 T8 => ?_)⟩
      refine cat_any (T7.same s8) (T8.imp ok1G) (by decide) fun c4 H9 s9 T9 => ?_
      obtain ⟨es, an, hb⟩ := tupOf_b T9 (by decide)
      exact k _ _ _ hb an (S7.trans (Sipped.ofSame S7.1 (s8.trans s9)))
    · refine ⟨_, rfl, _, rfl, _, rfl, sl_any (line S2) fun c1 H3 s3 T3 => ?_⟩
      refine ⟨_, rfl, _, rfl, _, _, rfl, rfl, _, rfl, np (sl_any ((line S2).same s3) fun c2 H4 s4 T4 => ?_)⟩
      refine cat_any (T3.same s4) T4 (by decide) fun c5 H5 s5 T5 => ?_
      obtain ⟨es, an, hb⟩ := tupOf_b (T5.imp ok1G) (by decide)
      exact k _ _ _ hb an (S2.trans (Sipped.ofSame S2.1 ((s3.trans s4).trans s5)))
    · refine ⟨_, rfl, _, rfl, r, _, rfl, .inr (SqT.of (atr S2)), fun q1 n1 z1 => ?_⟩
      have e1 := same_put (o := HO.lst (x0 :: xs)) n1
      have g1 : upd H2 q1 (HO.lst (x0 :: xs)) q1 = some (.lst (x0 :: xs)) := upd_same
      generalize upd H2 q1 (HO.lst (x0 :: xs)) = H3 at *
      have S3 := S2.trans (Sipped.ofSame S2.1 e1)
      refine ⟨(by show 0 ≤ sizeLine; decide), fun q2 n2 => ?_⟩
      have e2 := same_put (o := HO.tup []) n2
      have g2 : upd H3 q2 (HO.tup []) q2 = some (.tup []) := upd_same
      generalize upd H3 q2 (HO.tup []) = H4 at *
      have S4 := S3.trans (Sipped.ofSame S3.1 e2)
      refine ⟨_, rfl, 1, rfl, np (sl_any (line S4) fun c1 H5 e3 T5 => ?_)⟩
      have S5 := S4.trans (Sipped.ofSame S4.1 e3)
      refine ⟨_, rfl, 1, rfl, sl_any (line S5) fun c2 H6 e4 T6 => ?_⟩
      refine cat_any (T5.same e4) T6 (by decide) fun c3 H7 e5 T7 => ?_
      have S7 := S5.trans (Sipped.ofSame S5.1 (e4.trans e5))
      refine ⟨_, rfl, r, _, 0, x0, rfl, rfl, SqT.of (atr S7), at_of (j := 0) rfl rfl, ?_⟩
      refine ⟨_, rfl, r, _, rfl, SqT.of (atr S7), fun q6 n6 => ?_⟩
      have e6 := same_put (o := HO.tup (x0 :: xs).reverse) n6
      have g6 : upd H7 q6 (HO.tup (x0 :: xs).reverse) q6 = some (.tup (x0 :: xs).reverse) := upd_same
      generalize upd H7 q6 (HO.tup (x0 :: xs).reverse) = H8 at *
      refine ⟨(by show 6 ≤ sizeLine; decide), fun m hm => ?_⟩
      have e7 := same_put (o := HO.lst [V.ref q1, V.ref q2, V.non, V.ref c3, x0, V.ref q6]) hm
      have g7 : upd H8 m (HO.lst [V.ref q1, V.ref q2, V.non, V.ref c3, x0, V.ref q6]) m = some (.lst [V.ref q1, V.ref q2, V.non, V.ref c3, x0, V.ref q6]) := upd_same
      have mt0 : m ≠ t := (S7.trans (Sipped.ofSame S7.1 e6)).1.not hm
      generalize upd H8 m (HO.lst [V.ref q1, V.ref q2, V.non, V.ref c3, x0, V.ref q6]) = H9 at *
      have S9 := S7.trans (Sipped.ofSame S7.1 (e6.trans e7))
      refine ⟨t, m, _, rfl, S9.1, g7, mt0, by show 0 < 6; decide, by show 6 ≤ 1000; decide, fun x H10 hx s10 => ?_⟩
      have S10 := S9.trans s10
      have E39 : Same H3 H9 := (((e2.trans (e3.trans (e4.trans e5))).trans e6).trans e7)
      have al9 : ∀ {G : Hp}, Sipped H G t → AnAll K G (x0 :: xs) (d0 :: ds) := fun s => anAll_sipN T0 s al0 (noLs_iff.mpr fun d m => (ok0 d m).2.2)
      have okS : ∀ d ∈ d0 :: ds, sipB d = true := fun d m => by
        have o := ok0 d m
        cases d with
        | tuple es => exact o.2.2
        | _ => exact absurd o.1 (by simp [isTupB])
      have nol : noLs (d0 :: ds) = true := noLs_iff.mpr fun d m => (ok0 d m).2.2
      have b9 : ∀ es : List PyData, es.length ≤ 8 → (∀ d ∈ es, okG d) → bB (.tuple es) = true := fun es l h => by
        show (decide (es.length ≤ 30) && es.all g1B) = true
        rw [Bool.and_eq_true]
        exact ⟨decide_eq_true (by omega), List.all_eq_true.mpr fun d m => (h d m).2.1⟩
      obtain ⟨dx, anx, bx, sx⟩ : ∃ dx, An K H9 x dx ∧ bB dx = true ∧ sipB dx = true := by
        simp only [List.mem_cons, List.mem_nil_iff, or_false] at hx
        rcases hx with rfl | rfl | rfl | rfl | rfl | rfl
        · refine ⟨.list (d0 :: ds), .lst (E39 _ _ g1) z1 (al9 S9), ?_, ?_⟩
          · show (decide ((d0 :: ds).length ≤ 30) && (d0 :: ds).all (fun d => isTupB d && g1B d)) = true
            rw [Bool.and_eq_true]
            exact ⟨decide_eq_true (by show ds.length + 1 ≤ 30; omega), List.all_eq_true.mpr fun d m => by rw [(ok0 d m).1, (ok0 d m).2.1]; rfl⟩
          · show (((d0 :: ds).length != 3 || (d0 :: ds).all isTupB) && noLs (d0 :: ds)) = true
            have z : (d0 :: ds).all isTupB = true := List.all_eq_true.mpr fun d m => (ok0 d m).1
            rw [z, Bool.or_true, Bool.true_and]
            exact nol
        · exact ⟨.tuple [], .tup ((((e3.trans (e4.trans e5)).trans e6).trans e7) _ _ g2) .nil, rfl, rfl⟩
        · exact ⟨.none, .non, rfl, rfl⟩
        · obtain ⟨ys, es, h1, h2, h3, h4⟩ := T7.same (e6.trans e7)
          exact ⟨.tuple es, .tup h1 h2, by
            show (decide (es.length ≤ 30) && es.all g1B) = true
            rw [Bool.and_eq_true]
            exact ⟨decide_eq_true (by omega), List.all_eq_true.mpr fun d m => (h4 d m).2.1⟩, noLs_iff.mpr fun d m => (h4 d m).2.2⟩
        · refine ⟨d0, a0 S9, ?_, okS d0 List.mem_cons_self⟩
          have o := ok0 d0 List.mem_cons_self
          cases d0 with
          | tuple es =>
            have h : (decide (es.length ≤ 9) && es.all atomB) = true := o.2.1
            rw [Bool.and_eq_true] at h
            show (decide (es.length ≤ 30) && es.all g1B) = true
            rw [Bool.and_eq_true]
            refine ⟨decide_eq_true (by have := of_decide_eq_true h.1; omega), List.all_eq_true.mpr fun d m => ?_⟩
            have z := List.all_eq_true.mp h.2 d m
            cases d <;> first | exact z | cases z
          | _ => exact absurd o.1 (by simp [isTupB])
        · refine ⟨.tuple (d0 :: ds).reverse, .tup (e7 _ _ g6) (anAll_rev (al9 S9)), b9 _ (by rw [List.length_reverse]; show ds.length + 1 ≤ 8; omega) fun d m => ok0 d (List.mem_reverse.mp m), noLs_iff.mpr fun d m => (ok0 d (List.mem_reverse.mp m)).2.2⟩
      exact k _ _ _ bx (an_sipB S9.1 s10 anx sx) S10
    · obtain ⟨es, an, hb⟩ := tupOf_b ((line S2).imp ok1G) (by decide)
      exact ⟨_, rfl, k _ _ _ hb an S2⟩
end
end My
set_option Elab.async false
set_option linter.all false
set_option maxRecDepth 100000
set_option maxHeartbeats 8000000
set_option exponentiation.threshold 4000
namespace My
open PySem PySem.Spec PyProof.Rows L2 Gn Mt
abbrev s__law_right : Stmt := top 90
/-! a turn of the law -/
abbrev NR : List Str := ["_law_tin_here", "_law_turn", "_law_wrong_here", "_law_dues", "_law_together", "_law_marks", "_law_group", "_law_found", "_law_many", "_law_thing", "_law_k", "_law_j", "_law_each"]
theorem sc__law_right : FnScope NR ["_law_tin_here"] (defScope s__law_right) := ⟨rfl, rfl, rfl, by decide +kernel, rfl, by decide +kernel, by decide +kernel⟩
def qR : Str := (envOfC "_law_right" (defScope s__law_right) 0 0 .none).qual ++ "<lambda>"
theorem tabQ_sip {H H' : Hp} {t P : Addr} {q : Str} (T : LamX.TabS H P q) (hT : Tin H t) (s : Sipped H H' t) : LamX.TabS H' P q := by
  obtain ⟨ps, h1, h2, h3⟩ := T
  obtain ⟨a, b, c, hl, _⟩ := hT
  refine ⟨ps, s.2 _ _ h1 (fun z => by rw [z, hl] at h1; cases h1), h2, fun pos cv hc => ?_⟩
  obtain ⟨c0, e1, e2⟩ := h3 pos cv hc
  exact ⟨c0, e1, s.2 _ _ e2 (fun z => by rw [z, hl] at e2; unfold LamX.CodeO at e2; cases e2)⟩
/-- it drew from its tin and made new things; tables may grow -/
structure Stq (T : List (Addr × Str)) (H H' : Hp) (t : Addr) : Prop where
  tin : Tin H' t
  keep : ∀ b o, H b = some o → b ≠ t → (∀ ps, o ≠ .tbl ps) → H' b = some o
  tab : LamX.Tabs T H'
section
variable {T : List (Addr × Str)} {H H' H1 H2 : Hp} {t : Addr}
theorem Stq.refl (hT : Tin H t) (hB : LamX.Tabs T H) : Stq T H H t := ⟨hT, fun _ _ e _ _ => e, hB⟩
theorem sipped_same (hT : Tin H t) (s : Same H H1) : Sipped H H1 t := Sipped.ofSame hT s
theorem Stq.drawn (a : Stq T H H1 t) (s : Sipped H1 H2 t) : Stq T H H2 t :=
  ⟨s.1, fun b o e n x => s.2 _ _ (a.keep b o e n x) n, fun p hp => tabQ_sip (a.tab p hp) a.tin s⟩
theorem Stq.same (a : Stq T H H1 t) (s : Same H1 H2) : Stq T H H2 t := a.drawn (Sipped.ofSame a.tin s)
theorem Stq.ext (a : Stq T H H1 t) (e : LamX.ExtN H1 H2) (hB : LamX.Tabs T H2) : Stq T H H2 t := by
  refine ⟨?_, fun b o z n x => e b o (a.keep b o z n x) x, hB⟩
  obtain ⟨u, v, c, hl, r⟩ := a.tin
  exact ⟨u, v, c, e _ _ hl (fun ps z => by cases z), r⟩
theorem Stq.trans (a : Stq T H H1 t) (b : Stq T H1 H2 t) : Stq T H H2 t := ⟨b.tin, fun c o e n x => b.keep c o (a.keep c o e n x) n x, b.tab⟩
/-- a list that it made since grows -/
theorem Stq.put {G0 G : Hp} {l : Addr} {xs ys : List V} (n : G0 l = none) (nt : l ≠ t) (b : Stq T G0 G t) (hl : G l = some (.lst xs)) : Stq T G0 (upd G l (.lst ys)) t := by
  refine ⟨?_, fun c o e nt x => ?_, fun p hp => ?_⟩
  · obtain ⟨u, v, w, ht, r⟩ := b.tin
    exact ⟨u, v, w, by rw [upd_ne (Ne.symm nt)]; exact ht, r⟩
  · have ne : c ≠ l := fun z => by rw [z, n] at e; cases e
    rw [upd_ne ne]
    exact b.keep c o e nt x
  · obtain ⟨ps, h1, h2, h3⟩ := b.tab p hp
    have ne : p.1 ≠ l := fun z => by rw [z, hl] at h1; cases h1
    refine ⟨ps, by rw [upd_ne ne]; exact h1, h2, fun pos cv hc => ?_⟩
    obtain ⟨c0, e1, e2⟩ := h3 pos cv hc
    have ne2 : c0 ≠ l := fun z => by rw [z, hl] at e2; unfold LamX.CodeO at e2; cases e2
    exact ⟨c0, e1, by rw [upd_ne ne2]; exact e2⟩
end
mutual
theorem an_ext {K : PySem.W.Frag} {H H' : Hp} (e : LamX.ExtN H H') : ∀ {v : V} {d : PyData}, An K H v d → An K H' v d
  | _, _, .non => .non
  | _, _, .bl b => .bl b
  | _, _, .int i => .int i
  | _, _, .str x => .str x
  | _, _, .lst h n t => .lst (e _ _ h fun ps z => by cases z) n (anAll_ext e t)
  | _, _, .tup h t => .tup (e _ _ h fun ps z => by cases z) (anAll_ext e t)
  | _, _, .dct h => .dct (e _ _ h fun ps z => by cases z)
theorem anAll_ext {K : PySem.W.Frag} {H H' : Hp} (e : LamX.ExtN H H') : ∀ {vs : List V} {ds : List PyData}, AnAll K H vs ds → AnAll K H' vs ds
  | _, _, .nil => .nil
  | _, _, .cons h t => .cons (an_ext e h) (anAll_ext e t)
end
theorem DuesAt.ext {K : PySem.W.Frag} {H H' : Hp} {r : V} {ds : List PyData} (e : LamX.ExtN H H') (h : DuesAt K H r ds) : DuesAt K H' r ds := by
  obtain ⟨p, xs, rfl, h, a⟩ := h
  exact ⟨p, xs, rfl, e _ _ h (fun ps z => by cases z), anAll_ext e a⟩
/-- what is due: lists that are shown -/
def Du (ds : List PyData) : Prop := ∀ e ∈ ds, Shw e ∧ ∃ l, e = .list l
theorem du_app {as bs : List PyData} (a : Du as) (b : Du bs) : Du (as ++ bs) := fun e h => (List.mem_append.mp h).elim (a e) (b e)
theorem du_nil : Du [] := fun e h => by cases h
def ordL (w : Option Nat) : PyData := .list [.str "order", ixD w]
theorem shw_pair {wd : Str} {d : PyData} (h1 : Sm 1921 0 (.str wd)) (h2 : Sm 1921 0 d) : Shw (.list [.str wd, d]) := by
  have s := Sm.lst (n := 2) (ds := [.str wd, d]) (fun e m => by
    rcases List.mem_cons.mp m with rfl | m
    · exact h1
    · rw [List.mem_singleton.mp m]; exact h2) (Nat.le_refl _)
  exact ⟨s.sh, Nat.lt_of_le_of_lt s.dp (by decide), Nat.le_trans s.ln (by decide)⟩
theorem sm_order : Sm 1921 0 (.str "order") := ⟨by decide +kernel, by decide +kernel, by decide +kernel, by decide +kernel⟩
theorem sm_number : Sm 1921 0 (.str "number") := ⟨by decide +kernel, by decide +kernel, by decide +kernel, by decide +kernel⟩
theorem sm_ix {w : Option Nat} (h : ∀ j, w = some j → j < 2 ^ 60) : Sm 1921 0 (ixD w) := by
  cases w with
  | none => exact sm_atom (d := .none) rfl
  | some j => exact sm_atom (d := .int (j : Nat)) (decide_eq_true (by have := h j rfl; omega))
/-- what is found: told, or the first that is due -/
def Fnd (K : PySem.W.Frag) (H : Hp) (f : Addr) (ds : List PyData) : Prop := ∃ (wd : Str) (v : V), H f = some (.lst [.str wd, v]) ∧ ((ds = [] ∧ wd = "told") ∨ ∃ d es, ds = .list [.str wd, d] :: es ∧ (∀ G : Hp, An K G v d) ∧ f ≠ sysModules)
theorem Fnd.ext {K : PySem.W.Frag} {H H' : Hp} {f : Addr} {ds : List PyData} (h : Fnd K H f ds) (e : LamX.ExtN H H') : Fnd K H' f ds := by
  obtain ⟨wd, v, h, r⟩ := h
  exact ⟨wd, v, e _ _ h (fun ps z => by cases z), r⟩
theorem Fnd.put {K : PySem.W.Frag} {H : Hp} {f l g : Addr} {xs : List V} {o : HO} {ds : List PyData} (hl : H l = some (.lst (.ref g :: xs))) (h : Fnd K H f ds) : Fnd K (upd H l o) f ds := by
  obtain ⟨wd, v, h, r⟩ := h
  have ne : f ≠ l := fun z => by rw [z, hl] at h; cases h
  exact ⟨wd, v, by rw [upd_ne ne]; exact h, r⟩
theorem ends_ok {K : PySem.W.Frag} {H : Hp} {f : Addr} {u : V} {ds : List PyData} {Q : VK} {E : XK} (F : Fnd K H f ds) (D : DuesAt K H u ds) (du : Du ds) (q : ∀ H', Same H H' → Q (.bl true) H') : spEnds K [.ref f, u] H Q E := by
  obtain ⟨wd, v, h, ⟨rfl, rfl⟩ | ⟨d, es, rfl, an, ne⟩⟩ := F
  · exact ⟨f, u, rfl, .inl ⟨"told", v, D, h, fun H' s => q H' s⟩⟩
  · obtain ⟨sh, ls⟩ := du _ List.mem_cons_self
    refine ⟨f, u, rfl, .inr ⟨_, _, es, D, ls, .lst h ne (.cons (.str _) (.cons (an H) .nil)), sh, sh, fun H' s => ?_⟩⟩
    rw [decide_eq_true rfl]
    exact q H' s
section
variable {K : PySem.W.Frag} {mg : Str → Option Value} {B : Er mg} {H : Hp} {Q Q' : VK} {E' : XK} {T : List (Addr × Str)}
/-- told, or the first that is due raised: what then is found -/
def After (K : PySem.W.Frag) (T : List (Addr × Str)) (H : Hp) (Q : VK) (ds : List PyData) : Prop := ∀ f G, LamX.ExtN H G → LamX.Tabs T G → Fnd K G f ds → Q (.ref f) G
theorem told_after {ds : List PyData} (z : ds = []) (hT : LamX.Tabs T H) (hQ : ∀ v G, TellsAs Q v G → Q' v G) (q : After K T H Q ds) : Told H Q' :=
  fun r H' s => hQ r H' fun f G s2 hf => q f G (LamX.ExtN.of (s.trans s2)) (hT.ext (s.trans s2)) ⟨_, _, hf, .inl ⟨z, rfl⟩⟩
theorem toldT_after {ds : List PyData} (z : ds = []) (hQ : ∀ v G, TellsAs Q v G → Q' v G) (q : After K T H Q ds) : ToldT T H Q' :=
  fun r H' x t => hQ r H' fun f G s2 hf => q f G (x.trans (LamX.ExtN.of s2)) (t.ext s2) ⟨_, _, hf, .inl ⟨z, rfl⟩⟩
theorem thrownI_after {C : Addr} {i0 : Nat} {w : Option Nat} {ds es : List PyData} (hd : Held K B C i0) (fi : fdOf i0 = some "index") (z : ds = PyData.list [.str (wdOf i0), ixD w] :: es) (hT : LamX.Tabs T H) (hE : ∀ C d G, RaisesAs K B Q C d G → E' C d G)
    (q : After K T H Q ds) : ThrownI C (ixV w) H E' := fun y H' s n hy =>
  hE _ _ _ ⟨C, i0, _, rfl, hd, fun y' e => by cases e; exact ⟨_, hy⟩, by unfold FldAt; rw [fi]; exact ⟨y, _, rfl, hy, rfl⟩, fun f G s2 np hf => q f G (LamX.ExtN.of (s.trans s2)) (hT.ext (s.trans s2)) ⟨_, _, hf, .inr ⟨_, es, z, fun G => an_ix w, np⟩⟩⟩
theorem thrown_after {C : Addr} {i0 : Nat} {v : V} {d : PyData} {ds es : List PyData} (hd : Held K B C i0) (fi : fdOf i0 = some "given") (an : ∀ G : Hp, An K G v d) (z : ds = PyData.list [.str (wdOf i0), d] :: es) (hT : LamX.Tabs T H) (hE : ∀ C d G, RaisesAs K B Q C d G → E' C d G)
    (q : After K T H Q ds) : Thrown C v H E' := fun y H' s n hy =>
  hE _ _ _ ⟨C, i0, _, rfl, hd, fun y' e => by cases e; exact ⟨_, hy⟩, by unfold FldAt; rw [fi]; exact ⟨y, _, rfl, hy, rfl⟩, fun f G s2 np hf => q f G (LamX.ExtN.of (s.trans s2)) (hT.ext (s.trans s2)) ⟨_, _, hf, .inr ⟨_, es, z, an, np⟩⟩⟩
end
theorem passN {X : Cx} {E : XK} (tk : L2N.Takes X (fun C d _ G => E C d G)) : Passes (L2N.CX X.prog X.w) X E := fun pins σ H s e s' I c => (L2N.passAt tk σ) pins H s e s' I c
/-! what of an order is due -/
/-- the first of a row's wrongs, as the law lists it -/
def dues1 (d : PyData) : List PyData := (wrongL d).map fun e => .list [.str "order", e]
def duesO (gs : List (List Int)) : List PyData := if ordB gs = true then [] else [ordL none]
def tog : Nat → List (List Int) → List PyData
  | _, [] => []
  | j, g :: gs => if g.length > 1 then ordL (some j) :: tog (j + 1) gs else tog (j + 1) gs
theorem tog_none : ∀ {gs : List (List Int)} {j : Nat}, manyAt j gs = none → tog j gs = []
  | [], _, _ => rfl
  | g :: gs, j, h => by
    rw [manyAt] at h
    rw [tog]
    split at h
    · cases h
    · rename_i c
      rw [if_neg c]
      exact tog_none h
theorem tog_some : ∀ {gs : List (List Int)} {j k : Nat}, manyAt j gs = some k → ∃ es, tog j gs = ordL (some k) :: es
  | [], _, _, h => by cases h
  | g :: gs, j, k, h => by
    rw [manyAt] at h
    rw [tog]
    split at h
    · rename_i c
      cases h
      rw [if_pos c]
      exact ⟨_, rfl⟩
    · rename_i c
      rw [if_neg c]
      exact tog_some h
theorem du_tog : ∀ {gs : List (List Int)} {j : Nat}, j + gs.length < 1000 → Du (tog j gs)
  | [], _, _ => du_nil
  | g :: gs, j, h => by
    rw [List.length_cons] at h
    rw [tog]
    have ih := du_tog (gs := gs) (j := j + 1) (by omega)
    split
    · intro e m
      rcases List.mem_cons.mp m with rfl | m
      · exact ⟨shw_pair sm_order (sm_ix fun k e => by cases e; exact Nat.lt_of_lt_of_le (show j < 1000 by omega) (by decide)), _, rfl⟩
      · exact ih e m
    · exact ih
theorem du_o (gs : List (List Int)) : Du (duesO gs) := by
  unfold duesO
  split
  · exact du_nil
  · intro e m
    rw [List.mem_singleton.mp m]
    exact ⟨shw_pair sm_order (sm_ix fun k e => by cases e), _, rfl⟩
theorem scan_lt : ∀ {ds : List PyData} {met : List Int} {j k : Nat}, scanW met j ds = some k → k < j + ds.length
  | [], _, _, _, h => by cases h
  | d :: ds, met, j, k, h => by
    rw [scanW] at h
    rw [List.length_cons]
    split at h
    · have := scan_lt h; omega
    · cases h; omega
theorem wrong_lt {d : PyData} {w : Option Nat} (hb : bB d = true) (h : rowW d = some w) : ∀ j, w = some j → j < 2 ^ 60 := fun j e => by
  subst e
  cases d with
  | tuple ds =>
    have l := b_len hb
    have h : (if ds.isEmpty = true then some none else (scanW [] 0 ds).map some) = some (some j) := h
    split at h
    · cases h
    · obtain ⟨k, hk, e⟩ := Option.map_eq_some_iff.mp h
      cases e
      have := scan_lt hk
      exact Nat.lt_of_lt_of_le (show j < 31 by omega) (by decide)
  | _ => cases h
theorem du_1 {d : PyData} (hb : bB d = true) : Du (dues1 d) := fun e m => by
  unfold dues1 wrongL at m
  cases h : rowW d with
  | none => rw [h] at m; cases m
  | some w =>
    rw [h] at m
    rw [List.mem_singleton.mp m]
    exact ⟨shw_pair sm_order (sm_ix (wrong_lt hb h)), _, rfl⟩
theorem dues1_some {d : PyData} {w : Option Nat} (h : rowW d = some w) : dues1 d = [.list [.str "order", ixD w]] := by unfold dues1 wrongL; rw [h]; rfl
theorem dues1_none {d : PyData} (h : rowW d = none) : dues1 d = [] := by unfold dues1 wrongL; rw [h]; rfl
/-- what is due of an order -/
def duesR (d : PyData) (gs : List (List Int)) : List PyData := match rowW d with
  | some _ => dues1 d
  | none => duesO gs
def togR (d : PyData) (gs : List (List Int)) : List PyData := match rowW d with
  | some _ => []
  | none => tog 0 gs
section
variable {K : PySem.W.Frag} {mg : Str → Option Value} {B : Er mg} {H : Hp} {Q Q' : VK} {E' : XK} {T : List (Addr × Str)} {v : V} {d : PyData}
theorem try_some {C : Addr} (h : Held K B C 8) (an : An K H v d) (hb : bB d = true) (hT : LamX.Tabs T H) (hE : ∀ C d G, RaisesAs K B Q C d G → E' C d G) (hQ : ∀ v G, TellsAs Q v G → Q' v G) (q : After K T H Q (dues1 d)) : spSomeC K C T [v] H Q' E' :=
  ⟨v, d, rfl, an, sz_b hb, hT, fun w z => thrownI_after h rfl (dues1_some z) hT hE q, fun z => toldT_after (dues1_none z) hQ q⟩
theorem duesR_some {gs : List (List Int)} {w : Option Nat} (h : rowW d = some w) : duesR d gs = dues1 d := by unfold duesR; rw [h]
theorem duesR_none {gs : List (List Int)} (h : rowW d = none) : duesR d gs = duesO gs := by unfold duesR; rw [h]
theorem togR_some {gs : List (List Int)} {w : Option Nat} (h : rowW d = some w) : togR d gs = [] := by unfold togR; rw [h]
theorem togR_none {gs : List (List Int)} (h : rowW d = none) : togR d gs = tog 0 gs := by unfold togR; rw [h]
theorem try_of {C : Addr} {gs : List (List Int)} (h : Held K B C 8) (an : An K H v d) (hb : bB d = true) (eg : rowW d = none → d = ordD gs) (hT : LamX.Tabs T H) (hE : ∀ C d G, RaisesAs K B Q C d G → E' C d G) (hQ : ∀ v G, TellsAs Q v G → Q' v G) (q : After K T H Q (duesR d gs)) : spOfC K C T [v] H Q' E' := by
  refine ⟨v, d, rfl, an, sz_b hb, hT, fun w z => thrownI_after h rfl ((duesR_some z).trans (dues1_some z)) hT hE q, fun er gs' e R => ?_⟩
  obtain rfl := ordD_inj ((eg er).symm.trans e)
  rw [duesR_none er] at q
  unfold duesO at q
  refine ⟨fun z => ?_, fun z => ?_⟩
  · rw [z] at q
    exact thrownI_after (w := none) h rfl rfl hT hE q
  · rw [if_pos z] at q
    exact toldT_after rfl hQ q
theorem try_broken {C : Addr} {gs : List (List Int)} (h : Held K B C 8) (an : An K H v d) (hb : bB d = true) (eg : rowW d = none → d = ordD gs) (hT : LamX.Tabs T H) (hE : ∀ C d G, RaisesAs K B Q C d G → E' C d G) (hQ : ∀ v G, TellsAs Q v G → Q' v G) (q : After K T H Q (duesR d gs ++ togR d gs)) : spBrC K C [v] H Q' E' := by
  refine ⟨v, d, rfl, an, sz_b hb, fun w z => thrownI_after (es := []) h rfl (by rw [duesR_some z, togR_some z, dues1_some z]; rfl) hT hE q, fun er gs' e R => ?_⟩
  obtain rfl := ordD_inj ((eg er).symm.trans e)
  rw [duesR_none er, togR_none er] at q
  unfold duesO at q
  refine ⟨fun z => ?_, fun z => ⟨fun j ej => ?_, fun ej => ?_⟩⟩
  · rw [z] at q
    exact thrownI_after (w := none) h rfl rfl hT hE q
  · rw [if_pos z] at q
    obtain ⟨es, et⟩ := tog_some ej
    exact thrownI_after (w := some j) h rfl et hT hE q
  · rw [if_pos z] at q
    exact told_after (tog_none ej) hT hQ q
theorem try_num {C : Addr} {most : Int} {ok : PyData → Prop} (h : Held K B C 1) (an : ∀ G : Hp, An K G v d) (ho : isNum d 1 most = true → ok d) (hT : LamX.Tabs T H) (hE : ∀ C d G, RaisesAs K B Q C d G → E' C d G) (hQ : ∀ v G, TellsAs Q v G → Q' v G) (q : After K T H Q (dueD "number" d (isNum d 1 most))) : spNumC K C most ok [v] H Q' E' :=
  ⟨v, d, rfl, an H, fun z => thrown_after (es := []) h rfl an (by unfold dueD; rw [z]; rfl) hT hE q, fun z => ⟨ho z, told_after (by unfold dueD; rw [z]; rfl) hT hQ q⟩⟩
end
end My
set_option Elab.async false
set_option linter.all false
set_option maxRecDepth 100000
set_option maxHeartbeats 8000000
set_option exponentiation.threshold 4000
namespace My
open PySem PySem.Spec PyProof.Rows L2 Gn Mt
/-! the turn itself -/
/-- what the law asks of the module -/
structure La (P : Program) (w : World) (K : PySem.W.Frag) (mg : Str → Option Value) (base : Heap) where
  no : No P w K mg base
  er : Er mg
  hO : Held K er no.o.CO 8
  hN : Held K er no.CN 1
  bl : Bl mg
  bi : Bi mg
  bw : Bw mg
  rp : mg "repr" = none
  all : mg "all" = none
  f_ss : Addr × FuncData
  ss : Df K mg "steps_of_some" s_steps_of_some ["row"] f_ss.1 f_ss.2
  f_so : Addr × FuncData
  so : Df K mg "steps_of" s_steps_of ["row"] f_so.1 f_so.2
  f_br : Addr × FuncData
  br : Df K mg "broken_at" s_broken_at ["row"] f_br.1 f_br.2
  f_mb : Addr × FuncData
  mb : Df K mg "mark_behind" s_mark_behind ["mark", "many", "first", "last"] f_mb.1 f_mb.2
  f_hm : Addr × FuncData
  hm : Df K mg "how_many_orders" s_how_many_orders ["count"] f_hm.1 f_hm.2
  f_al : Addr × FuncData
  al : Df K mg "all_orders" s_all_orders ["count"] f_al.1 f_al.2
  f_ls : Addr × FuncData
  ls : Df K mg "_law_sip" sSip ["_law_tin_here", "_law_top"] f_ls.1 f_ls.2
  f_lp : Addr × FuncData
  lp : Df K mg "_law_pick" sPick ["_law_tin_here", "_law_menu"] f_lp.1 f_lp.2
  f_lf : Addr × FuncData
  lf : Df K mg "_law_far" sFar ["_law_tin_here", "_law_most"] f_lf.1 f_lf.2
  f_lg : Addr × FuncData
  lg : Df K mg "_law_gcd" sGcd ["_law_one", "_law_two"] f_lg.1 f_lg.2
  f_ll : Addr × FuncData
  ll : Df K mg "_law_low" sLow ["_law_top", "_law_bottom"] f_ll.1 f_ll.2
  f_le : Addr × FuncData
  le : Df K mg "_law_step" sStep ["_law_tin_here", "_law_most"] f_le.1 f_le.2
  f_lk : Addr × FuncData
  lk : Df K mg "_law_spot" sSpot ["_law_x", "_law_k"] f_lk.1 f_lk.2
  f_ln : Addr × FuncData
  ln : Df K mg "_law_line" sLine ["_law_x", "_law_marks", "_law_begin"] f_ln.1 f_ln.2
  f_li : Addr × FuncData
  li : Df K mg "_law_is_number" sLNum ["_law_thing", "_law_low_here", "_law_high"] f_li.1 f_li.2
  f_lE : Addr × FuncData
  lE : Df K mg "_law_error" sLError ["_law_act"] f_lE.1 f_lE.2
  f_lC : Addr × FuncData
  lC : Df K mg "_law_class" sLClass ["_law_e"] f_lC.1 f_lC.2
  f_lF : Addr × FuncData
  lF : Df K mg "_law_field" sLField ["_law_e"] f_lF.1 f_lF.2
  f_lX : Addr × FuncData
  lX : Df K mg "_law_ends_right" sLEnds ["_law_found", "_law_dues"] f_lX.1 f_lX.2
  f_ld : Addr × FuncData
  ld : Df K mg "_law_due" sLDue ["_law_word", "_law_thing", "_law_is_good"] f_ld.1 f_ld.2
  f_lw : Addr × FuncData
  lw : Df K mg "_law_wrong" s__law_wrong ["_law_thing"] f_lw.1 f_lw.2
  f_lb : Addr × FuncData
  lb : Df K mg "_law_bent" s__law_bent ["_law_tin_here", "_law_line_here"] f_lb.1 f_lb.2
  sok : KBinds K f_so.2 ["row"] ["row"] kw1 kw1
theorem ok_group {g : List Int} (l : g.length ≤ 8) (h : ∀ m ∈ g, 0 ≤ m ∧ m ≤ 8) : okG (.tuple (g.map PyData.int)) := by
  refine ⟨rfl, ?_, ?_⟩
  · show (decide ((g.map PyData.int).length ≤ 9) && (g.map PyData.int).all atomB) = true
    rw [Bool.and_eq_true, List.length_map]
    refine ⟨decide_eq_true (by omega), List.all_eq_true.mpr fun d m => ?_⟩
    obtain ⟨i, hi, rfl⟩ := List.mem_map.mp m
    have := h i hi
    exact decide_eq_true (Nat.lt_of_lt_of_le (show i.natAbs < 16 by omega) (by decide))
  · unfold noL
    exact noLs_iff.mpr fun d m => by
      obtain ⟨i, hi, rfl⟩ := List.mem_map.mp m
      rfl
theorem tups_an {K : PySem.W.Frag} {H : Hp} : ∀ {rs : List Addr} {gs : List (List Int)}, Tups H rs gs → AnAll K H (rs.map V.ref) (gs.map fun g => PyData.tuple (g.map PyData.int))
  | [], [], _ => .nil
  | _ :: _, g :: _, h => .cons (.tup h.1 (anInts' g)) (tups_an h.2)
  | [], _ :: _, h => h.elim
  | _ :: _, [], h => h.elim
where anInts' {K : PySem.W.Frag} {H : Hp} : ∀ g : List Int, AnAll K H (g.map V.int) (g.map PyData.int)
  | [] => .nil
  | i :: g => .cons (.int i) (anInts' g)
/-- a line as what is bent -/
theorem line_bent {K : PySem.W.Frag} {H : Hp} {r : Addr} {f : Int → Int} {ms : List Int} (h : OrdAt H r (ord f ms)) (ne : ms ≠ []) (l8 : ms.length ≤ 8) (b : ∀ m ∈ ms, 0 ≤ m ∧ m ≤ 8) :
    ∃ x0 xs d0 ds, H r = some (.tup (x0 :: xs)) ∧ AnAll K H (x0 :: xs) (d0 :: ds) ∧ ds.length ≤ 7 ∧ ∀ d ∈ d0 :: ds, okG d := by
  obtain ⟨rs, h1, h2⟩ := h
  have al := tups_an (K := K) h2
  have lr : (ord f ms).length ≤ 8 := by
    unfold ord
    rw [List.length_map]
    have := sortU_len (ms.map f)
    rw [List.length_map] at this
    omega
  have okg : ∀ d ∈ (ord f ms).map (fun g => PyData.tuple (g.map PyData.int)), okG d := fun d m => by
    obtain ⟨g, mg, rfl⟩ := List.mem_map.mp m
    unfold ord at mg
    obtain ⟨u, _, rfl⟩ := List.mem_map.mp mg
    exact ok_group (Nat.le_trans (List.length_filter_le _ _) l8) fun m mm => b m (List.mem_filter.mp mm).1
  have pos : (ord f ms) ≠ [] := fun z => by
    unfold ord at z
    rw [List.map_eq_nil_iff] at z
    obtain ⟨m, r, e⟩ : ∃ m r, ms = m :: r := by
      cases ms with
      | nil => exact absurd rfl ne
      | cons m r => exact ⟨m, r, rfl⟩
    have : f m ∈ sortU (ms.map f) := sortU_mem.mpr (List.mem_map.mpr ⟨m, by rw [e]; exact List.mem_cons_self, rfl⟩)
    rw [z] at this
    cases this
  cases ho : ord f ms with
  | nil => exact absurd ho pos
  | cons g gs =>
    rw [ho] at al okg lr
    cases hrs : rs with
    | nil => rw [hrs] at al; cases al
    | cons q qs =>
      rw [hrs] at al h1
      exact ⟨_, _, _, _, h1, al, by rw [List.length_map]; simp at lr; omega, okg⟩
/-- the lists of what is due last when a list of other ones grows -/
theorem anOrd_put {K : PySem.W.Frag} {H : Hp} {D : Addr} {zs : List V} {o : HO} (hD : H D = some (.lst zs)) (hz : ∀ z ∈ zs, ∃ p, z = .ref p) : ∀ {ys : List V} {ws : List (Option Nat)}, AnAll K H ys (ws.map ordL) → AnAll K (upd H D o) ys (ws.map ordL)
  | _, [], h => by cases h; exact .nil
  | _, w :: ws, h => by
    rw [List.map_cons] at h ⊢
    cases h with
    | cons h t =>
      refine .cons ?_ (anOrd_put hD hz t)
      unfold ordL at h ⊢
      cases h with
      | lst h ne s =>
        rename_i a xs
        have na : a ≠ D := fun z => by
          rw [z, hD] at h
          cases h
          cases s with
          | cons s1 s2 =>
            cases s1
            obtain ⟨p, e⟩ := hz _ List.mem_cons_self
            cases e
        refine .lst (by rw [upd_ne na]; exact h) ne ?_
        cases s with
        | cons s1 s2 => cases s1; cases s2 with
          | cons s3 s4 => cases s4; exact .cons (.str _) (.cons (by cases w <;> (cases s3; first | exact .non | exact .int _)) .nil)
theorem ord_refs {K : PySem.W.Frag} {H : Hp} : ∀ {ys : List V} {ws : List (Option Nat)}, AnAll K H ys (ws.map ordL) → ∀ z ∈ ys, ∃ p, z = .ref p
  | _, [], h, z, m => by cases h; cases m
  | _, w :: ws, h, z, m => by
    rw [List.map_cons] at h
    cases h with
    | cons h t =>
      rcases List.mem_cons.mp m with rfl | m
      · unfold ordL at h
        cases h with
        | lst _ _ _ => exact ⟨_, rfl⟩
      · exact ord_refs t z m
/-- the indices that are listed -/
def togI : Nat → List (List Int) → List (Option Nat)
  | _, [] => []
  | j, g :: gs => if g.length > 1 then some j :: togI (j + 1) gs else togI (j + 1) gs
theorem togI_tog : ∀ (gs : List (List Int)) (j : Nat), (togI j gs).map ordL = tog j gs
  | [], _ => rfl
  | g :: gs, j => by
    rw [togI, tog]
    split
    · rw [List.map_cons, togI_tog gs (j + 1)]
    · exact togI_tog gs (j + 1)
theorem iota_mem' {n : Nat} {v : Int} : v ∈ iota n ↔ 0 ≤ v ∧ v < n := by
  unfold iota
  rw [List.mem_map]
  constructor
  · rintro ⟨i, hi, rfl⟩
    have := List.mem_range.mp hi
    exact ⟨Int.natCast_nonneg i, by show (i : Int) < n; omega⟩
  · rintro ⟨h0, h1⟩
    obtain ⟨i, rfl⟩ := Int.eq_ofNat_of_zero_le h0
    exact ⟨i, List.mem_range.mpr (by omega), rfl⟩
/-- sorted, the first numbers just if none is too great -/
theorem first_ones {l ns : List Int} (p : ns.Perm l) (pw : ns.Pairwise (· ≤ ·)) (nd : l.Nodup) (low : ∀ m ∈ l, 0 ≤ m) : decide (ns = iota l.length) = l.all fun m => decide (m < l.length) := by
  by_cases h : ns = iota l.length
  · rw [decide_eq_true h]
    refine (List.all_eq_true.mpr fun m mm => decide_eq_true ?_).symm
    have := p.mem_iff.mpr mm
    rw [h, iota_mem'] at this
    exact this.2
  · rw [decide_eq_false h]
    cases e : l.all fun m => decide (m < l.length) with
    | false => rfl
    | true =>
      refine absurd ?_ h
      have lt : ∀ m ∈ l, m < l.length := fun m mm => of_decide_eq_true (List.all_eq_true.mp e m mm)
      have nd2 : ns.Nodup := p.nodup_iff.mpr nd
      refine strict_one (le_nodup_lt pw nd2) (iota_pw l.length) fun v => ?_
      rw [iota_mem', p.mem_iff]
      refine ⟨fun m => ⟨low v m, lt v m⟩, fun ⟨k0, k1⟩ => ?_⟩
      by_cases c : v ∈ l
      · exact c
      · have := few_of l.length (l := v :: l) (List.nodup_cons.mpr ⟨c, nd⟩) (fun m mm => by
          rcases List.mem_cons.mp mm with rfl | mm
          · exact ⟨k0, k1⟩
          · exact ⟨low m mm, lt m mm⟩)
        rw [List.length_cons] at this
        omega
def manyD : List PyData := [.int 1, .int 12, .int 13, .int 2000, .int 2001, .int 0, .int (-1), .none, .bool true, .str "3"]
theorem many_ok {d : PyData} (m : d ∈ manyD) : Shw (.list [.str "number", d]) ∧ SeqAt.shaped d = true ∧ flat d = true := by
  unfold manyD at m
  simp only [List.mem_cons, List.mem_nil_iff, or_false] at m
  rcases m with rfl | rfl | rfl | rfl | rfl | rfl | rfl | rfl | rfl | rfl
  all_goals exact ⟨⟨by decide +kernel, by decide +kernel, Nat.le_trans (by decide +kernel : _ ≤ 4000) (by decide)⟩, by decide +kernel, by decide +kernel⟩
theorem many_12 {d : PyData} (m : d ∈ manyD) (h : PyData.eqv d (.int 12) = false) (n : isNum d 1 12 = true) : d = .int 1 := by
  unfold manyD at m
  simp only [List.mem_cons, List.mem_nil_iff, or_false] at m
  rcases m with rfl | rfl | rfl | rfl | rfl | rfl | rfl | rfl | rfl | rfl
  all_goals first | rfl | exact absurd h (by decide) | exact absurd n (by decide)
theorem plain_an {K : PySem.W.Frag} {H : Hp} {v : V} {d : PyData} (h : plain v = some d) : An K H v d := by
  cases v with
  | non => cases h; exact .non
  | bl b => cases h; exact .bl b
  | int i => cases h; exact .int i
  | str x => cases h; exact .str x
  | _ => cases h
theorem mem_plain {K : PySem.W.Frag} {v : V} : ∀ {xs : List V} {ds : List PyData}, xs.map plain = ds.map some → v ∈ xs → ∃ d ∈ ds, ∀ H : Hp, An K H v d
  | x :: xs, [], e, _ => by cases e
  | x :: xs, d :: ds, e, m => by
    rw [List.map_cons, List.map_cons, List.cons.injEq] at e
    rcases List.mem_cons.mp m with rfl | m
    · exact ⟨d, List.mem_cons_self, fun _ => plain_an e.1⟩
    · obtain ⟨d', h1, h2⟩ := mem_plain e.2 m
      exact ⟨d', List.mem_cons_of_mem _ h1, h2⟩
theorem seqK {t r : TS} {D : Ends} {σ : L2.St} {H : Hp} (Φ : L2.St → Hp → Prop) (h : ∀ D' : Ends, (∀ σ' H', Φ σ' H' → D'.nx σ' H') → t D' σ H) (k : ∀ σ' H', Φ σ' H' → r D σ' H') : tSeq t r D σ H := h _ k
def wl (d : PyData) : List (Option Nat) := match rowW d with
  | none => []
  | some w => [w]
theorem wrongL_wl {d : PyData} : wrongL d = (wl d).map ixD := by
  unfold wrongL wl
  cases rowW d <;> rfl
theorem dues1_wl {d : PyData} : dues1 d = (wl d).map ordL := by
  unfold dues1
  rw [wrongL_wl, List.map_map]
  rfl
theorem wl_len {d : PyData} : (wl d).length ≤ 1 := by
  unfold wl
  cases rowW d <;> simp
theorem ix_inv {K : PySem.W.Frag} {H : Hp} {v : V} {w : Option Nat} (h : An K H v (ixD w)) : v = ixV w := by
  cases w with
  | none => cases h; rfl
  | some j => cases h; rfl
/-- one more of these lists in a list of them -/
theorem ord_add {K : PySem.W.Frag} {H : Hp} {D p : Addr} {ys : List V} {ws : List (Option Nat)} {w : Option Nat} (hD : H D = some (.lst ys)) (al : AnAll K H ys (ws.map ordL)) (np : H p = none) (ne : p ≠ sysModules) :
    AnAll K (upd (upd H p (.lst [.str "order", ixV w])) D (.lst (ys ++ [.ref p]))) (ys ++ [.ref p]) ((ws ++ [w]).map ordL) := by
  have s := same_put (o := HO.lst [.str "order", ixV w]) np
  have pD : p ≠ D := (ne_of_none hD np).symm
  rw [List.map_append]
  refine anAll_app (anOrd_put (s _ _ hD) (ord_refs al) (al.same s)) (.cons ?_ .nil)
  exact .lst (by rw [upd_ne pD, upd_same]) ne (.cons (.str _) (.cons (an_ix w) .nil))
theorem sm_ints {q : List Int} (h : ∀ m ∈ q, 0 ≤ m ∧ m ≤ 60) (l : q.length ≤ 60) : SeqAt.shaped (.list (q.map PyData.int)) = true :=
  (Sm.lst (n := 60) (c := 1921) (e := 0) (fun e m => by
    obtain ⟨i, hi, rfl⟩ := List.mem_map.mp m
    have := h i hi
    exact Sm.int (Nat.lt_of_lt_of_le (show i.natAbs < 2 ^ 6 by omega) (Nat.pow_le_pow_right (by decide) (by decide)))) (by rw [List.length_map]; exact l)).shaped (by decide)
theorem rg_iota (n : Nat) : rgV 0 (n : Int) = (iota n).map V.int := by
  unfold rgV iota
  rw [List.map_map, Int.sub_zero, Int.toNat_natCast]
  refine List.map_congr_left fun i _ => ?_
  show V.int (0 + (i : Int)) = V.int (Int.ofNat i)
  rw [Int.zero_add]
  rfl
theorem sqL_ext {K : PySem.W.Frag} {H H' : Hp} {a : Addr} {xs : List V} (h : SqL K H a xs) (e : LamX.ExtN H H') : SqL K H' a xs := by
  rcases h with (h | ⟨o, h⟩) | h
  · exact .inl (.inl (e _ _ h fun ps z => by cases z))
  · exact .inl (.inr ⟨o, e _ _ h fun ps z => by cases z⟩)
  · exact .inr h
theorem dues_cat {K : PySem.W.Frag} {H : Hp} {p : Addr} {xs ys : List V} {as bs : List PyData} (h2 : AnAll K H xs as) (h4 : AnAll K H ys bs) (hp : H p = none) : DuesAt K (upd H p (.lst (xs ++ ys))) (.ref p) (as ++ bs) := by
  have s := same_put (o := HO.lst (xs ++ ys)) hp
  exact ⟨p, _, rfl, upd_same, anAll_app (h2.same s) (h4.same s)⟩
theorem ends_at {K : PySem.W.Frag} {σ : L2.St} {H : Hp} {f u : V} {Q : VK} {E : XK} (h : spEnds K [f, u] H Q E) : tNil σ H (fun xs H2 => spEnds K ((f :: (u :: xs)) ++ []) H2 Q E) := h
theorem len_flat : ∀ {gs : List (List Int)}, (∀ g ∈ gs, 1 ≤ g.length) → gs.length ≤ gs.flatten.length
  | [], _ => Nat.le_refl _
  | g :: gs, h => by
    rw [List.length_cons, List.flatten_cons, List.length_append]
    have := len_flat (gs := gs) fun x m => h x (List.mem_cons_of_mem _ m)
    have := h g List.mem_cons_self
    omega
theorem tog_len : ∀ (gs : List (List Int)) (j : Nat), (tog j gs).length ≤ gs.length
  | [], _ => Nat.le_refl _
  | g :: gs, j => by
    rw [tog, List.length_cons]
    have := tog_len gs (j + 1)
    split
    · rw [List.length_cons]; omega
    · omega
theorem tabs_put {T : List (Addr × Str)} {G : Hp} {D : Addr} {xs : List V} {o : HO} (h : LamX.Tabs T G) (hD : G D = some (.lst xs)) : LamX.Tabs T (upd G D o) := fun p hp => by
  obtain ⟨ps, h1, h2, h3⟩ := h p hp
  have ne : p.1 ≠ D := fun z => by rw [z, hD] at h1; cases h1
  refine ⟨ps, by rw [upd_ne ne]; exact h1, h2, fun pos cv hc => ?_⟩
  obtain ⟨c0, e1, e2⟩ := h3 pos cv hc
  have ne2 : c0 ≠ D := fun z => by rw [z, hD] at e2; unfold LamX.CodeO at e2; cases e2
  exact ⟨c0, e1, by rw [upd_ne ne2]; exact e2⟩
def spRight (TT : List (Addr × Str)) : Sp := fun vs H Q _ => ∃ t, vs = [.ref t] ∧ Tin H t ∧ LamX.Tabs TT H ∧ ∀ H', Stq TT H H' t → Q (.bl true) H'
section
variable {P : Program} {w : World} {K : PySem.W.Frag} {mg : Str → Option Value} {base : Heap}
theorem ok_right {f cc PR : Addr} {fd : FuncData} (F : Fun K "_law_right" "_law_right" s__law_right f fd) (M : La P w K mg base) (ec : fd.code = .ref cc) (TB : LamX.TabB base mg cc PR) (mR : (PR, qR) ∈ M.no.o.s.TT) (one : ∀ q ∈ M.no.o.s.TT, q.1 = PR → q.2 = qR) : FnG P w K mg base CX0 14 f fd ["_law_tin_here"] (spRight M.no.o.s.TT) := by
  have GSo := c_some M.ss.F M.no.o
  have GOf := c_of M.so.F M.no.o
  have GBr := c_broken M.br.F M.no.o M.mb
  have GHm := c_hmo M.hm.F M.no
  have GAl := c_all M.al.F M.no
  have LS : FnOk P w K mg base CX0 1 M.f_ls.1 M.f_ls.2 ["_law_tin_here", "_law_top"] spSip := ok_sip M.ls.F M.bl
  have LP : FnOk P w K mg base CX0 2 M.f_lp.1 M.f_lp.2 ["_law_tin_here", "_law_menu"] spPick := ok_pick M.lp.F M.bl M.ls
  have LE : FnOk P w K mg base CX0 4 M.f_le.1 M.f_le.2 ["_law_tin_here", "_law_most"] spStep := ok_step M.le.F M.bl M.ls M.lp M.lg M.lf M.ll
  have LN : FnOk P w K mg base CX0 2 M.f_ln.1 M.f_ln.2 ["_law_x", "_law_marks", "_law_begin"] (spLine K) := ok_line M.ln.F M.bi M.lk
  have LI : FnOk P w K mg base CX0 1 M.f_li.1 M.f_li.2 ["_law_thing", "_law_low_here", "_law_high"] (spNumA K) := ok_lNum M.li.F M.no.bo.c
  have LW : FnOk P w K mg base CX0 6 M.f_lw.1 M.f_lw.2 ["_law_thing"] (spWrL K) := ok_wrL M.lw.F M.bw M.li
  have LB : FnOk P w K mg base CX0 3 M.f_lb.1 M.f_lb.2 ["_law_tin_here", "_law_line_here"] (spBent K) := ok_bent M.lb.F M.bl M.no.list M.ls M.lp
  have LD : FnOk P w K mg base CX0 1 M.f_ld.1 M.f_ld.2 ["_law_word", "_law_thing", "_law_is_good"] (spDue K) := ok_due M.ld.F
  have LX : FnG P w K mg base CX0 1 M.f_lX.1 M.f_lX.2 ["_law_found", "_law_dues"] (spEnds K) := ok_ends M.lX.F M.rp
  refine funGC F sc__law_right (fun vs H Q E h => ?_) (fun A outer s H vs Q E hg hr h => ?_)
  · obtain ⟨t, rfl, _⟩ := h
    rfl
  · obtain ⟨t, rfl, T0, TT0, q⟩ := h
    have hu := hr.units
    have hr1 : Room 1 _ := hr.mono (by decide)
    have hr2 : Room 2 _ := hr.mono (by decide)
    have hr3 : Room 3 _ := hr.mono (by decide)
    have hr4 : Room 4 _ := hr.mono (by decide)
    have hr6 : Room 6 _ := hr.mono (by decide)
    have hr8 : Room 8 _ := hr.mono (by decide)
    have hl6 : Room (4 + 2) _ := hr.mono (by decide)
    have hl8 : Room (6 + 2) _ := hr.mono (by decide)
    refine ⟨_, pss_cons (ps_for PassesOwn.never rfl (pi_range1 rfl M.no.range (pa_cons pe_int pa_nil)) (pg_name (i := 1) sc__law_right.nd rfl (.inl rfl)) (pss_cons (ps_set (i := 9) sc__law_right.nd rfl (.inr rfl) (pe_call LB hr3 (by rfl) M.lb.g M.lb.F.kp M.lb.b .nil pass0 (pa_cons (pv 0) (pa_cons (pe_call LN hr2 (by rfl) M.ln.g M.ln.F.kp M.ln.b .nil pass0 (pa_cons (pe_call LE hr4 (by rfl) M.le.g M.le.F.kp M.le.b .nil pass0 (pa_cons (pv 0) (pa_cons pe_int pa_nil))) (pa_cons (pe_listRg rfl (by rfl) M.no.list (prg_1 (by rfl) M.no.range (pe_op op_add pe_int (pe_call LS hr1 (by rfl) M.ls.g M.ls.F.kp M.ls.b .nil pass0 (pa_cons (pv 0) (pa_cons pe_int pa_nil)))))) (pa_cons pe_int pa_nil)))) pa_nil)))) (pss_cons (ps_set (i := 2) sc__law_right.nd rfl (.inl rfl) (pe_call LW hr6 (by rfl) M.lw.g M.lw.F.kp M.lw.b .nil pass0 (pa_cons (pv 9) pa_nil))) (pss_cons (ps_set (i := 3) sc__law_right.nd rfl (.inr rfl) (pe_lc (te := tLstZ (tCons (tC (.str "order")) (tCons (tVar 10) tNil))) (own := [("_law_k", 10)]) (g := gName 10) (tt := tYes) rfl sc__law_right.nd (pi_list (pv 2)) (blkOk_by (N := NR) (sc := defScope s__law_right) (by decide +kernel)) (fun _ _ _ _ _ => pg_name (i := 10) sc__law_right.nd rfl (.inl rfl)) (fun _ _ _ _ _ => pts_nil) (fun _ _ _ _ _ => (pe_lstZ (pa_cons pe_str (pa_cons (pv 10) pa_nil)))))) (pss_cons (ps_if (pt_not (pt_val (pe_callG LX hg hr1 (by rfl) M.lX.g M.lX.F.kp M.lX.b .nil pass0 (pa_cons (pe_lamN (T := M.no.o.s.TT) (k := 11) (by rfl) M.lE.g M.lE.F M.lE.F.kp M.lE.b scLError rfl (.inl rfl) (error_gives M.er M.lC M.lF) TB ec mR one hr (LamX.lamS_by (by show LamX.lamSB (defScope s__law_right) _ = true; decide +kernel)) rfl (fun _ _ _ _ _ => rfl) (fun A o s H E f c hr' => (pe_callS GSo hr' (by rfl) M.ss.g M.ss.F.kp M.ss.b (fun σ => L2N.passAt lamN_takes σ) (pa_cons (pv 9) pa_nil)))) (pa_cons (pv 3) pa_nil))))) (pss_one (ps_ret pe_bl)) pss_nil) (pss_cons (ps_set (i := 4) sc__law_right.nd rfl (.inl rfl) (pe_lst pa_nil)) (pss_cons (ps_if (pt_cmpR (op_eqD hu) (pv 2) (pe_lst pa_nil) (nomark _)) (pss_cons (ps_set (i := 5) sc__law_right.nd rfl (.inl rfl) (pe_lst pa_nil)) (pss_cons (ps_for PassesOwn.never rfl (pi_tup (pv 9)) (pg_name (i := 6) sc__law_right.nd rfl (.inl rfl)) (pss_one (ps_set (i := 5) sc__law_right.nd rfl (.inl rfl) (pe_op op_cat (pv 5) (pe_callTy call_list_of (by rfl) M.no.list (by decide +kernel) (pa_cons (pv 6) pa_nil)))))) (pss_cons (ps_if (PW.pt (pw_or (pt_cmpR (op_neD hu) (pe_callB (cr_sorted) (by rfl) M.bi.sorted (by decide +kernel) (pa_cons (pv 5) pa_nil)) (pe_listRg rfl (by rfl) M.no.list (prg_1 (by rfl) M.no.range (pe_callB (call_len_seq) (by rfl) M.bl.len (by decide +kernel) (pa_cons (pv 5) pa_nil)))) (nomark _)) (pw_or1 (pt_cmpR op_ne (pe_ix ix_tup (pe_ix ix_tup (pv 9) pe_int (fun _ _ => rfl)) pe_int (fun _ _ => rfl)) pe_int (nomark _))))) (pss_one (ps_set (i := 3) sc__law_right.nd rfl (.inr rfl) (pe_lst (pa_cons (pe_lstZ (pa_cons pe_str (pa_cons pe_non pa_nil))) pa_nil)))) pss_nil) (pss_one ((ps_setLc (i := 4) (te := tLstZ (tCons (tC (.str "order")) (tCons (tVar 11) tNil))) (own := [("_law_j", 11)]) (g := gName 11) (tt := tTest (tOp (rI0 fun i j => .bl (decide (j < i))) (tCB (fun xs H Q => ∃ p ys, xs = [V.ref p] ∧ (SqL K H p ys ∨ SqT K H p ys) ∧ Q (.int ys.length) H) (tCons (tOp (rIxT K) (tVar 9) (tVar 11)) tNil)) (tC (.int 1)))) rfl sc__law_right.nd rfl rfl (sw_true rfl rfl rfl (by decide +kernel)) (pi_range1 rfl M.no.range (pa_cons (pe_callB (call_len_seq) (by rfl) M.bl.len (by decide +kernel) (pa_cons (pv 9) pa_nil)) pa_nil)) (blkOk_by (N := NR) (sc := defScope s__law_right) (by decide +kernel)) (fun _ _ _ _ _ => pg_name (i := 11) sc__law_right.nd rfl (.inl rfl)) (fun _ _ _ _ _ => pts_one (pt_cmpR op_gt (pe_callB call_len_seq (by rfl) M.bl.len PySem.boot_len (pa_cons (pe_ix ix_tup (pv 9) (pv 11) (fun _ _ => rfl)) pa_nil)) pe_int (nomark _))) (fun _ _ _ _ _ => (pe_lstZ (pa_cons pe_str (pa_cons (pv 11) pa_nil)))))))))) pss_nil) (pss_cons (ps_set (i := 7) sc__law_right.nd rfl (.inl rfl) (pe_lst (pa_cons (pe_lamN (T := M.no.o.s.TT) (k := 11) (by rfl) M.lE.g M.lE.F M.lE.F.kp M.lE.b scLError rfl (.inl rfl) (error_gives M.er M.lC M.lF) TB ec mR one hr (LamX.lamS_by (by show LamX.lamSB (defScope s__law_right) _ = true; decide +kernel)) rfl (fun _ _ _ _ _ => rfl) (fun A o s H E f c hr' => (pe_callS GOf hr' (by rfl) M.so.g M.so.F.kp M.so.b (fun σ => L2N.passAt lamN_takes σ) (pa_cons (pv 9) pa_nil)))) pa_nil))) (pss_cons (ps_expr (pe_bm PySem.F.plainAttrs_list PySem.F.slot_list_append PySem.F.type_list_append mt_append (pv 7) (pa_cons (pe_lamN (T := M.no.o.s.TT) (k := 11) (by rfl) M.lE.g M.lE.F M.lE.F.kp M.lE.b scLError rfl (.inl rfl) (error_gives M.er M.lC M.lF) TB ec mR one hr (LamX.lamS_by (by show LamX.lamSB (defScope s__law_right) _ = true; decide +kernel)) rfl (fun _ _ _ _ _ => rfl) (fun A o s H E f c hr' => (pe_callK0 GOf hr' (by rfl) M.so.g M.so.F.kp M.sok (passN lamN_takes) (pk_cons (pv 9) pk_nil)))) pa_nil))) (pss_cons (ps_if (pt_not (pt_val (pe_callB (cr_all rfl) (by rfl) M.all (by decide +kernel) (pa_cons (pe_lc (te := tCall (spEnds K) [] E0 (tCons (tVar 12) (tCons (tVar 3) tNil))) (own := [("_law_each", 12)]) (g := gName 12) (tt := tYes) rfl sc__law_right.nd (pi_list (pv 7)) (blkOk_by (N := NR) (sc := defScope s__law_right) (by decide +kernel)) (fun _ _ _ _ _ => pg_name (i := 12) sc__law_right.nd rfl (.inl rfl)) (fun _ _ _ _ _ => pts_nil) (fun _ _ _ _ _ => (pe_callG LX hg hr1 (by rfl) M.lX.g M.lX.F.kp M.lX.b .nil pass0 (pa_cons (pv 12) (pa_cons (pv 3) pa_nil))))) pa_nil)))) (pss_one (ps_ret pe_bl)) pss_nil) (pss_cons (ps_if (pt_not (pt_val (pe_callG LX hg hr1 (by rfl) M.lX.g M.lX.F.kp M.lX.b .nil pass0 (pa_cons (pe_lamN (T := M.no.o.s.TT) (k := 6) (by rfl) M.lE.g M.lE.F M.lE.F.kp M.lE.b scLError rfl (.inl rfl) (error_gives M.er M.lC M.lF) TB ec mR one hl8 (LamX.lamS_by (by show LamX.lamSB (defScope s__law_right) _ = true; decide +kernel)) rfl (fun _ _ _ _ _ => rfl) (fun A o s H E f c hr' => (pe_callS GBr hr' (by rfl) M.br.g M.br.F.kp M.br.b (fun σ => L2N.passAt lamN_takes σ) (pa_cons (pv 9) pa_nil)))) (pa_cons (pe_op op_cat (pv 3) (pv 4)) pa_nil))))) (pss_one (ps_ret pe_bl)) pss_nil) (pss_cons (ps_set (i := 8) sc__law_right.nd rfl (.inr rfl) (pe_call LP hr2 (by rfl) M.lp.g M.lp.F.kp M.lp.b .nil pass0 (pa_cons (pv 0) (pa_cons (pe_lst (pa_cons pe_int (pa_cons pe_int (pa_cons pe_int (pa_cons pe_int (pa_cons pe_int (pa_cons pe_int (pa_cons (pe_un un_neg pe_int) (pa_cons pe_non (pa_cons pe_bl (pa_cons pe_str pa_nil))))))))))) pa_nil)))) (pss_cons (ps_if (pt_not (pt_val (pe_callG LX hg hr1 (by rfl) M.lX.g M.lX.F.kp M.lX.b .nil pass0 (pa_cons (pe_lamN (T := M.no.o.s.TT) (k := 4) (by rfl) M.lE.g M.lE.F M.lE.F.kp M.lE.b scLError rfl (.inl rfl) (error_gives M.er M.lC M.lF) TB ec mR one hl6 (LamX.lamS_by (by show LamX.lamSB (defScope s__law_right) _ = true; decide +kernel)) rfl (fun _ _ _ _ _ => rfl) (fun A o s H E f c hr' => (pe_callS GHm hr' (by rfl) M.hm.g M.hm.F.kp M.hm.b (fun σ => L2N.passAt lamN_takes σ) (pa_cons (pv 8) pa_nil)))) (pa_cons (pe_call LD hr1 (by rfl) M.ld.g M.ld.F.kp M.ld.b .nil pass0 (pa_cons pe_str (pa_cons (pv 8) (pa_cons (pe_call LI hr1 (by rfl) M.li.g M.li.F.kp M.li.b .nil pass0 (pa_cons (pv 8) (pa_cons pe_int (pa_cons pe_int pa_nil)))) pa_nil)))) pa_nil))))) (pss_one (ps_ret pe_bl)) pss_nil) (pss_one (ps_if (PW.pt (pw_and (pt_cmpR (op_neD hu) (pv 8) pe_int (nomark _)) (pw_and1 (pt_not (pt_val (pe_callG LX hg hr1 (by rfl) M.lX.g M.lX.F.kp M.lX.b .nil pass0 (pa_cons (pe_lamN (T := M.no.o.s.TT) (k := 6) (by rfl) M.lE.g M.lE.F M.lE.F.kp M.lE.b scLError rfl (.inl rfl) (error_gives M.er M.lC M.lF) TB ec mR one hl8 (LamX.lamS_by (by show LamX.lamSB (defScope s__law_right) _ = true; decide +kernel)) rfl (fun _ _ _ _ _ => rfl) (fun A o s H E f c hr' => (pe_callS GAl hr' (by rfl) M.al.g M.al.F.kp M.al.b (fun σ => L2N.passAt lamN_takes σ) (pa_cons (pv 8) pa_nil)))) (pa_cons (pe_call LD hr1 (by rfl) M.ld.g M.ld.F.kp M.ld.b .nil pass0 (pa_cons pe_str (pa_cons (pv 8) (pa_cons (pe_call LI hr1 (by rfl) M.li.g M.li.F.kp M.li.b .nil pass0 (pa_cons (pv 8) (pa_cons pe_int (pa_cons pe_int pa_nil)))) pa_nil)))) pa_nil)))))))) (pss_one (ps_ret pe_bl)) pss_nil))))))))))))))) (pss_one (ps_ret pe_bl)), ?_⟩
    refine ⟨7, rfl, by decide, by decide, for_range (lo := 0) (n := 7) (fun i σ H' => ∃ a1 a2 a3 a4 a5 a6 a7 a8 a9, σ = [some (.ref t), a1, a2, a3, a4, a5, a6, a7, a8, a9, none, none, none] ∧ Stq M.no.o.s.TT H H' t) ⟨none, none, none, none, none, none, none, none, none, rfl, Stq.refl T0 TT0⟩ ?_ ?_⟩
    · rintro i σ H1 _ ⟨a1, a2, a3, a4, a5, a6, a7, a8, a9, rfl, S1⟩
      -- the thing
      refine ⟨_, rfl, _, rfl, t, 9, rfl, S1.tin, by decide, by decide, fun x y p H2 st le s2 np hp => ?_⟩
      have S2 := S1.drawn s2
      refine ⟨_, rfl, t, 8, rfl, S2.tin, by decide, by decide, fun k8 H3 k0 k1 s3 => ⟨_, _, rfl, rfl, _, rfl, RgOk.of_le (by decide) (by omega) (by decide) (by omega), fun m nm => ?_⟩⟩
      have S3 := S2.drawn s3
      obtain ⟨n, en⟩ := Int.eq_ofNat_of_zero_le (show 0 ≤ 1 + k8 by omega)
      rw [en, rg_iota]
      have n1 : 1 ≤ n ∧ n ≤ 8 := by omega
      have s4 := same_put (o := HO.lst ((iota n).map V.int)) nm
      have gm : upd H3 m (HO.lst ((iota n).map V.int)) m = some (.lst ((iota n).map V.int)) := upd_same
      generalize upd H3 m (HO.lst ((iota n).map V.int)) = H4 at *
      have S4 := S3.same s4
      have pt : p ≠ t := fun z => by
        obtain ⟨_, _, _, ht, _⟩ := S2.tin
        rw [z, ht] at hp
        cases hp
      have hp4 : H4 p = some (.tup [.int x, .int y]) := s4 _ _ (s3.2 _ _ hp pt)
      have yb : y ≤ 9 := le
      have x0 := st.x0
      have xy := st.xy
      have mem : ∀ k ∈ iota n, 0 ≤ k ∧ k ≤ 8 := fun k hk => by
        have := iota_mem'.mp hk
        omega
      refine ⟨p, m, x, y, 0, iota n, iota n, rfl, SqT.of hp4, by omega, Nat.lt_of_lt_of_le (show x.natAbs < 16 by omega) (by decide), SqL.of gm, by rw [iota_len]; omega, (fun k hk => by have := mem k hk; exact Nat.lt_of_lt_of_le (show (k - 0).natAbs < 16 by omega) (by decide)), List.Perm.refl _, (iota_pw n).imp Int.le_of_lt, fun r H5 s5 nr o5 => ?_⟩
      have S5 := S4.same s5
      refine ⟨t, r, rfl, S5.tin, line_bent o5 (fun z => by have := iota_len n; rw [z] at this; simp at this; omega) (by rw [iota_len]; omega) mem, fun v d Hb hb an s6 => ?_⟩
      have Sb := S5.drawn s6
      obtain ⟨gs, eg⟩ : ∃ gs, rowW d = none → d = ordD gs ∧ RowOk gs := by
        cases er : rowW d with
        | none => obtain ⟨gs, e, R⟩ := row_of er; exact ⟨gs, fun _ => ⟨e, R⟩⟩
        | some w => exact ⟨[], fun z => by cases z⟩
      have anX : ∀ {G : Hp}, LamX.ExtN Hb G → An K G v d := fun e => an_ext e an
      clear s2 s3 s4 s5 s6 S1 S2 S3 S4 S5 hp hp4 np nm nr o5 gm
      -- wrong
      refine nxI ⟨_, rfl, v, d, rfl, an, hb, fun rw7 H7 s7 D7 => ?_⟩
      obtain ⟨pw, xw, rfl, hpw, alw⟩ := D7
      have e7 := LamX.ExtN.of s7
      have t7 := Sb.tab.ext s7
      rw [wrongL_wl] at alw
      have lw := dpAll_len alw
      rw [List.length_map] at lw
      have lw1 := wl_len (d := d)
      -- dues
      refine nxI ⟨_, rfl, pw, rfl, ⟨_, SqL.of hpw⟩, fun D nD => ?_⟩
      have s8 := same_put (o := HO.lst []) nD
      refine lc_list (K := K) (a := pw) (xs := xw) (fun j H' => (∃ ys, H' D = some (.lst ys) ∧ ys.length ≤ j ∧ AnAll K H' ys (((wl d).take j).map ordL)) ∧ Same H7 H') ⟨⟨[], upd_same, Nat.le_refl _, .nil⟩, s8⟩ (fun j H' _ ⟨_, e⟩ => SqL.of (e _ _ hpw)) ?_ ?_
      · rintro j z H8 hj ⟨⟨ys, hD, ly, ay⟩, e8⟩
        obtain ⟨dz, hdz, anz⟩ := anAll_get alw hj
        rw [List.getElem?_map] at hdz
        obtain ⟨wz, hwz, rfl⟩ := Option.map_eq_some_iff.mp hdz
        obtain rfl := ix_inv anz
        have jl := (List.getElem?_eq_some_iff.mp hj).1
        refine ⟨rfl, _, rfl, (by show 2 ≤ sizeLine; decide), fun p np ne => ?_⟩
        have s9 := same_put (o := HO.lst [.str "order", ixV wz]) np
        refine ⟨ys, s9 _ _ hD, small1000 (by omega), ⟨ys ++ [.ref p], upd_same, by rw [List.length_append]; exact Nat.succ_le_succ ly, ?_⟩, fun b o e => ?_⟩
        · rw [List.take_add_one, hwz]
          exact ord_add hD ay np ne
        · rw [upd_ne (ne_of_none e nD)]
          exact s9 _ _ (e8 _ _ e)
      rintro H8 ⟨⟨ys, hD, ly, ay⟩, e8⟩
      rw [lw, List.take_length, ← dues1_wl] at ay
      have D8 : DuesAt K H8 (.ref D) (dues1 d) := ⟨D, ys, rfl, hD, ay⟩
      have E8 := e7.trans (LamX.ExtN.of e8)
      have T8 := t7.ext e8
      -- steps_of_some
      refine nxI ⟨T8, fun H9 x9 T9 => ?_⟩
      intro E' Q' hE hQ
      refine ⟨_, rfl, try_some M.hO (anX (E8.trans x9)) hb T9 hE hQ fun f1 H10 x10 T10 F1 => ?_⟩
      have x810 := x9.trans x10
      have E10 := E8.trans x810
      refine ⟨_, rfl, ends_at (ends_ok F1 (D8.ext x810) (du_1 hb) fun H11 s11 => ?_)⟩
      refine ⟨_, rfl, iteF ?_⟩
      have x811 := x810.trans (LamX.ExtN.of s11)
      have T11 := T10.ext s11
      have D11 := D8.ext x811
      have E11 := E8.trans x811
      clear F1 x9 x10 T9 T10 hE hQ
      -- together
      refine nxI ⟨by decide, fun l0 nl0 => ?_⟩
      have s12 := same_put (o := HO.lst []) nl0
      have G12 : DuesAt K (upd H11 l0 (HO.lst [])) (.ref l0) [] := ⟨l0, [], rfl, upd_same, .nil⟩
      have D12 := D11.same s12
      have T12 := T11.ext s12
      have E12 := E11.trans (LamX.ExtN.of s12)
      generalize upd H11 l0 (HO.lst []) = H12 at *
      have hpw12 : H12 pw = some (.lst xw) := (LamX.ExtN.of e8).trans (x811.trans (LamX.ExtN.of s12)) _ _ hpw fun ps z => by cases z
      have alw12 : AnAll K H12 xw ((wl d).map ixD) := anAll_ext ((LamX.ExtN.of e8).trans (x811.trans (LamX.ExtN.of s12))) alw
      refine nxI (seqK (fun σ' H' => ∃ D' l' b5 b6, σ' = [some (.ref t), some (.int (0 + (i : Int))), some (.ref pw), some (.ref D'), some (.ref l'), b5, b6, a7, a8, some v, none, none, none] ∧ LamX.ExtN Hb H' ∧ LamX.Tabs M.no.o.s.TT H' ∧ DuesAt K H' (.ref D') (duesR d gs) ∧ DuesAt K H' (.ref l') (togR d gs)) (fun D' kD => ?_) ?_)
      · refine ⟨_, rfl, (by show 0 ≤ sizeLine; decide), fun z13 n13 => ?_⟩
        have s13 := same_put (o := HO.lst []) n13
        have g13 : upd H12 z13 (HO.lst []) z13 = some (.lst []) := upd_same
        have hpw13 := s13 _ _ hpw12
        have alw13 := alw12.same s13
        have D13 := D12.same s13
        have G13 := G12.same s13
        have T13 := T12.ext s13
        have E13 := E12.trans (LamX.ExtN.of s13)
        generalize upd H12 z13 (HO.lst []) = H13 at *
        have wmem : ∀ w ∈ wl d, rowW d = some w := fun w m => by
          unfold wl at m
          cases er : rowW d with
          | none => rw [er] at m; cases m
          | some w' => rw [er] at m; rw [List.mem_singleton.mp m]
        have fl : flat.flats ((wl d).map ixD) = true := flats_all fun e m => by
          obtain ⟨w, _, rfl⟩ := List.mem_map.mp m
          cases w <;> simp only [ixD, flat]
        have shp : SeqAt.shaped (.list ((wl d).map ixD)) = true := (Sm.lst (n := 1) (c := 1921) (e := 0) (fun e m => by
          obtain ⟨w, mw, rfl⟩ := List.mem_map.mp m
          exact sm_ix (wrong_lt hb (wmem w mw))) (by rw [List.length_map]; exact lw1)).shaped (by decide)
        refine ⟨.list ((wl d).map ixD), .list [], .lst (SqL.of hpw13) (alw13.dp fl), .lst (SqL.of g13) .nil, shp, by decide +kernel, _, rfl, ?_⟩
        have ev : PyData.eqv (.list ((wl d).map ixD)) (.list []) = ((wl d).map ixD).isEmpty := eqvAll_nil _
        rw [ev]
        cases er : rowW d with
        | some w =>
          have ew : wl d = [w] := by unfold wl; rw [er]
          rw [ew]
          exact iteF (kD _ _ ⟨D, l0, a5, a6, rfl, E13, T13, by rw [duesR_some er]; exact D13, by rw [togR_some er]; exact G13⟩)
        | none =>
          have ew : wl d = [] := by unfold wl; rw [er]
          rw [ew]
          obtain ⟨ed, R⟩ := eg er
          have an13 := anX E13
          rw [ed] at an13
          obtain ⟨a, xs, es, rfl, ee, ha, all⟩ := an13.isT rfl
          have ee' := PyData.tuple.inj ee
          subst ee'
          have lx := dpAll_len all
          rw [List.length_map] at lx
          have few := R.few
          have ge1 : ∀ g ∈ gs, 1 ≤ g.length := fun g m => by
            have := R.gne g m
            cases g with
            | nil => exact absurd rfl this
            | cons _ _ => simp
          have lgs : gs.length ≤ 41 := Nat.le_trans (len_flat ge1) few
          refine iteT ⟨by decide, fun m0 nm0 => ?_⟩
          have s14 := same_put (o := HO.lst []) nm0
          have g14 : upd H13 m0 (HO.lst []) m0 = some (.lst []) := upd_same
          generalize upd H13 m0 (HO.lst []) = H14 at *
          have group : ∀ {G : Hp} {j : Nat} {z : V}, Same H13 G → xs[j]? = some z → ∃ g ga, gs[j]? = some g ∧ z = .ref ga ∧ G ga = some (.tup (g.map V.int)) := fun {G j z} sG hj => by
            obtain ⟨pd, hp, anz⟩ := anAll_get (all.same sG) hj
            rw [List.getElem?_map] at hp
            obtain ⟨g, hg, rfl⟩ := Option.map_eq_some_iff.mp hp
            obtain ⟨ga, ys, es2, rfl, ee2, hga, all2⟩ := anz.isT rfl
            have := PyData.tuple.inj ee2
            subst this
            rw [anInts all2] at hga
            exact ⟨g, ga, hg, rfl, hga⟩
          refine nxI ⟨_, rfl, a, rfl, ⟨_, SqT.of (s14 _ _ ha)⟩, for_tup (K := K) (a := a) (xs := xs) (fun j σ H' => ∃ m5 u6, σ = [some (.ref t), some (.int (0 + (i : Int))), some (.ref pw), some (.ref D), some (.ref l0), some (.ref m5), u6, a7, a8, some (.ref a), none, none, none] ∧ H' m5 = some (.lst (((gs.take j).flatten).map V.int)) ∧ Same H14 H')
            ⟨m0, a6, rfl, g14, Same.refl _⟩ (fun j σ H' _ ⟨_, _, _, _, e⟩ => SqT.of (e _ _ (s14 _ _ ha))) ?_ ?_⟩
          · rintro j z σ H15 hj ⟨m5, u6, rfl, hm5, e15⟩
            obtain ⟨g, ga, hg, rfl, hga⟩ := group (s14.trans e15) hj
            have fj : ((gs.take j).flatten).length + g.length ≤ 41 := by
              have e1 : gs = gs.take j ++ (g :: gs.drop (j + 1)) := by
                have l := (List.getElem?_eq_some_iff.mp hg)
                rw [← l.2, List.getElem_cons_drop, List.take_append_drop]
              have e2 := congrArg (fun l => l.flatten.length) e1
              simp only [List.flatten_append, List.flatten_cons, List.length_append] at e2
              omega
            refine ⟨_, rfl, _, rfl, ga, _, rfl, .inr (SqT.of hga), fun l nl => ?_⟩
            have s16 := same_put (o := HO.lst (g.map V.int)) nl
            refine ⟨m5, l, _, _, rfl, rfl, s16 _ _ hm5, upd_same, ?_, fun p np => ?_⟩
            · rw [List.length_map, List.length_map]; exact Nat.le_of_lt (small1000 (by omega))
            · refine ⟨p, _, rfl, ?_, (e15.trans s16).trans (same_put np)⟩
              rw [upd_same, List.take_add_one, hg, List.flatten_append, List.map_append]
              simp
          rintro σ H15 ⟨m5, u6, rfl, hm5, e15⟩
          rw [lx, List.take_length] at hm5
          have S15 := s14.trans e15
          have D15 := D13.same S15
          have low : ∀ m ∈ gs.flatten, 0 ≤ m ∧ m ≤ 60 := fun m mm => by
            obtain ⟨g, mg, mm⟩ := List.mem_flatten.mp mm
            have := R.rng g mg m mm
            omega
          refine nxI (seqK (fun σ' H' => ∃ D2, σ' = [some (.ref t), some (.int (0 + (i : Int))), some (.ref pw), some (.ref D2), some (.ref l0), some (.ref m5), u6, a7, a8, some (.ref a), none, none, none] ∧ Same H15 H' ∧ DuesAt K H' (.ref D2) (duesO gs)) (fun D2' kD2 => ?_) ?_)
          · refine ⟨_, rfl, m5, gs.flatten, rfl, SqL.of hm5, by omega, fun ns p perm pwn np => ?_⟩
            have s16 := same_put (o := HO.lst (ns.map V.int)) np
            have g16 : upd H15 p (HO.lst (ns.map V.int)) p = some (.lst (ns.map V.int)) := upd_same
            generalize upd H15 p (HO.lst (ns.map V.int)) = H16 at *
            refine ⟨_, rfl, m5, _, rfl, .inl (SqL.of (s16 _ _ hm5)), _, rfl, ?_, fun q nq => ?_⟩
            · rw [List.length_map]
              exact RgOk.of_le (by decide) (by omega) (by decide) (by omega)
            rw [List.length_map, rg_iota]
            have s17 := same_put (o := HO.lst ((iota gs.flatten.length).map V.int)) nq
            have g17 : upd H16 q (HO.lst ((iota gs.flatten.length).map V.int)) q = some (.lst ((iota gs.flatten.length).map V.int)) := upd_same
            have g16' := s17 _ _ g16
            generalize upd H16 q (HO.lst ((iota gs.flatten.length).map V.int)) = H17 at *
            have S17 := s16.trans s17
            refine ⟨.list (ns.map PyData.int), .list ((iota gs.flatten.length).map PyData.int), .lst (SqL.of g16') (dp_ints ns), .lst (SqL.of g17) (dp_ints _), sm_ints (fun m mm => low m (perm.mem_iff.mp mm)) (by rw [perm.length_eq]; omega), sm_ints (fun m mm => by have := iota_mem'.mp mm; omega) (by rw [iota_len]; omega), _, rfl, ?_⟩
            have eq1 : PyData.eqv (.list (ns.map PyData.int)) (.list ((iota gs.flatten.length).map PyData.int)) = gs.flatten.all fun m => decide (m < gs.flatten.length) := eqv_ints.trans (first_ones perm pwn R.nd fun m mm => (low m mm).1)
            rw [eq1]
            have bad : ordB gs = false → ∀ G : Hp, Same H15 G → (tAsg (tLst (tCons (tLstZ (tCons (tC (V.str "order")) (tCons (tC V.non) tNil))) tNil)) (gName 3)) D2' [some (.ref t), some (.int (0 + (i : Int))), some (.ref pw), some (.ref D), some (.ref l0), some (.ref m5), u6, a7, a8, some (.ref a), none, none, none] G := fun z G sG => by
              refine ⟨(by show 2 ≤ sizeLine; decide), fun p1 np1 ne1 => ⟨(by show 1 ≤ sizeLine; decide), fun p2 np2 => ?_⟩⟩
              have u1 := same_put (o := HO.lst [.str "order", .non]) np1
              have u2 := same_put (o := HO.lst [.ref p1]) np2
              refine kD2 _ _ ⟨p2, rfl, (sG.trans u1).trans u2, p2, [.ref p1], rfl, upd_same, ?_⟩
              unfold duesO
              rw [z]
              exact .cons (.lst (u2 _ _ upd_same) ne1 (.cons (.str _) (.cons .non .nil))) .nil
            cases ea : gs.flatten.all fun m => decide (m < gs.flatten.length) with
            | false => exact iteT (bad (by unfold ordB; rw [ea]; rfl) H17 S17)
            | true =>
              obtain ⟨g0, rest, egs⟩ : ∃ g r, gs = g :: r := by
                cases h : gs with
                | nil => exact absurd h R.ne
                | cons g r => exact ⟨g, r, rfl⟩
              obtain ⟨h0, r0, eg0⟩ : ∃ h r, g0 = h :: r := by
                cases h : g0 with
                | nil => exact absurd h (R.gne g0 (by rw [egs]; exact List.mem_cons_self))
                | cons h1 r => exact ⟨h1, r, rfl⟩
              have lx0 : 0 < xs.length := by rw [lx, egs]; simp
              obtain ⟨x0', hx0⟩ : ∃ x, xs[0]? = some x := ⟨_, List.getElem?_eq_getElem lx0⟩
              obtain ⟨g0', ga, hg0, rfl, hga⟩ := group (S15.trans S17) hx0
              have e0 : g0 = g0' := by rw [egs] at hg0; exact Option.some.inj hg0
              subst e0
              rw [eg0] at hga
              refine iteF ⟨_, rfl, a, xs, 0, .ref ga, rfl, rfl, SqT.of ((S15.trans S17) _ _ ha), at_of (j := 0) rfl hx0, ga, _, 0, .int h0, rfl, rfl, SqT.of hga, at_of (j := 0) rfl rfl, rfl, _, rfl, ?_⟩
              have ob : ordB gs = decide (h0 = 0) := by
                unfold ordB
                rw [ea, Bool.true_and, egs, eg0, decide_eq_decide]
                exact ⟨fun z => Option.some.inj z, fun z => congrArg some z⟩
              by_cases z : h0 = 0
              · have e1 : (!decide (V.int h0 = V.int 0)) = false := by rw [decide_eq_true (congrArg V.int z)]; rfl
                rw [e1]
                rw [dues1_none er] at D15
                exact iteF (kD2 _ _ ⟨D, rfl, S17, by unfold duesO; rw [if_pos (ob.trans (decide_eq_true z))]; exact D15.same S17⟩)
              · have e1 : (!decide (V.int h0 = V.int 0)) = true := by rw [decide_eq_false (fun y => z (V.int.inj y))]; rfl
                rw [e1]
                exact iteT (bad (ob.trans (decide_eq_false z)) H17 S17)
          · rintro σ' H16 ⟨D2, rfl, s16, D16⟩
            have S16 := S15.trans s16
            refine ⟨_, rfl, a, xs, rfl, .inr (SqT.of (S16 _ _ ha)), (xs.length : Int), rfl, by omega, by omega, fun Dt nDt => ?_⟩
            have sDt := same_put (o := HO.lst []) nDt
            refine lc_range (lo := 0) (n := (xs.length : Int).toNat) (fun j H' => (∃ ys ws, H' Dt = some (.lst ys) ∧ ys.length ≤ j ∧ AnAll K H' ys (ws.map ordL) ∧ ws ++ togI j (gs.drop j) = togI 0 gs) ∧ Same H16 H') ⟨⟨[], [], upd_same, Nat.le_refl _, .nil, rfl⟩, sDt⟩ ?_ ?_
            · rintro j H17 hj ⟨⟨ys, ws, hDt, ly, ay, ew2⟩, e17⟩
              have jx : j < xs.length := by omega
              obtain ⟨z, hz⟩ : ∃ z, xs[j]? = some z := ⟨_, List.getElem?_eq_getElem jx⟩
              obtain ⟨g, ga, hg, rfl, hga⟩ := group (S16.trans e17) hz
              have dr : gs.drop j = g :: gs.drop (j + 1) := by
                have l := List.getElem?_eq_some_iff.mp hg
                rw [← l.2, List.getElem_cons_drop]
              rw [dr, togI] at ew2
              rw [Int.zero_add]
              refine ⟨rfl, _, rfl, _, rfl, a, xs, (j : Int), .ref ga, rfl, rfl, SqT.of ((S16.trans e17) _ _ ha), at_of (j := j) rfl hz, ga, _, rfl, .inr (SqT.of hga), _, _, rfl, rfl, _, rfl, ?_⟩
              rw [List.length_map]
              by_cases c : (1 : Int) < (g.length : Int)
              · rw [decide_eq_true c]
                rw [if_pos (show g.length > 1 by omega)] at ew2
                refine iteT ⟨_, rfl, (by show 2 ≤ sizeLine; decide), fun p np ne => ?_⟩
                have s18 := same_put (o := HO.lst [.str "order", .int (j : Int)]) np
                refine ⟨ys, s18 _ _ hDt, small1000 (by omega), ⟨ys ++ [.ref p], ws ++ [some j], upd_same, by rw [List.length_append]; exact Nat.succ_le_succ ly, (by have q9 := ord_add (w := some j) hDt ay np ne; exact q9), by rw [List.append_assoc]; exact ew2⟩, fun b o e => ?_⟩
                rw [upd_ne (ne_of_none e nDt)]
                exact s18 _ _ (e17 _ _ e)
              · rw [decide_eq_false c]
                rw [if_neg (show ¬ g.length > 1 by omega)] at ew2
                exact iteF ⟨⟨ys, ws, hDt, Nat.le_succ_of_le ly, ay, ew2⟩, e17⟩
            · rintro H17 ⟨⟨ys, ws, hDt, ly, ay, ew2⟩, e17⟩
              rw [List.drop_of_length_le (by omega), togI, List.append_nil] at ew2
              refine kD _ _ ⟨D2, Dt, some (.ref m5), u6, rfl, E13.trans (LamX.ExtN.of (S16.trans e17)), T13.ext (S16.trans e17), ?_, ?_⟩
              · rw [duesR_none er]; exact D16.same e17
              · rw [togR_none er, ← togI_tog]
                exact ⟨Dt, ys, rfl, hDt, by rw [← ew2]; exact ay⟩
      · rintro σ' H13 ⟨Dd, lt, b5, b6, rfl, E13, T13, D13, G13⟩
        clear D8 D11 D12 G12 hpw hpw12 alw alw12 s12 T12 E12 T8 T11 x810 x811 s11 E10 E11 E8 e8 e7 t7 s7 s8 ay hD nl0 nD
        have eg1 : rowW d = none → d = ordD gs := fun z => (eg z).1
        have duR : Du (duesR d gs) := by
          cases er : rowW d with
          | some w => rw [duesR_some er]; exact du_1 hb
          | none => rw [duesR_none er]; exact du_o gs
        have few : rowW d = none → gs.length ≤ 41 := fun er => by
          have R := (eg er).2
          refine Nat.le_trans (len_flat fun g m => ?_) R.few
          have := R.gne g m
          cases g with
          | nil => exact absurd rfl this
          | cons _ _ => simp
        have duT : Du (togR d gs) := by
          cases er : rowW d with
          | some w => rw [togR_some er]; exact du_nil
          | none => rw [togR_none er]; exact du_tog (by have := few er; omega)
        have lnR : (duesR d gs).length ≤ 1 := by
          cases er : rowW d with
          | some w => rw [duesR_some er, dues1_wl, List.length_map]; exact lw1
          | none => rw [duesR_none er]; unfold duesO; split <;> simp
        have lnT : (togR d gs).length ≤ 41 := by
          cases er : rowW d with
          | some w => rw [togR_some er]; simp
          | none => rw [togR_none er]; exact Nat.le_trans (tog_len gs 0) (few er)
        -- steps_of
        refine ⟨T13, fun Hx x1 Tx => ?_⟩
        intro E' Q' hE hQ
        refine ⟨_, rfl, try_of M.hO (anX (E13.trans x1)) hb eg1 Tx hE hQ fun f1 H14 x2 T14 F1 => ?_⟩
        have E14 := E13.trans (x1.trans x2)
        have D14 := D13.ext (x1.trans x2)
        have G14 := G13.ext (x1.trans x2)
        clear hE hQ x1 x2 Tx
        refine ⟨(by show 1 ≤ sizeLine; decide), fun l nl => ?_⟩
        have s15 := same_put (o := HO.lst [.ref f1]) nl
        have g15 : upd H14 l (HO.lst [.ref f1]) l = some (.lst [.ref f1]) := upd_same
        have F15 := F1.ext (LamX.ExtN.of s15)
        have T15 := T14.ext s15
        generalize upd H14 l (HO.lst [.ref f1]) = H15 at *
        -- the same by name
        refine nxI ⟨_, rfl, .inl ⟨rfl, _, SqL.of g15⟩, T15, fun Hy y1 Ty => ?_⟩
        intro E' Q' hE hQ
        refine ⟨_, rfl, try_of M.hO (anX ((E14.trans (LamX.ExtN.of s15)).trans y1)) hb eg1 Ty hE hQ fun f2 H16 y2 T16 F2 => ?_⟩
        have x16 := y1.trans y2
        have g16 := x16 _ _ g15 (fun ps z => by cases z)
        refine ⟨l, [.ref f1], .ref f2, rfl, rfl, g16, (by show 1 < sizeLine; decide), ?_⟩
        have F1' := (F15.ext x16).put (o := .lst ([.ref f1] ++ [.ref f2])) g16
        have F2' := F2.put (o := .lst ([.ref f1] ++ [.ref f2])) g16
        have X16 : LamX.ExtN H14 (upd H16 l (.lst ([.ref f1] ++ [.ref f2]))) := fun b o e n => by
          rw [upd_ne (ne_of_none e nl)]
          exact x16 _ _ (s15 _ _ e) n
        have g17 : upd H16 l (.lst ([.ref f1] ++ [.ref f2])) l = some (.lst [.ref f1, .ref f2]) := upd_same
        have T17 : LamX.Tabs M.no.o.s.TT (upd H16 l (.lst ([.ref f1] ++ [.ref f2]))) := tabs_put T16 g16
        generalize upd H16 l (.lst ([.ref f1] ++ [.ref f2])) = H17 at *
        have E17 := E14.trans X16
        have D17 := D14.ext X16
        have G17 := G14.ext X16
        clear hE hQ y1 y2 Ty x16 F15 F1 F2 T14 T15 T16
        -- all
        refine nxI ⟨_, rfl, l, rfl, ⟨_, SqL.of g17⟩, fun D9 nD9 => ?_⟩
        have s18 := same_put (o := HO.lst []) nD9
        refine lc_list (K := K) (a := l) (xs := [.ref f1, .ref f2]) (fun j H' => H' D9 = some (.lst ((List.replicate j true).map V.bl)) ∧ Same H17 H') ⟨upd_same, s18⟩ (fun j H' _ ⟨_, e⟩ => SqL.of (e _ _ g17)) ?_ ?_
        · rintro j z H18 hj ⟨hD9, e18⟩
          have jl := (List.getElem?_eq_some_iff.mp hj).1
          have jl : j < 2 := jl
          obtain ⟨fz, rfl, Fz⟩ : ∃ fz, z = .ref fz ∧ Fnd K H17 fz (duesR d gs) := by
            match j, hj with
            | 0, hj => cases hj; exact ⟨f1, rfl, F1'⟩
            | 1, hj => cases hj; exact ⟨f2, rfl, F2'⟩
          refine ⟨rfl, _, rfl, _, rfl, ends_at (ends_ok (Fz.ext (LamX.ExtN.of e18)) (D17.same e18) duR fun H19 s19 => ?_)⟩
          refine ⟨_, s19 _ _ hD9, ?_, ?_, fun b o e => ?_⟩
          · rw [List.length_map, List.length_replicate]; exact small1000 (by omega)
          · rw [upd_same, List.replicate_succ', List.map_append]; rfl
          · rw [upd_ne (ne_of_none e nD9)]; exact s19 _ _ (e18 _ _ e)
        rintro H18 ⟨hD9, e18⟩
        refine ⟨D9, _, rfl, SqL.of hD9, ?_⟩
        have tr : (List.replicate [V.ref f1, V.ref f2].length true).all id = true := rfl
        rw [tr]
        refine ⟨_, rfl, iteF ?_⟩
        have T18 := T17.ext e18
        have E18 := E17.trans (LamX.ExtN.of e18)
        have D18 := D17.same e18
        have G18 := G17.same e18
        -- broken_at
        refine nxI ⟨T18, fun Hx x1 Tx => ?_⟩
        intro E' Q' hE hQ
        refine ⟨_, rfl, try_broken M.hO (anX (E18.trans x1)) hb eg1 Tx hE hQ fun f3 H19 x2 T19 F3 => ?_⟩
        have x19 := x1.trans x2
        have E19 := E18.trans x19
        obtain ⟨_, y1, e1, hd1, al1⟩ := D18.ext x19
        obtain ⟨_, y2, e2, hd2, al2⟩ := G18.ext x19
        cases e1
        cases e2
        refine ⟨_, rfl, _, rfl, _, _, _, _, rfl, rfl, hd1, hd2, Nat.le_of_lt (small1000 (by rw [dpAll_len al1, dpAll_len al2]; omega)), fun p np => ?_⟩
        have s20 := same_put (o := HO.lst (y1 ++ y2)) np
        refine ends_at (ends_ok (F3.ext (LamX.ExtN.of s20)) (dues_cat al1 al2 np) (du_app duR duT) fun H21 s21 => ⟨_, rfl, iteF ?_⟩)
        have E21 := E19.trans (LamX.ExtN.of (s20.trans s21))
        have T21 := T19.ext (s20.trans s21)
        clear hE hQ
        -- many
        have S21 := Sb.ext E21 T21
        refine nxI ⟨_, rfl, _, rfl, (by show 10 ≤ sizeLine; decide), fun m nm => ?_⟩
        refine ⟨t, m, _, rfl, (S21.same (same_put nm)).tin, upd_same, S21.tin.not nm, by decide, by decide, fun vk H22 hv s22 => ?_⟩
        have S22 := (S21.same (same_put nm)).drawn s22
        obtain ⟨dk, hdk, ank⟩ := mem_plain (K := K) (ds := manyD) rfl hv
        obtain ⟨shk, spk, flk⟩ := many_ok hdk
        have duN : ∀ g : Bool, Du (dueD "number" dk g) := fun g e me => by
          unfold dueD at me
          split at me
          · cases me
          · rw [List.mem_singleton.mp me]; exact ⟨shk, _, rfl⟩
        -- how_many_orders
        refine nxI ⟨S22.tab, fun Hx x1 Tx => ?_⟩
        intro E' Q' hE hQ
        refine ⟨_, rfl, try_num M.hN ank (fun _ => trivial) Tx hE hQ fun f4 H23 x2 T23 F4 => ?_⟩
        refine ⟨_, rfl, _, rfl, vk, dk, 1, 2000, rfl, ank _, "number", vk, dk, _, rfl, ank _, fun r4 H24 s24 D24 => ?_⟩
        refine ends_at (ends_ok (F4.ext (LamX.ExtN.of s24)) D24 (duN _) fun H25 s25 => ⟨_, rfl, iteF ?_⟩)
        have S25 := (S22.ext (x1.trans x2) T23).same (s24.trans s25)
        clear hE hQ
        -- all_orders
        refine nxI ⟨_, rfl, dk, .int 12, (ank _).dp flk, .int 12, spk, by decide +kernel, _, rfl, ?_⟩
        cases e12 : PyData.eqv dk (.int 12) with
        | true => exact iteF (nxI ⟨_, _, _, _, _, _, _, _, _, rfl, S25⟩)
        | false =>
          refine iteT ⟨S25.tab, fun Hx x3 Tx => ?_⟩
          intro E' Q' hE hQ
          refine ⟨_, rfl, try_num M.hN ank (fun z => many_12 hdk e12 z) Tx hE hQ fun f5 H26 x4 T26 F5 => ?_⟩
          refine ⟨_, rfl, _, rfl, vk, dk, 1, 12, rfl, ank _, "number", vk, dk, _, rfl, ank _, fun r5 H27 s27 D27 => ?_⟩
          refine ends_at (ends_ok (F5.ext (LamX.ExtN.of s27)) D27 (duN _) fun H28 s28 => ⟨_, rfl, iteF ?_⟩)
          exact nxI ⟨_, _, _, _, _, _, _, _, _, rfl, (S25.ext (x3.trans x4) T26).same (s27.trans s28)⟩
    · rintro σ H1 ⟨a1, a2, a3, a4, a5, a6, a7, a8, a9, rfl, S1⟩
      exact nxI (q _ S1)
end
end My
set_option Elab.async false
set_option linter.all false
set_option maxRecDepth 100000
set_option maxHeartbeats 8000000
set_option exponentiation.threshold 4000
namespace My
open PySem PySem.Spec PyProof.Rows L2 Gn Mt
/-! the law -/
abbrev sLaw : Stmt := top 91
theorem scLaw : FnScope ["_law_script", "_law_turn"] ["_law_script"] (defScope sLaw) := ⟨rfl, rfl, rfl, by decide +kernel, rfl, by decide +kernel, by decide +kernel⟩
def spLaw (K : PySem.W.Frag) (T : List (Addr × Str)) : Sp := fun vs H Q _ => ∃ (a : Addr) (ns : List Int), vs = [.ref a] ∧ SqL K H a (ns.map V.int) ∧ ns.length ≤ 63 ∧ LamX.Tabs T H ∧ ∀ H', Q (.bl true) H'
/-- what the law itself asks of the module -/
structure Lc (P : Program) (w : World) (K : PySem.W.Frag) (mg : Str → Option Value) (base : Heap) where
  la : La P w K mg base
  max : mg "max" = none
  min : mg "min" = none
  gt : Addr × FuncData
  gr : Addr × FuncData
  lt : Df K mg "_law_tin" sTin ["_law_script", "_law_turn"] gt.1 gt.2
  dg : Df K mg "_law_right" s__law_right ["_law_tin_here"] gr.1 gr.2
  cc : Addr
  PR : Addr
  ec : gr.2.code = .ref cc
  TB : LamX.TabB base mg cc PR
  mR : (PR, qR) ∈ la.no.o.s.TT
  one : ∀ q ∈ la.no.o.s.TT, q.1 = PR → q.2 = qR
section
variable {P : Program} {w : World} {K : PySem.W.Frag} {mg : Str → Option Value} {base : Heap}
theorem ok_law {f : Addr} {fd : FuncData} (F : Fun K "law" "law" sLaw f fd) (M : Lc P w K mg base) : FnG P w K mg base CX0 15 f fd ["_law_script"] (spLaw K M.la.no.o.s.TT) := by
  have LT : FnOk P w K mg base CX0 1 M.gt.1 M.gt.2 ["_law_script", "_law_turn"] (spTin K) := ok_tin M.lt.F M.la.bl
  have GR : FnG P w K mg base CX0 14 M.gr.1 M.gr.2 ["_law_tin_here"] (spRight M.la.no.o.s.TT) := ok_right M.dg.F M.la M.ec M.TB M.mR M.one
  refine funG0 F scLaw (fun vs H Q E h => ?_) (fun cdv A outer s H vs Q E hg hr h => ?_)
  · obtain ⟨a, ns, rfl, _⟩ := h
    rfl
  · obtain ⟨a, ns, rfl, hS, hlen, hT, q⟩ := h
    have hr1 : Room 1 _ := hr.mono (by decide)
    refine ⟨_, pss_one (ps_ret (pe_callB (cr_all rfl) (by rfl) M.la.all (by decide +kernel) (pa_cons
        (pe_lc (te := tCall (spRight M.la.no.o.s.TT) [] E0 (tCons (tCall (spTin K) [] E0 (tCons (tVar 0) (tCons (tVar 1) tNil))) tNil)) (own := [("_law_turn", 1)]) (g := gName 1) (tt := tYes) rfl scLaw.nd
          (pi_range1 rfl M.la.no.range (pa_cons (pe_callB (call_max2 rfl) (by rfl) M.max (by decide +kernel) (pa_cons pe_int (pa_cons (pe_callB (call_min2 rfl) (by rfl) M.min (by decide +kernel) (pa_cons (pe_callB call_len_seq (by rfl) M.la.bl.len PySem.boot_len (pa_cons (pv 0) pa_nil)) (pa_cons pe_int pa_nil))) pa_nil))) pa_nil))
          (blkOk_by (N := ["_law_script", "_law_turn"]) (sc := defScope sLaw) (by decide +kernel)) (fun _ _ _ _ _ => pg_name (i := 1) scLaw.nd rfl (.inl rfl)) (fun _ _ _ _ _ => pts_nil)
          (fun _ _ _ _ _ => pe_callG GR hg hr (by rfl) M.dg.g M.dg.F.kp M.dg.b .nil pass0 (pa_cons (pe_call LT hr1 (by rfl) M.lt.g M.lt.F.kp M.lt.b .nil pass0 (pa_cons (pv 0) (pa_cons (pv 1) pa_nil))) pa_nil))) pa_nil))), ?_⟩
    refine ⟨_, rfl, a, _, rfl, .inl hS, _, _, rfl, _, _, rfl, ?_⟩
    have hN : ∀ L : Int, 0 ≤ (if (if (6 : Int) < L then 6 else L) > 2 then (if (6 : Int) < L then 6 else L) else 2) ∧ (if (if (6 : Int) < L then 6 else L) > 2 then (if (6 : Int) < L then 6 else L) else 2) ≤ 6 := fun L => by
      split <;> split <;> omega
    have hN' := hN (((ns.map V.int).length : Nat) : Int)
    generalize (if (if (6 : Int) < (((ns.map V.int).length : Nat) : Int) then 6 else (((ns.map V.int).length : Nat) : Int)) > 2 then (if (6 : Int) < (((ns.map V.int).length : Nat) : Int) then 6 else (((ns.map V.int).length : Nat) : Int)) else 2) = N at hN' ⊢
    refine ⟨N, rfl, by omega, by omega, fun D hD => ?_⟩
    have s0 := same_put (o := HO.lst []) hD
    refine lc_range (lo := 0) (n := N.toNat) (fun i H2 => H2 D = some (.lst ((List.replicate i true).map V.bl)) ∧ LamX.ExtN H H2 ∧ LamX.Tabs M.la.no.o.s.TT H2) ⟨upd_same, LamX.ExtN.of s0, fun p hp => (hT p hp).ext s0⟩ ?_ ?_
    · rintro i H2 hi ⟨g1, g2, g3⟩
      rw [Int.zero_add]
      refine ⟨rfl, _, rfl, _, rfl, a, ns, _, rfl, sqL_ext hS g2, by omega, by omega, fun p H3 s3 hp T => ⟨p, rfl, T, fun q hq => (g3 q hq).ext s3, fun H4 S4 => ?_⟩⟩
      have nDp : D ≠ p := ne_of_none g1 hp
      have dl := S4.keep _ _ (s3 _ _ g1) nDp (fun ps z => by cases z)
      refine ⟨_, dl, ?_, ?_, fun b z e n => ?_, tabs_put S4.tab dl⟩
      · rw [List.length_map, List.length_replicate]
        exact small1000 (by omega)
      · rw [upd_same, List.replicate_succ', List.map_append]; rfl
      · rw [upd_ne (ne_of_none e hD)]
        have z2 := g2 _ _ e n
        exact S4.keep _ _ (s3 _ _ z2) (ne_of_none z2 hp) n
    · rintro H2 ⟨g1, g2, g3⟩
      refine ⟨D, _, rfl, SqL.of g1, ?_⟩
      have tr : (List.replicate N.toNat true).all id = true := by
        rw [List.all_eq_true]
        intro b hb
        exact (List.mem_replicate.mp hb).2
      rw [tr]
      exact q H2
end
end My
set_option Elab.async false
set_option linter.all false
set_option maxRecDepth 100000
set_option maxHeartbeats 8000000
namespace My
open PySem PySem.Spec PyProof.Rows L2 Gn Mt
def inn : Stmt → Stmt
  | .ClassDef _ _ _ (s :: _) _ _ _ _ _ _ _ => s
  | s => s
/-- what the written part says of a class, its __init__ at f -/
structure CK (K : PySem.W.Frag) (nm : Str) (fl : List Str) (C R f : Addr) (fd : FuncData) (st : Stmt) (qi : Str) : Prop where
  g : PySem.W.nsIn K mainGlobals nm = some (some (.ref C))
  own : OwC K C
  ini : PySem.W.findIn K (.ref C) "__init__" = some (some (.ref f))
  ty : PySem.W.typeIn K (.ref f) = some (.type "function")
  xf : XfC K C
  ex : ExcC K C
  no : ∀ n ∈ fl, PySem.W.findIn K (.ref C) n = some none
  F : Fun K "__init__" qi st f fd
/-- what all of them share -/
structure Glob (K : PySem.W.Frag) : Prop where
  hn : PySem.W.specialIn K (.builtin "object.__class__") "__get__" = some (some (.builtin "getset_descriptor.__get__"))
  ht : PySem.W.takesIn K (.builtin "object.__class__") = some true
structure Kit (K : PySem.W.Frag) (R0 R1 R2 C : Addr) (b0 b1 b2 : Bool) : Prop where
  o0 : PySem.W.kitOne K (.ref C) (.ref R0) = some b0
  o1 : PySem.W.kitOne K (.ref C) (.ref R1) = some b1
  o2 : PySem.W.kitOne K (.ref C) (.ref R2) = some b2
  t0 : PySem.W.kitOne K (.ref C) (.type "ValueError") = some b0
  t1 : PySem.W.kitOne K (.ref C) (.type "LookupError") = some b1
  t2 : PySem.W.kitOne K (.ref C) (.type "ArithmeticError") = some b2
section
variable {P : Program} {w : World} {K : PySem.W.Frag} {mg : Str → Option Value} {base : Heap}
theorem prop_mk {C p g : Addr} {f : Str} {od : Option Addr} {sl : Array (Option Value)} {vs : Array Value} {rest : List Value} (a : PySem.W.findIn K (.ref C) f = some (some (.ref p))) (ge : PySem.W.specialIn K (.ref p) "__get__" = some (some (.builtin "property.__get__"))) (tk : PySem.W.takesIn K (.ref p) = some true)
    (l : K.lookup p = some ⟨.type "property", od, .fields vs, sl⟩) (e : vs.toList = .ref g :: rest) : PropOf K C f p g := by
  refine ⟨a, ge, tk, rest, ?_⟩
  unfold PySem.W.recIn
  simp only [l, e]
  rfl
/-- the last cut as the text writes it -/
theorem cut_written {a b : Addr} {oa ob : Option Addr} {sa sb : Array (Option Value)} {ia ib : Array Value} {na nb : Nat} {t0 t1 t2 : Tok} (la : K.lookup a = some ⟨.type "tuple", oa, .seq ia na, sa⟩) (ea : ia.toList = [.ref b, .int 0 t0]) (lb : K.lookup b = some ⟨.type "tuple", ob, .seq ib nb, sb⟩) (eb : ib.toList = [.int 1 t1, .int 1 t2]) (H : Hp) : Dp K H (.ref a) (cutD last) := by
  have za : ia.size ≤ sizeLine := by
    rw [← Array.length_toList, ea]
    exact (by decide : 2 ≤ sizeLine)
  have zb : ib.size ≤ sizeLine := by
    rw [← Array.length_toList, eb]
    exact (by decide : 2 ≤ sizeLine)
  refine .tup (xs := [.ref b, .int 0]) (.inr ⟨_, ia, na, la, rfl, rfl, za, ?_⟩) (.cons (.tup (xs := [.int 1, .int 1]) (.inr ⟨_, ib, nb, lb, rfl, rfl, zb, ?_⟩) (.cons (.int 1) (.cons (.int 1) .nil))) (.cons (.int 0) .nil))
  · rw [ea]
    exact .cons rfl (.cons ⟨t0, rfl⟩ .nil)
  · rw [eb]
    exact .cons ⟨t1, rfl⟩ (.cons ⟨t2, rfl⟩ .nil)
theorem cl1 {C R f : Addr} {fd : FuncData} {h : Heap} (X : K.In h) (G : h.Ns mainGlobals mg) (T : CK K "InvalidNumber" ["given"] C R f fd (inn (top 5)) "InvalidNumber.__init__") : OwE P w K mg base "InvalidNumber" ["given"] C f fd := by
  have S : FnScope ["self", "given"] ["self", "given"] (defScope (inn (top 5))) := ⟨rfl, rfl, rfl, by decide +kernel, rfl, by decide +kernel, by decide +kernel⟩
  exact ⟨T.own, T.ini, T.ty, T.xf, T.ex, T.no, PySem.W.mg_of X G T.g, ini1 T.F S rfl (Or.inl rfl) (Or.inl rfl) (by decide) (by decide), T.F.binds fun _ _ _ _ _ _ us hl => match us, hl with | [_, _], _ => rfl⟩
theorem cl8 {C R f : Addr} {fd : FuncData} {h : Heap} (X : K.In h) (G : h.Ns mainGlobals mg) (T : CK K "InvalidOrder" ["index"] C R f fd (inn (top 12)) "InvalidOrder.__init__") : OwE P w K mg base "InvalidOrder" ["index"] C f fd := by
  have S : FnScope ["self", "index"] ["self", "index"] (defScope (inn (top 12))) := ⟨rfl, rfl, rfl, by decide +kernel, rfl, by decide +kernel, by decide +kernel⟩
  exact ⟨T.own, T.ini, T.ty, T.xf, T.ex, T.no, PySem.W.mg_of X G T.g, ini1 T.F S rfl (Or.inl rfl) (Or.inl rfl) (by decide) (by decide), T.F.binds fun _ _ _ _ _ _ us hl => match us, hl with | [_, _], _ => rfl⟩
theorem ma_of {t c0 c1 c2 : Value} {b0 b1 b2 : Bool} (e0 : PySem.W.exmOne K t c0 = some b0) (e1 : PySem.W.exmOne K t c1 = some b1) (e2 : PySem.W.exmOne K t c2 = some b2) : PySem.W.exmAny K t [c0, c1, c2] = some (b0 || (b1 || (b2 || false))) := by
  simp only [PySem.W.exmAny, e0, e1, e2]
theorem is2 {α : Type} {x a b : α} (h : x ∈ [a, b]) : x = a ∨ x = b := by simpa using h
end
theorem funOfX {K : PySem.W.Frag} {x qual : Str} {st : Stmt} {f : Addr} {fd : FuncData} (F : FunD K x qual (defArgs st) (defBody st) (defScope st) [] [] f fd) : Fun K x qual st f fd := by
  obtain ⟨oc, od, dV, kV, doc, pm, an, cdv, ct, osl, e, lk, hcd, hD, _⟩ := F.ex
  rcases hD with ⟨_, rfl⟩ | ⟨e', _⟩
  · exact ⟨⟨oc, od, kV, doc, pm, an, cdv, ct, osl, e, lk, hcd⟩, F.kp⟩
  · exact absurd rfl e'
theorem walkGX {l : PySem.W.OpenLaw} {n k : Nat} {q : Program} {loose : List Str} {XP : (Str → Option Value) → Heap → Prop} {YP : World → Heap → Prop} {d : DefRec} {CX : World → CXT} {x : Str}
    (hn : l.most = some n) (hn2 : n ≤ sizeLine) (hdf : d.params.defaults = []) (hr : Room k callerA)
    (F : ∀ (w : World) (mg : Str → Option Value) (fa : Addr) (h : Heap), YP w h → h.Ns mainGlobals mg → mg d.name = some (.ref fa) → ∃ K : PySem.W.Frag, K.In h ∧ LawAtG l w K (CX w) k n x mg fa h)
    (hCX : ∀ (w : World) (H : Hp) (s : Shared) (e : Value) (s' : Shared), CX w [] H s (fun _ _ _ => False) e s' → False) : PySem.W.WalkO q loose XP YP l.row.toRowW d [] (fun f vs => PySem.call f vs) :=
  Att.attach_call hn hdf fun w s₀ s₁ mg mb fa o pm cd doc a vs ns G Y ho hd hcd hmg hobj hints hlen hg => by
    obtain ⟨K, KX, fd, cs, sp, T, hb, hsp, hF⟩ := F w mg fa _ Y G.T.g hmg
    exact lawGT KX G.T.g G.T.b G.T.builtins G.T.nolimit hg (fun p m => (T p m).1) (fun p m => (T p m).2.1) (fun p m => (T p m).2.2) G.T.bmain hobj hints (Nat.le_trans hlen hn2) hr hF hb (fun H h1 h2 => hsp H a ns hlen h1 h2) fun H e s' => hCX w H s₁ e s'
theorem all_mkX {l : PySem.W.OpenLaw} {w : World} {K : PySem.W.Frag} {h : Heap} {mg : Str → Option Value} {fa : Addr} (X : K.In h) (G : h.Ns mainGlobals mg) (hfa : mg "law" = some (.ref fa)) (c : SaysZ fasX fnsX tfX fbsX prsX w h K)
    : LawAtG l w K CX0 15 63 "_law_script" mg fa h := by
  have cd := c.d
  obtain ⟨fd0, G0⟩ := cd.def_ 0 (d := ddX0) rfl
  obtain ⟨F0, C0⟩ : Fun K "is_integer" "is_integer" (top 20) (He.ga K "is_integer") fd0 ∧ fd0.code = .ref (He.cT K ("is_integer", none)).1 := funZ (p := ("is_integer", none)) G0
  have g0 := He.glo_ok X G (cd.fact 0 (f := .glo "is_integer") rfl)
  have d0 : Df K mg "is_integer" (top 20) ["given"] (He.ga K "is_integer") fd0 := ⟨F0, g0, F0.binds fun _ _ _ _ _ _ us hl => match us, hl with | [_], _ => rfl⟩
  obtain ⟨fd1, G1⟩ := cd.def_ 1 (d := ddX1) rfl
  obtain ⟨F1, C1⟩ : Fun K "is_fraction" "is_fraction" (top 21) (He.ga K "is_fraction") fd1 ∧ fd1.code = .ref (He.cT K ("is_fraction", none)).1 := funZ (p := ("is_fraction", none)) G1
  have g1 := He.glo_ok X G (cd.fact 1 (f := .glo "is_fraction") rfl)
  have d1 : Df K mg "is_fraction" (top 21) ["given"] (He.ga K "is_fraction") fd1 := ⟨F1, g1, F1.binds fun _ _ _ _ _ _ us hl => match us, hl with | [_], _ => rfl⟩
  obtain ⟨fd2, G2⟩ := cd.def_ 2 (d := ddX2) rfl
  obtain ⟨F2, C2⟩ : Fun K "is_step" "is_step" (top 22) (He.ga K "is_step") fd2 ∧ fd2.code = .ref (He.cT K ("is_step", none)).1 := funZ (p := ("is_step", none)) G2
  have g2 := He.glo_ok X G (cd.fact 2 (f := .glo "is_step") rfl)
  have d2 : Df K mg "is_step" (top 22) ["given"] (He.ga K "is_step") fd2 := ⟨F2, g2, F2.binds fun _ _ _ _ _ _ us hl => match us, hl with | [_], _ => rfl⟩
  obtain ⟨fd3, G3⟩ := cd.def_ 3 (d := ddX3) rfl
  obtain ⟨F3, C3⟩ : Fun K "is_part" "is_part" (top 23) (He.ga K "is_part") fd3 ∧ fd3.code = .ref (He.cT K ("is_part", none)).1 := funZ (p := ("is_part", none)) G3
  have g3 := He.glo_ok X G (cd.fact 3 (f := .glo "is_part") rfl)
  have d3 : Df K mg "is_part" (top 23) ["given"] (He.ga K "is_part") fd3 := ⟨F3, g3, F3.binds fun _ _ _ _ _ _ us hl => match us, hl with | [_], _ => rfl⟩
  obtain ⟨fd4, G4⟩ := cd.def_ 4 (d := ddX4) rfl
  obtain ⟨F4, C4⟩ : Fun K "is_less" "is_less" (top 24) (He.ga K "is_less") fd4 ∧ fd4.code = .ref (He.cT K ("is_less", none)).1 := funZ (p := ("is_less", none)) G4
  have g4 := He.glo_ok X G (cd.fact 4 (f := .glo "is_less") rfl)
  have d4 : Df K mg "is_less" (top 24) ["one", "other"] (He.ga K "is_less") fd4 := ⟨F4, g4, F4.binds fun _ _ _ _ _ _ us hl => match us, hl with | [_, _], _ => rfl⟩
  obtain ⟨fd5, G5⟩ := cd.def_ 5 (d := ddX5) rfl
  obtain ⟨F5, C5⟩ : Fun K "is_number" "is_number" (top 25) (He.ga K "is_number") fd5 ∧ fd5.code = .ref (He.cT K ("is_number", none)).1 := funZ (p := ("is_number", none)) G5
  have g5 := He.glo_ok X G (cd.fact 5 (f := .glo "is_number") rfl)
  have d5 : Df K mg "is_number" (top 25) ["given", "least", "most"] (He.ga K "is_number") fd5 := ⟨F5, g5, F5.binds fun _ _ _ _ _ _ us hl => match us, hl with | [_, _, _], _ => rfl⟩
  obtain ⟨fd6, G6⟩ := cd.def_ 6 (d := ddX6) rfl
  obtain ⟨F6, C6⟩ : Fun K "check_step" "check_step" (top 26) (He.ga K "check_step") fd6 ∧ fd6.code = .ref (He.cT K ("check_step", none)).1 := funZ (p := ("check_step", none)) G6
  have g6 := He.glo_ok X G (cd.fact 6 (f := .glo "check_step") rfl)
  have d6 : Df K mg "check_step" (top 26) ["given"] (He.ga K "check_step") fd6 := ⟨F6, g6, F6.binds fun _ _ _ _ _ _ us hl => match us, hl with | [_], _ => rfl⟩
  obtain ⟨fd7, G7⟩ := cd.def_ 7 (d := ddX7) rfl
  obtain ⟨F7, C7⟩ : Fun K "check_number" "check_number" (top 27) (He.ga K "check_number") fd7 ∧ fd7.code = .ref (He.cT K ("check_number", none)).1 := funZ (p := ("check_number", none)) G7
  have g7 := He.glo_ok X G (cd.fact 7 (f := .glo "check_number") rfl)
  have d7 : Df K mg "check_number" (top 27) ["given", "least", "most"] (He.ga K "check_number") fd7 := ⟨F7, g7, F7.binds fun _ _ _ _ _ _ us hl => match us, hl with | [_, _, _], _ => rfl⟩
  obtain ⟨fd8, G8⟩ := cd.def_ 8 (d := ddX8) rfl
  obtain ⟨F8, C8⟩ : Fun K "order" "order" (top 33) (He.ga K "order") fd8 ∧ fd8.code = .ref (He.cT K ("order", none)).1 := funZ (p := ("order", none)) G8
  have g8 := He.glo_ok X G (cd.fact 8 (f := .glo "order") rfl)
  have d8 : Df K mg "order" (top 33) ["step", "count"] (He.ga K "order") fd8 := ⟨F8, g8, F8.binds fun _ _ _ _ _ _ us hl => match us, hl with | [_, _], _ => rfl⟩
  obtain ⟨fd9, G9⟩ := cd.def_ 9 (d := ddX9) rfl
  obtain ⟨F9, C9⟩ : Fun K "lowest" "lowest" (top 34) (He.ga K "lowest") fd9 ∧ fd9.code = .ref (He.cT K ("lowest", none)).1 := funZ (p := ("lowest", none)) G9
  have g9 := He.glo_ok X G (cd.fact 9 (f := .glo "lowest") rfl)
  have d9 : Df K mg "lowest" (top 34) ["top", "bottom"] (He.ga K "lowest") fd9 := ⟨F9, g9, F9.binds fun _ _ _ _ _ _ us hl => match us, hl with | [_, _], _ => rfl⟩
  obtain ⟨fd10, G10⟩ := cd.def_ 10 (d := ddX10) rfl
  obtain ⟨F10, C10⟩ : Fun K "mediant" "mediant" (top 35) (He.ga K "mediant") fd10 ∧ fd10.code = .ref (He.cT K ("mediant", none)).1 := funZ (p := ("mediant", none)) G10
  have g10 := He.glo_ok X G (cd.fact 10 (f := .glo "mediant") rfl)
  have d10 : Df K mg "mediant" (top 35) ["low", "high"] (He.ga K "mediant") fd10 := ⟨F10, g10, F10.binds fun _ _ _ _ _ _ us hl => match us, hl with | [_, _], _ => rfl⟩
  obtain ⟨fd11, G11⟩ := cd.def_ 11 (d := ddX11) rfl
  obtain ⟨F11, C11⟩ : Fun K "lot_where" "lot_where" (top 41) (He.ga K "lot_where") fd11 ∧ fd11.code = .ref (He.cT K ("lot_where", none)).1 := funZ (p := ("lot_where", none)) G11
  have g11 := He.glo_ok X G (cd.fact 11 (f := .glo "lot_where") rfl)
  have d11 : Df K mg "lot_where" (top 41) ["points", "fits"] (He.ga K "lot_where") fd11 := ⟨F11, g11, F11.binds fun _ _ _ _ _ _ us hl => match us, hl with | [_, _], _ => rfl⟩
  obtain ⟨fd12, G12⟩ := cd.def_ 12 (d := ddX12) rfl
  obtain ⟨F12, C12⟩ : Fun K "_first_wrong" "_first_wrong" (top 43) (He.ga K "_first_wrong") fd12 ∧ fd12.code = .ref (He.cT K ("_first_wrong", none)).1 := funZ (p := ("_first_wrong", none)) G12
  have g12 := He.glo_ok X G (cd.fact 12 (f := .glo "_first_wrong") rfl)
  have d12 : Df K mg "_first_wrong" (top 43) ["pieces"] (He.ga K "_first_wrong") fd12 := ⟨F12, g12, F12.binds fun _ _ _ _ _ _ us hl => match us, hl with | [_], _ => rfl⟩
  obtain ⟨fd13, G13⟩ := cd.def_ 13 (d := ddX13) rfl
  obtain ⟨F13, C13⟩ : Fun K "_is_piece" "_is_piece" (top 44) (He.ga K "_is_piece") fd13 ∧ fd13.code = .ref (He.cT K ("_is_piece", none)).1 := funZ (p := ("_is_piece", none)) G13
  have g13 := He.glo_ok X G (cd.fact 13 (f := .glo "_is_piece") rfl)
  have d13 : Df K mg "_is_piece" (top 44) ["given"] (He.ga K "_is_piece") fd13 := ⟨F13, g13, F13.binds fun _ _ _ _ _ _ us hl => match us, hl with | [_], _ => rfl⟩
  obtain ⟨fd14, G14⟩ := cd.def_ 14 (d := ddX14) rfl
  obtain ⟨F14, C14⟩ : Fun K "_cuts_at" "_cuts_at" (top 45) (He.ga K "_cuts_at") fd14 ∧ fd14.code = .ref (He.cT K ("_cuts_at", none)).1 := funZ (p := ("_cuts_at", none)) G14
  have g14 := He.glo_ok X G (cd.fact 14 (f := .glo "_cuts_at") rfl)
  have d14 : Df K mg "_cuts_at" (top 45) ["piece"] (He.ga K "_cuts_at") fd14 := ⟨F14, g14, F14.binds fun _ _ _ _ _ _ us hl => match us, hl with | [_], _ => rfl⟩
  obtain ⟨fd15, G15⟩ := cd.def_ 15 (d := ddX15) rfl
  obtain ⟨F15, C15⟩ : Fun K "_is_ahead" "_is_ahead" (top 46) (He.ga K "_is_ahead") fd15 ∧ fd15.code = .ref (He.cT K ("_is_ahead", none)).1 := funZ (p := ("_is_ahead", none)) G15
  have g15 := He.glo_ok X G (cd.fact 15 (f := .glo "_is_ahead") rfl)
  have d15 : Df K mg "_is_ahead" (top 46) ["cut", "other"] (He.ga K "_is_ahead") fd15 := ⟨F15, g15, F15.binds fun _ _ _ _ _ _ us hl => match us, hl with | [_, _], _ => rfl⟩
  obtain ⟨fd16, G16⟩ := cd.def_ 16 (d := ddX16) rfl
  obtain ⟨F16, C16⟩ : Fun K "_lot_with" "_lot_with" (top 47) (He.ga K "_lot_with") fd16 ∧ fd16.code = .ref (He.cT K ("_lot_with", none)).1 := funZ (p := ("_lot_with", none)) G16
  have g16 := He.glo_ok X G (cd.fact 16 (f := .glo "_lot_with") rfl)
  have d16 : Df K mg "_lot_with" (top 47) ["cuts"] (He.ga K "_lot_with") fd16 := ⟨F16, g16, F16.binds fun _ _ _ _ _ _ us hl => match us, hl with | [_], _ => rfl⟩
  obtain ⟨fd17, G17⟩ := cd.def_ 17 (d := ddX17) rfl
  obtain ⟨F17, C17⟩ : Fun K "mark_behind" "mark_behind" (top 56) (He.ga K "mark_behind") fd17 ∧ fd17.code = .ref (He.cT K ("mark_behind", none)).1 := funZ (p := ("mark_behind", none)) G17
  have g17 := He.glo_ok X G (cd.fact 17 (f := .glo "mark_behind") rfl)
  have d17 : Df K mg "mark_behind" (top 56) ["mark", "many", "first", "last"] (He.ga K "mark_behind") fd17 := ⟨F17, g17, F17.binds fun _ _ _ _ _ _ us hl => match us, hl with | [_, _, _, _], _ => rfl⟩
  obtain ⟨fd18, G18⟩ := cd.def_ 18 (d := ddX18) rfl
  obtain ⟨F18, C18⟩ : Fun K "whole_points" "whole_points" (top 58) (He.ga K "whole_points") fd18 ∧ fd18.code = .ref (He.cT K ("whole_points", none)).1 := funZ (p := ("whole_points", none)) G18
  have g18 := He.glo_ok X G (cd.fact 18 (f := .glo "whole_points") rfl)
  have d18 : Df K mg "whole_points" (top 58) ["numbers"] (He.ga K "whole_points") fd18 := ⟨F18, g18, F18.binds fun _ _ _ _ _ _ us hl => match us, hl with | [_], _ => rfl⟩
  obtain ⟨fd19, G19⟩ := cd.def_ 19 (d := ddX19) rfl
  obtain ⟨F19, C19⟩ : Fun K "_points" "_points" (top 59) (He.ga K "_points") fd19 ∧ fd19.code = .ref (He.cT K ("_points", none)).1 := funZ (p := ("_points", none)) G19
  have g19 := He.glo_ok X G (cd.fact 19 (f := .glo "_points") rfl)
  have d19 : Df K mg "_points" (top 59) ["tops", "bottom"] (He.ga K "_points") fd19 := ⟨F19, g19, F19.binds fun _ _ _ _ _ _ us hl => match us, hl with | [_, _], _ => rfl⟩
  obtain ⟨fd20, G20⟩ := cd.def_ 20 (d := ddX20) rfl
  obtain ⟨F20, C20⟩ : Fun K "steps_of" "steps_of" (top 61) (He.ga K "steps_of") fd20 ∧ fd20.code = .ref (He.cT K ("steps_of", none)).1 := funZ (p := ("steps_of", none)) G20
  have g20 := He.glo_ok X G (cd.fact 20 (f := .glo "steps_of") rfl)
  have d20 : Df K mg "steps_of" (top 61) ["row"] (He.ga K "steps_of") fd20 := ⟨F20, g20, F20.binds fun _ _ _ _ _ _ us hl => match us, hl with | [_], _ => rfl⟩
  obtain ⟨fd21, G21⟩ := cd.def_ 21 (d := ddX21) rfl
  obtain ⟨F21, C21⟩ : Fun K "steps_of_some" "steps_of_some" (top 62) (He.ga K "steps_of_some") fd21 ∧ fd21.code = .ref (He.cT K ("steps_of_some", none)).1 := funZ (p := ("steps_of_some", none)) G21
  have g21 := He.glo_ok X G (cd.fact 21 (f := .glo "steps_of_some") rfl)
  have d21 : Df K mg "steps_of_some" (top 62) ["row"] (He.ga K "steps_of_some") fd21 := ⟨F21, g21, F21.binds fun _ _ _ _ _ _ us hl => match us, hl with | [_], _ => rfl⟩
  obtain ⟨fd22, G22⟩ := cd.def_ 22 (d := ddX22) rfl
  obtain ⟨F22, C22⟩ : Fun K "how_many_orders" "how_many_orders" (top 63) (He.ga K "how_many_orders") fd22 ∧ fd22.code = .ref (He.cT K ("how_many_orders", none)).1 := funZ (p := ("how_many_orders", none)) G22
  have g22 := He.glo_ok X G (cd.fact 22 (f := .glo "how_many_orders") rfl)
  have d22 : Df K mg "how_many_orders" (top 63) ["count"] (He.ga K "how_many_orders") fd22 := ⟨F22, g22, F22.binds fun _ _ _ _ _ _ us hl => match us, hl with | [_], _ => rfl⟩
  obtain ⟨fd23, G23⟩ := cd.def_ 23 (d := ddX23) rfl
  obtain ⟨F23, C23⟩ : Fun K "all_orders" "all_orders" (top 64) (He.ga K "all_orders") fd23 ∧ fd23.code = .ref (He.cT K ("all_orders", none)).1 := funZ (p := ("all_orders", none)) G23
  have g23 := He.glo_ok X G (cd.fact 23 (f := .glo "all_orders") rfl)
  have d23 : Df K mg "all_orders" (top 64) ["count"] (He.ga K "all_orders") fd23 := ⟨F23, g23, F23.binds fun _ _ _ _ _ _ us hl => match us, hl with | [_], _ => rfl⟩
  obtain ⟨fd24, G24⟩ := cd.def_ 24 (d := ddX24) rfl
  obtain ⟨F24, C24⟩ : Fun K "broken_at" "broken_at" (top 65) (He.ga K "broken_at") fd24 ∧ fd24.code = .ref (He.cT K ("broken_at", none)).1 := funZ (p := ("broken_at", none)) G24
  have g24 := He.glo_ok X G (cd.fact 24 (f := .glo "broken_at") rfl)
  have d24 : Df K mg "broken_at" (top 65) ["row"] (He.ga K "broken_at") fd24 := ⟨F24, g24, F24.binds fun _ _ _ _ _ _ us hl => match us, hl with | [_], _ => rfl⟩
  obtain ⟨fd25, G25⟩ := cd.def_ 25 (d := ddX25) rfl
  obtain ⟨F25, C25⟩ : Fun K "_check_row" "_check_row" (top 66) (He.ga K "_check_row") fd25 ∧ fd25.code = .ref (He.cT K ("_check_row", none)).1 := funZ (p := ("_check_row", none)) G25
  have g25 := He.glo_ok X G (cd.fact 25 (f := .glo "_check_row") rfl)
  have d25 : Df K mg "_check_row" (top 66) ["row"] (He.ga K "_check_row") fd25 := ⟨F25, g25, F25.binds fun _ _ _ _ _ _ us hl => match us, hl with | [_], _ => rfl⟩
  obtain ⟨fd26, G26⟩ := cd.def_ 26 (d := ddX26) rfl
  obtain ⟨F26, C26⟩ : Fun K "_check_order" "_check_order" (top 67) (He.ga K "_check_order") fd26 ∧ fd26.code = .ref (He.cT K ("_check_order", none)).1 := funZ (p := ("_check_order", none)) G26
  have g26 := He.glo_ok X G (cd.fact 26 (f := .glo "_check_order") rfl)
  have d26 : Df K mg "_check_order" (top 67) ["row"] (He.ga K "_check_order") fd26 := ⟨F26, g26, F26.binds fun _ _ _ _ _ _ us hl => match us, hl with | [_], _ => rfl⟩
  obtain ⟨fd27, G27⟩ := cd.def_ 27 (d := ddX27) rfl
  obtain ⟨F27, C27⟩ : Fun K "_are_ascending_marks" "_are_ascending_marks" (top 68) (He.ga K "_are_ascending_marks") fd27 ∧ fd27.code = .ref (He.cT K ("_are_ascending_marks", none)).1 := funZ (p := ("_are_ascending_marks", none)) G27
  have g27 := He.glo_ok X G (cd.fact 27 (f := .glo "_are_ascending_marks") rfl)
  have d27 : Df K mg "_are_ascending_marks" (top 68) ["given"] (He.ga K "_are_ascending_marks") fd27 := ⟨F27, g27, F27.binds fun _ _ _ _ _ _ us hl => match us, hl with | [_], _ => rfl⟩
  obtain ⟨fd28, G28⟩ := cd.def_ 28 (d := ddX28) rfl
  obtain ⟨F28, C28⟩ : Fun K "_steps_that_meet" "_steps_that_meet" (top 69) (He.ga K "_steps_that_meet") fd28 ∧ fd28.code = .ref (He.cT K ("_steps_that_meet", none)).1 := funZ (p := ("_steps_that_meet", none)) G28
  have g28 := He.glo_ok X G (cd.fact 28 (f := .glo "_steps_that_meet") rfl)
  have d28 : Df K mg "_steps_that_meet" (top 69) ["row"] (He.ga K "_steps_that_meet") fd28 := ⟨F28, g28, F28.binds fun _ _ _ _ _ _ us hl => match us, hl with | [_], _ => rfl⟩
  obtain ⟨fd29, G29⟩ := cd.def_ 29 (d := ddX29) rfl
  obtain ⟨F29, C29⟩ : Fun K "_is_met" "_is_met" (top 70) (He.ga K "_is_met") fd29 ∧ fd29.code = .ref (He.cT K ("_is_met", none)).1 := funZ (p := ("_is_met", none)) G29
  have g29 := He.glo_ok X G (cd.fact 29 (f := .glo "_is_met") rfl)
  have d29 : Df K mg "_is_met" (top 70) ["row", "step"] (He.ga K "_is_met") fd29 := ⟨F29, g29, F29.binds fun _ _ _ _ _ _ us hl => match us, hl with | [_, _], _ => rfl⟩
  obtain ⟨fd30, G30⟩ := cd.def_ 30 (d := ddX30) rfl
  obtain ⟨F30, C30⟩ : Fun K "_how_many_tops" "_how_many_tops" (top 71) (He.ga K "_how_many_tops") fd30 ∧ fd30.code = .ref (He.cT K ("_how_many_tops", none)).1 := funZ (p := ("_how_many_tops", none)) G30
  have g30 := He.glo_ok X G (cd.fact 30 (f := .glo "_how_many_tops") rfl)
  have d30 : Df K mg "_how_many_tops" (top 71) ["most"] (He.ga K "_how_many_tops") fd30 := ⟨F30, g30, F30.binds fun _ _ _ _ _ _ us hl => match us, hl with | [_], _ => rfl⟩
  obtain ⟨fd31, G31⟩ := cd.def_ 31 (d := ddX31) rfl
  obtain ⟨F31, C31⟩ : Fun K "_law_tin" "_law_tin" (top 73) (He.ga K "_law_tin") fd31 ∧ fd31.code = .ref (He.cT K ("_law_tin", none)).1 := funZ (p := ("_law_tin", none)) G31
  have g31 := He.glo_ok X G (cd.fact 31 (f := .glo "_law_tin") rfl)
  have d31 : Df K mg "_law_tin" (top 73) ["_law_script", "_law_turn"] (He.ga K "_law_tin") fd31 := ⟨F31, g31, F31.binds fun _ _ _ _ _ _ us hl => match us, hl with | [_, _], _ => rfl⟩
  obtain ⟨fd32, G32⟩ := cd.def_ 32 (d := ddX32) rfl
  obtain ⟨F32, C32⟩ : Fun K "_law_sip" "_law_sip" (top 74) (He.ga K "_law_sip") fd32 ∧ fd32.code = .ref (He.cT K ("_law_sip", none)).1 := funZ (p := ("_law_sip", none)) G32
  have g32 := He.glo_ok X G (cd.fact 32 (f := .glo "_law_sip") rfl)
  have d32 : Df K mg "_law_sip" (top 74) ["_law_tin_here", "_law_top"] (He.ga K "_law_sip") fd32 := ⟨F32, g32, F32.binds fun _ _ _ _ _ _ us hl => match us, hl with | [_, _], _ => rfl⟩
  obtain ⟨fd33, G33⟩ := cd.def_ 33 (d := ddX33) rfl
  obtain ⟨F33, C33⟩ : Fun K "_law_pick" "_law_pick" (top 75) (He.ga K "_law_pick") fd33 ∧ fd33.code = .ref (He.cT K ("_law_pick", none)).1 := funZ (p := ("_law_pick", none)) G33
  have g33 := He.glo_ok X G (cd.fact 33 (f := .glo "_law_pick") rfl)
  have d33 : Df K mg "_law_pick" (top 75) ["_law_tin_here", "_law_menu"] (He.ga K "_law_pick") fd33 := ⟨F33, g33, F33.binds fun _ _ _ _ _ _ us hl => match us, hl with | [_, _], _ => rfl⟩
  obtain ⟨fd34, G34⟩ := cd.def_ 34 (d := ddX34) rfl
  obtain ⟨F34, C34⟩ : Fun K "_law_far" "_law_far" (top 76) (He.ga K "_law_far") fd34 ∧ fd34.code = .ref (He.cT K ("_law_far", none)).1 := funZ (p := ("_law_far", none)) G34
  have g34 := He.glo_ok X G (cd.fact 34 (f := .glo "_law_far") rfl)
  have d34 : Df K mg "_law_far" (top 76) ["_law_tin_here", "_law_most"] (He.ga K "_law_far") fd34 := ⟨F34, g34, F34.binds fun _ _ _ _ _ _ us hl => match us, hl with | [_, _], _ => rfl⟩
  obtain ⟨fd35, G35⟩ := cd.def_ 35 (d := ddX35) rfl
  obtain ⟨F35, C35⟩ : Fun K "_law_gcd" "_law_gcd" (top 77) (He.ga K "_law_gcd") fd35 ∧ fd35.code = .ref (He.cT K ("_law_gcd", none)).1 := funZ (p := ("_law_gcd", none)) G35
  have g35 := He.glo_ok X G (cd.fact 35 (f := .glo "_law_gcd") rfl)
  have d35 : Df K mg "_law_gcd" (top 77) ["_law_one", "_law_two"] (He.ga K "_law_gcd") fd35 := ⟨F35, g35, F35.binds fun _ _ _ _ _ _ us hl => match us, hl with | [_, _], _ => rfl⟩
  obtain ⟨fd36, G36⟩ := cd.def_ 36 (d := ddX36) rfl
  obtain ⟨F36, C36⟩ : Fun K "_law_low" "_law_low" (top 78) (He.ga K "_law_low") fd36 ∧ fd36.code = .ref (He.cT K ("_law_low", none)).1 := funZ (p := ("_law_low", none)) G36
  have g36 := He.glo_ok X G (cd.fact 36 (f := .glo "_law_low") rfl)
  have d36 : Df K mg "_law_low" (top 78) ["_law_top", "_law_bottom"] (He.ga K "_law_low") fd36 := ⟨F36, g36, F36.binds fun _ _ _ _ _ _ us hl => match us, hl with | [_, _], _ => rfl⟩
  obtain ⟨fd37, G37⟩ := cd.def_ 37 (d := ddX37) rfl
  obtain ⟨F37, C37⟩ : Fun K "_law_step" "_law_step" (top 79) (He.ga K "_law_step") fd37 ∧ fd37.code = .ref (He.cT K ("_law_step", none)).1 := funZ (p := ("_law_step", none)) G37
  have g37 := He.glo_ok X G (cd.fact 37 (f := .glo "_law_step") rfl)
  have d37 : Df K mg "_law_step" (top 79) ["_law_tin_here", "_law_most"] (He.ga K "_law_step") fd37 := ⟨F37, g37, F37.binds fun _ _ _ _ _ _ us hl => match us, hl with | [_, _], _ => rfl⟩
  obtain ⟨fd38, G38⟩ := cd.def_ 38 (d := ddX38) rfl
  obtain ⟨F38, C38⟩ : Fun K "_law_spot" "_law_spot" (top 80) (He.ga K "_law_spot") fd38 ∧ fd38.code = .ref (He.cT K ("_law_spot", none)).1 := funZ (p := ("_law_spot", none)) G38
  have g38 := He.glo_ok X G (cd.fact 38 (f := .glo "_law_spot") rfl)
  have d38 : Df K mg "_law_spot" (top 80) ["_law_x", "_law_k"] (He.ga K "_law_spot") fd38 := ⟨F38, g38, F38.binds fun _ _ _ _ _ _ us hl => match us, hl with | [_, _], _ => rfl⟩
  obtain ⟨fd39, G39⟩ := cd.def_ 39 (d := ddX39) rfl
  obtain ⟨F39, C39⟩ : Fun K "_law_line" "_law_line" (top 81) (He.ga K "_law_line") fd39 ∧ fd39.code = .ref (He.cT K ("_law_line", none)).1 := funZ (p := ("_law_line", none)) G39
  have g39 := He.glo_ok X G (cd.fact 39 (f := .glo "_law_line") rfl)
  have d39 : Df K mg "_law_line" (top 81) ["_law_x", "_law_marks", "_law_begin"] (He.ga K "_law_line") fd39 := ⟨F39, g39, F39.binds fun _ _ _ _ _ _ us hl => match us, hl with | [_, _, _], _ => rfl⟩
  obtain ⟨fd40, G40⟩ := cd.def_ 40 (d := ddX40) rfl
  obtain ⟨F40, C40⟩ : Fun K "_law_is_number" "_law_is_number" (top 82) (He.ga K "_law_is_number") fd40 ∧ fd40.code = .ref (He.cT K ("_law_is_number", none)).1 := funZ (p := ("_law_is_number", none)) G40
  have g40 := He.glo_ok X G (cd.fact 40 (f := .glo "_law_is_number") rfl)
  have d40 : Df K mg "_law_is_number" (top 82) ["_law_thing", "_law_low_here", "_law_high"] (He.ga K "_law_is_number") fd40 := ⟨F40, g40, F40.binds fun _ _ _ _ _ _ us hl => match us, hl with | [_, _, _], _ => rfl⟩
  obtain ⟨fd41, G41⟩ := cd.def_ 41 (d := ddX41) rfl
  obtain ⟨F41, C41⟩ : Fun K "_law_error" "_law_error" (top 83) (He.ga K "_law_error") fd41 ∧ fd41.code = .ref (He.cT K ("_law_error", none)).1 := funZ (p := ("_law_error", none)) G41
  have g41 := He.glo_ok X G (cd.fact 41 (f := .glo "_law_error") rfl)
  have d41 : Df K mg "_law_error" (top 83) ["_law_act"] (He.ga K "_law_error") fd41 := ⟨F41, g41, F41.binds fun _ _ _ _ _ _ us hl => match us, hl with | [_], _ => rfl⟩
  obtain ⟨fd42, G42⟩ := cd.def_ 42 (d := ddX42) rfl
  obtain ⟨F42, C42⟩ : Fun K "_law_class" "_law_class" (top 84) (He.ga K "_law_class") fd42 ∧ fd42.code = .ref (He.cT K ("_law_class", none)).1 := funZ (p := ("_law_class", none)) G42
  have g42 := He.glo_ok X G (cd.fact 42 (f := .glo "_law_class") rfl)
  have d42 : Df K mg "_law_class" (top 84) ["_law_e"] (He.ga K "_law_class") fd42 := ⟨F42, g42, F42.binds fun _ _ _ _ _ _ us hl => match us, hl with | [_], _ => rfl⟩
  obtain ⟨fd43, G43⟩ := cd.def_ 43 (d := ddX43) rfl
  obtain ⟨F43, C43⟩ : Fun K "_law_field" "_law_field" (top 85) (He.ga K "_law_field") fd43 ∧ fd43.code = .ref (He.cT K ("_law_field", none)).1 := funZ (p := ("_law_field", none)) G43
  have g43 := He.glo_ok X G (cd.fact 43 (f := .glo "_law_field") rfl)
  have d43 : Df K mg "_law_field" (top 85) ["_law_e"] (He.ga K "_law_field") fd43 := ⟨F43, g43, F43.binds fun _ _ _ _ _ _ us hl => match us, hl with | [_], _ => rfl⟩
  obtain ⟨fd44, G44⟩ := cd.def_ 44 (d := ddX44) rfl
  obtain ⟨F44, C44⟩ : Fun K "_law_ends_right" "_law_ends_right" (top 86) (He.ga K "_law_ends_right") fd44 ∧ fd44.code = .ref (He.cT K ("_law_ends_right", none)).1 := funZ (p := ("_law_ends_right", none)) G44
  have g44 := He.glo_ok X G (cd.fact 44 (f := .glo "_law_ends_right") rfl)
  have d44 : Df K mg "_law_ends_right" (top 86) ["_law_found", "_law_dues"] (He.ga K "_law_ends_right") fd44 := ⟨F44, g44, F44.binds fun _ _ _ _ _ _ us hl => match us, hl with | [_, _], _ => rfl⟩
  obtain ⟨fd45, G45⟩ := cd.def_ 45 (d := ddX45) rfl
  obtain ⟨F45, C45⟩ : Fun K "_law_due" "_law_due" (top 87) (He.ga K "_law_due") fd45 ∧ fd45.code = .ref (He.cT K ("_law_due", none)).1 := funZ (p := ("_law_due", none)) G45
  have g45 := He.glo_ok X G (cd.fact 45 (f := .glo "_law_due") rfl)
  have d45 : Df K mg "_law_due" (top 87) ["_law_word", "_law_thing", "_law_is_good"] (He.ga K "_law_due") fd45 := ⟨F45, g45, F45.binds fun _ _ _ _ _ _ us hl => match us, hl with | [_, _, _], _ => rfl⟩
  obtain ⟨fd46, G46⟩ := cd.def_ 46 (d := ddX46) rfl
  obtain ⟨F46, C46⟩ : Fun K "_law_wrong" "_law_wrong" (top 88) (He.ga K "_law_wrong") fd46 ∧ fd46.code = .ref (He.cT K ("_law_wrong", none)).1 := funZ (p := ("_law_wrong", none)) G46
  have g46 := He.glo_ok X G (cd.fact 46 (f := .glo "_law_wrong") rfl)
  have d46 : Df K mg "_law_wrong" (top 88) ["_law_thing"] (He.ga K "_law_wrong") fd46 := ⟨F46, g46, F46.binds fun _ _ _ _ _ _ us hl => match us, hl with | [_], _ => rfl⟩
  obtain ⟨fd47, G47⟩ := cd.def_ 47 (d := ddX47) rfl
  obtain ⟨F47, C47⟩ : Fun K "_law_bent" "_law_bent" (top 89) (He.ga K "_law_bent") fd47 ∧ fd47.code = .ref (He.cT K ("_law_bent", none)).1 := funZ (p := ("_law_bent", none)) G47
  have g47 := He.glo_ok X G (cd.fact 47 (f := .glo "_law_bent") rfl)
  have d47 : Df K mg "_law_bent" (top 89) ["_law_tin_here", "_law_line_here"] (He.ga K "_law_bent") fd47 := ⟨F47, g47, F47.binds fun _ _ _ _ _ _ us hl => match us, hl with | [_, _], _ => rfl⟩
  obtain ⟨fd48, G48⟩ := cd.def_ 48 (d := ddX48) rfl
  obtain ⟨F48, C48⟩ : Fun K "_law_right" "_law_right" (top 90) (He.ga K "_law_right") fd48 ∧ fd48.code = .ref (He.cT K ("_law_right", none)).1 := funZ (p := ("_law_right", none)) G48
  have g48 := He.glo_ok X G (cd.fact 48 (f := .glo "_law_right") rfl)
  have d48 : Df K mg "_law_right" (top 90) ["_law_tin_here"] (He.ga K "_law_right") fd48 := ⟨F48, g48, F48.binds fun _ _ _ _ _ _ us hl => match us, hl with | [_], _ => rfl⟩
  obtain ⟨fd49, G49⟩ := cd.def_ 49 (d := ddX49) rfl
  obtain ⟨F49, C49⟩ : Fun K "law" "law" (top 91) (He.ga K "law") fd49 ∧ fd49.code = .ref (He.cT K ("law", none)).1 := funZ (p := ("law", none)) G49
  have g49 := He.glo_ok X G (cd.fact 49 (f := .glo "law") rfl)
  have n0 := He.free_ok X G (cd.fact 66 (f := .free "len") rfl)
  have n1 := He.free_ok X G (cd.fact 67 (f := .free "int") rfl)
  have n2 := He.free_ok X G (cd.fact 68 (f := .free "abs") rfl)
  have n3 := He.free_ok X G (cd.fact 69 (f := .free "isinstance") rfl)
  have n4 := He.free_ok X G (cd.fact 70 (f := .free "bool") rfl)
  have n5 := He.free_ok X G (cd.fact 71 (f := .free "tuple") rfl)
  have n6 := He.free_ok X G (cd.fact 72 (f := .free "range") rfl)
  have n7 := He.free_ok X G (cd.fact 73 (f := .free "min") rfl)
  have n8 := He.free_ok X G (cd.fact 74 (f := .free "max") rfl)
  have n9 := He.free_ok X G (cd.fact 75 (f := .free "all") rfl)
  have n10 := He.free_ok X G (cd.fact 76 (f := .free "any") rfl)
  have n11 := He.free_ok X G (cd.fact 77 (f := .free "sorted") rfl)
  have n12 := He.free_ok X G (cd.fact 78 (f := .free "set") rfl)
  have n13 := He.free_ok X G (cd.fact 79 (f := .free "repr") rfl)
  have n14 := He.free_ok X G (cd.fact 80 (f := .free "list") rfl)
  have n15 := He.free_ok X G (cd.fact 81 (f := .free "enumerate") rfl)
  have n16 := He.free_ok X G (cd.fact 82 (f := .free "zip") rfl)
  have n17 := He.free_ok X G (cd.fact 83 (f := .free "sum") rfl)
  have n18 := He.free_ok X G (cd.fact 84 (f := .free "ValueError") rfl)
  have n19 := He.free_ok X G (cd.fact 85 (f := .free "LookupError") rfl)
  have n20 := He.free_ok X G (cd.fact 86 (f := .free "ArithmeticError") rfl)
  obtain ⟨i_MOST_MARK, v_MOST_MARK⟩ := He.int_ok X G (cd.fact 87 (f := .int "MOST_MARK" (40)) rfl)
  obtain ⟨i__MOST_ORDERED, v__MOST_ORDERED⟩ := He.int_ok X G (cd.fact 88 (f := .int "_MOST_ORDERED" (60)) rfl)
  obtain ⟨i_MOST_COUNTED, v_MOST_COUNTED⟩ := He.int_ok X G (cd.fact 89 (f := .int "MOST_COUNTED" (2000)) rfl)
  obtain ⟨i_MOST_LISTED, v_MOST_LISTED⟩ := He.int_ok X G (cd.fact 90 (f := .int "MOST_LISTED" (12)) rfl)
  have b_gcd := bi_ok X G (c.fx 1 (f := .bi "gcd" "math.gcd") rfl)
  have b_lcm := bi_ok X G (c.fx 2 (f := .bi "lcm" "math.lcm") rfl)
  have gb := (c.fx 0 (f := .glob) rfl)
  obtain ⟨gb1, gb2⟩ := glob_ok gb
  have e0 := He.glo_ok X G (cd.fact 53 (f := .glo "InvalidText") rfl)
  have e1 := He.glo_ok X G (cd.fact 54 (f := .glo "InvalidNumber") rfl)
  have e2 := He.glo_ok X G (cd.fact 55 (f := .glo "InvalidStep") rfl)
  have e3 := He.glo_ok X G (cd.fact 56 (f := .glo "InvalidArc") rfl)
  have e4 := He.glo_ok X G (cd.fact 57 (f := .glo "InvalidSighting") rfl)
  have e5 := He.glo_ok X G (cd.fact 58 (f := .glo "InvalidSightings") rfl)
  have e6 := He.glo_ok X G (cd.fact 59 (f := .glo "NotALot") rfl)
  have e7 := He.glo_ok X G (cd.fact 60 (f := .glo "InvalidPieces") rfl)
  have e8 := He.glo_ok X G (cd.fact 61 (f := .glo "InvalidOrder") rfl)
  have e9 := He.glo_ok X G (cd.fact 62 (f := .glo "InvalidIndex") rfl)
  have e10 := He.glo_ok X G (cd.fact 63 (f := .glo "NoStep") rfl)
  have e11 := He.glo_ok X G (cd.fact 64 (f := .glo "TooMany") rfl)
  have e12 := He.glo_ok X G (cd.fact 65 (f := .glo "Broken") rfl)
  have r0 := He.glo_ok X G (cd.fact 50 (f := .glo "NotRight") rfl)
  have r1 := He.glo_ok X G (cd.fact 51 (f := .glo "NotKnown") rfl)
  have r2 := He.glo_ok X G (cd.fact 52 (f := .glo "NotPossible") rfl)
  obtain ⟨fi0, H0⟩ := cd.def_ 50 (d := ddX50) rfl
  obtain ⟨I0, J0⟩ : Fun K "__init__" "Lot.__init__" (inClass (top 40) 0) (He.ma K (He.ga K "Lot") "__init__") fi0 ∧ fi0.code = .ref (He.cT K ("Lot", some "__init__")).1 := funZ (p := ("Lot", some "__init__")) H0
  obtain ⟨fi1, H1⟩ := cd.def_ 51 (d := ddX51) rfl
  obtain ⟨I1, J1⟩ : Fun K "__init__" "InvalidNumber.__init__" (inn (top 5)) (He.ma K (He.ga K "InvalidNumber") "__init__") fi1 ∧ fi1.code = .ref (He.cT K ("InvalidNumber", some "__init__")).1 := funZ (p := ("InvalidNumber", some "__init__")) H1
  obtain ⟨fi2, H2⟩ := cd.def_ 52 (d := ddX52) rfl
  obtain ⟨I2, J2⟩ : Fun K "__init__" "InvalidOrder.__init__" (inn (top 12)) (He.ma K (He.ga K "InvalidOrder") "__init__") fi2 ∧ fi2.code = .ref (He.cT K ("InvalidOrder", some "__init__")).1 := funZ (p := ("InvalidOrder", some "__init__")) H2
  obtain ⟨oC1, oX1, oE1, oI1, oT1⟩ := own_ok gb (show ownC K (He.ga K "InvalidNumber") (He.ga K "NotRight") = true from (c.fx 3 (f := .own "InvalidNumber" "NotRight") rfl))
  have T1 : CK K "InvalidNumber" ["given"] (He.ga K "InvalidNumber") (He.ga K "NotRight") (He.ma K (He.ga K "InvalidNumber") "__init__") fi1 (inn (top 5)) "InvalidNumber.__init__" := ⟨He.eqO_ok (show He.eqO (PySem.W.nsIn K mainGlobals "InvalidNumber") _ = true from (cd.fact 54 (f := .glo "InvalidNumber") rfl)), oC1, oI1, oT1, oX1, oE1, List.forall_mem_singleton.mpr (He.noat_ok (cd.fact 101 (f := .noat "InvalidNumber" "given") rfl)), I1⟩
  obtain ⟨oC8, oX8, oE8, oI8, oT8⟩ := own_ok gb (show ownC K (He.ga K "InvalidOrder") (He.ga K "NotRight") = true from (c.fx 23 (f := .own "InvalidOrder" "NotRight") rfl))
  have T8 : CK K "InvalidOrder" ["index"] (He.ga K "InvalidOrder") (He.ga K "NotRight") (He.ma K (He.ga K "InvalidOrder") "__init__") fi2 (inn (top 12)) "InvalidOrder.__init__" := ⟨He.eqO_ok (show He.eqO (PySem.W.nsIn K mainGlobals "InvalidOrder") _ = true from (cd.fact 61 (f := .glo "InvalidOrder") rfl)), oC8, oI8, oT8, oX8, oE8, List.forall_mem_singleton.mpr (He.noat_ok (cd.fact 102 (f := .noat "InvalidOrder" "index") rfl)), I2⟩
  let er : Er mg := { c := fun i => match i with | 0 => (He.ga K "InvalidText") | 1 => (He.ga K "InvalidNumber") | 2 => (He.ga K "InvalidStep") | 3 => (He.ga K "InvalidArc") | 4 => (He.ga K "InvalidSighting") | 5 => (He.ga K "InvalidSightings") | 6 => (He.ga K "NotALot") | 7 => (He.ga K "InvalidPieces") | 8 => (He.ga K "InvalidOrder") | 9 => (He.ga K "InvalidIndex") | 10 => (He.ga K "NoStep") | 11 => (He.ga K "TooMany") | _ => (He.ga K "Broken"), R0 := (He.ga K "NotRight"), R1 := (He.ga K "NotKnown"), R2 := (He.ga K "NotPossible"), g := fun i hi => match i, hi with | 0, _ => e0 | 1, _ => e1 | 2, _ => e2 | 3, _ => e3 | 4, _ => e4 | 5, _ => e5 | 6, _ => e6 | 7, _ => e7 | 8, _ => e8 | 9, _ => e9 | 10, _ => e10 | 11, _ => e11 | 12, _ => e12 | i + 13, z => absurd z (by omega), g0 := r0, g1 := r1, g2 := r2, v0 := n18, v1 := n19, v2 := n20, isi := n3, len := n0 }
  have one1 : ∀ i, i < 13 → PySem.W.kitOne K (.ref (He.ga K "InvalidNumber")) (.ref (er.c i)) = some (decide (i = 1)) := fun i hi => match i, hi with | 0, _ => kit_ok (c.fx 4 (f := .kit "InvalidNumber" "InvalidText" false) rfl) | 1, _ => kit_ok (c.fx 5 (f := .kit "InvalidNumber" "InvalidNumber" true) rfl) | 2, _ => kit_ok (c.fx 6 (f := .kit "InvalidNumber" "InvalidStep" false) rfl) | 3, _ => kit_ok (c.fx 7 (f := .kit "InvalidNumber" "InvalidArc" false) rfl) | 4, _ => kit_ok (c.fx 8 (f := .kit "InvalidNumber" "InvalidSighting" false) rfl) | 5, _ => kit_ok (c.fx 9 (f := .kit "InvalidNumber" "InvalidSightings" false) rfl) | 6, _ => kit_ok (c.fx 10 (f := .kit "InvalidNumber" "NotALot" false) rfl) | 7, _ => kit_ok (c.fx 11 (f := .kit "InvalidNumber" "InvalidPieces" false) rfl) | 8, _ => kit_ok (c.fx 12 (f := .kit "InvalidNumber" "InvalidOrder" false) rfl) | 9, _ => kit_ok (c.fx 13 (f := .kit "InvalidNumber" "InvalidIndex" false) rfl) | 10, _ => kit_ok (c.fx 14 (f := .kit "InvalidNumber" "NoStep" false) rfl) | 11, _ => kit_ok (c.fx 15 (f := .kit "InvalidNumber" "TooMany" false) rfl) | 12, _ => kit_ok (c.fx 16 (f := .kit "InvalidNumber" "Broken" false) rfl) | i + 13, z => absurd z (by omega)
  have held1 : Held K er (He.ga K "InvalidNumber") 1 := { ex := T1.ex, xf := T1.xf, lt := by decide, one := one1, no := fun n e => by cases e; exact T1.no _ (by simp), bs := ⟨true, false, false, rfl, kit_ok (c.fx 17 (f := .kit "InvalidNumber" "NotRight" true) rfl), kit_ok (c.fx 18 (f := .kit "InvalidNumber" "NotKnown" false) rfl), kit_ok (c.fx 19 (f := .kit "InvalidNumber" "NotPossible" false) rfl), kitT_ok (c.fx 20 (f := .kitT "InvalidNumber" "ValueError" true) rfl), kitT_ok (c.fx 21 (f := .kitT "InvalidNumber" "LookupError" false) rfl), kitT_ok (c.fx 22 (f := .kitT "InvalidNumber" "ArithmeticError" false) rfl)⟩, ma := ma_of (He.exm_ok (cd.fact 91 (f := .exm "InvalidNumber" "NotRight" true) rfl)) (He.exm_ok (cd.fact 92 (f := .exm "InvalidNumber" "NotKnown" false) rfl)) (He.exm_ok (cd.fact 93 (f := .exm "InvalidNumber" "NotPossible" false) rfl)) }
  have one8 : ∀ i, i < 13 → PySem.W.kitOne K (.ref (He.ga K "InvalidOrder")) (.ref (er.c i)) = some (decide (i = 8)) := fun i hi => match i, hi with | 0, _ => kit_ok (c.fx 24 (f := .kit "InvalidOrder" "InvalidText" false) rfl) | 1, _ => kit_ok (c.fx 25 (f := .kit "InvalidOrder" "InvalidNumber" false) rfl) | 2, _ => kit_ok (c.fx 26 (f := .kit "InvalidOrder" "InvalidStep" false) rfl) | 3, _ => kit_ok (c.fx 27 (f := .kit "InvalidOrder" "InvalidArc" false) rfl) | 4, _ => kit_ok (c.fx 28 (f := .kit "InvalidOrder" "InvalidSighting" false) rfl) | 5, _ => kit_ok (c.fx 29 (f := .kit "InvalidOrder" "InvalidSightings" false) rfl) | 6, _ => kit_ok (c.fx 30 (f := .kit "InvalidOrder" "NotALot" false) rfl) | 7, _ => kit_ok (c.fx 31 (f := .kit "InvalidOrder" "InvalidPieces" false) rfl) | 8, _ => kit_ok (c.fx 32 (f := .kit "InvalidOrder" "InvalidOrder" true) rfl) | 9, _ => kit_ok (c.fx 33 (f := .kit "InvalidOrder" "InvalidIndex" false) rfl) | 10, _ => kit_ok (c.fx 34 (f := .kit "InvalidOrder" "NoStep" false) rfl) | 11, _ => kit_ok (c.fx 35 (f := .kit "InvalidOrder" "TooMany" false) rfl) | 12, _ => kit_ok (c.fx 36 (f := .kit "InvalidOrder" "Broken" false) rfl) | i + 13, z => absurd z (by omega)
  have held8 : Held K er (He.ga K "InvalidOrder") 8 := { ex := T8.ex, xf := T8.xf, lt := by decide, one := one8, no := fun n e => by cases e; exact T8.no _ (by simp), bs := ⟨true, false, false, rfl, kit_ok (c.fx 37 (f := .kit "InvalidOrder" "NotRight" true) rfl), kit_ok (c.fx 38 (f := .kit "InvalidOrder" "NotKnown" false) rfl), kit_ok (c.fx 39 (f := .kit "InvalidOrder" "NotPossible" false) rfl), kitT_ok (c.fx 40 (f := .kitT "InvalidOrder" "ValueError" true) rfl), kitT_ok (c.fx 41 (f := .kitT "InvalidOrder" "LookupError" false) rfl), kitT_ok (c.fx 42 (f := .kitT "InvalidOrder" "ArithmeticError" false) rfl)⟩, ma := ma_of (He.exm_ok (cd.fact 94 (f := .exm "InvalidOrder" "NotRight" true) rfl)) (He.exm_ok (cd.fact 95 (f := .exm "InvalidOrder" "NotKnown" false) rfl)) (He.exm_ok (cd.fact 96 (f := .exm "InvalidOrder" "NotPossible" false) rfl)) }
  have npp := ne_ok (c.fx 44 (f := .ne ("_steps_that_meet", none) ("_law_right", none)) rfl)
  obtain rfl : fa = He.ga K "law" := by
    have z := hfa.symm.trans g49
    cases z
    rfl
  refine ⟨fd49, [(He.cT K ("_steps_that_meet", none)), (He.cT K ("_law_right", none))], spLaw K [((He.cT K ("_steps_that_meet", none)).2, qM), ((He.cT K ("_law_right", none)).2, qR)], fun p hp => ?_, fun s v => FunD.bindsA (ps := ["_law_script"]) G49 (fun _ _ _ _ _ _ us hl => match us, hl with | [_], _ => rfl) s [v] rfl, fun H a ns hl ht hS => ⟨a, ns, rfl, hS, hl, fun p hp => ?_, fun _ => rfl⟩, fun base _ _ TB => ?_⟩
  · rcases is2 hp with rfl | rfl
    · exact c.tab X (p := ("_steps_that_meet", none)) List.mem_cons_self
    · exact c.tab X (p := ("_law_right", none)) (List.mem_cons_of_mem _ List.mem_cons_self)
  · rcases is2 hp with rfl | rfl
    · exact LamX.TabS.nil (ht (He.cT K ("_steps_that_meet", none)) List.mem_cons_self)
    · exact LamX.TabS.nil (ht (He.cT K ("_law_right", none)) (List.mem_cons_of_mem _ List.mem_cons_self))
  have bl : Bl mg := ⟨n0, n1, n2⟩
  have bc : Bc mg := ⟨n3, n1, n4, n5, n0, b_gcd⟩
  have bi : Bi mg := ⟨bl, n11, n12, n5⟩
  obtain ⟨cb, oca, ocb, sca, scb, ica, icb, nca, ncb, t0, t1, t2, lca, eca, lcb, ecb⟩ := cutB_ok (show cutB K (He.ga K "_LAST_CUT") = true from (c.fx 43 (f := .cut "_LAST_CUT") rfl))
  have bp : Bp K mg := ⟨bc, n15, n16, _, (He.glo_ok X G (cd.fact 103 (f := .glo "_LAST_CUT") rfl)), fun H => cut_written lca eca lcb ecb H⟩
  have bq : Bq mg := ⟨n11, n12, n6, b_lcm⟩
  have br : Br mg := ⟨bc, n6, n9, n10, n8, n2, n11, n15, _, v_MOST_MARK⟩
  obtain ⟨pe, pf, pq⟩ := c.prop 0 (p := prX0) rfl
  obtain ⟨oP, odP, kvP, dcP, pmP, aP, cdP, ctP, sP, lP, cP_, kP⟩ := PrD.fn pe pf
  obtain ⟨pr, opr, vpr, spr, rpr, aP_, gP, tP, lpr, epr⟩ := PrD.pr pq
  have FP : Fun K "pieces" "Lot.pieces" s_lpieces (prX0.at_ K) _ := fun_mk (st := s_lpieces) lP cP_ kP
  have T : LotC l.prog w K mg (He.ga K "Lot") (He.ma K (He.ga K "Lot") "__init__") (prX0.at_ K) fi0 _ := ⟨He.cls_ok (cd.fact 98 (f := .cls "Lot") rfl), He.noat_ok (cd.fact 100 (f := .noat "Lot" "_pieces") rfl), He.glo_ok X G (cd.fact 97 (f := .glo "Lot") rfl), He.mkr_ok (cd.fact 99 (f := .mkr "Lot") rfl), I0, I0.binds fun _ _ _ _ _ _ us hl => match us, hl with | [_, _], _ => rfl, ⟨pr, prop_mk aP_ gP tP lpr epr⟩, FP, FP.binds fun _ _ _ _ _ _ us hl => match us, hl with | [_], _ => rfl⟩
  let pd : Pd K mg := { f_is_fraction := ⟨_, _⟩, d_is_fraction := d1, f_is_part := ⟨_, _⟩, d_is_part := d3, f_is_less := ⟨_, _⟩, d_is_less := d4, f_mediant := ⟨_, _⟩, d_mediant := d10, f__first_wrong := ⟨_, _⟩, d__first_wrong := d12, f__is_piece := ⟨_, _⟩, d__is_piece := d13, f__cuts_at := ⟨_, _⟩, d__cuts_at := d14, f__is_ahead := ⟨_, _⟩, d__is_ahead := d15, f__lot_with := ⟨_, _⟩, d__lot_with := d16, f_int := ⟨_, _⟩, d_int := d0, f_low := ⟨_, _⟩, d_low := d9 }
  let S : St l.prog w K mg base := { C := _, fI := _, fP := _, fdI := _, fdP := _, T := T, B := bp, Bq := bq, Br := br, M := pd, f_lot_where := ⟨_, _⟩, d_lot_where := d11, f_whole_points := ⟨_, _⟩, d_whole_points := d18, f__points := ⟨_, _⟩, d__points := d19, f__check_row := ⟨_, _⟩, d__check_row := d25, f__check_order := ⟨_, _⟩, d__check_order := d26, f__are_ascending_marks := ⟨_, _⟩, d__are_ascending_marks := d27, f__is_met := ⟨_, _⟩, d__is_met := d29, f__steps_that_meet := ⟨_, _⟩, d__steps_that_meet := d28, f_num := ⟨_, _⟩, d_num := d5, cc := (He.cT K ("_steps_that_meet", none)).1, PP := (He.cT K ("_steps_that_meet", none)).2, ec := C28, TB := TB (He.cT K ("_steps_that_meet", none)) List.mem_cons_self, TT := [((He.cT K ("_steps_that_meet", none)).2, qM), ((He.cT K ("_law_right", none)).2, qR)], mT := List.mem_cons_self, oT := fun q hq e => by rcases is2 hq with rfl | rfl; rfl; exact absurd e.symm npp }
  have bo : Bo mg := ⟨bc, n6, n11, _, v__MOST_ORDERED⟩
  let io : Io l.prog w K mg base := { s := S, CO := _, eO := ⟨_, _⟩, tO := cl8 X G T8 }
  let no : No l.prog w K mg base := { o := io, bo := bo, range := n6, list := n14, sum := n17, zip := n16, mc := ⟨_, v_MOST_COUNTED⟩, ml := ⟨_, v_MOST_LISTED⟩, ft := ⟨_, _⟩, dt := d30, fr := ⟨_, _⟩, dr := d1, fs := ⟨_, _⟩, ds := d2, fc := ⟨_, _⟩, dc := d6, fn := ⟨_, _⟩, dn := d7, fo := ⟨_, _⟩, dod := d8, CN := _, eN := ⟨_, _⟩, tN := cl1 X G T1 }
  let la : La l.prog w K mg base := { no := no, er := er, hO := held8, hN := held1, bl := bl, bi := bi, bw := ⟨bc, n6, n11, n12, n14⟩, rp := n13, all := n9, f_ss := ⟨_, _⟩, ss := d21, f_so := ⟨_, _⟩, so := d20, f_br := ⟨_, _⟩, br := d24, f_mb := ⟨_, _⟩, mb := d17, f_hm := ⟨_, _⟩, hm := d22, f_al := ⟨_, _⟩, al := d23, f_ls := ⟨_, _⟩, ls := d32, f_lp := ⟨_, _⟩, lp := d33, f_lf := ⟨_, _⟩, lf := d34, f_lg := ⟨_, _⟩, lg := d35, f_ll := ⟨_, _⟩, ll := d36, f_le := ⟨_, _⟩, le := d37, f_lk := ⟨_, _⟩, lk := d38, f_ln := ⟨_, _⟩, ln := d39, f_li := ⟨_, _⟩, li := d40, f_lE := ⟨_, _⟩, lE := d41, f_lC := ⟨_, _⟩, lC := d42, f_lF := ⟨_, _⟩, lF := d43, f_lX := ⟨_, _⟩, lX := d44, f_ld := ⟨_, _⟩, ld := d45, f_lw := ⟨_, _⟩, lw := d46, f_lb := ⟨_, _⟩, lb := d47, sok := kwOf1 F20 fun _ _ _ _ _ _ _ => rfl }
  let lc : Lc l.prog w K mg base := { la := la, max := n8, min := n7, gt := ⟨_, _⟩, lt := d31, gr := ⟨_, _⟩, dg := d48, cc := (He.cT K ("_law_right", none)).1, PR := (He.cT K ("_law_right", none)).2, ec := C48, TB := TB (He.cT K ("_law_right", none)) (List.mem_cons_of_mem _ List.mem_cons_self), mR := (List.mem_cons_of_mem _ List.mem_cons_self), one := fun q hq e => by rcases is2 hq with rfl | rfl; exact absurd e npp; rfl }
  exact ok_law F49 lc
end My
open PySem PySem.W PyProof.Rows
set_option maxRecDepth 100000 in
set_option maxHeartbeats 0 in
theorem PySem.Challenge.cw_rimorders_k20_orders_refused_holds : PySem.Challenge.rw_rimorders_k20_orders_refused.Holds := by
  w_on; o_law
  refine HandSHeadRun.head_imp (r := OpenLaw.row PySem.Challenge.rw_rimorders_k20_orders_refused) (q := My.qvX) (H := My.hkX) (ob := My.obX) (M := 9000) (loose := My.namesX) (d := HandSHeadRun.topDef (OpenLaw.row PySem.Challenge.rw_rimorders_k20_orders_refused).prog 91) (kwd := []) My.obX_eq My.runX
    (by kernel_rfl) (by kernel_rfl) (by kernel_rfl) (by rfl) (by first | assumption | decide +kernel) (by decide +kernel) ⟨rfl, rfl, rfl, rfl, rfl, by decide +kernel⟩ ?hw ?hc
  case hw => w_witness2
  case hc =>
    refine My.walkGX (l := PySem.Challenge.rw_rimorders_k20_orders_refused) (n := 63) (k := 15) (x := "_law_script") (CX := fun _ => L2.CX0) rfl (by decide) (by kernel_rfl) ⟨rfl, by decide, by decide⟩ ?F (fun _ _ _ _ _ z => z)
    intro w mg fa h Y G hmg0
    obtain ⟨K, KX, c⟩ := Y
    have hmg : mg ("law" : PySem.Str) = some (.ref fa) := by
      have e : (HandSHeadRun.topDef (OpenLaw.row PySem.Challenge.rw_rimorders_k20_orders_refused).prog 91).name = ("law" : PySem.Str) := by kernel_rfl
      rw [← e]
      exact hmg0
    exact ⟨K, KX, My.all_mkX KX G hmg c⟩
