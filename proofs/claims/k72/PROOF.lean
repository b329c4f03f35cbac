import PyProof.Rows.All
import Wide.All
import OpenK.AllK
import Wide.FinOn
import HandS.ForMost
import HandS.ForExc
import HandS.Strs
import HandS.SetFor
import HandS.SetKeys
import HandS.TupAny
import HandS.Style
import HandS.Gcd
import HandS.Wide
import HandS.IsInst
import HandS.Conv
import HandS.Flow
import PyProof.ReprRoads
import HandS.More
import PyProof.ReprLen
import HandS.ExcInit
import HandS.ExcField
import HandS.ExcIs
import KE.KExcInit
import HandS.MakeKw
import KE.KTryMore
import HandS.HotCalls
import KE.KUnpack
import HandS.Lambda
import HandS.Words
import HandS.EndTab
import KE.KNest
import HandS.Defaults
import HandS.HeadHook1
import HandS.HeadHook2
import HandS.HeadHook3
import HandS.HeadHook4
import HandS.HeadNt
import HandS.Head0
import HandS.Head1
import HandS.Head2
import HandS.Head3
import HandS.HeadEnd
import HandS.SortInts
import KE.GoesEnum
import KE.KMathGC
import HandS.SetBool
import HandS.Zip
import HandS.Property
import HandS.Walk
import HandS.Set
import HandS.Star
import HandS.FStr
import HandS.Text
import PyProof.Fits
import HandS.OwnEq
import HandS.SlotsOwn
import HandS.RaiseMore
import HandS.CallLocal
import HandS.Call
import PyProof.SetRoads
import HandS.TupMul
import PyProof.InstNe
import OpenK.KOwn
import PySem.Challenge.RW_rimorders_k72_known_doubts
set_option Elab.async false
set_option linter.all false
set_option maxRecDepth 100000
set_option maxHeartbeats 4000000
/-! general rules of mine: repr of data, set of a list of ints, t[:0:-1] -/
namespace Gn
open PySem PySem.Spec PyProof.Rows L2
section
variable {X : Cx}
/-! repr of lists and tuples -/
mutual
theorem dp_nodict {K : PySem.W.Frag} {H : Hp} : ∀ (d : PyData) (v : V), Dp K H v d → d.hasDict = false
  | .none, _, _ => by simp only [PyData.hasDict]
  | .bool _, _, _ => by simp only [PyData.hasDict]
  | .int _, _, _ => by simp only [PyData.hasDict]
  | .str _, _, _ => by simp only [PyData.hasDict]
  | .list ds, _, h => by
    cases h with
    | lst _ ha => simp only [PyData.hasDict]; exact dps_nodict ds _ ha
  | .tuple ds, _, h => by
    cases h with
    | tup _ ha => simp only [PyData.hasDict]; exact dps_nodict ds _ ha
  | .dict _, _, h => by cases h
theorem dps_nodict {K : PySem.W.Frag} {H : Hp} : ∀ (ds : List PyData) (vs : List V), DpAll K H vs ds → PyData.hasDictAll ds = false
  | [], _, _ => by simp only [PyData.hasDictAll]
  | d :: ds, _, h => by
    cases h with
    | cons h1 h2 => simp only [PyData.hasDictAll, dp_nodict d _ h1, dps_nodict ds _ h2, Bool.or_self]
end
/-- repr(x), x a list or a tuple of data -/
def rRepr (K : PySem.W.Frag) : List V → Hp → VK → Prop := fun xs H Q => ∃ a d, xs = [V.ref a] ∧ Dp K H (.ref a) d ∧ d.showable = true ∧ d.depth < 60 ∧ d.shown.length ≤ sizeLine ∧ Q (.str d.shown) H
theorem cr_repr (hg : X.A.guards = some []) (hu : X.A.units + 64 < cLine) : CallR X (.builtin "repr") (rRepr X.K) := by
  intro pins s σ H xs us Q I r h
  obtain ⟨a, d, rfl, hd, hs, hdp, hz, q⟩ := h
  rw [Vals.ref1 r]
  obtain ⟨as, rd⟩ := Dp.reads I d _ _ hd rfl
  exact repr_of_reads' rd hs (PySem.PyData.noDict_hsm (dp_nodict d _ hd)) hg (by omega) (fun _ _ e => e) (fun h' u tk k => ⟨.str d.shown, H, I.kept (t' := tk) k, ⟨u, rfl⟩, q⟩) hz
end
end Gn
set_option Elab.async false
set_option linter.all false
set_option maxRecDepth 100000
set_option maxHeartbeats 4000000
namespace Gn
open PySem PySem.Spec PyProof.Rows L2
/-- the empty set object as the machine lays it -/
abbrev eSet (w : World) : Obj := { cls := .type "set", dict := none, data := .set #[] 0 (.fresh 0 0 (!w.params.followText "set-order")) }
section
variable {P : Program} {w : World} {A : Around} {E : Value → Shared → Prop} {s : Shared}
/-- what the init leaves: a set of the ints ns at S, no older object changed -/
abbrev Filled (w : World) (ns : List Int) (s0 : Shared) (S : Addr) (s2 : Shared) : Prop := ∃ (h' : Heap) (tk c : Nat), s2 = { s0 with heap := h', toks := tk } ∧ SetR w h' S (fun j => decide (j ∈ ns)) c ∧ c ≤ ns.length ∧ ∀ b o, s0.heap.get? b = some o → h'.get? b = some o
set_option maxHeartbeats 6000000 in
/-- set(l), l a list of ints -/
theorem set_of_ints {l : Addr} {its : Array Value} (ns : List Int) {Q : Value → Shared → Prop} (hh : A.handled = none) (hl : s.heap.IsList l its) (hi : IntsAre its.toList ns) (hb : ns.length + 1 < scanBound)
    (h : ∀ s2, Filled w ns s s.heap.objs.size s2 → Q (.ref s.heap.objs.size) s2) : wpAny (model P w) A (call (.type "set") [.ref l]) Q E s := by
  have hN : its.size = ns.length := by have q := IntsAre.length hi; rw [Array.length_toList] at q; exact q
  obtain ⟨c, tl, hmro⟩ := F.called_set.mro; have hmade := F.called_set.made; have hsub := F.called_set.sub
  refine wpAny_call (codeAny_of_tree ?_); show wpAny _ _ (callAny (.type "set") _) _ _ _
  refine wpAny_pure ⟨Code.quiet_builtin _ (by decide +kernel), codeAny_builtin F.entry_type_call ?_⟩; rw [Around.under_plain (weight_type_call_type "set" [.ref l] []) rfl]
  have h1 := F.called_set.notType; have h2 := F.called_set.canCreate; have hct := F.typeCall_set_1 (.ref l)
  repeat (any_goals (first | assumption | wp_step))
  refine codeAny_mono (code_set_led1 (.ref l) (E := E) (Q₁ := fun v z => v = .ref s.heap.objs.size ∧ z = { s with heap := s.heap.push (eSet w) }) ⟨rfl, rfl⟩) fun r z hr => ?_
  cases r with
  | error e => exact hr
  | ok fl =>
    cases fl with
    | ret obj =>
      obtain ⟨rfl, rfl⟩ := hr
      have hS : (s.heap.push (eSet w)).get? s.heap.objs.size = some (eSet w) := Heap.get?_push_size _ rfl
      have hT : Shared.TypeIs { s with heap := s.heap.push (eSet w) } (.ref s.heap.objs.size) "set" := ⟨_, hS, rfl⟩
      have hli := F.called_set.init.lookup; have hbi := F.called_set.init.bind (.ref s.heap.objs.size)
      repeat (any_goals (first | assumption | wp_step))
      refine codeAny_mono (codeAny_call_builtin (R := wants (fun r z => r = .none ∧ Filled w ns s s.heap.objs.size z) E) F.called_set.init.plain F.entry_set_init (check_set_init_1 hT ?_)) fun r2 z2 hr2 => ?_
      · obtain ⟨⟨lc, ld, lx, ls⟩, hol, hcl, nl, hdl⟩ := hl
        simp only at hcl hdl
        subst hcl; subst hdl
        have hol' : (s.heap.push (eSet w)).get? l = some { cls := .type "list", dict := ld, data := .seq its nl, slots := ls } := Heap.get?_push_of_some _ hol
        have hsls := F.sub_list_set; have hslf := F.sub_list_frozenset; have hne : (Value.type "list" == Value.type "dict") = false := by decide
        have hl1 : (s.heap.push (eSet w)).IsList l its := ⟨_, hol', rfl, nl, rfl⟩
        unfold Builtin.«set.__init__» noKeywords Builtin.Frozenset.updateFrom
        generalize hPI : pyIter = PI
        wp_walk
        subst hPI
        refine wpAny_pyIter_list hl1 (wpAny_bind (wpAny_runValue ?_))
        have hlS : l < s.heap.objs.size := Heap.lt_size hol
        have h3 : A.in1.in1.in1.handled = none := by simp [hh]
        have z1 : (s.heap.push (eSet w)).objs.size = s.heap.objs.size + 1 := Heap.size_push ..
        have nI : l ≠ (s.heap.push (eSet w)).objs.size := by rw [z1]; exact Nat.ne_of_lt (Nat.lt_succ_of_lt hlS)
        have nF : s.heap.objs.size ∉ [(s.heap.push (eSet w)).objs.size, l] := by
          rw [z1]; intro q; rcases List.mem_cons.mp q with q | q
          · exact Nat.succ_ne_self _ q.symm
          · exact Nat.ne_of_gt hlS (List.mem_singleton.mp q)
        have hval : ∀ (i : Nat) (v : Value), its[i]? = some v → ∃ k t, ns[i]? = some k ∧ v = .int k t := fun i v hv => by
          have hil : i < ns.length := by rw [← hN]; exact (Array.getElem?_eq_some_iff.mp hv).1
          obtain ⟨t, e⟩ := IntsAre.int_at hi i v (by rw [Array.getElem?_toList]; exact hv)
          exact ⟨ns[i], t, List.getElem?_eq_getElem hil, by rw [e, List.getD_eq_getElem?_getD, List.getElem?_eq_getElem hil] <;> rfl⟩
        refine set_update_ints ((Walks.list h3 _ l nI its).toS) s.heap.objs.size nF ns hN hb hval (its.size - 0) 0 _ (by omega) (Nat.zero_le _) ⟨⟨_, Heap.get?_push_size _ rfl, rfl, rfl⟩, (hl1.push _)⟩ ⟨0, Nat.le_refl 0, setR_new_at (Heap.get?_push_of_some _ hS)⟩ ?_
        intro z' c' hm hc' hS'
        obtain ⟨h', g2, d', tk', os'⟩ := z'
        obtain rfl : g2 = s.gens := hm.gens
        obtain rfl : d' = s.drawn := hm.drawn
        obtain rfl : os' = s.os := hm.os
        show wpAny _ _ _ _ _ _
        refine wpAny_pure ?_; show wpAny _ _ (ret Value.none) _ _ _; rw [hN] at hc'
        refine wpAny_pure ⟨rfl, h', tk', c', rfl, hS', hc', fun b o e => ?_⟩
        have hb0 : b < s.heap.objs.size := Heap.lt_size e
        refine hm.heap b o (fun q => ?_) (Heap.get?_push_of_some _ (Heap.get?_push_of_some _ e))
        rcases List.mem_cons.mp q with q | q
        · exact Nat.ne_of_lt hb0 q
        · exact Nat.ne_of_lt (Nat.lt_succ_of_lt hb0) ((List.mem_singleton.mp q).trans z1)
      · cases r2 with
        | error e => exact hr2
        | ok fl2 =>
          cases fl2 with
          | ret r =>
            obtain ⟨rfl, h', tk, c', rfl, hS', hc', hk'⟩ := hr2
            repeat (any_goals (first | assumption | wp_step))
            exact h _ ⟨_, _, _, rfl, hS', hc', hk'⟩
          | _ => exact hr2.elim
    | _ => exact hr.elim
end
section
variable {X : Cx}
/-- set(l) of a list of fewer than 64 ints -/
def rSetI (K : PySem.W.Frag) (w : World) : List V → Hp → VK → Prop := fun xs H Q => ∃ (l : Addr) (ns : List Int), xs = [.ref l] ∧ SqL K H l (ns.map V.int) ∧ ns.length < 64 ∧ ∀ p c, H p = none → c ≤ ns.length → Q (.ref p) (upd H p (SetO w p (fun j => decide (j ∈ ns)) c))
theorem cr_setI (hc : X.calm = true) : CallR X (.type "set") (rSetI X.K X.w) := by
  intro pins s σ H xs us Q I r h
  obtain ⟨l, ns, rfl, hl, hf, q⟩ := h
  rw [Vals.ref1 r]
  obtain ⟨its, rv, pl, hz⟩ := I.list hl
  refine set_of_ints ns (I.ok.hd hc) pl.isList (by simpa using intsAre_of rv) (by unfold scanBound; omega) fun s2 hs => ?_
  obtain ⟨h', tk, c, rfl, hS, hcn, k⟩ := hs
  exact ⟨.ref s.heap.objs.size, _, I.laid (t' := tk) k (Nat.le_refl _) (setO_new hS), rfl, q _ c (I.hok.fresh (Nat.le_refl _)) hcn⟩
end
end Gn
set_option Elab.async false
set_option linter.all false
set_option maxRecDepth 100000
set_option maxHeartbeats 4000000
namespace Gn
open PySem PySem.Spec PyProof.Rows L2
/-! t[:0:-1], t a tuple -/
theorem back_adjust (n : Nat) : Builtin.Slice.slicePlaces (Builtin.Slice.sliceAdjust none (some 0) (-1) (n : Int)).1 (Builtin.Slice.sliceAdjust none (some 0) (-1) (n : Int)).2 (-1) = n - 1 ∧ (Builtin.Slice.sliceAdjust none (some 0) (-1) (n : Int)).1 = (n : Int) - 1 := by
  have a : (Builtin.Slice.sliceAdjust none (some 0) (-1) (n : Int)) = ((n : Int) - 1, min 0 ((n : Int) - 1)) := by
    simp only [Builtin.Slice.sliceAdjust, show ((-1 : Int) < 0) = True by decide, show ((0 : Int) < 0) = False by decide, if_true, if_false]
  rw [a]
  refine ⟨?_, rfl⟩
  unfold Builtin.Slice.slicePlaces
  simp only [show ((-1 : Int) > 0) = False by decide, if_false, show (-(-1) : Int) = 1 by decide, Int.ediv_one]
  split <;> omega
theorem back_pick (xs : Array Value) : ((List.range (xs.size - 1)).filterMap fun (m : Nat) => xs[(((xs.size : Nat) : Int) - 1 + (m : Int) * (-1)).toNat]?).toArray = (xs.toList.drop 1).reverse.toArray := by
  congr 1
  have g : ∀ k, k ≤ xs.size - 1 → ((List.range k).filterMap fun (m : Nat) => xs[(((xs.size : Nat) : Int) - 1 + (m : Int) * (-1)).toNat]?) = ((xs.toList.drop 1).reverse).take k := by
    intro k
    induction k with
    | zero => intro _; rfl
    | succ k ih =>
      intro hk
      have i1 : (((xs.size : Nat) : Int) - 1 + (k : Int) * (-1)).toNat = xs.size - 1 - k := by omega
      have i2 : xs.size - 1 - k < xs.size := by omega
      have hl : k < (xs.toList.drop 1).reverse.length := by rw [List.length_reverse, List.length_drop, Array.length_toList]; omega
      rw [List.range_succ, List.filterMap_append, ih (by omega), List.take_add_one, List.getElem?_eq_getElem hl]
      congr 1
      simp only [List.filterMap_cons, List.filterMap_nil, i1, Array.getElem?_eq_getElem i2, Option.toList]
      congr 1
      rw [List.getElem_reverse, List.getElem_drop]
      simp only [List.length_drop, Array.length_toList, Array.getElem_toList]
      congr 1
      omega
  rw [g _ (Nat.le_refl _)]
  refine List.take_of_length_le ?_
  rw [List.length_reverse, List.length_drop, Array.length_toList]
  exact Nat.le_refl _
section
variable {prog : Program} {w : World} {A : Around} {E : Value → Shared → Prop} {s : Shared}
theorem back_item {t sl : Addr} {its : Array Value} {vl vu vs : Value} {Q : Value → Shared → Prop} (ht : IsTup s.heap t its) (hs : s.heap.IsSliceOf sl vl vu vs) (pl : IsPart vl none) (pu : IsPart vu (some 0)) (ps : IsPart vs (some (-1)))
    (h : Q (.ref s.heap.objs.size) { s with heap := s.heap.push { cls := .type "tuple", data := .seq (its.toList.drop 1).reverse.toArray } }) (hz : its.size ≤ sizeLine) : wpAny (model prog w) A (getItem (.ref t) (.ref sl)) Q E s := by
  have hfit : sizeOk (.seq (its.toList.drop 1).reverse.toArray) := by
    show ((its.toList.drop 1).reverse).toArray.size ≤ sizeLine
    rw [List.size_toArray, List.length_reverse, List.length_drop, Array.length_toList]; omega
  obtain ⟨os, hos, hcs, hds⟩ := id hs
  unfold getItem
  try with_reducible refine wpAny_holding ?_
  first | refine wpAny_bind (wpAny_pure ?_) | skip
  refine wpAny_bind (wpAny_sequenceKey ht.typeIs (by decide) (wpAny_bind (wpAny_callSpecial?_slot (name := Str.ofString "__getitem__") ht.typeIs PyProof.Rows.slot_tuple_getitem (wpAny_call_entry PyProof.Rows.slot_tuple_getitem ht.typeIs PyProof.Rows.entry_tuple_getitem ?_ (PyProof.Rows.args_tuple_getitem _ _)))))
  show wpAny _ _ (Builtin.Tuple.tupleItemsOf (.ref t) >>= _) _ _ s
  refine wpAny_bind (PyProof.Rows.tupleItemsOf_ ht (wpAny_bind (wpAny_typeOf (show s.TypeIs (.ref sl) "slice" from ⟨os, hos, hcs⟩) ?_)))
  rw [if_pos (by decide)]
  refine wpAny_bind ?_
  unfold Builtin.Slice.sliceApplied Builtin.Slice.sliceFields
  refine wpAny_bind (wpAny_bind (wpAny_field hos hds (x := vl) rfl (wpAny_bind (wpAny_field hos hds (x := vu) rfl (wpAny_bind (wpAny_field hos hds (x := vs) rfl (wpAny_pure (wpAny_bind (HT.slicePart_ ps ?_)))))))))
  show wpAny _ _ (if ((-1 : Int) == 0) = true then _ else _) _ _ s
  rw [if_neg (by decide)]
  refine wpAny_bind (HT.slicePart_ pl (wpAny_bind (HT.slicePart_ pu (wpAny_bind (wpAny_pure ?_)))))
  have e1 := (back_adjust its.size).1
  have e2 := (back_adjust its.size).2
  show wpAny _ _ (pure ((Builtin.Slice.sliceAdjust none (some 0) (-1) (its.size : Int)).1, (-1 : Int), Builtin.Slice.slicePlaces (Builtin.Slice.sliceAdjust none (some 0) (-1) (its.size : Int)).1 (Builtin.Slice.sliceAdjust none (some 0) (-1) (its.size : Int)).2 (-1))) _ _ s
  rw [e1, e2]
  refine wpAny_pure ?_
  have no : ¬ ((((its.size : Nat) : Int) - 1 == 0 && (-1 : Int) == 1 && (its.size - 1) == its.size) = true) := by
    rw [show ((-1 : Int) == 1) = false by decide]; simp
  show wpAny _ _ (if ((((its.size : Nat) : Int) - 1 == 0 && (-1 : Int) == 1 && (its.size - 1) == its.size) = true) then _ else _) _ _ s
  rw [if_neg no, back_pick]
  first
    | exact wpAny_bind (m := Builtin.Tuple.tupleExact _) (wpAny_newObj_type (wpAny_pure ⟨_, rfl, wpAny_pure h⟩) hfit)
    | exact wpAny_bind (wpAny_bind (m := Builtin.Tuple.tupleExact _) (wpAny_newObj_type (wpAny_pure ⟨_, rfl, wpAny_pure h⟩) hfit))
    | exact wpAny_bind (wpAny_bind (m := Builtin.Tuple.tupleExact _) (wpAny_newObj_type (wpAny_pure (wpAny_pure ⟨_, rfl, wpAny_pure h⟩)) hfit))
end
def tBack (K : PySem.W.Frag) (te : TE) : TE := fun σ H Q => te σ H fun x H1 => ∃ a xs, x = .ref a ∧ SqT K H1 a xs ∧ ∀ p, H1 p = none → Q (.ref p) (upd H1 p (.tup (xs.drop 1).reverse))
section
variable {X : Cx}
theorem pe_back {e : Expr} {te : TE} {k k0 : Nat} {p0 p1 p2 p3 pos : Pos} (he : PE X e te) : PE X (.Subscript e (.Slice none (some (.Constant (.int 0) k0 p0)) (some (.UnaryOp .USub (.Constant (.int 1) k p1) p2)) p3) pos) (tBack X.K te) := by
  refine ⟨fun pins s σ H Q I h => ?_⟩
  refine Subscript_ (thn (he.run pins s σ H _ I h) fun v s1 ⟨x, H1, I1, r1, q1⟩ => ?_)
  obtain ⟨a, xs, ex, hx, q⟩ := q1
  subst ex
  cases r1
  have hup : PO X (some (.Constant (.int 0) k0 p0)) (tPart (tC (.int 0))) := po_some pe_int
  have hst : PO X (some (.UnaryOp .USub (.Constant (.int 1) k p1) p2)) (tPart (tUn (rU fun i => .int (-i)) (tC (.int 1)))) := po_some (pe_un un_neg pe_int)
  refine wpAny_Slice (thn (po_none.run pins s1 σ H1 (fun o H2 => o = none ∧ H2 = H1) I1 ⟨rfl, rfl⟩) fun vl s2 ⟨l, H2, I2, pl, el, e2⟩ => ?_)
  subst el e2
  refine thn (hup.run pins s2 σ H2 (fun o H3 => o = some 0 ∧ H3 = H2) I2 ⟨0, rfl, rfl, rfl⟩) fun vu s3 ⟨u, H3, I3, pu, eu, e3⟩ => ?_
  subst eu e3
  refine thn (hst.run pins s3 σ H3 (fun o H4 => o = some (-1) ∧ H4 = H3) I3 ⟨1, rfl, -1, rfl, rfl, rfl⟩) fun vs s4 ⟨o, H4, I4, ps, eo, e4⟩ => ?_
  subst eo e4
  have I5 : Inv X pins σ H4 { s4 with heap := s4.heap.push { cls := .type "slice", data := .fields #[vl, vu, vs] } } := I4.kept (t' := s4.toks) fun b ob q => Heap.get?_push_of_some _ q
  obtain ⟨its, r, ht, hz⟩ := I5.tuple hx
  have hlen := r.length
  show wpAny (model X.prog X.w) X.A (subscriptTail e (.Slice none (some (.Constant (.int 0) k0 p0)) (some (.UnaryOp .USub (.Constant (.int 1) k p1) p2)) p3) (.ref a) (.ref s4.heap.objs.size)) (EP X pins σ Q) X.xe { s4 with heap := s4.heap.push { cls := .type "slice", data := .fields #[vl, vu, vs] } }
  refine tail_any (ops := [.ref a, .ref s4.heap.objs.size]) ht.typeIs (PyProof.Rows.slot_tuple_getitem.lookup) ?_ (by with_unfolding_all rfl)
  refine back_item ht (Heap.IsSliceOf.new _ vl vu vs) pl pu ps ?_ (by rw [List.size_toArray]; omega)
  refine ⟨.ref _, _, I5.laid (t' := s4.toks) (o := .tup (xs.drop 1).reverse) (fun b ob q => Heap.get?_push_of_some _ q) (Nat.le_refl _) ?_, rfl, q _ (I5.hok.fresh (Nat.le_refl _))⟩
  exact ⟨by rw [List.length_reverse, List.length_drop]; omega, _, (Vals.drop 1 r).reverse, ⟨_, Heap.get?_push_size _ rfl, rfl, _, rfl⟩⟩
end
end Gn
set_option Elab.async false
set_option linter.all false
set_option maxRecDepth 100000
set_option maxHeartbeats 4000000
namespace Gn
open PySem PySem.Spec PyProof.Rows L2
/-- a def's promise where no repr runs around (the guards are known to be none) -/
structure FnG (P : Program) (w : World) (K : PySem.W.Frag) (mg : Str → Option Value) (base : Heap) (CX : CXT) (k : Nat) (f : Addr) (fd : FuncData) (ps : List Str) (sp : Sp) : Prop where
  len : ∀ vs H Q E, sp vs H Q E → vs.length = ps.length
  run : ∀ (A : Around) (outer : List Env) (s : Shared) (H : Hp) (args : Args) (us : List Value) (vs : List V) (Q : VK) (E : XK), A.guards = some [] → Room k A → Env0 P w K mg base A outer s H → BindsTo s fd args (ps.zip us) → Vals vs us → sp vs H Q E →
    codeAny (model P w) A (.call (.ref f) args) (CR CX outer P w H s Q E) s
section
variable {P : Program} {w : World} {K : PySem.W.Frag} {mg : Str → Option Value} {base : Heap}
theorem FnG.of {CX : CXT} {k : Nat} {f : Addr} {fd : FuncData} {ps : List Str} {sp : Sp} (F : FnOk P w K mg base CX k f fd ps sp) : FnG P w K mg base CX k f fd ps sp := ⟨F.len, fun A o s H a us vs Q E _ => F.run A o s H a us vs Q E⟩
theorem funG {CX : CXT} {x qual : Str} {st : Stmt} {f : Addr} {fd : FuncData} {N ps : List Str} {k : Nat} {sp : Sp} (F : Fun K x qual st f fd) (S : FnScope N ps (defScope st)) (len : ∀ vs H Q E, sp vs H Q E → vs.length = ps.length)
    (hbody : ∀ (cdv : Value) (A : Around) (outer : List Env) (s : Shared) (H : Hp) (vs : List V) (Q : VK) (E : XK), (A.deeper (envOfC qual (defScope st) s.heap.objs.size f cdv)).guards = some [] → Room k (A.deeper (envOfC qual (defScope st) s.heap.objs.size f cdv)) → sp vs H Q E →
      ∃ t, PSs (cxOf CX P w K mg base N qual (defScope st) f cdv A outer s H E) (defBody st) t ∧ t { nx := fun _ H' => Q .non H', rt := Q } (start N vs) H) : FnG P w K mg base CX (k + 1) f fd ps sp := by
  obtain ⟨oc, od, kV, doc, pm, an, cdv, ct, osl, rfl, lk, hcd⟩ := F.ex
  refine ⟨len, fun A outer s H args us vs Q E hg hr e0 hb r hsp => ?_⟩
  have KX : K.In s.heap := e0.mod.kin.keeps fun b o e => (e0.bs b o e).1
  have hkind : ∀ y ∈ ps.zip us, (defScope st).names.lookup y.1 = some .local ∨ ((defScope st).names.lookup y.1 = some .cell ∧ ((cellsFrom (s.heap.objs.size + 1) (defScope st).names []).lookup y.1).isSome = true) := fun y hy =>
    (S.par y.1 (List.of_mem_zip hy).1).elim .inl fun q => .inr ⟨q, PySem.W.cellsFrom_some _ _ _ (.inl q)⟩
  refine codeAny_call_function hr.depth (KX _ _ lk) rfl S.co S.gen rfl (PySem.W.codeRec_of KX hcd) (hb _ _ _ _ (wpAny_newFunctionEnv_cells S.kind hkind fun env he s1 x => ?_))
  subst he
  refine ⟨(e0.mod.nolimit.keeps fun b o e => (e0.bs b o e).1).keeps x.toInCall.keep, codeAny_func ?_⟩
  obtain ⟨t, ht, hq⟩ := hbody cdv A outer s H vs Q E hg (hr.deeper _) hsp
  have I : Inv (cxOf CX P w K mg base N qual (defScope st) f cdv A outer s H E) [] (start N vs) H s1 := inv_start S hr.hd e0 (len _ _ _ _ hsp) r x
  refine wpAny_mono (ht.run [] s1 (start N vs) H _ I hq) (fun fl s' hs => ?_) fun _ _ hs => hs
  cases fl with
  | ret u => obtain ⟨v, σ', H', J, rv, q⟩ := hs; exact ⟨v, H', J.os, J.bare, J.base, J.hok, rv, q⟩
  | next => obtain ⟨σ', H', J, q⟩ := hs; exact ⟨V.non, H', J.os, J.bare, J.base, J.hok, rfl, q⟩
  | brk => obtain ⟨_, _, _, q⟩ := hs; exact False.elim q
  | cont => obtain ⟨_, _, _, q⟩ := hs; exact False.elim q
/-- as Fun.ok: nothing leaves the def -/
theorem funG0 {x qual : Str} {st : Stmt} {f : Addr} {fd : FuncData} {N ps : List Str} {k : Nat} {sp : Sp} (F : Fun K x qual st f fd) (S : FnScope N ps (defScope st)) (len : ∀ vs H Q E, sp vs H Q E → vs.length = ps.length)
    (hbody : ∀ (cdv : Value) (A : Around) (outer : List Env) (s : Shared) (H : Hp) (vs : List V) (Q : VK) (E : XK), (A.deeper (envOfC qual (defScope st) s.heap.objs.size f cdv)).guards = some [] → Room k (A.deeper (envOfC qual (defScope st) s.heap.objs.size f cdv)) → sp vs H Q E →
      ∃ t, PSs (cxOf CX0 P w K mg base N qual (defScope st) f cdv A outer s H E).nox (defBody st) t ∧ t { nx := fun _ H' => Q .non H', rt := Q } (start N vs) H) : FnG P w K mg base CX0 (k + 1) f fd ps sp :=
  funG F S len fun cdv A outer s H vs Q E hg hr hsp => by
    obtain ⟨t, h, q⟩ := hbody cdv A outer s H vs Q E hg hr hsp
    exact ⟨t, h.nox, q⟩
end
section
variable {X : Cx} {CX : CXT} {k : Nat} {f : Addr} {fd : FuncData} {ps ks : List Str} {sp : Sp} {dvs : List V} {ds : List Value} {E : XK} {x : Str} {p pos : Pos} {e : Expr} {es : List Expr} {kws : List Keyword} {t tk : TA}
theorem back_of {pins : List (Addr × Obj)} {σ : L2.St} {H : Hp} {s s' : Shared} {Q : VK} (hx : Passes CX X E) (I : Inv X pins σ H s) {r : Result} (h : CR CX X.stack X.prog X.w H s Q E r s') :
    match r with | .ok (.ret u) => EP X pins σ Q u s' | .ok _ => False | .error e => X.xe e s' := by
  cases r with
  | error e => exact hx pins σ H s e s' I h
  | ok fl => cases fl with
    | ret u => exact I.after h
    | next => exact h
    | brk => exact h
    | cont => exact h
theorem run_fnG {pins : List (Addr × Obj)} {σ : L2.St} {H : Hp} {s : Shared} {Q : VK} {us : List Value} {vs : List V} (F : FnG X.prog X.w X.K X.mg X.base CX k f fd ps sp) (hg : X.A.guards = some []) (hr : Room k X.A) (hb : Binds X.K fd ps ds) (hd : Vals dvs ds) (hx : Passes CX X E)
    (I : Inv X pins σ H s) (r : Vals vs us) (h : sp (vs ++ dvs) H Q E) : wpAny (model X.prog X.w) X.A (call (.ref f) us) (EP X pins σ Q) X.xe s := by
  have r2 : Vals (vs ++ dvs) (us ++ ds) := r.append hd
  refine wpAny_call (codeAny_mono (F.run X.A X.stack s H ⟨us, []⟩ (us ++ ds) (vs ++ dvs) Q E hg hr I.env0 (hb s us I.kIn (by rw [← r2.length]; exact F.len _ _ _ _ h)) r2 h) fun r s' hq => ?_)
  have z := back_of hx I hq
  cases r with
  | error e => exact z
  | ok fl => cases fl with
    | ret u => exact z
    | next => exact z.elim
    | brk => exact z.elim
    | cont => exact z.elim
theorem pe_callG (F : FnG X.prog X.w X.K X.mg X.base CX k f fd ps sp) (hgu : X.A.guards = some []) (hr : Room k X.A) (hg : Gl X x) (hm : X.mg x = some (.ref f)) (hk : PySem.W.keepIn X.K (.ref f) = true) (hb : Binds X.K fd ps ds) (hd : Vals dvs ds) (hx : Passes CX X E)
    (ha : PA X (e :: es) t) (hdb : (x == ("__debug__" : Str)) = false := by decide) (he : starEach (e :: es) X.env = (false, eval e X.env) :: starEach es X.env := by rfl) (hpl : (backTo pos (starEach es X.env)).any (·.1) = false := by rfl) :
    PE X (.Call (.Name x p) (e :: es) [] pos) (tCall sp dvs E t) := ⟨fun pins s σ H Q I h =>
  wpAny_Call_Name_kw (ld_glob I hg hm (PySem.W.callWith_K (h₀ := X.base) I.ok.mod.kin hk (thn (ha.run pos pins s σ H _ I h) fun us s1 ⟨vs, H1, I1, r, q⟩ => ⟨I1.kIn, run_fnG F hgu hr hb hd hx I1 r q⟩) he hpl) hdb)⟩
end
/-! the end of a law -/
section
variable {P : Program} {w : World} {K : PySem.W.Frag} {mg mb : Str → Option Value}
theorem lawG {CX : CXT} {k : Nat} {fa a : Addr} {fd : FuncData} {x : Str} {sp : Sp} {s₁ : Shared} {vs : List Value} {ns : List Int}
    (KX : K.In s₁.heap) (hns : s₁.heap.Ns mainGlobals mg) (hb : s₁.heap.Ns builtinsNs mb) (hbb : ∀ x : Str, x ≠ "__name__" → mb x = bootBuiltins x) (hlim : s₁.heap.NoLimit) (hg : s₁.gens = #[])
    (ha : s₁.heap.get? a = some { cls := .type "list", data := .seq vs.toArray }) (hi : IntsAre vs ns) (hl : ns.length ≤ sizeLine) (hr : Room k callerA)
    (F : ∀ base : Heap, K.In base → base.Ns mainGlobals mg → FnG P w K mg base CX k fa fd [x] sp) (hbind : ∀ (s : Shared) (u : Value), BindsTo s fd ⟨[u], []⟩ [(x, u)])
    (hsp : ∀ H : Hp, Only H → SqL K H a (ns.map V.int) → sp [.ref a] H (fun v _ => v = .bl true) fun _ _ _ => False) (hCX : ∀ H e s', CX [] H s₁ (fun _ _ _ => False) e s' → False) :
    codeAny (model P w) callerA (.call (.ref fa) ⟨[.ref a], []⟩) (fun r s' => r = .ok (.ret (.bool true)) ∧ OldK s₁.heap s'.heap ∧ s'.os = s₁.os ∧ AllBare s'.gens) s₁ := by
  have rv := vals_ints hi
  have main : ∀ H : Hp, Only H → SqL K H a (ns.map V.int) → HOk P w H s₁.heap → (∀ b, H b ≠ none → b = a ∧ K.lookup a = none) →
      codeAny (model P w) callerA (.call (.ref fa) ⟨[.ref a], []⟩) (fun r s' => r = .ok (.ret (.bool true)) ∧ OldK s₁.heap s'.heap ∧ s'.os = s₁.os ∧ AllBare s'.gens) s₁ := by
    intro H hO hS hok hA
    have untr : ∀ {b : Addr}, b ≠ a ∨ K.lookup a ≠ none → H b = none := fun {b} h => by
      cases q : H b with
      | none => rfl
      | some u => have z := hA b (by rw [q]; simp); exact (h.elim (fun n => n z.1) fun n => n z.2).elim
    have ns_of : ∀ {b : Addr} {m : Str → Option Value}, s₁.heap.Ns b m → (hidT s₁.heap H).Ns b m := fun {b m} ⟨o, es, ep, e, d, r⟩ => ⟨o, es, ep, hidT_get e (untr (.inl fun z => by
      subst z
      rw [ha] at e
      cases e
      exact absurd (show Data.seq vs.toArray _ = Data.dict es ep from d) (fun z => by cases z))), d, r⟩
    have kb : K.In (hidT s₁.heap H) := fun b o e => hidT_get (KX b o e) (by
      by_cases z : b = a
      · exact untr (.inr fun y => by subst z; rw [y] at e; cases e)
      · exact untr (.inl z))
    have md : Mod K mg (hidT s₁.heap H) := ⟨kb, ns_of hns, ⟨mb, ns_of hb, hbb⟩, let ⟨mc, h1, h2⟩ := hlim; ⟨mc, ns_of h1, h2⟩⟩
    have e0 : Env0 P w K mg (hidT s₁.heap H) callerA [] s₁ H := ⟨rfl, md, fun b o e => of_hidT e, Nat.le_of_eq (hidT_size _ _), trivial, fun b hb => absurd (show b ∈ ([] : List Addr) from hb) (by simp), hok, .of_eq hg⟩
    refine codeAny_mono ((F _ kb (ns_of hns)).run callerA [] s₁ H ⟨[.ref a], []⟩ [.ref a] [.ref a] _ _ rfl hr e0 (hbind s₁ (.ref a)) (.cons rfl .nil) (hsp H hO hS)) fun r s' h => ?_
    cases r with
    | error e => exact (hCX H e s' h).elim
    | ok fl => cases fl with
      | next => exact False.elim h
      | brk => exact False.elim h
      | cont => exact False.elim h
      | ret u =>
        obtain ⟨v, H', os, bare, un, hok', r', q⟩ := h
        obtain rfl : v = .bl true := q
        obtain rfl : u = Value.bool true := r'
        refine ⟨rfl, OldK.of_keep fun b o e => ?_, os, bare⟩
        rcases hO b with z | ⟨ob, xs, z⟩
        · exact un.keep b o e z (fun y => nomatch y) (fun y => nomatch y)
        · obtain ⟨e1, _⟩ := hok b _ z
          obtain ⟨e2, _⟩ := hok' b _ (un.frzs b ob _ z)
          exact e2.trans (e1.symm.trans e)
  cases hk : K.lookup a with
  | some o =>
    have e := KX a o hk
    rw [ha] at e
    cases e
    exact main (fun _ => none) (fun _ => .inl rfl) (.inr ⟨_, vs.toArray, _, hk, rfl, rfl, rfl, by rw [List.size_toArray, hi.length]; exact hl, by simpa using rv⟩) (fun b u z => by cases (show (none : Option HO) = some u from z)) fun b z => absurd rfl z
  | none =>
    have at_ : ∀ {b : Addr} {u : HO}, (if b = a then some (HO.frz { cls := .type "list", data := .seq vs.toArray } (.lst (ns.map V.int))) else none) = some u → b = a ∧ u = .frz { cls := .type "list", data := .seq vs.toArray } (.lst (ns.map V.int)) := fun {b u} z => by
      by_cases y : b = a
      · rw [if_pos y] at z; exact ⟨y, (Option.some.inj z).symm⟩
      · rw [if_neg y] at z; cases z
    refine main (fun b => if b = a then some (.frz { cls := .type "list", data := .seq vs.toArray } (.lst (ns.map V.int))) else none) (fun b => ?_) (.inl (.inr ⟨{ cls := .type "list", data := .seq vs.toArray }, if_pos rfl⟩)) (fun b u z => ?_) fun b z => ⟨?_, hk⟩
    · by_cases y : b = a
      · exact .inr ⟨_, _, if_pos y⟩
      · exact .inl (if_neg y)
    · obtain ⟨rfl, rfl⟩ := at_ z
      exact ⟨ha, by rw [List.length_map]; exact hl, vs, _, rv, ha⟩
    · by_cases y : b = a
      · exact y
      · exact absurd (if_neg y) z
theorem walkG {l : PySem.W.OpenLaw} {n k : Nat} {q : Program} {loose : List Str} {XP : (Str → Option Value) → Heap → Prop} {YP : World → Heap → Prop} {d : DefRec} {K : Params → PySem.W.Frag} {CX : World → CXT} {sp : World → Sp} {x : Str}
    (hn : l.most = some n) (hn2 : n ≤ sizeLine) (hdf : d.params.defaults = []) (hr : Room k callerA) (hY : ∀ (w : World) (h : Heap), YP w h → (K w.params).In h)
    (F : ∀ (w : World) (mg : Str → Option Value) (fa : Addr) (h : Heap), (K w.params).In h → h.Ns mainGlobals mg → mg d.name = some (.ref fa) →
      ∃ fd : FuncData, (∀ (s : Shared) (u : Value), BindsTo s fd ⟨[u], []⟩ [(x, u)]) ∧ ∀ base : Heap, (K w.params).In base → base.Ns mainGlobals mg → FnG l.prog w (K w.params) mg base (CX w) k fa fd [x] (sp w))
    (hsp : ∀ (w : World) (H : Hp) (a : Addr) (ns : List Int), ns.length ≤ n → Only H → SqL (K w.params) H a (ns.map V.int) → sp w [.ref a] H (fun v _ => v = .bl true) fun _ _ _ => False)
    (hCX : ∀ (w : World) (H : Hp) (s : Shared) (e : Value) (s' : Shared), CX w [] H s (fun _ _ _ => False) e s' → False) : PySem.W.WalkO q loose XP YP l.row.toRowW d [] (fun f vs => PySem.call f vs) :=
  Att.attach_call hn hdf fun w s₀ s₁ mg mb fa o pm cd doc a vs ns G Y ho hd hcd hmg hobj hints hlen hg => by
    obtain ⟨fd, hb, hF⟩ := F w mg fa _ (hY w _ Y) G.T.g hmg
    exact lawG (hY w _ Y) G.T.g G.T.b G.T.builtins G.T.nolimit hg hobj hints (Nat.le_trans hlen hn2) hr hF hb (fun H hO hS => hsp w H a ns hlen hO hS) fun H e s' => hCX w H s₁ e s'
end
end Gn
set_option Elab.async false
set_option linter.all false
set_option maxRecDepth 100000
set_option maxHeartbeats 4000000
namespace Gn
open PySem PySem.Spec PyProof.Rows L2
section
variable {X : Cx} {CX : CXT} {k : Nat} {f : Addr} {fd : FuncData} {ps ks : List Str} {sp : Sp} {E : XK} {x : Str} {p pos : Pos} {kws : List Keyword} {tk : TA} {g : List Value → List Value → List Value} {gV : List V → List V → List V}
/-- f(k = v, ..): keywords alone -/
theorem pe_callK0 (F : FnOk X.prog X.w X.K X.mg X.base CX k f fd ps sp) (hr : Room k X.A) (hg : Gl X x) (hm : X.mg x = some (.ref f)) (hk : PySem.W.keepIn X.K (.ref f) = true) (hb : KBinds X.K fd ps ks g gV) (hx : Passes CX X E) (hkw : PK X kws tk)
    (hall : (backToKw pos (keywordEach kws X.env)).all (·.1.isSome) = true := by rfl) (hks : (backToKw pos (keywordEach kws X.env)).filterMap (·.1) = ks := by rfl) (hdb : (x == ("__debug__" : Str)) = false := by decide)
    (hpl : ((backTo pos (starEach [] X.env)).any (·.1) || (backToKw pos (keywordEach kws X.env)).any (·.1.isNone)) = false := by rfl) : PE X (.Call (.Name x p) [] kws pos) (tCallK sp gV E tNil tk) := ⟨fun pins s σ H Q I h =>
  wpAny_Call_Name_kw (ld_glob I hg hm (PySem.W.callWith_KW0 (h₀ := X.base) I.ok.mod.kin hk hall (thn (hkw.run pos pins s σ H _ I h) fun ws s2 ⟨zs, H2, I2, rz, q2⟩ => ⟨I2.kIn, by
    rw [hks]
    exact run_fnk (us := []) (vs := []) F hr hb hx I2 .nil rz q2⟩) hpl) hdb)⟩
end
/-! keywords in the parameters' order, and two the other way round -/
def kw1 {α : Type} : List α → List α → List α
  | [], [a] => [a]
  | _, _ => []
def kw2 {α : Type} : List α → List α → List α
  | [], [a, b] => [a, b]
  | _, _ => []
def kw2s {α : Type} : List α → List α → List α
  | [], [a, b] => [b, a]
  | _, _ => []
section
variable {K : PySem.W.Frag} {fd : FuncData} {ps ks : List Str}
theorem kb1 {p : Str} (h : ∀ a : Value, bindArgs fd ⟨[], [(p, a)]⟩ = pure [(p, a)]) : KBinds K fd [p] [p] kw1 kw1 :=
  ⟨fun s us ws _ hl => match us, ws, hl with
    | [], [a], _ => .of_eq (h a)
    | [], [], z => (nomatch z)
    | [], _ :: _ :: _, z => (nomatch z)
    | _ :: _, _, z => (nomatch z), fun {vs us zs ws} r rz => by
    cases r with
    | nil => cases rz with
      | nil => exact .nil
      | cons a b => cases b with
        | nil => exact .cons a .nil
        | cons _ _ => exact .nil
    | cons _ _ => exact .nil⟩
theorem kb2 {p q : Str} (h : ∀ a b : Value, bindArgs fd ⟨[], [(p, a), (q, b)]⟩ = pure [(p, a), (q, b)]) : KBinds K fd [p, q] [p, q] kw2 kw2 :=
  ⟨fun s us ws _ hl => match us, ws, hl with
    | [], [a, b], _ => .of_eq (h a b)
    | [], [], z => (nomatch z)
    | [], [_], z => (nomatch z)
    | [], _ :: _ :: _ :: _, z => (nomatch z)
    | _ :: _, _, z => (nomatch z), fun {vs us zs ws} r rz => by
    cases r with
    | nil => cases rz with
      | nil => exact .nil
      | cons a b => cases b with
        | nil => exact .nil
        | cons c d => cases d with
          | nil => exact .cons a (.cons c .nil)
          | cons _ _ => exact .nil
    | cons _ _ => exact .nil⟩
theorem kb2s {p q : Str} (h : ∀ a b : Value, bindArgs fd ⟨[], [(q, b), (p, a)]⟩ = pure [(p, a), (q, b)]) : KBinds K fd [p, q] [q, p] kw2s kw2s :=
  ⟨fun s us ws _ hl => match us, ws, hl with
    | [], [b, a], _ => .of_eq (h a b)
    | [], [], z => (nomatch z)
    | [], [_], z => (nomatch z)
    | [], _ :: _ :: _ :: _, z => (nomatch z)
    | _ :: _, _, z => (nomatch z), fun {vs us zs ws} r rz => by
    cases r with
    | nil => cases rz with
      | nil => exact .nil
      | cons a b => cases b with
        | nil => exact .nil
        | cons c d => cases d with
          | nil => exact .cons c (.cons a .nil)
          | cons _ _ => exact .nil
    | cons _ _ => exact .nil⟩
end
end Gn
namespace Gn
open PySem PySem.Spec PyProof.Rows L2
/-- a conditional expression whose two ways change nothing -/
theorem tif {c : Bool} {ta tb : TE} {σ : L2.St} {H : Hp} {Q : VK} (v1 v2 : V) (h1 : c = true → ∀ R : VK, R v1 H → ta σ H R) (h2 : c = false → ∀ R : VK, R v2 H → tb σ H R) (k : ∀ v, (c = true → v = v1) → (c = false → v = v2) → Q v H) : if c = true then ta σ H Q else tb σ H Q := by
  cases c with
  | true => exact iteT (h1 rfl Q (k v1 (fun _ => rfl) (fun z => nomatch z)))
  | false => exact iteF (h2 rfl Q (k v2 (fun z => nomatch z) (fun _ => rfl)))
theorem cut_mem {xs : List V} {lo hi : Option Int} {x : V} (h : x ∈ cutV xs lo hi) : x ∈ xs := by
  unfold cutV at h
  exact List.mem_of_mem_drop (List.mem_of_mem_take h)
theorem int_at {ns : List Int} {x : V} (h : x ∈ ns.map V.int) : ∃ z, x = V.int z := by
  obtain ⟨z, _, e⟩ := List.mem_map.mp h
  exact ⟨z, e.symm⟩
theorem same_put {H : Hp} {p : Addr} {o : HO} (h : H p = none) : Same H (upd H p o) := fun b x e => by
  rw [upd_ne (ne_of_none e h)]
  exact e
theorem fmod_ge {a b : Int} (h : 0 < b) : 0 ≤ a.fmod b := by
  rw [Int.fmod_eq_emod_of_nonneg _ (by omega)]; exact Int.emod_nonneg _ (by omega)
theorem fmod_lt {a b : Int} (h : 0 < b) : a.fmod b < b := by
  rw [Int.fmod_eq_emod_of_nonneg _ (by omega)]; exact Int.emod_lt_of_pos _ h
end Gn
set_option Elab.async false
set_option linter.all false
set_option maxRecDepth 100000
set_option maxHeartbeats 4000000
namespace Gn
open PySem PySem.Spec PyProof.Rows L2
/-- tuple(xs) of a list: a new tuple -/
def rTupL (K : PySem.W.Frag) : List V → Hp → VK → Prop := fun xs H Q => ∃ p ys, xs = [V.ref p] ∧ SqL K H p ys ∧ ∀ l, H l = none → Q (.ref l) (upd H l (.tup ys))
theorem cr_tupL {X : Cx} : CallR X (.type "tuple") (rTupL X.K) := by
  intro pins s σ H xs us Q I r h
  obtain ⟨p, ys, e, h1, h2⟩ := h
  exact call_tuple_of pins s σ H xs us Q I r ⟨p, ys, e, .inl ⟨h1, h2⟩⟩
end Gn
set_option Elab.async false
set_option linter.all false
set_option maxRecDepth 100000
set_option maxHeartbeats 4000000
namespace Gn
open PySem PySem.Spec PyProof.Rows L2
/-- small data: may be shown, may be compared; its text has at most c signs, its depth is at most e -/
structure Sm (c e : Nat) (d : PyData) : Prop where
  sh : d.showable = true
  ln : d.shown.length ≤ c
  dp : d.depth ≤ e
  cl : d.canLay0 = true
theorem sum_le {c : Nat} : ∀ {ts : List Str}, (∀ t ∈ ts, t.length ≤ c) → (ts.map (·.length)).sum ≤ ts.length * c
  | [], _ => by simp
  | t :: ts, h => by
    have h1 := h t List.mem_cons_self
    have h2 := sum_le fun x hx => h x (List.mem_cons_of_mem t hx)
    rw [List.map_cons, List.sum_cons, List.length_cons, Nat.succ_mul]
    omega
theorem Sm.all {c e : Nat} : ∀ {ds : List PyData}, (∀ d ∈ ds, Sm c e d) → PyData.showableAll ds = true ∧ (∀ t ∈ PyData.shownAll ds, t.length ≤ c) ∧ (PyData.shownAll ds).length = ds.length ∧ PyData.depthAll ds ≤ e ∧ PyData.canLayAll0 ds = true
  | [], _ => ⟨rfl, (fun t h => by simp [PyData.shownAll] at h), rfl, Nat.zero_le _, rfl⟩
  | d :: ds, h => by
    have a := h d List.mem_cons_self
    obtain ⟨b1, b2, b3, b4, b5⟩ := Sm.all fun x hx => h x (List.mem_cons_of_mem d hx)
    refine ⟨by simp only [PyData.showableAll, a.sh, b1, Bool.and_self], fun t ht => ?_, by simp only [PyData.shownAll, List.length_cons, b3], by simp only [PyData.depthAll]; exact Nat.max_le.mpr ⟨a.dp, b4⟩, by simp only [PyData.canLayAll0, a.cl, b5, Bool.and_self]⟩
    simp only [PyData.shownAll] at ht
    rcases List.mem_cons.mp ht with rfl | ht
    · exact a.ln
    · exact b2 t ht
theorem Sm.tup {c e n : Nat} {ds : List PyData} (h : ∀ d ∈ ds, Sm c e d) (hn : ds.length ≤ n) : Sm (n * (c + 2) + 3) (e + 1) (.tuple ds) := by
  obtain ⟨b1, b2, b3, b4, b5⟩ := Sm.all h
  refine ⟨by simpa only [PyData.showable] using b1, ?_, by simp only [PyData.depth]; omega, by simpa only [PyData.canLay0] using b5⟩
  simp only [PyData.shown]
  have z := tupleText_len_le (PyData.shownAll ds)
  have y := sum_le b2
  rw [b3] at z y
  have w := Nat.mul_le_mul_right (c + 2) hn
  rw [Nat.mul_add] at w
  omega
theorem Sm.lst {c e n : Nat} {ds : List PyData} (h : ∀ d ∈ ds, Sm c e d) (hn : ds.length ≤ n) : Sm (n * (c + 2) + 3) (e + 1) (.list ds) := by
  obtain ⟨b1, b2, b3, b4, b5⟩ := Sm.all h
  refine ⟨by simpa only [PyData.showable] using b1, ?_, by simp only [PyData.depth]; omega, by simpa only [PyData.canLay0] using b5⟩
  simp only [PyData.shown]
  have z := listText_len_le (PyData.shownAll ds)
  have y := sum_le b2
  rw [b3] at z y
  have w := Nat.mul_le_mul_right (c + 2) hn
  rw [Nat.mul_add] at w
  omega
theorem Sm.int {i : Int} (h : i.natAbs < 2 ^ 1000) : Sm 1921 0 (.int i) := by
  have hl : i.natAbs.log2 < 1920 := Nat.lt_trans (PySem.Flt.log2_lt_of (by decide) h) (by decide)
  exact ⟨by simp only [PyData.showable, hl, decide_true], by simp only [PyData.shown]; exact int_text_len_1921 hl, by simp only [PyData.depth]; exact Nat.le_refl 0, rfl⟩
theorem Sm.shaped {c e : Nat} {d : PyData} (h : Sm c e d) (he : e ≤ 64) : SeqAt.shaped d = true := by
  unfold SeqAt.shaped
  rw [h.cl, decide_eq_true (Nat.le_trans h.dp he)]; rfl
theorem Sm.ints {n : Nat} {ns : List Int} (h : ∀ i ∈ ns, i.natAbs < 2 ^ 1000) (hn : ns.length ≤ n) : Sm (n * 1923 + 3) 1 (.tuple (ns.map PyData.int)) :=
  Sm.tup (c := 1921) (e := 0) (fun d hd => by
    obtain ⟨i, hi, rfl⟩ := List.mem_map.mp hd
    exact Sm.int (h i hi)) (by rw [List.length_map]; exact hn)
end Gn
set_option Elab.async false
set_option linter.all false
set_option maxRecDepth 100000
set_option maxHeartbeats 4000000
namespace Gn
open PySem PySem.Spec PyProof.Rows L2
/-- a conditional expression whose two ways give the same data -/
theorem tIf_dp {tt : TT} {ta tb : TE} {σ : L2.St} {H : Hp} {Q : VK} {K : PySem.W.Frag} {d : PyData} (c : Bool) (ht : ∀ R : Bool → Hp → Prop, R c H → tt σ H R)
    (h1 : c = true → ∀ R : VK, (∀ v H', Same H H' → Dp K H' v d → R v H') → ta σ H R) (h2 : c = false → ∀ R : VK, (∀ v H', Same H H' → Dp K H' v d → R v H') → tb σ H R)
    (k : ∀ v H', Same H H' → Dp K H' v d → Q v H') : tIf tt ta tb σ H Q := by
  refine ht _ ?_
  cases c with
  | true => exact iteT (h1 rfl Q k)
  | false => exact iteF (h2 rfl Q k)
/-- t[lo:hi], whether it is all of t or not -/
theorem slA_of {K : PySem.W.Frag} {a : Addr} {xs : List V} {lo hi : Option Int} {H : Hp} {Q : VK} (h : SqT K H a xs) (k : ∀ b H', Same H H' → SqT K H' b (cutV xs lo hi) → Q (.ref b) H') : rSlA K (.ref a) lo hi H Q := by
  refine ⟨a, xs, rfl, h, fun hw => k a H (Same.refl H) ?_, fun _ p hp => k p _ (same_put hp) (SqT.of upd_same)⟩
  have e : cutV xs lo hi = xs := by
    unfold cutV
    rw [hw.1, hw.2, List.drop_zero, Nat.sub_zero, List.take_length]
  rw [e]; exact h
/-- t + u, whether one of them is empty or not -/
theorem catA_of {K : PySem.W.Frag} {a b : Addr} {xs ys : List V} {H : Hp} {Q : VK} (h1 : SqT K H a xs) (h2 : SqT K H b ys) (hz : xs.length + ys.length ≤ sizeLine) (k : ∀ c H', Same H H' → SqT K H' c (xs ++ ys) → Q (.ref c) H') : rCatA K (.ref a) (.ref b) H Q := by
  refine ⟨a, b, xs, ys, rfl, rfl, h1, h2, hz, fun e => k b H (Same.refl H) ?_, fun _ e => k a H (Same.refl H) ?_, fun _ _ p hp => k p _ (same_put hp) (SqT.of upd_same)⟩
  · rw [e]; exact h2
  · rw [e, List.append_nil]; exact h1
theorem cut_one (xs : List V) : cutV xs none (some 1) = xs.take 1 := by
  unfold cutV
  rw [show HT.sIx xs.length 0 none = 0 from HT.sIx_none .., show HT.sIx xs.length xs.length (some 1) = min 1 xs.length from HT.sIx_nat xs.length xs.length 1, List.drop_zero, Nat.sub_zero]
  cases xs with
  | nil => rfl
  | cons x r => rw [show min 1 (x :: r).length = 1 by rw [List.length_cons]; omega]
/-- keywords of a def of the text -/
theorem kwOf1 {K : PySem.W.Frag} {x qual : Str} {st : Stmt} {f : Addr} {fd : FuncData} {p : Str} (F : Fun K x qual st f fd)
    (h : ∀ (kV doc pm : Value) (an : Option Addr) (cdv ct a : Value), bindArgs (PySem.W.fnOf x qual (defArgs st) (defBody st) (defScope st) .none kV doc pm an cdv ct) ⟨[], [(p, a)]⟩ = pure [(p, a)]) : KBinds K fd [p] [p] kw1 kw1 := by
  obtain ⟨oc, od, kV, doc, pm, an, cdv, ct, osl, rfl, lk, hcd⟩ := F.ex
  exact kb1 fun a => h kV doc pm an cdv ct a
theorem kwOf2 {K : PySem.W.Frag} {x qual : Str} {st : Stmt} {f : Addr} {fd : FuncData} {p q : Str} (F : Fun K x qual st f fd)
    (h : ∀ (kV doc pm : Value) (an : Option Addr) (cdv ct a b : Value), bindArgs (PySem.W.fnOf x qual (defArgs st) (defBody st) (defScope st) .none kV doc pm an cdv ct) ⟨[], [(p, a), (q, b)]⟩ = pure [(p, a), (q, b)]) : KBinds K fd [p, q] [p, q] kw2 kw2 := by
  obtain ⟨oc, od, kV, doc, pm, an, cdv, ct, osl, rfl, lk, hcd⟩ := F.ex
  exact kb2 fun a b => h kV doc pm an cdv ct a b
theorem kwOf2s {K : PySem.W.Frag} {x qual : Str} {st : Stmt} {f : Addr} {fd : FuncData} {p q : Str} (F : Fun K x qual st f fd)
    (h : ∀ (kV doc pm : Value) (an : Option Addr) (cdv ct a b : Value), bindArgs (PySem.W.fnOf x qual (defArgs st) (defBody st) (defScope st) .none kV doc pm an cdv ct) ⟨[], [(q, b), (p, a)]⟩ = pure [(p, a), (q, b)]) : KBinds K fd [p, q] [q, p] kw2s kw2s := by
  obtain ⟨oc, od, kV, doc, pm, an, cdv, ct, osl, rfl, lk, hcd⟩ := F.ex
  exact kb2s fun a b => h kV doc pm an cdv ct a b
end Gn
set_option Elab.async false
set_option linter.all false
set_option maxRecDepth 100000
set_option maxHeartbeats 4000000
namespace Gn
open PySem PySem.Spec PyProof.Rows L2
/-- for x in reversed(xs): what holds behind i turns -/
theorem for_rv {K : PySem.W.Frag} {a : Addr} {xs : List V} {g : TG} {tb : TS} {D : Ends} {σ : L2.St} {H : Hp} (Pv : Nat → L2.St → Hp → Prop) (h0 : Pv 0 σ H) (hl : ∀ i σ H, i ≤ xs.length → Pv i σ H → SqL K H a xs)
    (hs : ∀ i x σ H, i < xs.length → xs[xs.length - 1 - i]? = some x → Pv i σ H → g x σ H fun σ2 H2 => tb { D with nx := Pv (i + 1), ct := Pv (i + 1), bk := D.nx } σ2 H2) (hd : ∀ σ H, Pv xs.length σ H → D.nx σ H) :
    ∃ W : Nat → Nat → L2.St → Hp → Prop, (∃ m, W 0 m σ H) ∧ ∀ i m σ H, W i m σ H →
      ((Itv K a xs.length).stop i H ∧ D.nx σ H) ∨ ((Itv K a xs.length).go i H ∧ ∃ N : L2.St → Hp → Prop, (∀ σ' H', N σ' H' → ∃ m', m' < m ∧ W (i + 1) m' σ' H') ∧ ∀ x H', (Itv K a xs.length).yld i H x H' → g x σ H' fun σ2 H2 => tb { D with nx := N, ct := N, bk := D.nx } σ2 H2) := by
  refine ⟨fun i m σ H => m = xs.length - i ∧ i ≤ xs.length ∧ Pv i σ H, ⟨xs.length, by simp, Nat.zero_le _, h0⟩, fun i m σ H ⟨em, hi, p⟩ => ?_⟩
  subst em
  have q := hl i σ H hi p
  rcases Nat.lt_or_ge i xs.length with c | c
  · have c2 : xs.length - 1 - i < xs.length := by omega
    refine .inr ⟨⟨c, xs, xs[xs.length - 1 - i], q, List.getElem?_eq_getElem c2⟩, Pv (i + 1), fun σ' H' p' => ⟨xs.length - (i + 1), by omega, rfl, c, p'⟩, fun x H' y => ?_⟩
    obtain ⟨rfl, y⟩ := y
    exact hs i x σ _ c (y xs q) p
  · obtain rfl : i = xs.length := by omega
    exact .inl ⟨Nat.le_refl _, hd σ H p⟩
end Gn
namespace Gn
open PySem PySem.Spec PyProof.Rows L2
/-- a test and a second one, their answers as one -/
theorem and_join {c : Bool} {t : TT} {σ : L2.St} {H : Hp} {Q : Bool → Hp → Prop} (e : Bool) (h1 : c = true → ∀ R : Bool → Hp → Prop, R e H → t σ H R) (h2 : c = false → e = false) (k : Q e H) : if c = true then t σ H Q else Q false H := by
  cases c with
  | true => exact iteT (h1 rfl Q k)
  | false => rw [h2 rfl] at k; exact iteF k
end Gn
set_option Elab.async false
set_option linter.all false
set_option maxRecDepth 100000
set_option maxHeartbeats 4000000
/-! own exceptions over any built-in base: kept as values -/
namespace Gn
open PySem PySem.Spec PyProof.Rows L2
/-- own classes, then a tail -/
inductive Past (t : List Value) : List Value → Prop
  | base : Past t t
  | own {c : Addr} {r : List Value} : Past t r → Past t (.ref c :: r)
section
variable {t l : List Value}
theorem Past.has (h : Past t l) (n : String) : l.contains (.type n) = t.contains (.type n) := by
  induction h with
  | base => rfl
  | own _ ih =>
    rw [List.contains_cons, ih]
    rfl
theorem Past.pass (h : Past t l) {u : Value} {x : Str} (ht : refuseLoop u x t = pure ()) : refuseLoop u x l = pure () := by
  induction h with
  | base => exact ht
  | own _ ih => exact (refuseLoop_ref u x _ _).trans ih
end
/-- what is built in of a base class -/
structure Bas (B nw it : String) (t : List Value) : Prop where
  ex : ExcBaseFacts B nw it t
  st : StoreFacts B t "object.__setattr__" "object"
theorem basV : Bas "ValueError" "ValueError.__new__" "ValueError.__init__" [.type "ValueError", .type "Exception", .type "BaseException", .type "object"] := ⟨F.excBase_ValueError, F.store_ValueError⟩
theorem basL : Bas "LookupError" "LookupError.__new__" "LookupError.__init__" [.type "LookupError", .type "Exception", .type "BaseException", .type "object"] := ⟨F.excBase_LookupError, F.store_LookupError⟩
theorem basA : Bas "ArithmeticError" "ArithmeticError.__new__" "ArithmeticError.__init__" [.type "ArithmeticError", .type "Exception", .type "BaseException", .type "object"] := ⟨F.excBase_ArithmeticError, F.store_ArithmeticError⟩
/-- what the written part says of an own class over such a base -/
structure OwC (K : PySem.W.Frag) (C : Addr) : Prop where
  cls : ∃ (nm q : Str) (N : Addr) (bs bm : List Value) (sn : List Str) (sub : List Value) (ab : Bool) (col : Option Bool) (dd : Option Addr) (k0 k1 k2 k3 k5 : Option Value) (B nw it : String) (tl : List Value),
    K.lookup C = some (excClassObj nm q C N bs bm true sn sub ab col dd k0 k1 k2 k3 k5 nw) ∧ Past tl bm ∧ Bas B nw it tl
  sa : PySem.W.findIn K (.ref C) "__setattr__" = some (some (.builtin "object.__setattr__"))
  exC : PySem.W.subIn K (.ref C) (.type "BaseException") = some true
  tyC : PySem.W.typeIn K (.ref C) = some (.type "type")
  kC : PySem.W.keepIn K (.ref C) = true
section
open Builtin Builtin.ObjectAttr
variable {P : Program} {w : World} {A : Around} {R : Result → Shared → Prop} {hp : Heap} {g : Array GenState} {d : Drawn} {t : Nat} {os : OsState} {K : PySem.W.Frag}
  {f : Str} {tk : Tok} {v : Value} {x C dx : Addr} {fv : Array Value} {cd : ClassData} {m0 : Str → Option Value} {nl : List Str} {tl : List Value} {B nw it : String}
theorem hasO (T : Bas B nw it tl) : tl.contains (.type "object") = true := T.st.hasOwner
/-- x.f = v, x without a dict -/
theorem own_put (T : Bas B nw it tl) (KX : K.In hp) (ox : hp.get? x = some { cls := .ref C, data := .fields fv }) (oc : PySem.W.clsIn K C = some cd)
    (om : Past tl cd.mro) (od : cd.hasDict = true) (on : PySem.W.findIn K (.ref C) f = some none)
    (fin : ∀ h' k' dx, (∀ b o, b ≠ x → hp.get? b = some o → h'.get? b = some o) → hp.objs.size ≤ dx → dx ≠ x →
      h'.get? x = some { cls := .ref C, dict := some dx, data := .fields fv } → h'.Ns1 dx (fun y => if y = f then some v else none) → R (.ok (.ret .none)) ⟨h', g, d, k', os⟩) :
    codeAny (model P w) A (.call (.builtin "object.__setattr__") ⟨[.ref x, .str f tk, v], []⟩) R ⟨hp, g, d, t, os⟩ := by
  have J : PySem.W.InstAt hp x { cls := .ref C, data := .fields fv } C none := ⟨ox, rfl, rfl, trivial⟩
  have S0 := F.store_object
  have hob : cd.mro.contains (.type "object") = true := (om.has "object").trans (hasO T)
  have nem : cd.mro.isEmpty = false := by
    cases e : cd.mro with
    | nil =>
      rw [e] at hob
      cases hob
    | cons _ _ => rfl
  have xs : x ≠ hp.objs.size := Nat.ne_of_lt (Heap.lt_size ox)
  have isO : PySem.W.Looks (model P w) hp (isInstance (.ref x) (.type "object")) true := J.type.andThen (PySem.W.looks_mroIn KX (by
    unfold PySem.W.mroIn
    rw [oc, Option.bind_some, if_neg (by rw [nem]; decide), hob]))
  refine codeAny_call_builtin S0.slot.plain S0.entry (@PySem.W.check_slot (model P w) _ _ ⟨hp, g, d, t, os⟩ "object.__setattr__" "object" "__setattr__"
    (.ref x) [.str f tk, v] [] _ S0.kind S0.split isO (S0.args (.ref x) (.str f tk) v) ?_)
  have l1 : PySem.W.Looks (model P w) hp (mroOf (.ref C)) cd.mro := (PySem.W.looks_clsIn KX oc).andThen .now
  have l2 : PySem.W.Looks (model P w) hp (storeTaker? none) none := .now
  have l3 : PySem.W.Looks (model P w) hp (classData C) cd := PySem.W.looks_clsIn KX oc
  rw [PySem.W.osa_eq, refuse_eq]
  refine wpAny_bind (wpAny_bind (J.type.at (wpAny_bind (l1.at ?_))))
  rw [om.pass (T.st.passes _)]
  refine wpAny_pure (wpAny_bind (J.type.at (wpAny_bind ((PySem.W.looks_findIn KX on).at (wpAny_bind (l2.at ?_))))))
  show wpAny _ _ (storeInOwnDict (.ref x) (.ref C) (.str f tk) f v false) _ _ _
  obtain ⟨c1, c2, c3, c4, c5, c6, c7, c8, c9, c10, c11⟩ := cd
  dsimp only at od
  subst od
  unfold storeInOwnDict ownDictForStores
  repeat (first
    | with_reducible refine PySem.HandSPX.store_in_new ?_ ?_
    | with_reducible refine wpAny_loadPart_at ox ?_
    | with_reducible refine l3.at ?_
    | wp_step)
  · exact ⟨_, #[], _, (Heap.get?_update_ne _ _ _ _ xs.symm).trans (Heap.get?_push_at rfl rfl), rfl, fun e z => absurd z (by simp), fun _ => rfl⟩
  · intro h' k' hn hs
    have ox1 : (hp.push { cls := .type "dict", data := .dict #[] }).get? x = some { cls := .ref C, data := .fields fv } := Heap.get?_push_of_some _ ox
    refine fin h' k' hp.objs.size (fun b o hb q => ?_) (Nat.le_refl _) xs.symm ?_ hn
    · exact (hs.2 b (Nat.ne_of_lt (Heap.lt_size q))).trans ((Heap.get?_update_ne _ _ _ _ hb).trans (Heap.get?_push_of_some _ q))
    · exact (hs.2 x xs).trans (Heap.get?_update_self _ ox1 rfl)
/-- x.f = v, x with its dict -/
theorem own_put2 (T : Bas B nw it tl) (KX : K.In hp) (ox : hp.get? x = some { cls := .ref C, dict := some dx, data := .fields fv }) (hns : hp.Ns1 dx m0) (hw : Within m0 nl) (hz : nl.length ≤ 1000)
    (oc : PySem.W.clsIn K C = some cd) (om : Past tl cd.mro) (od : cd.hasDict = true) (on : PySem.W.findIn K (.ref C) f = some none)
    (fin : ∀ h' k', (∀ b o, b ≠ dx → hp.get? b = some o → h'.get? b = some o) → h'.Ns1 dx (fun y => if y = f then some v else m0 y) → R (.ok (.ret .none)) ⟨h', g, d, k', os⟩) :
    codeAny (model P w) A (.call (.builtin "object.__setattr__") ⟨[.ref x, .str f tk, v], []⟩) R ⟨hp, g, d, t, os⟩ := by
  obtain ⟨oD, _, _, qD, _, _⟩ := hns.count hw
  have J : PySem.W.InstAt hp x { cls := .ref C, dict := some dx, data := .fields fv } C (some oD) := ⟨ox, rfl, rfl, qD⟩
  have S0 := F.store_object
  have hob : cd.mro.contains (.type "object") = true := (om.has "object").trans (hasO T)
  have nem : cd.mro.isEmpty = false := by
    cases e : cd.mro with
    | nil =>
      rw [e] at hob
      cases hob
    | cons _ _ => rfl
  have isO : PySem.W.Looks (model P w) hp (isInstance (.ref x) (.type "object")) true := J.type.andThen (PySem.W.looks_mroIn KX (by
    unfold PySem.W.mroIn
    rw [oc, Option.bind_some, if_neg (by rw [nem]; decide), hob]))
  refine codeAny_call_builtin S0.slot.plain S0.entry (@PySem.W.check_slot (model P w) _ _ ⟨hp, g, d, t, os⟩ "object.__setattr__" "object" "__setattr__"
    (.ref x) [.str f tk, v] [] _ S0.kind S0.split isO (S0.args (.ref x) (.str f tk) v) ?_)
  have l1 : PySem.W.Looks (model P w) hp (mroOf (.ref C)) cd.mro := (PySem.W.looks_clsIn KX oc).andThen .now
  have l2 : PySem.W.Looks (model P w) hp (storeTaker? none) none := .now
  have l3 : PySem.W.Looks (model P w) hp (classData C) cd := PySem.W.looks_clsIn KX oc
  rw [PySem.W.osa_eq, refuse_eq]
  refine wpAny_bind (wpAny_bind (J.type.at (wpAny_bind (l1.at ?_))))
  rw [om.pass (T.st.passes _)]
  refine wpAny_pure (wpAny_bind (J.type.at (wpAny_bind ((PySem.W.looks_findIn KX on).at (wpAny_bind (l2.at ?_))))))
  show wpAny _ _ (storeInOwnDict (.ref x) (.ref C) (.str f tk) f v false) _ _ _
  obtain ⟨c1, c2, c3, c4, c5, c6, c7, c8, c9, c10, c11⟩ := cd
  dsimp only at od
  subst od
  unfold storeInOwnDict ownDictForStores
  repeat (first
    | with_reducible refine PySem.OEX.store_in_old hns hw hz ?_
    | with_reducible refine wpAny_loadPart_at ox ?_
    | with_reducible refine l3.at ?_
    | wp_step)
  intro h' k' hn hs
  exact fin h' k' (fun b o hb q => (hs.2 b hb).trans q) hn
end
end Gn
set_option Elab.async false
set_option linter.all false
set_option maxRecDepth 100000
set_option maxHeartbeats 4000000
namespace Gn
open PySem PySem.Spec PyProof.Rows L2
section
variable {X : Cx} {pins : List (Addr × Obj)} {σ : L2.St} {H : Hp} {s : Shared} {a C dx : Addr} {f : Str} {y : V} {u : Value} {fs : List (Str × V)} {Q : Unit → Shared → Prop} {E : Value → Shared → Prop} {A : Around}
theorem put_new (T : OwC X.K C) (I : Inv X pins σ H s) (ea : H a = some (exo a C none)) (on : PySem.W.findIn X.K (.ref C) f = some none) (ry : RelV y u)
    (fin : ∀ dx s', H dx = none → dx ≠ a → Inv X pins σ (upd (upd H dx (exd dx [(f, y)])) a (exo a C (some dx))) s' → Q () s') : wpAny (model X.prog X.w) A (setAttr (.ref a) f u) Q E s := by
  obtain ⟨nm, q, N, bs, bm, sn, sub, ab, col, dd, k0, k1, k2, k3, k5, B, nw, it, tl, lk, pt, TB⟩ := T.cls
  have oc : PySem.W.clsIn X.K C = some { name := nm, bases := bs, mro := .ref C :: bm, ns := N, qualname := q, hasDict := true, slotNames := sn, subclasses := sub, abstract := ab, collection := col, hasDel := false } := by
    unfold PySem.W.clsIn
    rw [lk] <;> rfl
  obtain ⟨t1, ho⟩ := exo_at I.hok ea
  obtain ⟨hp, g, d, t, os⟩ := s
  refine PySem.W.set_plain I.kIn (ox := { cls := .ref C, dict := none, data := .fields #[.ref t1, .none, .none, .none, .bool false, .none] }) (od := none) ⟨ho, rfl, rfl, trivial⟩ T.sa ?_
  refine own_put TB I.kIn ho oc (.own pt) rfl on fun h' t' dx kp dn dne hx hn => ?_
  have fd : H dx = none := I.hok.fresh dn
  have old : ∀ {b : Addr} {o : Obj}, hp.get? b = some o → b ≠ dx := fun {b o} z => Nat.ne_of_lt (Nat.lt_of_lt_of_le (Heap.lt_size z) dn)
  have noa : ∀ {b : Addr}, H b = none → b ≠ a := fun {b} n z => by
    rw [z, ea] at n
    cases n
  have U : Un X.fs [] H (upd (upd H dx (exd dx [(f, y)])) a (exo a C (some dx))) hp h' := {
    keep := fun b o z n _ _ => kp b o (noa n) z
    slot := fun b o z n _ _ => ⟨o.slots, kp b o (noa n) z⟩
    free := fun b o z n _ => by
      rw [upd_ne (noa n), upd_ne (old z)]
      exact n
    there := fun b o z _ => by
      by_cases hb : b = a
      · exact ⟨_, by rw [hb]; exact hx⟩
      · exact ⟨o, kp b o hb z⟩
    tups := fun b xs z => by
      rw [upd_ne (at_ne ea z exo_tup), upd_ne (ne_of_none z fd)]
      exact z
    frzs := fun b o v z => by
      rw [upd_ne (at_ne ea z exo_frz), upd_ne (ne_of_none z fd)]
      exact z
    tbls := fun b ps z => ⟨#[], by
      rw [upd_ne (at_ne ea z exo_tbl), upd_ne (ne_of_none z fd), z]
      simp⟩ }
  refine fin dx _ fd dne (I.un (t' := t') U fun b o z => ?_)
  by_cases ba : b = a
  · subst ba
    rw [upd_same] at z
    cases z
    exact exo_ok hx
  · rw [upd_ne ba] at z
    by_cases bd : b = dx
    · subst bd
      rw [upd_same] at z
      cases z
      exact exd_ok hn (relO_put (fs := []) ry fun g => True.intro)
    · rw [upd_ne bd] at z
      refine (I.hok b o z).stay (fun c v hc q => kp c v ?_ q) (fun c hc => ?_) fun c xs hc => ?_
      · rcases hc with hc | hc
        · rw [hc]
          exact ba
        · exact at_ne ea hc exo_own
      · rw [upd_ne (at_ne ea hc exo_own), upd_ne (ne_of_none hc fd)]
        exact hc
      · rw [upd_ne (at_ne ea hc exo_tup), upd_ne (ne_of_none hc fd)]
        exact hc
theorem put_old (T : OwC X.K C) (I : Inv X pins σ H s) (ea : H a = some (exo a C (some dx))) (ed : H dx = some (exd dx fs)) (hl : fs.length ≤ 900) (on : PySem.W.findIn X.K (.ref C) f = some none) (ry : RelV y u)
    (fin : ∀ s', Inv X pins σ (upd H dx (exd dx ((f, y) :: fs))) s' → Q () s') : wpAny (model X.prog X.w) A (setAttr (.ref a) f u) Q E s := by
  obtain ⟨nm, q, N, bs, bm, sn, sub, ab, col, dd, k0, k1, k2, k3, k5, B, nw, it, tl, lk, pt, TB⟩ := T.cls
  have oc : PySem.W.clsIn X.K C = some { name := nm, bases := bs, mro := .ref C :: bm, ns := N, qualname := q, hasDict := true, slotNames := sn, subclasses := sub, abstract := ab, collection := col, hasDel := false } := by
    unfold PySem.W.clsIn
    rw [lk] <;> rfl
  obtain ⟨t1, ho⟩ := exo_at I.hok ea
  obtain ⟨mA, hns, rel⟩ := exd_at I.hok ed
  have hw := within_of rel
  obtain ⟨hp, g, d, t, os⟩ := s
  obtain ⟨oD, _, _, qD, _, _⟩ := hns.count hw
  refine PySem.W.set_plain I.kIn (ox := { cls := .ref C, dict := some dx, data := .fields #[.ref t1, .none, .none, .none, .bool false, .none] }) (od := some oD) ⟨ho, rfl, rfl, qD⟩ T.sa ?_
  have small : (fs.map (·.1)).length ≤ 1000 := by
    rw [List.length_map]
    omega
  refine own_put2 TB I.kIn ho hns hw small oc (.own pt) rfl on fun h' t' kp hn => ?_
  have hd : ∃ o, h'.get? dx = some o := by
    obtain ⟨o, _, _, z, _⟩ := hn
    exact ⟨o, z⟩
  exact fin _ (I.write (t' := t') (x := dx) (e := dx) (o := exd dx ((f, y) :: fs)) (by rw [ed]; exact True.intro) (.inl rfl) kp hd (exd_ok hn (relO_put ry rel)))
end
/-- self.f = e -/
def tPut (K : PySem.W.Frag) (f : Str) (to te : TE) : TS := fun D σ H => te σ H fun y H1 => to σ H1 fun x H2 => ∃ a C : Addr, x = .ref a ∧ OwC K C ∧ PySem.W.findIn K (.ref C) f = some none ∧
  ((H2 a = some (exo a C none) ∧ ∀ d, H2 d = none → d ≠ a → D.nx σ (upd (upd H2 d (exd d [(f, y)])) a (exo a C (some d)))) ∨
    ∃ (d : Addr) (fs : List (Str × V)), H2 a = some (exo a C (some d)) ∧ H2 d = some (exd d fs) ∧ fs.length ≤ 900 ∧ D.nx σ (upd H2 d (exd d ((f, y) :: fs))))
/-- C(e, ..) kept -/
def tOwn (C : Addr) (sp : Sp) (dvs : List V) (ta : TA) : TE := fun σ H Q => ta σ H fun vs H1 => vs.length ≤ 1000 ∧ ∀ a, H1 a = none →
  sp (.ref a :: (vs ++ dvs)) (upd H1 a (exo a C none)) (fun v H2 => v = .non ∧ Q (.ref a) H2) (fun _ _ _ => False)
section
variable {X : Cx} {o e : Expr} {es : List Expr} {to te : TE} {ta : TA} {f : Str} {p p' pos : Pos}
theorem ps_put (ho : PE X o to) (he : PE X e te) (hs : swapsWith e (some (.Attribute o f p')) pos.line X.env = pure false := by rfl) : PS X (.Assign [.Attribute o f p'] e pos) (tPut X.K f to te) := by
  refine ⟨fun pins s σ H D I h => ?_⟩
  refine plainObj_wpAny_Assign_Attribute (thn (he.run pins s σ H _ I h) fun v s1 ⟨y, H1, I1, r1, q1⟩ => ?_) hs
  refine thn (ho.run pins s1 σ H1 _ I1 q1) fun u s2 ⟨x, H2, I2, r2, a, C, ex, T, on, q⟩ => ?_
  subst ex
  obtain rfl : u = Value.ref a := r2
  rcases q with ⟨ea, q⟩ | ⟨dx, fs, ea, ed, hl, q⟩
  · exact put_new T I2 ea on r1 fun dx s' n ne J => ⟨σ, _, J, q dx n ne⟩
  · exact put_old T I2 ea ed hl on r1 fun s' J => ⟨σ, _, J, q⟩
theorem own_made {CX : CXT} {C fI : Addr} {k : Nat} {fd : FuncData} {ps : List Str} {sp : Sp} {ds us : List Value} {dvs vs : List V} {pins : List (Addr × Obj)} {σ : L2.St} {H1 : Hp} {s1 : Shared} {Q : VK} (T : OwC X.K C)
    (iC : PySem.W.findIn X.K (.ref C) "__init__" = some (some (.ref fI))) (tI : PySem.W.typeIn X.K (.ref fI) = some (.type "function")) (F1 : FnOk X.prog X.w X.K X.mg X.base CX k fI fd ps sp) (hr : Room (k + 1) X.A) (hb : Binds X.K fd ps ds) (hd : Vals dvs ds)
    (hx : Passes CX X (fun _ _ _ => False)) (I1 : Inv X pins σ H1 s1) (r1 : Vals vs us) (q1 : ∀ a, H1 a = none → sp (.ref a :: (vs ++ dvs)) (upd H1 a (exo a C none)) (fun v H2 => v = .non ∧ Q (.ref a) H2) (fun _ _ _ => False)) (hz : vs.length ≤ 1000) :
    wpAny (model X.prog X.w) X.A (call (.ref C) us) (EP X pins σ Q) X.xe s1 := by
  obtain ⟨nm, q, N, bs, bm, sn, sub, ab, col, dd, k0, k1, k2, k3, k5, B, nw, it, tl, lk, pt, TB⟩ := T.cls
  obtain ⟨hp, g, dr, tk, os⟩ := s1
  have up : hp.objs.size ≤ hp.objs.size + 1 := Nat.le_succ _
  have hn : H1 (hp.objs.size + 1) = none := I1.hok.fresh up
  have hq := q1 (hp.objs.size + 1) hn
  have kk : ∀ b o, hp.get? b = some o → ((hp.push (PySem.W.kdv_tup us)).push (PySem.HandSPX.excO C hp.objs.size)).get? b = some o := fun b o z =>
    Heap.get?_push_of_some _ (Heap.get?_push_of_some _ z)
  have got : ((hp.push (PySem.W.kdv_tup us)).push (PySem.HandSPX.excO C hp.objs.size)).get? (hp.objs.size + 1) = some (PySem.HandSPX.excO C hp.objs.size) := by heap_get
  have I2 := I1.laid (t' := tk) (a := hp.objs.size + 1) (o := exo (hp.objs.size + 1) C none) kk up (exo_ok got)
  have r2 : Vals (V.ref (hp.objs.size + 1) :: (vs ++ dvs)) (Value.ref (hp.objs.size + 1) :: (us ++ ds)) := .cons rfl (r1.append hd)
  have hl : (Value.ref (hp.objs.size + 1) :: us ++ ds).length = ps.length := by
    have z := r2.length
    rw [F1.len _ _ _ _ hq] at z
    exact z.symm
  have few : us.length ≤ sizeLine := by
    rw [← Paired.length r1, sizeLine_eq]
    omega
  refine wpAny_call (PySem.HandSPX.call_own TB.ex (fun n => pt.has n) (I1.kIn _ _ lk) (PySem.W.looks_findIn I1.kIn iC) (fun me => PySem.W.bind_fn I1.kIn me tI) few (codeAny_mono
    (F1.run _ X.stack _ _ ⟨Value.ref (hp.objs.size + 1) :: us, []⟩ (Value.ref (hp.objs.size + 1) :: (us ++ ds)) _ _ (fun _ _ _ => False) (hr.make C us []) (I2.env0.make C us []) (hb _ (Value.ref (hp.objs.size + 1) :: us) I2.kIn hl) r2 hq) fun r s' z => ?_))
  cases r with
  | error er => exact hx pins σ _ _ er s' I2 z
  | ok fl =>
    cases fl with
    | ret u =>
      obtain ⟨v, H2, os2, bare2, un2, hok2, rv, ev, q2⟩ := z
      subst ev
      obtain ⟨h2, g2, d2, t2, os'⟩ := s'
      exact ⟨rv, .ref (hp.objs.size + 1), H2, I1.call' (ch := []) os2 ((Un.laid kk up hn).trans un2) hok2 bare2 (fun b y => absurd y (by simp)), rfl, q2⟩
    | next => exact False.elim z
    | brk => exact False.elim z
    | cont => exact False.elim z
theorem pe_own {CX : CXT} {x : Str} {C fI : Addr} {k : Nat} {fd : FuncData} {ps : List Str} {sp : Sp} {ds : List Value} {dvs : List V} (T : OwC X.K C) (iC : PySem.W.findIn X.K (.ref C) "__init__" = some (some (.ref fI)))
    (tI : PySem.W.typeIn X.K (.ref fI) = some (.type "function")) (F1 : FnOk X.prog X.w X.K X.mg X.base CX k fI fd ps sp) (hr : Room (k + 1) X.A) (hb : Binds X.K fd ps ds) (hd : Vals dvs ds) (hx : Passes CX X (fun _ _ _ => False)) (hg : Gl X x)
    (hm : X.mg x = some (.ref C)) (ha : PA X (e :: es) ta) (hdb : (x == ("__debug__" : Str)) = false := by decide) (he : starEach (e :: es) X.env = (false, eval e X.env) :: starEach es X.env := by rfl) (hpl : (backTo pos (starEach es X.env)).any (·.1) = false := by rfl) :
    PE X (.Call (.Name x p) (e :: es) [] pos) (tOwn C sp dvs ta) := ⟨fun pins s σ H Q I h =>
  wpAny_Call_Name_kw (ld_glob I hg hm (PySem.W.callWith_K (h₀ := X.base) I.ok.mod.kin T.kC (thn (ha.run pos pins s σ H _ I h) fun us s1 ⟨vs, H1, I1, r1, hz, q1⟩ => ⟨I1.kIn, own_made T iC tI F1 hr hb hd hx I1 r1 q1 hz⟩) he hpl) hdb)⟩
theorem pe_own0 {CX : CXT} {x : Str} {C fI : Addr} {k : Nat} {fd : FuncData} {ps : List Str} {sp : Sp} {ds : List Value} {dvs : List V} (T : OwC X.K C) (iC : PySem.W.findIn X.K (.ref C) "__init__" = some (some (.ref fI)))
    (tI : PySem.W.typeIn X.K (.ref fI) = some (.type "function")) (F1 : FnOk X.prog X.w X.K X.mg X.base CX k fI fd ps sp) (hr : Room (k + 1) X.A) (hb : Binds X.K fd ps ds) (hd : Vals dvs ds) (hx : Passes CX X (fun _ _ _ => False)) (hg : Gl X x)
    (hm : X.mg x = some (.ref C)) (hdb : (x == ("__debug__" : Str)) = false := by decide) : PE X (.Call (.Name x p) [] [] pos) (tOwn C sp dvs tNil) := ⟨fun pins s σ H Q I h =>
  wpAny_Call_Name_kw (ld_glob I hg hm (PySem.W.callWith_K0 I.kIn T.kC (own_made (us := []) (vs := []) T iC tI F1 hr hb hd hx I .nil h.2 h.1)) hdb)⟩
end
end Gn
set_option Elab.async false
set_option linter.all false
set_option maxRecDepth 100000
set_option maxHeartbeats 4000000
namespace Gn
open PySem PySem.Spec PyProof.Rows L2
section
variable {X : Cx} {e : Expr} {es : List Expr} {ta : TA} {p pos : Pos}
/-- the exception without a dict is let go -/
theorem bare_gone {pins : List (Addr × Obj)} {σ : L2.St} {H1 H2 : Hp} {Q : XK} {hp hp2 h2 : Heap} {g1 g2 : Array GenState} {d1 d2 : Drawn} {t1 t2 : Nat} {os1 os2 : OsState} {a C : Addr} (T : Raises X (.ref C)) (I1 : Inv X pins σ H1 ⟨hp, g1, d1, t1, os1⟩)
    (ha : hp.objs.size ≤ a) (kp : ∀ b o, hp.get? b = some o → hp2.get? b = some o) (un : Un (frs X.stack) [] (upd H1 a (exo a C none)) H2 hp2 h2) (hok : HOk X.prog X.w H2 h2) (ho : os2 = os1) (hb : AllBare g2)
    (ea : H2 a = some (exo a C none)) (q : Q (.ref C) none (del H2 a)) : MkP X pins σ Q (.ref a) ⟨h2, g2, d2, t2, os2⟩ := by
  obtain ⟨t0, hoe⟩ := exo_at hok ea
  have hn : H1 a = none := I1.hok.fresh ha
  obtain ⟨G, y1, y2⟩ := restrict h2 fun b => decide (b ≠ a)
  have gk : ∀ b, b ≠ a → G.get? b = h2.get? b := fun b z => y1 b (decide_eq_true z)
  have ge : G.get? a = none := y2 a (by simp)
  have old : ∀ {b : Addr} {o : Obj}, hp.get? b = some o → b ≠ a := fun {b o} z => Nat.ne_of_lt (Nat.lt_of_lt_of_le (Heap.lt_size z) ha)
  have fr : ∀ {b : Addr}, b ≠ a → H1 b = none → upd H1 a (exo a C none) b = none := fun {b} z n => (upd_ne z).trans n
  have U : Un (frs X.stack) [] H1 (del H2 a) hp G := {
    keep := fun b o z n hf hx => (gk b (old z)).trans (un.keep b o (kp b o z) (fr (old z) n) hf hx)
    slot := fun b o z n hf hx => by
      rw [gk b (old z)]
      exact un.slot b o (kp b o z) (fr (old z) n) hf hx
    free := fun b o z n hx => (del_ne (old z)).trans (un.free b o (kp b o z) (fr (old z) n) hx)
    there := fun b o z hx => by
      rw [gk b (old z)]
      exact un.there b o (kp b o z) hx
    tups := fun b xs z => (del_ne (ne_of_none z hn)).trans (un.tups b xs ((upd_ne (ne_of_none z hn)).trans z))
    frzs := fun b o v z => (del_ne (ne_of_none z hn)).trans (un.frzs b o v ((upd_ne (ne_of_none z hn)).trans z))
    tbls := fun b ps z => by
      rw [del_ne (ne_of_none z hn)]
      exact un.tbls b ps ((upd_ne (ne_of_none z hn)).trans z) }
  have hok3 : HOk X.prog X.w (del H2 a) G := fun b o z => by
    have ba : b ≠ a := fun e => by
      rw [e, del_same] at z
      cases z
    rw [del_ne ba] at z
    have noa : ∀ {c : Addr}, H2 c = some (.own b) → c ≠ a := fun {c} hc => at_ne ea hc exo_own
    refine (hok b o z).stay (fun c v hc y => ?_) (fun c hc => (del_ne (noa hc)).trans hc) fun c xs hc => (del_ne (at_ne ea hc exo_tup)).trans hc
    have ca : c ≠ a := by
      rcases hc with hc | hc
      · rw [hc]
        exact ba
      · exact noa hc
    exact (gk c ca).trans y
  have J : Inv X pins σ (del H2 a) ⟨G, g2, d2, t2, os2⟩ := I1.call' (ch := []) ho U hok3 hb (fun b z => absurd z (by simp))
  refine ⟨a, _, _, ⟨G, g2, d2, t2, os2⟩, _, .ref C, none, rfl, J, fun b o z => ?_, ge, hoe, ⟨rfl, rfl⟩, rfl, rfl, del_same, rfl, hb, T, q⟩
  by_cases ba : b = a
  · rw [ba, ge] at z
    cases z
  · exact (gk b ba).symm.trans z
/-- C(e, ..) raised -/
def tThr (C : Addr) (sp : Sp) (dvs : List V) (ta : TA) : L2.St → Hp → XK → Prop := fun σ H Q => ta σ H fun vs H1 => vs.length ≤ 1000 ∧ ∀ a, H1 a = none →
  sp (.ref a :: (vs ++ dvs)) (upd H1 a (exo a C none)) (fun v H2 => v = .non ∧
    ((∃ (d : Addr) (fs : List (Str × V)), H2 a = some (exo a C (some d)) ∧ H2 d = some (exd d fs) ∧ H1 d = none ∧ Q (.ref C) (some d) (upd (del H2 a) d (.xd fs))) ∨ (H2 a = some (exo a C none) ∧ Q (.ref C) none (del H2 a)))) (fun _ _ _ => False)
theorem own_thrown {CX : CXT} {C fI : Addr} {k : Nat} {fd : FuncData} {ps : List Str} {sp : Sp} {ds us : List Value} {dvs vs : List V} {pins : List (Addr × Obj)} {σ : L2.St} {H1 : Hp} {s1 : Shared} {Q : XK} (T : OwC X.K C)
    (iC : PySem.W.findIn X.K (.ref C) "__init__" = some (some (.ref fI))) (tI : PySem.W.typeIn X.K (.ref fI) = some (.type "function")) (F1 : FnOk X.prog X.w X.K X.mg X.base CX k fI fd ps sp) (hr : Room (k + 1) X.A) (hb : Binds X.K fd ps ds) (hd : Vals dvs ds)
    (hx : Passes CX X (fun _ _ _ => False)) (I1 : Inv X pins σ H1 s1) (r1 : Vals vs us) (hz : vs.length ≤ 1000)
    (q1 : ∀ a, H1 a = none → sp (.ref a :: (vs ++ dvs)) (upd H1 a (exo a C none)) (fun v H2 => v = .non ∧
      ((∃ (d : Addr) (fs : List (Str × V)), H2 a = some (exo a C (some d)) ∧ H2 d = some (exd d fs) ∧ H1 d = none ∧ Q (.ref C) (some d) (upd (del H2 a) d (.xd fs))) ∨ (H2 a = some (exo a C none) ∧ Q (.ref C) none (del H2 a)))) (fun _ _ _ => False)) :
    wpAny (model X.prog X.w) X.A (call (.ref C) us) (MkP X pins σ Q) X.xe s1 := by
  obtain ⟨nm, q, N, bs, bm, sn, sub, ab, col, dd, k0, k1, k2, k3, k5, B, nw, it, tl, lk, pt, TB⟩ := T.cls
  obtain ⟨hp, g, dr, tk, os⟩ := s1
  have up : hp.objs.size ≤ hp.objs.size + 1 := Nat.le_succ _
  have hn : H1 (hp.objs.size + 1) = none := I1.hok.fresh up
  have hq := q1 (hp.objs.size + 1) hn
  have kk : ∀ b o, hp.get? b = some o → ((hp.push (PySem.W.kdv_tup us)).push (PySem.HandSPX.excO C hp.objs.size)).get? b = some o := fun b o z =>
    Heap.get?_push_of_some _ (Heap.get?_push_of_some _ z)
  have got : ((hp.push (PySem.W.kdv_tup us)).push (PySem.HandSPX.excO C hp.objs.size)).get? (hp.objs.size + 1) = some (PySem.HandSPX.excO C hp.objs.size) := by heap_get
  have I2 := I1.laid (t' := tk) (a := hp.objs.size + 1) (o := exo (hp.objs.size + 1) C none) kk up (exo_ok got)
  have r2 : Vals (V.ref (hp.objs.size + 1) :: (vs ++ dvs)) (Value.ref (hp.objs.size + 1) :: (us ++ ds)) := .cons rfl (r1.append hd)
  have hl : (Value.ref (hp.objs.size + 1) :: us ++ ds).length = ps.length := by
    have z := r2.length
    rw [F1.len _ _ _ _ hq] at z
    exact z.symm
  have few : us.length ≤ sizeLine := by
    rw [← Paired.length r1, sizeLine_eq]
    omega
  refine wpAny_call (PySem.HandSPX.call_own TB.ex (fun n => pt.has n) (I1.kIn _ _ lk) (PySem.W.looks_findIn I1.kIn iC) (fun me => PySem.W.bind_fn I1.kIn me tI) few (codeAny_mono
    (F1.run _ X.stack _ _ ⟨Value.ref (hp.objs.size + 1) :: us, []⟩ (Value.ref (hp.objs.size + 1) :: (us ++ ds)) _ _ (fun _ _ _ => False) (hr.make C us []) (I2.env0.make C us []) (hb _ (Value.ref (hp.objs.size + 1) :: us) I2.kIn hl) r2 hq) fun r s' z => ?_))
  cases r with
  | error er => exact hx pins σ _ _ er s' I2 z
  | ok fl =>
    cases fl with
    | ret u =>
      obtain ⟨v, H2, os2, bare2, un2, hok2, rv, ev, z2⟩ := z
      subst ev
      obtain ⟨h2, g2, d2, t2, os'⟩ := s'
      rcases z2 with ⟨dq, fs, ea, ed, hd1, q2⟩ | ⟨ea, q2⟩
      · exact ⟨rv, mk_end (raises_own T.exC T.tyC) I1 up kk un2 hok2 os2 bare2 ea ed hd1 q2⟩
      · exact ⟨rv, bare_gone (raises_own T.exC T.tyC) I1 up kk un2 hok2 os2 bare2 ea q2⟩
    | next => exact False.elim z
    | brk => exact False.elim z
    | cont => exact False.elim z
/-- raise C(e, ..) -/
theorem pmk_exo {CX : CXT} {x : Str} {C fI : Addr} {k : Nat} {fd : FuncData} {ps : List Str} {sp : Sp} {ds : List Value} {dvs : List V} (T : OwC X.K C) (iC : PySem.W.findIn X.K (.ref C) "__init__" = some (some (.ref fI)))
    (tI : PySem.W.typeIn X.K (.ref fI) = some (.type "function")) (F1 : FnOk X.prog X.w X.K X.mg X.base CX k fI fd ps sp) (hr : Room (k + 1) X.A) (hb : Binds X.K fd ps ds) (hd : Vals dvs ds) (hx : Passes CX X (fun _ _ _ => False)) (hg : Gl X x)
    (hm : X.mg x = some (.ref C)) (ha : PA X (e :: es) ta) (hdb : (x == ("__debug__" : Str)) = false := by decide) (he : starEach (e :: es) X.env = (false, eval e X.env) :: starEach es X.env := by rfl) (hpl : (backTo pos (starEach es X.env)).any (·.1) = false := by rfl) :
    PMk X (.Call (.Name x p) (e :: es) [] pos) (tThr C sp dvs ta) := fun pins s σ H Q I h =>
  wpAny_Call_Name_kw (ld_glob I hg hm (PySem.W.callWith_K (h₀ := X.base) I.ok.mod.kin T.kC (thn (ha.run pos pins s σ H _ I h) fun us s1 ⟨vs, H1, I1, r1, hz, q1⟩ => ⟨I1.kIn, own_thrown T iC tI F1 hr hb hd hx I1 r1 hz q1⟩) he hpl) hdb)
/-- raise C() -/
theorem pmk_exo0 {CX : CXT} {x : Str} {C fI : Addr} {k : Nat} {fd : FuncData} {ps : List Str} {sp : Sp} {ds : List Value} {dvs : List V} (T : OwC X.K C) (iC : PySem.W.findIn X.K (.ref C) "__init__" = some (some (.ref fI)))
    (tI : PySem.W.typeIn X.K (.ref fI) = some (.type "function")) (F1 : FnOk X.prog X.w X.K X.mg X.base CX k fI fd ps sp) (hr : Room (k + 1) X.A) (hb : Binds X.K fd ps ds) (hd : Vals dvs ds) (hx : Passes CX X (fun _ _ _ => False)) (hg : Gl X x)
    (hm : X.mg x = some (.ref C)) (hdb : (x == ("__debug__" : Str)) = false := by decide) : PMk X (.Call (.Name x p) [] [] pos) (tThr C sp dvs tNil) := fun pins s σ H Q I h =>
  wpAny_Call_Name_kw (ld_glob I hg hm (PySem.W.callWith_K0 I.kIn T.kC (own_thrown (us := []) (vs := []) T iC tI F1 hr hb hd hx I .nil h.1 h.2)) hdb)
end
/-! ### such a value: its fields, and of which classes it is -/
/-- e.f -/
def tFld (K : PySem.W.Frag) (f : Str) (te : TE) : TE := fun σ H Q => te σ H fun x H1 => ∃ (a C d : Addr) (fs : List (Str × V)) (v : V), x = .ref a ∧ H1 a = some (exo a C (some d)) ∧ H1 d = some (exd d fs) ∧ XfC K C ∧ PySem.W.findIn K (.ref C) f = some none ∧ fs.lookup f = some v ∧ Q v H1
theorem inst_at {X : Cx} {pins : List (Addr × Obj)} {σ : L2.St} {H : Hp} {s : Shared} {a C d : Addr} (I : Inv X pins σ H s) (ea : H a = some (exo a C (some d))) {fs : List (Str × V)} (ed : H d = some (exd d fs)) :
    ∃ (ox od : Obj), PySem.W.InstAt s.heap a ox C (some od) ∧ ∀ n, ∃ o, PySem.W.lookIn n od = some o ∧ RelO (fs.lookup n) o := by
  obtain ⟨t1, ho⟩ := exo_at I.hok ea
  obtain ⟨mA, hns, rel⟩ := exd_at I.hok ed
  obtain ⟨od, hd, hl⟩ := lookIn_ns hns
  exact ⟨_, od, ⟨ho, rfl, rfl, hd⟩, fun n => ⟨_, hl n, rel n⟩⟩
theorem pe_fld {X : Cx} {e : Expr} {te : TE} {pos : Pos} {f : Str} (he : PE X e te) (hb : attributeBase e f X.env (eval e X.env) = eval e X.env := by rfl) : PE X (.Attribute e f pos) (tFld X.K f te) := by
  refine ⟨fun pins s σ H Q I h => ?_⟩
  refine attr_of hb (thn (he.run pins s σ H _ I h) fun u s1 ⟨x, H1, I1, rx, a, C, d, fs, v, ex, ea, ed, T, on, lf, q⟩ => ?_)
  subst ex
  obtain rfl : u = Value.ref a := rx
  obtain ⟨ox, od, J, rel⟩ := inst_at I1 ea ed
  obtain ⟨o1, l1, r1⟩ := rel f
  obtain ⟨y, hy, ry⟩ := RelO.some_of (v := v) (o := o1) (by rw [← lf]; exact r1)
  subst hy
  exact HandSPX.exc_get I1.kIn J T.ga T.gg T.exC (PySem.W.findObj_own T.hdC on rfl l1) (handed_of ry) ⟨v, H1, I1.tok _, ry, q⟩
end Gn
set_option Elab.async false
set_option linter.all false
set_option maxRecDepth 100000
set_option maxHeartbeats 4000000
/-! isinstance of such a value, with a dict or none -/
namespace PySem.W
open PySem PySem.Spec PySem.Calls PyProof.Rows
section
variable {P : Program} {w : World} {A : Around} {E : Value → Shared → Prop} {s : Shared} {K : Frag} {x D : Addr} {ox : Obj} {od : Option Obj}
theorem gn_found {C : Addr} {n : Str} {a g : Value} (hc : (clsIn K C).isSome = true) (ha : findIn K (.ref C) n = some (some a)) (hg : specialIn K a "__get__" = some (some g)) (ht : takesIn K a = some true) : findObj K C od n = some (.bind g a) := by
  obtain ⟨cd, hc⟩ := Option.isSome_iff_exists.mp hc
  unfold findObj
  simp [hc, ha, hg, ht]
theorem gn_class {Q : Option Value → Shared → Prop} (C : L2.ExcC K D) (X : K.In s.heap) (I : InstAt s.heap x ox D od) (h : Q (some (.ref D)) { s with toks := s.toks + 1 }) : wpAny (model P w) A (getAttr? (.ref x) "__class__") Q E s := by
  obtain ⟨hga, hgt, hsub, hdct, ha, hn, htk, hm⟩ := C
  have fd : findObj K D od "__class__" = some (.bind (.builtin "getset_descriptor.__get__") (.builtin "object.__class__")) :=
    gn_found (by
      obtain ⟨cd, z, _⟩ := any_some hdct
      rw [z]
      rfl) ha hn htk
  obtain ⟨hp, g, d, t, os⟩ := s
  have T0 := I.type (M := model P w)
  have T1 := looks_findIn (M := model P w) X hga
  have T2 := looks_findIn (M := model P w) X hgt
  have T3 := looks_find (M := model P w) X I fd
  have isB : Looks (model P w) hp (isInstance (.ref x) (.type "BaseException")) true := T0.andThen (looks_subIn X hsub)
  have n0 : (false && onTheHeap (Value.builtin "BaseException.__getattribute__")) = false := rfl
  have n2 : (Value.builtin "BaseException.__getattribute__" == Value.builtin "object.__getattribute__") = false := by decide +kernel
  have n1 : (onTheHeap (Value.ref D) && Value.builtin "BaseException.__getattribute__" == Value.builtin "object.__getattribute__") = false := by
    rw [n2]
    rfl
  unfold getAttr? getAttrBy? getAttrBy
  refine wpAny_bind (wpAny_mkText (wpAny_bind (wpAny_attempt (wpAny_holding (wpAny_bind (T0.at (wpAny_bind (T1.at ?_))))))))
  show wpAny _ _ (if (onTheHeap (Value.ref D) && Value.builtin "BaseException.__getattribute__" == Value.builtin "object.__getattribute__") = true then _ else _) _ _ _
  rw [n1, if_neg Bool.false_ne_true]
  unfold getAttrByItsOwn hookBefore
  refine wpAny_bind ?_
  rw [if_pos (show onTheHeap (Value.ref D) = true from rfl)]
  refine T2.at ?_
  refine wpAny_bind (wpAny_attempt (wpAny_holding ?_))
  unfold callGetattribute
  rw [n0, if_neg Bool.false_ne_true]
  unfold boundAndCalled
  rw [PySem.F.excAttr_ValueError.ga.bind (.ref x)]
  refine wpAny_bind (wpAny_pure ?_)
  show wpAny _ _ (call (.builtin "BaseException.__getattribute__") [.ref x, .str "__class__" t]) _ _ _
  refine wpAny_call (codeAny_call_builtin PySem.F.excAttr_ValueError.ga.plain PySem.F.entry_bexc_ga ?_)
  refine @check_slot (model P w) _ _ ⟨hp, g, d, t + 1, os⟩ "BaseException.__getattribute__" "BaseException" "__getattribute__" (.ref x)
    [.str "__class__" t] [] _ (by decide +kernel) (by decide +kernel) isB (PySem.F.args_bexc_ga (.ref x) (.str "__class__" t)) ?_
  unfold Builtin.«object.__getattribute__»
  refine wpAny_bind (wpAny_of_eq (a := ((Value.ref x : Value), [Value.str "__class__" t])) (by first
    | rfl
    | (simp only [slotArgs]; rfl)) ?_)
  refine wpAny_bind (wpAny_pure (wpAny_bind (T0.at (wpAny_bind (T3.at ?_)))))
  show wpAny _ _ (holding [Value.builtin "object.__class__"] (call (.builtin "getset_descriptor.__get__") [.builtin "object.__class__", .ref x, .ref D]) >>= ret) _ _ _
  refine wpAny_bind (wpAny_holding (wpAny_call (class_get (s := ⟨hp, g, d, t + 1, os⟩) (ox := ox) (od := od) X I hm ?_)))
  refine wpAny_pure ?_
  show wpAny _ _ (handedOut (.ref D)) _ _ _
  rw [handedOut_of (v := .ref D) rfl]
  first
    | exact wpAny_pure (wpAny_pure h)
    | exact wpAny_pure h
    | exact wpAny_pure (wpAny_bind (wpAny_pure (wpAny_pure h)))
theorem gn_kit (C : L2.ExcC K D) : KitX K (.ref x) (.ref D) (fun h => ∃ ox od, InstAt h x ox D od) where
  ty := fun _ _ _ ⟨_, _, I⟩ => I.type
  it := fun _ _ X _ => by
    obtain ⟨cdD, z, _⟩ := any_some C.hd
    unfold clsIn at z
    split at z
    · rename_i c' d' cd' sl' ho
      intro A' Q' E' s' k q
      unfold isType loadHead
      exact wpAny_bind (wpAny_loadPart (k _ _ (X _ _ ho)) (wpAny_pure q))
    · cases z
  ne := fun h tp dd its n sl X htp => by
    obtain ⟨cdD, z, _⟩ := any_some C.hd
    refine Bool.eq_false_iff.mpr fun q => ?_
    have e : D = tp := Value.ref.inj (beq_iff_eq.mp q)
    subst e
    unfold clsIn at z
    split at z
    · rename_i c' d' cd' sl' ho
      have y := (X _ _ ho).symm.trans htp
      cases y
    · cases z
  ca := fun X ⟨_, _, I⟩ k => gn_class C X I k
end
end PySem.W
namespace Gn
open PySem PySem.Spec PyProof.Rows L2
theorem inst_any {X : Cx} {pins : List (Addr × Obj)} {σ : L2.St} {H : Hp} {s : Shared} {a C : Addr} {d : Option Addr} (I : Inv X pins σ H s) (ea : H a = some (exo a C d)) (hd : ∀ y, d = some y → ∃ fs, H y = some (exd y fs)) :
    ∃ ox od, PySem.W.InstAt s.heap a ox C od := by
  cases d with
  | none =>
    obtain ⟨t1, ho⟩ := exo_at I.hok ea
    exact ⟨_, none, ho, rfl, rfl, trivial⟩
  | some y =>
    obtain ⟨fs, ed⟩ := hd y rfl
    obtain ⟨ox, od, J, _⟩ := inst_at I ea ed
    exact ⟨ox, _, J⟩
/-- isinstance(e, c), e an own exception that is kept -/
def rIsO (K : PySem.W.Frag) : List V → Hp → VK → Prop := fun xs H Q => ∃ (a D : Addr) (d : Option Addr) (c : V) (cv : Value) (b : Bool), xs = [.ref a, c] ∧ ExcC K D ∧ H a = some (exo a D d) ∧ (∀ y, d = some y → ∃ fs, H y = some (exd y fs)) ∧
  (∀ u, RelV c u → u = cv) ∧ PySem.W.kitOne K (.ref D) cv = some b ∧ Q (.bl b) H
theorem cr_isO {X : Cx} : CallR X (.builtin "isinstance") (rIsO X.K) := by
  intro pins s σ H xs us Q I r h
  obtain ⟨a, D, d, c, cv, b, rfl, C, ea, hd, hcv, e, q⟩ := h
  cases r with
  | cons rx rr =>
    cases rr with
    | cons rt rr =>
      cases rr
      cases rx
      have ec := hcv _ rt
      subst ec
      exact PySem.W.kia_one (PySem.W.gn_kit C) I.kIn (inst_any I ea hd) e (fun z => nomatch z) fun tk => ⟨.bl b, H, I.kept (t' := tk) fun _ _ z => z, rfl, q⟩
/-- isinstance(e, c), e the exception that the suite holds, with a dict or none -/
def rIsH (K : PySem.W.Frag) (D a : Addr) (d : Option Addr) : List V → Hp → VK → Prop := fun xs H Q => ∃ (c : V) (cv : Value) (b : Bool), xs = [.ref a, c] ∧ (∀ y, d = some y → ∃ fs, H y = some (.xd fs)) ∧ (∀ u, RelV c u → u = cv) ∧ PySem.W.kitOne K (.ref D) cv = some b ∧ Q (.bl b) H
theorem cr_isH {X : Cx} {a D : Addr} {d : Option Addr} {oe : Obj} {pn : List (Addr × Obj)} (C : ExcC X.K D) (hz : Zc (.ref D) d oe) (hf : ∃ vs, oe.data = .fields vs) : CallR (X.suite a ((a, oe) :: pn)) (.builtin "isinstance") (rIsH X.K D a d) := by
  intro pins s σ H xs us Q I r h
  obtain ⟨c, cv, b, rfl, hd, hcv, e, q⟩ := h
  cases r with
  | cons rx rr =>
    cases rr with
    | cons rt rr =>
      cases rr
      cases rx
      have ec := hcv _ rt
      subst ec
      obtain ⟨at0, _⟩ := I.pin (a, oe) (List.mem_append.mpr (.inl List.mem_cons_self))
      obtain ⟨vs, hv⟩ := hf
      have J : ∃ ox od, PySem.W.InstAt s.heap a ox D od := by
        obtain ⟨oc, dd, oda, osl⟩ := oe
        obtain ⟨h1, h2⟩ := hz
        dsimp only at h1 h2 hv
        subst h1 h2 hv
        cases dd with
        | none => exact ⟨_, none, at0, rfl, rfl, trivial⟩
        | some y =>
          obtain ⟨fs, ed⟩ := hd y rfl
          obtain ⟨mA, hns, _⟩ := (show ObjOk X.prog X.w H s.heap y (.xd fs) from I.hok y _ ed)
          obtain ⟨od, ho, _⟩ := lookIn_ns hns
          exact ⟨_, some od, at0, rfl, rfl, ho⟩
      exact PySem.W.kia_one (PySem.W.gn_kit C) I.kIn J e (fun z => nomatch z) fun tk => ⟨.bl b, H, I.kept (t' := tk) fun _ _ z => z, rfl, q⟩
end Gn
set_option Elab.async false
set_option linter.all false
set_option maxRecDepth 100000
set_option maxHeartbeats 4000000
/-! the same made by keywords -/
namespace Gn
open PySem PySem.Spec PyProof.Rows L2
section
variable {M : Model} {A : Around} {E : Value → Shared → Prop} {h : Heap} {g : Array GenState} {d : Drawn} {t : Nat} {os : OsState}
variable {nm q : Str} {C N : Addr} {bs bm tl : List Value} {hd : Bool} {sn : List Str} {sub : List Value} {ab : Bool} {col : Option Bool} {dd : Option Addr} {k0 k1 k2 k3 k5 : Option Value} {B nw it : String} {rest : List Value} {kw : List (Str × Value)}
theorem kw_new_check (T : ExcBaseFacts B nw it tl) (pt : ∀ n : String, bm.contains (.type n) = tl.contains (.type n)) {Q : Unit → Shared → Prop}
    (lk : h.get? C = some (excClassObj nm q C N bs bm hd sn sub ab col dd k0 k1 k2 k3 k5 nw)) (fin : Q () ⟨h, g, d, t, os⟩) : wpAny M A (checkBuiltinCall nw ⟨.ref C :: rest, kw⟩) Q E ⟨h, g, d, t, os⟩ := by
  have inB : (Value.ref C :: bm).contains (.type B) = true := by
    rw [List.contains_cons, pt, T.hasB, Bool.or_true]
  have ns := T.noStar
  simp only [checkBuiltinCall, T.newKind, T.newSplit, T.newRow]
  repeat (first
    | refine wpAny_loadPart_at lk ?_
    | (refine wpAny_isSubtype_exc lk ?_; rw [inB])
    | refine wpAny_staticBase_exc lk ?_
    | refine wpAny_madeBy_exc lk ?_
    | simp only [bne_self_eq_false, Bool.false_eq_true, if_false]
    | wp_step)
  exact fin
end
section
variable {P : Program} {w : World} {A : Around} {E : Value → Shared → Prop} {R : Result → Shared → Prop} {h : Heap} {g : Array GenState} {d : Drawn} {t : Nat} {os : OsState}
variable {nm q : Str} {C N : Addr} {bs bm tl : List Value} {hd : Bool} {sn : List Str} {sub : List Value} {ab : Bool} {col : Option Bool} {dd : Option Addr} {k0 k1 k2 k3 k5 : Option Value} {B nw it : String} {rest : List Value} {kw : List (Str × Value)} {fI : Addr}
theorem kw_new (T : ExcBaseFacts B nw it tl) (pt : ∀ n : String, bm.contains (.type n) = tl.contains (.type n)) (lk : h.get? C = some (excClassObj nm q C N bs bm hd sn sub ab col dd k0 k1 k2 k3 k5 nw))
    (fin : R (.ok (.ret (.ref (h.objs.size + 1)))) ⟨(h.push (PySem.W.kdv_tup rest)).push (PySem.HandSPX.excO C h.objs.size), g, d, t, os⟩) (few : rest.length ≤ sizeLine) : codeAny (model P w) A (.builtin nw ⟨.ref C :: rest, kw⟩) R ⟨h, g, d, t, os⟩ := by
  have y0 := T.ends
  have y1 : (Value.ref C :: bm).contains (.type B) = true := by
    rw [List.contains_cons, pt, T.hasB, Bool.or_true]
  have y2 : (Value.ref C :: bm).contains (.type "AttributeError") = false := by
    rw [List.contains_cons, pt, T.noAttr]
    rfl
  have y3 : (Value.ref C :: bm).contains (.type "NameError") = false := by
    rw [List.contains_cons, pt, T.noName]
    rfl
  refine codeAny_builtinAt T.entry ?_
  unfold Builtin.«BaseException.__new__»
  refine PySem.wpAt_bind ?_
  show PySem.wpAt _ _ _ (stack >>= _) _ _ _
  refine PySem.wpAt_bind (PySem.wpAt_stack fun p below => PySem.wpAt_of_wpAny ?_)
  wp_walk
  refine PySem.wpAt_of_wpAny ?_
  rw [T.owner]
  repeat (first
    | with_reducible refine wpAny_madeHere_exc T.canon lk ?_
    | with_reducible refine wpAny_loadPart_at lk ?_
    | (with_reducible refine wpAny_isSubtype_exc lk ?_; first | rw [y1] | rw [y2] | rw [y3])
    | wp_step)
  show R _ _
  rw [Heap.size_push]
  exact fin
theorem kw_type_call (T : ExcBaseFacts B nw it tl) (pt : ∀ n : String, bm.contains (.type n) = tl.contains (.type n)) {Q : Fin → Shared → Prop} (lk : h.get? C = some (excClassObj nm q C N bs bm hd sn sub ab col dd k0 k1 k2 k3 k5 nw))
    (li : PySem.W.Looks (model P w) h (typeLookup (.ref C) "__init__") (some (.ref fI))) (lb : ∀ me, PySem.W.Looks (model P w) h (bindSpecial (.ref fI) me) (.ref fI, [me])) (few : rest.length ≤ sizeLine)
    (fin : codeAny (model P w) A (.call (.ref fI) ⟨.ref (h.objs.size + 1) :: rest, kw⟩) (fun r s' => match r with | .ok (.ret v) => v = .none ∧ Q (.done (.ret (.ref (h.objs.size + 1)))) s' | .ok _ => False | .error e => E e s')
      ⟨(h.push (PySem.W.kdv_tup rest)).push (PySem.HandSPX.excO C h.objs.size), g, d, t, os⟩) : wpAny (model P w) A (Builtin.«type.__call__» ⟨.ref C :: rest, kw⟩) Q E ⟨h, g, d, t, os⟩ := by
  repeat (first
    | with_reducible refine wpAny_loadPart_at lk ?_
    | with_reducible refine wpAny_madeBy_exc lk ?_
    | wp_step)
  refine codeAny_call_builtin_code (Code.quiet_builtin _ T.quiet) (kw_new_check T pt lk ?_)
  refine kw_new T pt lk ?_ few
  show wpAny _ _ _ _ _ _
  have kp : ∀ b o, h.get? b = some o → ((h.push (PySem.W.kdv_tup rest)).push (PySem.HandSPX.excO C h.objs.size)).get? b = some o := fun b o z =>
    Heap.get?_push_of_some _ (Heap.get?_push_of_some _ z)
  have lk1 := kp _ _ lk
  have at1 : ((h.push (PySem.W.kdv_tup rest)).push (PySem.HandSPX.excO C h.objs.size)).get? (h.objs.size + 1) = some (PySem.HandSPX.excO C h.objs.size) := by heap_get
  have inC : (Value.ref C :: bm).contains (.ref C) = true := by simp
  have i1 := li.keeps kp
  have b1 := (lb (.ref (h.objs.size + 1))).keeps kp
  unfold isInstance
  repeat (first
    | with_reducible refine wpAny_loadPart_at at1 ?_
    | (with_reducible refine wpAny_isSubtype_exc lk1 ?_; rw [inC])
    | wp_step)
  show wpAny _ _ (typeLookup (.ref C) _) _ _ _
  refine i1.at ?_
  refine wpAny_holding (wpAny_bind (b1.at ?_))
  refine wpAny_bind (wpAny_call (codeAny_mono fin fun r s' z => ?_))
  rcases r with e | (v | _ | _ | _)
  · exact z
  all_goals first
    | exact False.elim z
    | skip
  obtain ⟨rfl, z⟩ := z
  first
    | exact wpAny_pure (wpAny_pure z)
    | (wp_walk; exact z)
theorem kw_call (T : ExcBaseFacts B nw it tl) (pt : ∀ n : String, bm.contains (.type n) = tl.contains (.type n)) (lk : h.get? C = some (excClassObj nm q C N bs bm hd sn sub ab col dd k0 k1 k2 k3 k5 nw))
    (li : PySem.W.Looks (model P w) h (typeLookup (.ref C) "__init__") (some (.ref fI))) (lb : ∀ me, PySem.W.Looks (model P w) h (bindSpecial (.ref fI) me) (.ref fI, [me])) (few : rest.length ≤ sizeLine)
    (fin : codeAny (model P w) (A.under (.builtin "type.__call__" ⟨.ref C :: rest, kw⟩)) (.call (.ref fI) ⟨.ref (h.objs.size + 1) :: rest, kw⟩) (PySem.W.InitBack (h.objs.size + 1) R) ⟨(h.push (PySem.W.kdv_tup rest)).push (PySem.HandSPX.excO C h.objs.size), g, d, t, os⟩) :
    codeAny (model P w) A (.call (.ref C) ⟨rest, kw⟩) R ⟨h, g, d, t, os⟩ := by
  have f1 := tc_lookup
  have f2 := tc_bind (.ref C)
  have ty : (⟨h, g, d, t, os⟩ : Shared).TypeIs (.ref C) "type" := ⟨_, lk, rfl⟩
  have isT : PySem.W.Looks (model P w) h (isInstance (.ref C) (.type "type")) true := by
    intro A' Q' E' s' k q
    have lk2 := k _ _ lk
    have f3 := tc_sub
    unfold isInstance
    obtain ⟨h', g', d', t', os'⟩ := s'
    repeat (first
      | assumption
      | with_reducible refine wpAny_loadPart_at lk2 ?_
      | wp_step)
  refine codeAny_of_tree ?_
  show wpAny _ _ (callAny (.ref C) _) _ _ _
  repeat (any_goals (first
    | assumption
    | with_reducible refine wpAny_loadPart_at lk ?_
    | wp_step))
  refine ⟨rfl, ?_⟩
  refine codeAny_call_builtin_at (Code.quiet_builtin _ (by decide +kernel)) entry_typeCall (@PySem.W.check_slot (model P w) _ _ _ "type.__call__" "type" "__call__" (.ref C) rest kw _ tc_kind tc_split isT (PySem.W.tc_args _ _ _) (kw_type_call T pt lk li lb few ?_))
  refine codeAny_mono fin fun r s' z => ?_
  rcases r with e | (v | _ | _ | _) <;> exact z
end
end Gn
set_option Elab.async false
set_option linter.all false
set_option maxRecDepth 100000
set_option maxHeartbeats 4000000
namespace Gn
open PySem PySem.Spec PyProof.Rows L2
/-- C(k = e, ..) kept -/
def tOwnK (C : Addr) (m : Nat) (sp : Sp) (gV : List V → List V → List V) (tk : TA) : TE := fun σ H Q => tk σ H fun zs H1 => zs.length = m ∧ ∀ a, H1 a = none →
  sp (gV [.ref a] zs) (upd H1 a (exo a C none)) (fun v H2 => v = .non ∧ Q (.ref a) H2) (fun _ _ _ => False)
section
variable {X : Cx} {tk : TA} {kws : List Keyword} {p pos : Pos}
theorem own_madeK {CX : CXT} {C fI : Addr} {k : Nat} {fd : FuncData} {ps ks : List Str} {sp : Sp} {ws : List Value} {zs : List V} {g : List Value → List Value → List Value} {gV : List V → List V → List V} {pins : List (Addr × Obj)} {σ : L2.St} {H1 : Hp} {s1 : Shared} {Q : VK} (T : OwC X.K C)
    (iC : PySem.W.findIn X.K (.ref C) "__init__" = some (some (.ref fI))) (tI : PySem.W.typeIn X.K (.ref fI) = some (.type "function")) (F1 : FnOk X.prog X.w X.K X.mg X.base CX k fI fd ps sp) (hr : Room (k + 1) X.A) (hb : KBn X.K fd ps 1 ks g gV)
    (hx : Passes CX X (fun _ _ _ => False)) (I1 : Inv X pins σ H1 s1) (rz : Vals zs ws) (lz : zs.length = ks.length) (q1 : ∀ a, H1 a = none → sp (gV [.ref a] zs) (upd H1 a (exo a C none)) (fun v H2 => v = .non ∧ Q (.ref a) H2) (fun _ _ _ => False)) :
    wpAny (model X.prog X.w) X.A (call (.ref C) [] (ks.zip ws)) (EP X pins σ Q) X.xe s1 := by
  obtain ⟨nm, q, N, bs, bm, sn, sub, ab, col, dd, k0, k1, k2, k3, k5, B, nw, it, tl, lk, pt, TB⟩ := T.cls
  obtain ⟨hp, gg, dr, tok, os⟩ := s1
  have up : hp.objs.size ≤ hp.objs.size + 1 := Nat.le_succ _
  have hn : H1 (hp.objs.size + 1) = none := I1.hok.fresh up
  have hq := q1 (hp.objs.size + 1) hn
  have kk : ∀ b o, hp.get? b = some o → ((hp.push (PySem.W.kdv_tup [])).push (PySem.HandSPX.excO C hp.objs.size)).get? b = some o := fun b o z =>
    Heap.get?_push_of_some _ (Heap.get?_push_of_some _ z)
  have got : ((hp.push (PySem.W.kdv_tup [])).push (PySem.HandSPX.excO C hp.objs.size)).get? (hp.objs.size + 1) = some (PySem.HandSPX.excO C hp.objs.size) := by heap_get
  have I2 := I1.laid (t' := tok) (a := hp.objs.size + 1) (o := exo (hp.objs.size + 1) C none) kk up (exo_ok got)
  have rs : Vals [V.ref (hp.objs.size + 1)] [Value.ref (hp.objs.size + 1)] := .cons rfl .nil
  have r2 := hb.rel rs rz
  have l2 : ws.length = ks.length := rz.length.symm.trans lz
  refine wpAny_call (kw_call TB.ex (fun n => pt.has n) (I1.kIn _ _ lk) (PySem.W.looks_findIn I1.kIn iC) (fun me => PySem.W.bind_fn I1.kIn me tI) (by rw [sizeLine_eq]; decide) (codeAny_mono
    (F1.run _ X.stack _ _ ⟨[Value.ref (hp.objs.size + 1)], ks.zip ws⟩ (g [Value.ref (hp.objs.size + 1)] ws) _ _ (fun _ _ _ => False) (hr.make C [] (ks.zip ws)) (I2.env0.make C [] (ks.zip ws)) (hb.to _ [Value.ref (hp.objs.size + 1)] ws I2.kIn rfl l2) r2 hq) fun r s' z => ?_))
  cases r with
  | error er => exact hx pins σ _ _ er s' I2 z
  | ok fl =>
    cases fl with
    | ret u =>
      obtain ⟨v, H2, os2, bare2, un2, hok2, rv, ev, q2⟩ := z
      subst ev
      obtain ⟨h2, g2, d2, t2, os'⟩ := s'
      exact ⟨rv, .ref (hp.objs.size + 1), H2, I1.call' (ch := []) os2 ((Un.laid kk up hn).trans un2) hok2 bare2 (fun b y => absurd y (by simp)), rfl, q2⟩
    | next => exact False.elim z
    | brk => exact False.elim z
    | cont => exact False.elim z
theorem pe_ownK {CX : CXT} {x : Str} {C fI : Addr} {k : Nat} {fd : FuncData} {ps ks : List Str} {sp : Sp} {g : List Value → List Value → List Value} {gV : List V → List V → List V} (T : OwC X.K C) (iC : PySem.W.findIn X.K (.ref C) "__init__" = some (some (.ref fI)))
    (tI : PySem.W.typeIn X.K (.ref fI) = some (.type "function")) (F1 : FnOk X.prog X.w X.K X.mg X.base CX k fI fd ps sp) (hr : Room (k + 1) X.A) (hb : KBn X.K fd ps 1 ks g gV) (hx : Passes CX X (fun _ _ _ => False)) (hg : Gl X x)
    (hm : X.mg x = some (.ref C)) (hkw : PK X kws tk) (hall : (backToKw pos (keywordEach kws X.env)).all (·.1.isSome) = true := by rfl) (hks : (backToKw pos (keywordEach kws X.env)).filterMap (·.1) = ks := by rfl) (hdb : (x == ("__debug__" : Str)) = false := by decide)
    (hpl : ((backTo pos (starEach [] X.env)).any (·.1) || (backToKw pos (keywordEach kws X.env)).any (·.1.isNone)) = false := by rfl) :
    PE X (.Call (.Name x p) [] kws pos) (tOwnK C ks.length sp gV tk) := ⟨fun pins s σ H Q I h =>
  wpAny_Call_Name_kw (ld_glob I hg hm (PySem.W.callWith_KW0 (h₀ := X.base) I.ok.mod.kin T.kC hall (thn (hkw.run pos pins s σ H _ I h) fun ws s2 ⟨zs, H2, I2, rz, lz, q2⟩ => ⟨I2.kIn, by
    rw [hks]
    exact own_madeK T iC tI F1 hr hb hx I2 rz lz q2⟩) hpl) hdb)⟩
end
/-! one keyword, and two the other way round, behind the object itself -/
def kq1 {α : Type} : List α → List α → List α
  | [s], [a] => [s, a]
  | _, _ => []
def kq2s {α : Type} : List α → List α → List α
  | [s], [a, b] => [s, b, a]
  | _, _ => []
section
variable {K : PySem.W.Frag} {fd : FuncData}
theorem kn1 {p0 p : Str} (h : ∀ s a : Value, bindArgs fd ⟨[s], [(p, a)]⟩ = pure [(p0, s), (p, a)]) : KBn K fd [p0, p] 1 [p] kq1 kq1 :=
  ⟨fun s us ws _ l1 l2 => match us, ws, l1, l2 with
    | [x], [a], _, _ => .of_eq (h x a), fun {vs us zs ws} r rz => by
    cases r with
    | nil => exact .nil
    | cons a b => cases b with
      | nil => cases rz with
        | nil => exact .nil
        | cons c d => cases d with
          | nil => exact .cons a (.cons c .nil)
          | cons _ _ => exact .nil
      | cons _ _ => exact .nil⟩
theorem kn2s {p0 p q : Str} (h : ∀ s a b : Value, bindArgs fd ⟨[s], [(q, b), (p, a)]⟩ = pure [(p0, s), (p, a), (q, b)]) : KBn K fd [p0, p, q] 1 [q, p] kq2s kq2s :=
  ⟨fun s us ws _ l1 l2 => match us, ws, l1, l2 with
    | [x], [b, a], _, _ => .of_eq (h x a b), fun {vs us zs ws} r rz => by
    cases r with
    | nil => exact .nil
    | cons a b => cases b with
      | nil => cases rz with
        | nil => exact .nil
        | cons c d => cases d with
          | nil => exact .nil
          | cons e f => cases f with
            | nil => exact .cons a (.cons e (.cons c .nil))
            | cons _ _ => exact .nil
      | cons _ _ => exact .nil⟩
end
end Gn
set_option Elab.async false
set_option linter.all false
set_option maxRecDepth 100000
set_option maxHeartbeats 4000000
/-! own exceptions whose __init__ keeps what is passed -/
namespace Gn
open PySem PySem.Spec PyProof.Rows L2
/-- at a: an exception of the class at C that has these fields -/
def Kept (H : Hp) (a C : Addr) (fs : List (Str × V)) : Prop := (fs = [] ∧ H a = some (exo a C none)) ∨ ∃ d, H a = some (exo a C (some d)) ∧ H d = some (exd d fs)
theorem Kept.same {H H' : Hp} {a C : Addr} {fs : List (Str × V)} (h : Kept H a C fs) (e : Same H H') : Kept H' a C fs := by
  rcases h with ⟨z, h⟩ | ⟨d, h1, h2⟩
  · exact .inl ⟨z, e _ _ h⟩
  · exact .inr ⟨d, e _ _ h1, e _ _ h2⟩
/-- the same, its dict new -/
def NewE (H H' : Hp) (a C : Addr) (fs : List (Str × V)) : Prop := (fs = [] ∧ H' a = some (exo a C none)) ∨ ∃ d, H d = none ∧ H' a = some (exo a C (some d)) ∧ H' d = some (exd d fs)
theorem NewE.kept {H H' : Hp} {a C : Addr} {fs : List (Str × V)} (h : NewE H H' a C fs) : Kept H' a C fs := by
  rcases h with h | ⟨d, _, h⟩
  · exact .inl h
  · exact .inr ⟨d, h⟩
/-- all but a is as it was -/
def But (H H' : Hp) (a : Addr) : Prop := ∀ b o, b ≠ a → H b = some o → H' b = some o
def spIni (K : PySem.W.Frag) (fl : List Str) : Sp := fun vs H Q _ => ∃ (a C : Addr) (xs : List V), vs = .ref a :: xs ∧ xs.length = fl.length ∧ OwC K C ∧ (∀ f ∈ fl, PySem.W.findIn K (.ref C) f = some none) ∧ H a = some (exo a C none) ∧
  ∀ H', But H H' a → NewE H H' a C (fl.zip xs).reverse → Q .non H'
section
variable {P : Program} {w : World} {K : PySem.W.Frag} {mg : Str → Option Value} {base : Heap} {f : Addr} {fd : FuncData} {qual : Str} {st : Stmt}
theorem but_put {H : Hp} {a d : Addr} {o o' : HO} (hd : H d = none) : But H (upd (upd H d o) a o') a := fun b u hb z => by
  rw [upd_ne hb, upd_ne (ne_of_none z hd)]
  exact z
theorem ini0 {pos : Pos} (F : Fun K "__init__" qual st f fd) (S : FnScope ["self"] ["self"] (defScope st)) (hb : defBody st = [.Pass pos]) : FnOk P w K mg base CX0 1 f fd ["self"] (spIni K []) := by
  refine F.ok S (fun vs H Q E h => ?_) (fun cdv A outer s H vs Q E hr h => ?_)
  · obtain ⟨a, C, xs, rfl, l, _⟩ := h
    cases xs with
    | nil => rfl
    | cons _ _ => cases l
  · obtain ⟨a, C, xs, rfl, l, _, _, ea, q⟩ := h
    rw [hb]
    match xs, l with
    | [], _ => exact ⟨_, pss_one ps_pass, q H (fun b o _ z => z) (.inl ⟨rfl, ea⟩)⟩
theorem ini1 {n : Str} {p1 p2 p3 pos : Pos} (F : Fun K "__init__" qual st f fd) (S : FnScope ["self", n] ["self", n] (defScope st)) (hb : defBody st = [.Assign [.Attribute (.Name "self" p1) n p2] (.Name n p3) pos])
    (v0 : Vis (defScope st) "self") (v1 : Vis (defScope st) n) (d1 : (n == ("__debug__" : Str)) = false) (c1 : (n == ("__classdict__" : Str)) = false) :
    FnOk P w K mg base CX0 1 f fd ["self", n] (spIni K [n]) := by
  refine F.ok S (fun vs H Q E h => ?_) (fun cdv A outer s H vs Q E hr h => ?_)
  · obtain ⟨a, C, xs, rfl, l, _⟩ := h
    rw [List.length_cons, l]
    rfl
  · obtain ⟨a, C, xs, rfl, l, T, no, ea, q⟩ := h
    rw [hb]
    match xs, l with
    | [x], _ =>
      refine ⟨_, pss_one (ps_put (pv 0 rfl v0) (pv 1 rfl v1 d1 c1)), ?_⟩
      exact ⟨_, rfl, _, rfl, a, C, rfl, T, no n (List.mem_singleton.mpr rfl), .inl ⟨ea, fun d hd ne => q _ (but_put hd) (.inr ⟨d, hd, upd_same, by rw [upd_ne ne, upd_same]; rfl⟩)⟩⟩
theorem ini2 {n m : Str} {p1 p2 p3 p4 p5 p6 pos pos' : Pos} (F : Fun K "__init__" qual st f fd) (S : FnScope ["self", n, m] ["self", n, m] (defScope st))
    (hb : defBody st = [.Assign [.Attribute (.Name "self" p1) n p2] (.Name n p3) pos, .Assign [.Attribute (.Name "self" p4) m p5] (.Name m p6) pos'])
    (v0 : Vis (defScope st) "self") (v1 : Vis (defScope st) n) (d1 : (n == ("__debug__" : Str)) = false) (c1 : (n == ("__classdict__" : Str)) = false) (v2 : Vis (defScope st) m) (d2 : (m == ("__debug__" : Str)) = false) (c2 : (m == ("__classdict__" : Str)) = false) :
    FnOk P w K mg base CX0 1 f fd ["self", n, m] (spIni K [n, m]) := by
  refine F.ok S (fun vs H Q E h => ?_) (fun cdv A outer s H vs Q E hr h => ?_)
  · obtain ⟨a, C, xs, rfl, l, _⟩ := h
    rw [List.length_cons, l]
    rfl
  · obtain ⟨a, C, xs, rfl, l, T, no, ea, q⟩ := h
    rw [hb]
    match xs, l with
    | [x, y], _ =>
      refine ⟨_, pss_cons (ps_put (pv 0 rfl v0) (pv 1 rfl v1 d1 c1)) (pss_one (ps_put (pv 0 rfl v0) (pv 2 rfl v2 d2 c2))), ?_⟩
      refine ⟨_, rfl, _, rfl, a, C, rfl, T, no n (by simp), .inl ⟨ea, fun d hd ne => ?_⟩⟩
      refine ⟨_, rfl, _, rfl, a, C, rfl, T, no m (by simp), .inr ⟨d, _, upd_same, by rw [upd_ne ne, upd_same], by show 1 ≤ 900; decide, ?_⟩⟩
      refine q _ (fun b o hb z => ?_) (.inr ⟨d, hd, by rw [upd_ne (Ne.symm ne), upd_same], upd_same⟩)
      rw [upd_ne (ne_of_none z hd), upd_ne hb, upd_ne (ne_of_none z hd)]
      exact z
end
/-- such a class of the text: its name, the fields in the order of its parameters -/
structure OwE (P : Program) (w : World) (K : PySem.W.Frag) (mg : Str → Option Value) (base : Heap) (nm : Str) (fl : List Str) (C f : Addr) (fd : FuncData) : Prop where
  own : OwC K C
  ini : PySem.W.findIn K (.ref C) "__init__" = some (some (.ref f))
  ty : PySem.W.typeIn K (.ref f) = some (.type "function")
  xf : XfC K C
  ex : ExcC K C
  no : ∀ n ∈ fl, PySem.W.findIn K (.ref C) n = some none
  g : mg nm = some (.ref C)
  run : FnOk P w K mg base CX0 1 f fd ("self" :: fl) (spIni K fl)
  b : Binds K fd ("self" :: fl) []
def tMk (C : Addr) (fl : List Str) (ta : TA) : TE := fun σ H Q => ta σ H fun vs H1 => vs.length = fl.length ∧ ∀ a H2, Same H1 H2 → Kept H2 a C (fl.zip vs).reverse → Q (.ref a) H2
def tMkK (C : Addr) (fl : List Str) (gV : List V → List V) (n : Nat) (ta : TA) : TE := fun σ H Q => ta σ H fun zs H1 => zs.length = n ∧ ∀ a H2, Same H1 H2 → Kept H2 a C (fl.zip (gV zs)).reverse → Q (.ref a) H2
theorem PE.imp {X : Cx} {e : Expr} {t t' : TE} (h : PE X e t) (k : ∀ σ H Q, t' σ H Q → t σ H Q) : PE X e t' := ⟨fun pins s σ H Q I z => h.run pins s σ H Q I (k σ H Q z)⟩
theorem same_but {H H2 : Hp} {a : Addr} {o : HO} (ha : H a = none) (h : But (upd H a o) H2 a) : Same H H2 := fun b u z => h b u (ne_of_none z ha) (by rw [upd_ne (ne_of_none z ha)]; exact z)
section
variable {X : Cx} {nm : Str} {fl : List Str} {C f : Addr} {fd : FuncData} {e : Expr} {es : List Expr} {ta : TA} {p pos : Pos}
theorem pe_mk (T : OwE X.prog X.w X.K X.mg X.base nm fl C f fd) (hl : fl.length ≤ 1000) (hr : Room 2 X.A) (hg : Gl X nm) (hx : Passes CX0 X (fun _ _ _ => False)) (ha : PA X (e :: es) ta) (hdb : (nm == ("__debug__" : Str)) = false := by decide)
    (he : starEach (e :: es) X.env = (false, eval e X.env) :: starEach es X.env := by rfl) (hpl : (backTo pos (starEach es X.env)).any (·.1) = false := by rfl) : PE X (.Call (.Name nm p) (e :: es) [] pos) (tMk C fl ta) :=
  ⟨fun pins s σ H Q I h => wpAny_Call_Name_kw (ld_glob I hg T.g (PySem.W.callWith_K (h₀ := X.base) I.ok.mod.kin T.own.kC (thn (ha.run pos pins s σ H _ I h) fun us s1 ⟨vs, H1, I1, r1, l, k⟩ => ⟨I1.kIn,
    own_made (dvs := []) T.own T.ini T.ty T.run hr T.b .nil hx I1 r1 (fun a n => ⟨a, C, vs, by rw [List.append_nil], l, T.own, T.no, upd_same, fun H2 bt kt => ⟨rfl, k a H2 (same_but n bt) kt.kept⟩⟩) (by omega)⟩) he hpl) hdb)⟩
theorem pe_mk0 (T : OwE X.prog X.w X.K X.mg X.base nm [] C f fd) (hr : Room 2 X.A) (hg : Gl X nm) (hx : Passes CX0 X (fun _ _ _ => False)) (hdb : (nm == ("__debug__" : Str)) = false := by decide) :
    PE X (.Call (.Name nm p) [] [] pos) (tMk C [] tNil) :=
  ⟨fun pins s σ H Q I h => wpAny_Call_Name_kw (ld_glob I hg T.g (PySem.W.callWith_K0 I.kIn T.own.kC
    (own_made (us := []) (vs := []) (dvs := []) T.own T.ini T.ty T.run hr T.b .nil hx I .nil (fun a n => ⟨a, C, [], rfl, rfl, T.own, T.no, upd_same, fun H2 bt kt => ⟨rfl, h.2 a H2 (same_but n bt) kt.kept⟩⟩) (by decide))) hdb)⟩
theorem pe_mkK {kws : List Keyword} {tk : TA} {ks : List Str} {g : List Value → List Value → List Value} {gV : List V → List V → List V} (T : OwE X.prog X.w X.K X.mg X.base nm fl C f fd) (hb : KBn X.K fd ("self" :: fl) 1 ks g gV) (hr : Room 2 X.A) (hg : Gl X nm)
    (hgV : ∀ (s : V) (zs : List V), zs.length = ks.length → ∃ ys, gV [s] zs = s :: ys ∧ ys.length = fl.length ∧ ∀ s', gV [s'] zs = s' :: ys) (hx : Passes CX0 X (fun _ _ _ => False)) (hkw : PK X kws tk)
    (hall : (backToKw pos (keywordEach kws X.env)).all (·.1.isSome) = true := by rfl) (hks : (backToKw pos (keywordEach kws X.env)).filterMap (·.1) = ks := by rfl) (hdb : (nm == ("__debug__" : Str)) = false := by decide)
    (hpl : ((backTo pos (starEach [] X.env)).any (·.1) || (backToKw pos (keywordEach kws X.env)).any (·.1.isNone)) = false := by rfl) :
    PE X (.Call (.Name nm p) [] kws pos) (tMkK C fl (fun zs => (gV [.non] zs).tail) ks.length tk) :=
  ⟨fun pins s σ H Q I h => wpAny_Call_Name_kw (ld_glob I hg T.g (PySem.W.callWith_KW0 (h₀ := X.base) I.ok.mod.kin T.own.kC hall (thn (hkw.run pos pins s σ H _ I h) fun ws s2 ⟨zs, H2, I2, rz, lz, q2⟩ => ⟨I2.kIn, by
    rw [hks]
    obtain ⟨ys, e0, l0, e1⟩ := hgV .non zs lz
    exact own_madeK T.own T.ini T.ty T.run hr hb hx I2 rz lz fun a n => ⟨a, C, ys, e1 _, l0, T.own, T.no, upd_same, fun H3 bt kt => ⟨rfl, q2 a H3 (same_but n bt) (by show Kept H3 a C (fl.zip (gV [V.non] zs).tail).reverse; rw [e0]; exact kt.kept)⟩⟩⟩) hpl) hdb)⟩
/-- the rest of what is asked of such a value -/
theorem Kept.at {H : Hp} {a C : Addr} {fs : List (Str × V)} (h : Kept H a C fs) : ∃ d, H a = some (exo a C d) ∧ ∀ y, d = some y → ∃ fs, H y = some (exd y fs) := by
  rcases h with ⟨_, h⟩ | ⟨d, h1, h2⟩
  · exact ⟨none, h, fun y z => nomatch z⟩
  · exact ⟨some d, h1, fun y z => by cases z; exact ⟨_, h2⟩⟩
end
/-- such a one raised: what a handler gets -/
theorem thr_of {K : PySem.W.Frag} {C : Addr} {n : Str} {i : Nat} {x : V} {σ : L2.St} {H : Hp} {Q : XK} (T : OwC K C) (no : PySem.W.findIn K (.ref C) n = some none) (hs : σ[i]? = some (some x))
    (k : ∀ d H', Same H H' → H d = none → H' d = some (.xd [(n, x)]) → Q (.ref C) (some d) H') : tThr C (spIni K [n]) [] (tCons (tVar i) tNil) σ H Q := by
  refine ⟨x, hs, Nat.le_of_ble_eq_true rfl, fun a ha => ⟨a, C, [x], rfl, rfl, T, fun f hf => by rw [List.mem_singleton.mp hf]; exact no, upd_same, fun H2 bt kt => ⟨rfl, .inl ?_⟩⟩⟩
  rcases kt with ⟨z, _⟩ | ⟨d, hd, h1, h2⟩
  · cases z
  · have da : d ≠ a := fun z => by
      rw [z, upd_same] at hd
      cases hd
    have hd1 : H d = none := by
      rw [upd_ne da] at hd
      exact hd
    refine ⟨d, _, h1, h2, hd1, k d _ (fun b o z => ?_) hd1 upd_same⟩
    rw [upd_ne (ne_of_none z hd1), del_ne (ne_of_none z ha)]
    exact bt b o (ne_of_none z ha) (by rw [upd_ne (ne_of_none z ha)]; exact z)
end Gn
set_option Elab.async false
set_option linter.all false
set_option maxRecDepth 100000
set_option maxHeartbeats 4000000
/-! a handler for three classes, whose exception has a name -/
namespace L2
open PySem PySem.Spec PyProof.Rows
/-- what such a handler wants where its body raises -/
def wTri (K : PySem.W.Frag) (cs : List Value) (j : Nat) (su : Addr → Value → Option Addr → TS) (Wo : WX) (D : Ends) : WX := fun C d τ G =>
  ∃ hit, PySem.W.exmAny K C cs = some hit ∧
    (hit = true → ∀ x, G x = none → su x C d { rt := D.rt, nx := fun τ' G' => D.nx (τ'.set j none) G', ct := fun τ' G' => D.ct (τ'.set j none) G', bk := fun τ' G' => D.bk (τ'.set j none) G' } (τ.set j (some (.ref x))) G) ∧
    (hit = false → Wo C d τ G)
def triO (u v z : Value) : Obj := { cls := .type "tuple", data := .seq [u, v, z].toArray }
section
variable {X : Cx} {pins : List (Addr × Obj)} {τ : St} {G : Hp} {t0 t1 : Shared}
theorem ev_named {Q E : Value → Shared → Prop} {x : Str} {c : Value} {ps : Pos} (J : Inv X pins τ G t1) (nm : Names X x c) (z : Q c t1) : wpAny (model X.prog X.w) X.A (eval (.Name x ps) X.env) Q E t1 := by
  obtain ⟨g, nd, m⟩ := nm
  rcases m with e | ⟨e, b, o⟩
  · exact ld_glob J g e z nd
  · exact ld_blt J g e b z o nd
theorem ev_tri {Q E : Value → Shared → Prop} {x y z : Str} {u v r : Value} {p1 p2 p3 pt : Pos} {kk : Nat} (J : Inv X pins τ G t1) (n1 : Names X x u) (n2 : Names X y v) (n3 : Names X z r)
    (q : Q (.ref t1.heap.objs.size) { t1 with heap := t1.heap.push (triO u v r) }) : wpAny (model X.prog X.w) X.A (eval (.Tuple [.Name x p1, .Name y p2, .Name z p3] kk pt) X.env) Q E t1 :=
  wpAny_Tuple (wpAny_items_cons (ev_named J n1 (wpAny_items_cons (ev_named J n2 (wpAny_items_cons (ev_named J n3 (wpAny_items_nil ⟨by size_fits, q⟩)))))))
/-- the handler's side: x flies, as it was told, and all else stands -/
structure Down (X : Cx) (pins : List (Addr × Obj)) (τ : St) (G : Hp) (t0 t1 : Shared) (B : Heap) (x : Addr) (C : Value) (d : Option Addr) : Prop where
  was : Inv X pins τ G t0
  nb : ∀ b o, t0.heap.get? b = some o → b ∉ frs X.stack → B.get? b = some o
  up : t0.heap.UpToSlots t1.heap
  fly : HandSPX.FlyingZ B (X.env :: X.outer) x (Zc C d) t1.heap
  new : G x = none
  os : t1.os = t0.os
  ag : AllBare t1.gens
variable {B : Heap} {x : Addr} {C : Value} {d : Option Addr}
theorem Down.inv (S : Down X pins τ G t0 t1 B x C d) : Inv X pins τ G t1 := S.was.landed S.nb S.fly.1 S.up S.os S.ag
theorem Down.on (S : Down X pins τ G t0 t1 B x C d) {h : Heap} (f : HandSPX.FlyingZ B (X.env :: X.outer) x (Zc C d) h) (u : t1.heap.UpToSlots h) : Down X pins τ G t0 { t1 with heap := h } B x C d :=
  ⟨S.was, S.nb, S.up.trans u, f, S.new, S.os, S.ag⟩
theorem Down.more (S : Down X pins τ G t0 t1 B x C d) (o : Obj) : Down X pins τ G t0 { t1 with heap := t1.heap.push o } B x C d := by
  have k : ∀ b u, t1.heap.get? b = some u → (t1.heap.push o).get? b = some u := fun _ _ z => Heap.get?_push_of_some _ z
  refine S.on ?_ (Heap.UpToSlots.of_keeps k)
  obtain ⟨a1, a2, a3, oe, w, T, oT, r, g1, g2, g3, g4, g5, g6, g7, g8⟩ := S.fly
  exact ⟨fun b u z => k b u (a1 b u z), a2, a3.of_keeps fun b u z _ => ⟨u, k b u z, rfl⟩, oe, w, T, oT, r, k _ _ g1, g2, g3, g4, g5, g6, k _ _ g7, g8⟩
theorem Down.suite (S : Down X pins τ G t0 t1 B x C d) (es : X.stack = X.env :: X.outer) (ef : X.env.frame = some X.env.locals) :
    ∃ oe, t1.heap.get? x = some oe ∧ Zc C d oe ∧ (∃ w, oe.data = .fields w) ∧ Inv (X.suite x ((x, oe) :: (X.pn ++ pins))) [] τ G t1 := by
  obtain ⟨oe, w, g, z, dt⟩ := S.fly.there
  have off : x ∉ frs (X.env :: X.outer) := fun m => by
    obtain ⟨_, o', e, nf⟩ := S.fly.2.2.1.mem m
    cases g.symm.trans e
    exact nf _ dt
  refine ⟨oe, g, z, ⟨w, dt⟩, S.inv.suite g dt S.new (fun e => off ?_) fun m => off ?_⟩
  · exact List.mem_filterMap.mpr ⟨X.env, by simp, by rw [ef, e]⟩
  · obtain ⟨v, m1, m2⟩ := List.mem_filterMap.mp m
    exact List.mem_filterMap.mpr ⟨v, List.mem_cons.mpr (.inr m1), m2⟩
end
section
variable {X : Cx} {y1 y2 y3 n : Str} {u1 u2 u3 : Value} {j : Nat} {bd su : List Stmt} {s₀ : Stmt} {q1 q2 q3 qt qh qq : Pos} {kk : Nat} {tb : WX → TS} {ts : Addr → Value → Option Addr → TS} {Wo : WX}
theorem ps_try_tri (es : X.stack = X.env :: X.outer) (ef : X.env.frame = some X.env.locals) (nd : X.N.Nodup) (at_ : X.N[j]? = some n) (lo : X.env.kindOf n = some .local) (m1 : Names X y1 u1) (m2 : Names X y2 u2) (m3 : Names X y3 u3) (tk : Takes X Wo)
    (B : ∀ (W : WX) (pn : List (Addr × Obj)) (xe : Value → Shared → Prop), Takes (X.tr pn xe) W → PassesOwn (model X.prog X.w) X.A X.env xe → PSs (X.tr pn xe) bd (tb W))
    (S : ∀ (x : Addr) (oe : Obj) (C : Value) (d : Option Addr) (pn : List (Addr × Obj)), Zc C d oe → (∃ w, oe.data = .fields w) → PSs (X.suite x ((x, oe) :: pn)) (s₀ :: su) (ts x C d)) :
    PS X (.Try bd [.ExceptHandler (some (.Tuple [.Name y1 q1, .Name y2 q2, .Name y3 q3] kk qt)) (some n) (s₀ :: su) qh] [] [] qq) (fun D τ G => tb (wTri X.K [u1, u2, u3] j ts Wo D) D τ G) := by
  constructor
  intro pins t τ G D J want
  have ok := J.ok
  have frames : X.A.frames = some (X.env :: X.outer) := ok.frames.trans (by rw [es])
  let hs := [ExceptHandler.ExceptHandler (some (.Tuple [.Name y1 q1, .Name y2 q2, .Name y3 q3] kk qt)) (some n) (s₀ :: su) qh]
  let after : Value → Shared → Prop := fun e t1 => wpAny (model X.prog X.w) X.A (noteFrame e X.env) (fun _ t2 => wpAny (model X.prog X.w) X.A (setFlight e none) (fun _ t3 => wpAny (model X.prog X.w) X.A (handleBy e X.env hs) (SP X pins D) X.xe t3) X.xe t2) X.xe t1
  have look : Takes (X.tr (X.pn ++ pins) after) (wTri X.K [u1, u2, u3] j ts Wo D) := by
    rintro e t1 ⟨x, H0, sI, pi, τ1, G1, C, d, rfl, J1, nb, up, sky, new, os, ag, hit, hm, yes, no⟩
    show wpAny (model X.prog X.w) X.A (noteFrame (.ref x) X.env) _ _ _
    rw [show X.stack = X.env :: X.outer from es] at sky
    refine Sky.land Zc.steady frames ef sky fun h fl u => ?_
    have D1 : Down X pins τ1 G1 sI { t1 with heap := h } H0 x C d := ⟨J1.ofTry ok, nb, up.trans u, fl, new, os, ag⟩
    obtain ⟨oe, ge, gz, gd, I1⟩ := D1.suite es ef
    refine wpAny_handleBy_cons (codeAny_handlers_test (ev_tri I1 m1 m2 m3 ?_)) (by intro z; cases z)
    have D2 := D1.more (triO u1 u2 u3)
    have there : (h.push (triO u1 u2 u3)).get? x = some oe := Heap.get?_push_of_some _ ge
    have LT : PySem.W.Looks (model X.prog X.w) (h.push (triO u1 u2 u3)) (typeOf (.ref x)) C := fun A Q E s k z => wpAny_typeOf_ref (k _ _ there) (by rw [gz.1]; exact z)
    refine (PySem.W.exm_tup3 D2.inv.kIn LT (Heap.get?_push_size h rfl) hm).here ?_
    cases hit
    · show wpAny _ X.A (handleBy (.ref x) X.env []) _ _ _
      refine wpAny_handleBy_nil ?_
      obtain ⟨_, _, _, o2, w, T, _, _, g1, _, g3, g4, _⟩ := id D2.fly
      have away : wpAny (model X.prog X.w) X.A (setFlight (.ref x) X.env.frame) (fun _ t5 => wpAny (model X.prog X.w) X.A (throw (.ref x) : Sem Flow) (SP X pins D) X.xe t5) X.xe { t1 with heap := h.push (triO u1 u2 u3) } := by
        rw [ef]
        exact HandSPX.setFlight_upZ D2.fly fun h' held u' => wpAny_throw (tk _ _ ⟨x, H0, sI, pins, τ1, G1, C, d, rfl, D2.was, nb, D2.up.trans u', .inr (.inr (by rw [es]; exact held)), new, os, ag, no rfl⟩)
      unfold PySem.passOn
      refine wpAny_bind (wpAny_field g1 g3 g4 ?_)
      rw [if_neg (by simp : ¬ ((Value.ref T == Value.none) = true))]
      first
        | exact wpAny_bind (wpAny_pure (wpAny_bind away))
        | exact wpAny_bind away
    · refine codeAny_handlers_suite_as (HandSPX.lands_againZ D2.fly fun h' fl' u' => ?_)
      obtain ⟨o3, _, z3, d3, I3⟩ := (D2.on fl' u').suite es ef
      refine store_ok (X := X.suite x ((x, o3) :: (X.pn ++ pins))) (v := .ref x) I3 nd at_ (.inl lo) rfl (fun t5 I5 => ?_) (.inr lo)
      have off : ∀ {τ6 : St} {G6 : Hp} {t6 : Shared} {Q : Shared → Prop}, Inv (X.suite x ((x, o3) :: (X.pn ++ pins))) [] τ6 G6 t6 → (∀ t7, Inv X pins (τ6.set j none) G6 t7 → Q t7) →
          wpAny (model X.prog X.w) X.A (do bindName X.env n .none; unbindBehindTheSuite X.env n qh) (fun _ t7 => Q t7) X.xe t6 := fun I6 go => gone_ok (I6.unsuite ok) nd at_ lo go
      refine wpAny_mono ((S x o3 C d (X.pn ++ pins) z3 d3).run [] t5 _ G1 _ I5 (yes rfl x new)) (fun fl t6 out => ?_) fun _ _ z => z.elim
      cases fl <;> first
        | (obtain ⟨τ6, G6, I6, w6⟩ := out; exact off I6 fun t7 I7 => ⟨_, _, I7, w6⟩)
        | (obtain ⟨v6, τ6, G6, I6, e6, w6⟩ := out; exact off I6 fun t7 I7 => ⟨_, _, _, I7, e6, w6⟩)
  refine wpAny_Try_except (wpAny_mono ((B _ _ after look PassesOwn.looking).run [] t τ G D (J.toTry _) want) (fun fl t1 out => ?_) fun _ _ z => z)
  cases fl <;> first
    | (obtain ⟨τ1, G1, I1, w1⟩ := out; exact wpAny_execs_nil ⟨τ1, G1, I1.ofTry ok, w1⟩)
    | (obtain ⟨τ1, G1, I1, w1⟩ := out; exact ⟨τ1, G1, I1.ofTry ok, w1⟩)
    | (obtain ⟨v1, τ1, G1, I1, e1, w1⟩ := out; exact ⟨v1, τ1, G1, I1.ofTry ok, e1, w1⟩)
end
end L2
set_option Elab.async false
set_option linter.all false
set_option maxRecDepth 100000
set_option maxHeartbeats 4000000
/-! within a handler: a walk over a list comes to its end; a comprehension over a list -/
namespace HotX
open PySem PySem.Spec PyProof.Rows
section
variable {prog : Program} {w : World} {A : Around} {E : Value → Shared → Prop} {s : Shared}
theorem list_ends {j l y : Addr} {i : Nat} {vs : Array Value} {Q : Option Value → Shared → Prop} (hot : HotAt A y s.heap) (ne : y ≠ j) (J : s.heap.IsListIter j l i) (L : s.heap.IsList l vs) (out : vs[i]? = none)
    (q : ∀ h, (∀ b o, b ≠ j → s.heap.get? b = some o → h.get? b = some o) → Q none { s with heap := h }) : wpAny (model prog w) A (pyNext (.ref j)) Q E s := by
  obtain ⟨o, ho, hc, hd⟩ := id J
  obtain ⟨ol, hol, _, nl, hdl⟩ := L
  obtain ⟨hh, oy, ys, h1, d1, c1⟩ := hot
  unfold pyNext
  refine wpAny_bind (wpAny_attempt (wpAny_callSpecial?_slot (name := Str.ofString "__next__") J.typeIs slot_listiter_next (wpAny_call_entry slot_listiter_next J.typeIs entry_listiter_next ?_ (args_listiter_next _))))
  change wpAny _ _ (field (.ref j) 0 >>= _) _ _ s
  refine wpAny_bind (wpAny_field ho hd (x := .ref l) rfl ?_)
  show wpAny _ _ (ite ((Value.ref l == Value.none) = true) _ _) _ _ _
  rw [if_neg (fun z => nomatch z : ¬ ((Value.ref l == Value.none) = true))]
  change wpAny _ _ (field (.ref j) 1 >>= _) _ _ s
  refine wpAny_bind (wpAny_field ho hd (x := .int i 0) rfl ?_)
  change wpAny _ _ (seqItems? (.ref l) >>= _) _ _ s
  refine wpAny_bind (wpAny_seqItems hol hdl ?_)
  simp only [Int.toNat_natCast, out]
  refine wpAny_bind (wpAny_rule (wpAny_bind (wpAny_setField ho hd (by simp) ?_)))
  change wpAny _ _ (newExc (.type "StopIteration") [] >>= _) _ _ _
  refine wpAny_bind ?_
  simp only [newExc, newTuple]
  have k1 : ∀ b u, b ≠ j → s.heap.get? b = some u → (s.heap.update j (Obj.mapFields (·.setIfInBounds 0 Value.none))).get? b = some u := fun b u n e => (Heap.get?_update_other _ _ n.symm).trans e
  refine wpAny_bind (wpAny_newObj_type ?_ (by size_fits))
  refine wpAny_bind (m := firstArgMember _ _) (wpAny_of_eq (a := Value.none) (by first | rfl | (simp only [firstArgMember]; rfl)) ?_)
  refine wpAny_newObj_type ?_ (by size_fits)
  have top := Heap.get?_push_of_some { cls := .type "tuple", data := .seq ([] : List Value).toArray } (k1 y oy ne h1)
  refine raiseNew_hot ⟨hh, oy, ys, Heap.get?_push_of_some _ top, d1, c1⟩ (Nat.ne_of_lt (Heap.lt_size top)) (Heap.get?_push_size _ rfl) rfl (by first | (simp; done) | (simp; omega)) ?_
  refine wpAny_bind (wpAny_isInstance (T := "StopIteration") (b := true) ⟨_, Heap.get?_update_self _ (Heap.get?_push_size _ rfl) rfl, rfl⟩ isSubtype_stop (wpAny_pure (q _ fun b u n e => ?_)))
  have z := Heap.get?_push_of_some { cls := .type "tuple", data := .seq ([] : List Value).toArray } (k1 b u n e)
  rw [Heap.get?_update_other _ _ (Nat.ne_of_gt (Heap.lt_size z))]
  exact Heap.get?_push_of_some _ z
/-- all items of a list, taken one by one -/
theorem list_items {l y : Addr} {vs : Array Value} {Q : List Value → Shared → Prop} (hot : HotAt A y s.heap) (L : s.heap.IsList l vs) (q : ∀ h, Heap.ExtBut s.heap.objs.size s.heap h → Q vs.toList { s with heap := h }) :
    wpAny (model prog w) A (unpackItems (.ref l) vs.size none) Q E s := by
  have lj : l ≠ s.heap.objs.size := by
    obtain ⟨o, e, _⟩ := L
    exact Nat.ne_of_lt (Heap.lt_size e)
  obtain ⟨hh, oy, ys, h1, d1, c1⟩ := hot
  have yj : y ≠ s.heap.objs.size := Nat.ne_of_lt (Heap.lt_size h1)
  unfold unpackItems
  refine wpAny_bind ?_
  unfold notIterableAtAll
  refine wpAny_bind (wpAny_specialOf L.typeIs slot_list_iter.lookup (wpAny_pure ?_))
  simp only [Bool.false_eq_true, if_false]
  refine wpAny_bind (wpAny_holding (wpAny_pyIter_list L (wpAny_bind (wpAny_holding (PySem.W.kun_draw lj vs.size 0 _ _ ⟨_, Heap.get?_push_size _ rfl, rfl, rfl⟩ (L.push _) (by omega) fun h2 i2 s2 => ?_)))))
  have all : List.take vs.size (List.drop 0 vs.toList) = vs.toList := by
    rw [List.drop_zero]
    exact List.take_of_length_le (by simp)
  rw [all, if_neg (by simp)]
  have k2 : ∀ b o, b ≠ s.heap.objs.size → s.heap.get? b = some o → h2.get? b = some o := fun b o n e => s2.extBut b o n (Heap.get?_push_of_some _ e)
  refine wpAny_bind (wpAny_holding (list_ends ⟨hh, oy, ys, k2 _ _ yj h1, d1, c1⟩ yj i2 ((L.push _).extBut s2.extBut lj) (by simp) fun h3 k3 => ?_))
  simp only [Option.isSome_none, Bool.false_eq_true, if_false]
  exact wpAny_pure (q h3 fun b o n e => k3 b o n (k2 b o n e))
end
end HotX
namespace L2
open PySem PySem.Spec PyProof.Rows HotX L2H
section
variable {X : Cx} {pins : List (Addr × Obj)} {τ : St} {G : Hp} {t : Shared} {Q : VK} {elt tg src : Expr} {ifs : List Expr} {sc : Scope} {own : List (Str × Nat)} {pa pb : Pos} {ti te : TE} {g : TG} {tt : TT} {use : Option (Value → Sem Unit)} {Qf : Value → Shared → Prop}
/-- what is handled stood there when the context was entered -/
structure Seen (Y : Cx) (p : Addr × Obj) : Prop where
  hot : Hot1 Y.A p
  get : Y.s_0.heap.get? p.1 = some p.2
  free : Y.H_0 p.1 = none
  nofs : p.1 ∉ Y.fs
  noex : p.1 ∉ Y.ex
theorem Seen.at {Y : Cx} {p : Addr × Obj} {pins : List (Addr × Obj)} {τ : St} {G : Hp} {t : Shared} (S : Seen Y p) (I : Inv Y pins τ G t) : HotAt Y.A p.1 t.heap := by
  obtain ⟨h, v, d, c⟩ := S.hot
  exact ⟨h, p.2, v, I.base.keep p.1 p.2 S.get S.free S.nofs S.noex, d, c⟩
/-- a, b = a list of two, and so on -/
theorem pg_lstH {Y : Cx} {p : Addr × Obj} {es : List Expr} {k : Nat} {u : TGs} {n : Nat} {pos : Pos} (S : Seen Y p) (h : PGs Y es u) (hn : (assignEach es Y.env).length = n := by rfl) (ns : (assignEach es Y.env).findIdx? (·.1) = none := by rfl) : PG Y (.Tuple es k pos) (gLst Y.K n u) := by
  constructor
  rintro pins t τ G v w0 Q I r ⟨a, xs, rfl, hq, hl, want⟩
  cases r
  obtain ⟨its, rv, pl, hz⟩ := I.list hq
  rw [PyProof.Rows.assign_Tuple]
  refine wpAny_bind (wpAny_standAt ?_)
  unfold unpack
  rw [show (assignEach es Y.env).length = its.toArray.size by simp [hn, ← hl, rv.length], ns]
  refine wpAny_bind (wpAny_holding (list_items (S.at I) pl.isList fun h' hx => ?_))
  exact h.run pins _ τ G xs _ Q (I.kept (t' := t.toks) fun b o e => hx b o (Nat.ne_of_lt (Heap.lt_size e)) e) (by simpa using rv) want
/-- a comprehension over a list, within a handler: what is wished is as tLc has it -/
theorem lc_hot {p : Addr × Obj} (hot : Hot1 X.A p) (pm : p ∈ X.pn) (nd : X.N.Nodup) (I : Inv X pins τ G t) (hi : PE X src ti) (ok : BlkOk X.N X.env.scope sc own)
    (hg : ∀ (s : Shared) (H : Hp) (C : Addr) (cl : List (Str × Addr)) (fp : List Addr), Seen (X.blk s H sc (compEnvC sc cl C X.env) fp) p → PG (X.blk s H sc (compEnvC sc cl C X.env) fp) tg g)
    (ht : ∀ (s : Shared) (H : Hp) (C : Addr) (cl : List (Str × Addr)) (fp : List Addr), Seen (X.blk s H sc (compEnvC sc cl C X.env) fp) p → PTs (X.blk s H sc (compEnvC sc cl C X.env) fp) ifs tt)
    (he : ∀ (s : Shared) (H : Hp) (C : Addr) (cl : List (Str × Addr)) (fp : List Addr), Seen (X.blk s H sc (compEnvC sc cl C X.env) fp) p → PE (X.blk s H sc (compEnvC sc cl C X.env) fp) elt te)
    (fo : ∀ x, foldedSetIterable src X.env x = pure x) (want : tLc (iList X.K ti) g tt te (own.map (·.2)) τ G Q)
    (out : ∀ D C t' m G', Inv X pins τ G' t' → Q (.ref D) G' → t'.heap.Ns C m → FpOk X pins G' C → compPost (model X.prog X.w) X.A X.xe use Qf (.ref D) C (.ok .next) t') :
    wpAny (model X.prog X.w) X.A (comprehension (.ListComp elt [⟨tg, src, ifs, 0⟩] sc pa) sc X.env pb (newList []) false (eval src X.env) use) Qf X.xe t := by
  have cap : ∀ y ∈ sc.names, y.2 = .free → ∃ c, X.env.cells.lookup y.1 = some c := fun y m e => I.ok.has _ (ok.free y m e)
  refine wpAny_comprehension_free (use := use) rfl fo (closure_ok cap) ok.kind (fun y m e => by rw [ok.uniq y m, e]) (thn (hi.run pins t τ G _ I want) fun v t1 q1 => ?_)
  obtain ⟨x, G1, I1, r1, l, rfl, ⟨xs, hl⟩, q1⟩ := q1
  obtain rfl : v = Value.ref l := r1
  obtain ⟨_, _, pl, _⟩ := I1.list hl
  refine wpAny_pyIter_list pl.isList ?_
  -- the walk j, the new list D
  obtain ⟨j, ej⟩ : ∃ j, j = t1.heap.objs.size := ⟨_, rfl⟩
  rw [← ej]
  obtain ⟨t2, e2⟩ : ∃ t2 : Shared, t2 = { t1 with heap := t1.heap.push { cls := .type "list_iterator", data := .fields #[.ref l, .int 0 0] } } := ⟨_, rfl⟩
  rw [← e2]
  have I2 : Inv X pins τ G1 t2 := by rw [e2]; exact I1.kept (t' := t1.toks) fun b o e => Heap.get?_push_of_some _ e
  have at2 : t2.heap.IsListIter j l 0 := by rw [e2, ej]; exact ⟨_, Heap.get?_push_size _ rfl, rfl, rfl⟩
  have ok2 : FpOk X pins G1 j := by rw [ej]; exact I1.fpOk (Nat.le_refl _) (I1.hok.fresh (Nat.le_refl _))
  refine wpAny_newObj_type (newEnv_comp ?_) (by show 0 ≤ sizeLine; decide)
  obtain ⟨D, eD⟩ : ∃ D, D = t2.heap.objs.size := ⟨_, rfl⟩
  rw [← eD]
  have nD : G1 D = none := I2.hok.fresh (by rw [eD]; exact Nat.le_refl _)
  have jD : j < D := by rw [eD]; obtain ⟨o, e, _⟩ := at2; exact Heap.lt_size e
  obtain ⟨W, ⟨m0, w0⟩, turn⟩ := q1 D nD
  obtain ⟨t3, e3⟩ : ∃ t3 : Shared, t3 = { t2 with heap := t2.heap.push { cls := .type "list", data := .seq ([] : List Value).toArray } } := ⟨_, rfl⟩
  obtain ⟨G3, eG⟩ : ∃ G3, G3 = upd G1 D (.lst []) := ⟨_, rfl⟩
  rw [← eG] at w0
  have I3 : Inv X pins τ G3 t3 := by
    rw [e3, eG]
    exact I2.laid (t' := t2.toks) (fun b o e => Heap.get?_push_of_some _ e) (by rw [eD]; exact Nat.le_refl _) ⟨Nat.zero_le _, [], 0, .nil, by rw [eD]; exact Heap.get?_push_size _ rfl⟩
  have at3 : t3.heap.IsListIter j l 0 := by rw [e3]; exact at2.at fun o e => Heap.get?_push_of_some _ e
  have j3 : G3 j = none := by rw [eG, upd_ne (Nat.ne_of_lt jD)]; exact ok2.1
  have ok3 : FpOk X pins G3 j := ⟨j3, ok2.2⟩
  have lt3 : j < t3.heap.objs.size := by obtain ⟨o, e, _⟩ := at3; exact Heap.lt_size e
  -- the thing that is handled, seen from within
  obtain ⟨ph, pv, pd, pc⟩ := id hot
  obtain ⟨pg3, pn3, pL, pF, _⟩ := I3.pin p (List.mem_append_left _ pm)
  have pS : p.1 ∉ frs X.stack := fun m => (List.mem_cons.mp (I3.stkSub p.1 m)).elim pL pF
  have pj : p.1 ≠ j := ok3.2.2.2.2.2 p (List.mem_append_left _ pm)
  have B := block_start I3 ok nd (fp := [j]) fun b m => by
    obtain rfl := List.mem_singleton.mp m
    exact ⟨ok3, lt3⟩
  have seen : Seen (X.blk t3 G3 sc (compEnvC sc (cellsFrom (t3.heap.objs.size + 1) sc.names (cloFrom X.env.cells sc.names [])) t3.heap.objs.size X.env) [j]) p := ⟨hot, pg3, pn3, pS, by simpa using pj⟩
  have g' := hg t3 G3 t3.heap.objs.size (cellsFrom (t3.heap.objs.size + 1) sc.names (cloFrom X.env.cells sc.names [])) [j] seen
  have t' := ht t3 G3 t3.heap.objs.size (cellsFrom (t3.heap.objs.size + 1) sc.names (cloFrom X.env.cells sc.names [])) [j] seen
  have e' := he t3 G3 t3.heap.objs.size (cellsFrom (t3.heap.objs.size + 1) sc.names (cloFrom X.env.cells sc.names [])) [j] seen
  rw [← e3]
  show codeAny _ _ (.compStart (.ListComp elt [⟨tg, src, ifs, 0⟩] sc pa) 0 (.ref j) (.ref D) (compEnvC sc (cellsFrom (t3.heap.objs.size + 1) sc.names (cloFrom X.env.cells sc.names [])) t3.heap.objs.size X.env)) (compPost (model X.prog X.w) X.A X.xe use Qf (.ref D) t3.heap.objs.size) { t3 with heap := pushCells (t3.heap.push { cls := .type "dict", data := .dict #[] }) sc.names }
  obtain ⟨ce, ec⟩ : ∃ ce, ce = compEnvC sc (cellsFrom (t3.heap.objs.size + 1) sc.names (cloFrom X.env.cells sc.names [])) t3.heap.objs.size X.env := ⟨_, rfl⟩
  have cl : ce.locals = t3.heap.objs.size := by rw [ec]; rfl
  rw [← ec] at B g' t' e' ⊢
  obtain ⟨t4, e4⟩ : ∃ t4 : Shared, t4 = { t3 with heap := pushCells (t3.heap.push { cls := .type "dict", data := .dict #[] }) sc.names } := ⟨_, rfl⟩
  rw [← e4] at B ⊢
  have at4 : t4.heap.IsListIter j l 0 := by rw [e4]; exact at3.at fun o e => pushCells_keeps _ _ _ _ (Heap.get?_push_of_some _ e)
  have fpB : ∀ {τ' : St} {G' : Hp} {s' : Shared}, Inv (X.blk t3 G3 sc ce [j]) [] τ' G' s' → G' j = none → FpOk (X.blk t3 G3 sc ce [j]) [] G' j := fun I' n =>
    ⟨n, (I'.ok.exf j (by simp)).1, I'.ok.exfs j (by simp), .inl (by simp), fun x c e => (I'.ok.exf j (by simp)).2 x c e, fun p hp => nomatch (show p ∈ ([] : List (Addr × Obj)) ++ [] from hp)⟩
  refine codeAny_compStart_list ?loop (wpAny_pyIter_listiter at4 ?loop)
  refine compLoop_any (fun n s' => ∃ i G', Inv (X.blk t3 G3 sc ce [j]) [] (wipe τ (own.map (·.2))) G' s' ∧ s'.heap.IsListIter j l i ∧ G' j = none ∧ W i n G') ?_ m0 ⟨0, G3, B, at4, j3, w0⟩
  rintro n s5 ⟨i, G5, I5, at5, n5, w5⟩
  have F5 := fpB I5 n5
  rcases turn i n G5 w5 with ⟨⟨ys, hy, le⟩, qq⟩ | ⟨⟨ys, y, hy, hyi⟩, Nx, again, step⟩
  · obtain ⟨its, rv, py, _⟩ := I5.list hy
    have p5 : s5.heap.get? p.1 = some p.2 := I5.base.keep p.1 p.2 pg3 pn3 pS (by simpa using pj)
    refine list_ends (A := X.A) ⟨ph, p.2, pv, p5, pd, pc⟩ pj at5 py.isList (by have := rv.length; simp; omega) fun h k => ?_
    have I6 : Inv (X.blk t3 G3 sc ce [j]) [] (wipe τ (own.map (·.2))) G5 { s5 with heap := h } := I5.turned (t' := s5.toks) k F5.1 F5.2.1 F5.2.2.2.1 F5.2.2.2.2.1 F5.2.2.2.2.2
    obtain ⟨m, hm, _⟩ := I6.loc
    have hm : ({ s5 with heap := h } : Shared).heap.Ns ce.locals m := hm
    have nC : G5 ce.locals = none := I6.free
    rw [cl] at hm nC
    have I7 : Inv X pins τ G5 { s5 with heap := h } := I3.call' (ch := [j]) I6.os I6.base I6.hok I6.bare fun b hb => by
      obtain rfl := List.mem_singleton.mp hb
      exact ⟨ok3.2.2.2.1, ok3.2.1, ok3.2.2.2.2.1, ok3.2.2.2.2.2⟩
    exact out D _ _ m G5 I7 qq hm (I3.fpOk (Nat.le_refl _) nC)
  · obtain ⟨its, rv, py, _⟩ := I5.list hy
    obtain ⟨u, hu, ru⟩ := rv.get hyi
    refine wpAny_pyNext_list_item at5 py.isList (x := u) (by simpa using hu) fun h at6 sb => ?_
    have I6 : Inv (X.blk t3 G3 sc ce [j]) [] (wipe τ (own.map (·.2))) G5 { s5 with heap := h } := I5.turned (t' := s5.toks) (fun b o n e => (sb.2 b n).trans e) F5.1 F5.2.1 F5.2.2.2.1 F5.2.2.2.2.1 F5.2.2.2.2.2
    obtain ⟨oj, gj, cj, dj⟩ := id at6
    refine go_of (s := { s5 with heap := h }) gj cj dj (by decide) ?_
    have I6' : Inv (X.blk t3 G3 sc ce [j]) ([] ++ [(j, oj)]) (wipe τ (own.map (·.2))) G5 { s5 with heap := h } := I6.pins_of fun q hq => by
      obtain rfl : q = (j, oj) := by simpa using hq
      exact ⟨gj, n5, F5.2.1, F5.2.2.1, fun v z => by rw [dj] at z; cases z⟩
    refine thnF (g'.run _ _ _ G5 y u _ I6' ru (step y G5 ⟨rfl, fun zs hz => by rw [I5.list_inj hz hy]; exact hyi⟩)) fun _ s8 ⟨τ8, G8, I8, w8, q8⟩ => ?_
    refine thnF (t'.run _ s8 τ8 G8 _ I8 q8) fun b s9 ⟨G9, I9, q9⟩ => ?_
    have fin : ∀ {s' : Shared} {G' : Hp}, Inv (X.blk t3 G3 sc ce [j]) ([] ++ [(j, oj)]) τ8 G' s' → Nx G' → ∃ m, m < n ∧ ∃ i G', Inv (X.blk t3 G3 sc ce [j]) [] (wipe τ (own.map (·.2))) G' s' ∧ s'.heap.IsListIter j l i ∧ G' j = none ∧ W i m G' := fun {s' G'} J nx => by
      obtain ⟨m', lm, w'⟩ := again G' nx
      have pj' := J.pin (j, oj) (by simp)
      refine ⟨m', lm, i + 1, G', (J.unpinned (pins := [])).weak (by rw [← w8, wipe_length]) (fun k v e => ?_), ⟨oj, pj'.1, cj, dj⟩, pj'.2.1, w'⟩
      rw [← w8] at e
      exact (wipe_some e).1
    cases b
    · simp only [Bool.false_eq_true, if_false] at q9 ⊢
      exact fin I9 q9
    · simp only [if_true] at q9 ⊢
      exact thnF (e'.run _ s9 τ8 G9 _ I9 q9) fun z s10 ⟨yv, G10, I10, r10, acc, d10, z10, nx⟩ => app_ok (X := X.blk t3 G3 sc ce [j]) I10 d10 z10 r10 fun s11 I11 => fin I11 nx
end
end L2
set_option Elab.async false
set_option linter.all false
set_option maxRecDepth 100000
set_option maxHeartbeats 4000000
/-! own exceptions raised, and caught by one of three classes: their context is known to be None, so that the handler may call -/
namespace Gn
open PySem PySem.Spec PyProof.Rows L2
section
variable {X : Cx} {e : Expr} {es : List Expr} {ta : TA} {p pos : Pos}
/-- the exception without a dict is let go -/
theorem bare_goneN {pins : List (Addr × Obj)} {σ : L2.St} {H1 H2 : Hp} {Q : XK} {hp hp2 h2 : Heap} {g1 g2 : Array GenState} {d1 d2 : Drawn} {t1 t2 : Nat} {os1 os2 : OsState} {a C : Addr} (T : Raises X (.ref C)) (I1 : Inv X pins σ H1 ⟨hp, g1, d1, t1, os1⟩)
    (ha : hp.objs.size ≤ a) (kp : ∀ b o, hp.get? b = some o → hp2.get? b = some o) (un : Un (frs X.stack) [] (upd H1 a (exo a C none)) H2 hp2 h2) (hok : HOk X.prog X.w H2 h2) (ho : os2 = os1) (hb : AllBare g2)
    (ea : H2 a = some (exo a C none)) (q : Q (.ref C) none (del H2 a)) : L2N.MkP X pins σ Q (.ref a) ⟨h2, g2, d2, t2, os2⟩ := by
  obtain ⟨t0, hoe⟩ := exo_at hok ea
  have hn : H1 a = none := I1.hok.fresh ha
  obtain ⟨G, y1, y2⟩ := restrict h2 fun b => decide (b ≠ a)
  have gk : ∀ b, b ≠ a → G.get? b = h2.get? b := fun b z => y1 b (decide_eq_true z)
  have ge : G.get? a = none := y2 a (by simp)
  have old : ∀ {b : Addr} {o : Obj}, hp.get? b = some o → b ≠ a := fun {b o} z => Nat.ne_of_lt (Nat.lt_of_lt_of_le (Heap.lt_size z) ha)
  have fr : ∀ {b : Addr}, b ≠ a → H1 b = none → upd H1 a (exo a C none) b = none := fun {b} z n => (upd_ne z).trans n
  have U : Un (frs X.stack) [] H1 (del H2 a) hp G := {
    keep := fun b o z n hf hx => (gk b (old z)).trans (un.keep b o (kp b o z) (fr (old z) n) hf hx)
    slot := fun b o z n hf hx => by
      rw [gk b (old z)]
      exact un.slot b o (kp b o z) (fr (old z) n) hf hx
    free := fun b o z n hx => (del_ne (old z)).trans (un.free b o (kp b o z) (fr (old z) n) hx)
    there := fun b o z hx => by
      rw [gk b (old z)]
      exact un.there b o (kp b o z) hx
    tups := fun b xs z => (del_ne (ne_of_none z hn)).trans (un.tups b xs ((upd_ne (ne_of_none z hn)).trans z))
    frzs := fun b o v z => (del_ne (ne_of_none z hn)).trans (un.frzs b o v ((upd_ne (ne_of_none z hn)).trans z))
    tbls := fun b ps z => by
      rw [del_ne (ne_of_none z hn)]
      exact un.tbls b ps ((upd_ne (ne_of_none z hn)).trans z) }
  have hok3 : HOk X.prog X.w (del H2 a) G := fun b o z => by
    have ba : b ≠ a := fun e => by
      rw [e, del_same] at z
      cases z
    rw [del_ne ba] at z
    have noa : ∀ {c : Addr}, H2 c = some (.own b) → c ≠ a := fun {c} hc => at_ne ea hc exo_own
    refine (hok b o z).stay (fun c v hc y => ?_) (fun c hc => (del_ne (noa hc)).trans hc) fun c xs hc => (del_ne (at_ne ea hc exo_tup)).trans hc
    have ca : c ≠ a := by
      rcases hc with hc | hc
      · rw [hc]
        exact ba
      · exact noa hc
    exact (gk c ca).trans y
  have J : Inv X pins σ (del H2 a) ⟨G, g2, d2, t2, os2⟩ := I1.call' (ch := []) ho U hok3 hb (fun b z => absurd z (by simp))
  refine ⟨a, _, _, ⟨G, g2, d2, t2, os2⟩, _, .ref C, none, rfl, J, fun b o z => ?_, ge, hoe, ⟨rfl, rfl, fun vs z => by cases z; rfl⟩, rfl, rfl, del_same, rfl, hb, T, q⟩
  by_cases ba : b = a
  · rw [ba, ge] at z
    cases z
  · exact (gk b ba).symm.trans z
theorem own_thrownN {CX : CXT} {C fI : Addr} {k : Nat} {fd : FuncData} {ps : List Str} {sp : Sp} {ds us : List Value} {dvs vs : List V} {pins : List (Addr × Obj)} {σ : L2.St} {H1 : Hp} {s1 : Shared} {Q : XK} (T : OwC X.K C)
    (iC : PySem.W.findIn X.K (.ref C) "__init__" = some (some (.ref fI))) (tI : PySem.W.typeIn X.K (.ref fI) = some (.type "function")) (F1 : FnOk X.prog X.w X.K X.mg X.base CX k fI fd ps sp) (hr : Room (k + 1) X.A) (hb : Binds X.K fd ps ds) (hd : Vals dvs ds)
    (hx : Passes CX X (fun _ _ _ => False)) (I1 : Inv X pins σ H1 s1) (r1 : Vals vs us) (hz : vs.length ≤ 1000)
    (q1 : ∀ a, H1 a = none → sp (.ref a :: (vs ++ dvs)) (upd H1 a (exo a C none)) (fun v H2 => v = .non ∧
      ((∃ (d : Addr) (fs : List (Str × V)), H2 a = some (exo a C (some d)) ∧ H2 d = some (exd d fs) ∧ H1 d = none ∧ Q (.ref C) (some d) (upd (del H2 a) d (.xd fs))) ∨ (H2 a = some (exo a C none) ∧ Q (.ref C) none (del H2 a)))) (fun _ _ _ => False)) :
    wpAny (model X.prog X.w) X.A (call (.ref C) us) (L2N.MkP X pins σ Q) X.xe s1 := by
  obtain ⟨nm, q, N, bs, bm, sn, sub, ab, col, dd, k0, k1, k2, k3, k5, B, nw, it, tl, lk, pt, TB⟩ := T.cls
  obtain ⟨hp, g, dr, tk, os⟩ := s1
  have up : hp.objs.size ≤ hp.objs.size + 1 := Nat.le_succ _
  have hn : H1 (hp.objs.size + 1) = none := I1.hok.fresh up
  have hq := q1 (hp.objs.size + 1) hn
  have kk : ∀ b o, hp.get? b = some o → ((hp.push (PySem.W.kdv_tup us)).push (PySem.HandSPX.excO C hp.objs.size)).get? b = some o := fun b o z =>
    Heap.get?_push_of_some _ (Heap.get?_push_of_some _ z)
  have got : ((hp.push (PySem.W.kdv_tup us)).push (PySem.HandSPX.excO C hp.objs.size)).get? (hp.objs.size + 1) = some (PySem.HandSPX.excO C hp.objs.size) := by heap_get
  have I2 := I1.laid (t' := tk) (a := hp.objs.size + 1) (o := exo (hp.objs.size + 1) C none) kk up (exo_ok got)
  have r2 : Vals (V.ref (hp.objs.size + 1) :: (vs ++ dvs)) (Value.ref (hp.objs.size + 1) :: (us ++ ds)) := .cons rfl (r1.append hd)
  have hl : (Value.ref (hp.objs.size + 1) :: us ++ ds).length = ps.length := by
    have z := r2.length
    rw [F1.len _ _ _ _ hq] at z
    exact z.symm
  have few : us.length ≤ sizeLine := by
    rw [← Paired.length r1, sizeLine_eq]
    omega
  refine wpAny_call (PySem.HandSPX.call_own TB.ex (fun n => pt.has n) (I1.kIn _ _ lk) (PySem.W.looks_findIn I1.kIn iC) (fun me => PySem.W.bind_fn I1.kIn me tI) few (codeAny_mono
    (F1.run _ X.stack _ _ ⟨Value.ref (hp.objs.size + 1) :: us, []⟩ (Value.ref (hp.objs.size + 1) :: (us ++ ds)) _ _ (fun _ _ _ => False) (hr.make C us []) (I2.env0.make C us []) (hb _ (Value.ref (hp.objs.size + 1) :: us) I2.kIn hl) r2 hq) fun r s' z => ?_))
  cases r with
  | error er => exact hx pins σ _ _ er s' I2 z
  | ok fl =>
    cases fl with
    | ret u =>
      obtain ⟨v, H2, os2, bare2, un2, hok2, rv, ev, z2⟩ := z
      subst ev
      obtain ⟨h2, g2, d2, t2, os'⟩ := s'
      rcases z2 with ⟨dq, fs, ea, ed, hd1, q2⟩ | ⟨ea, q2⟩
      · exact ⟨rv, by
          obtain ⟨t0, G, J, kG, ge, hoe, na⟩ := mk_end0 (d2 := d2) (t2 := t2) I1 up kk un2 hok2 os2 bare2 ea ed hd1
          exact ⟨_, _, _, ⟨G, g2, d2, t2, os'⟩, _, .ref C, some dq, rfl, J, kG, ge, hoe, ⟨rfl, rfl, fun vs z => by cases z; rfl⟩, rfl, rfl, na, rfl, bare2, raises_own T.exC T.tyC, q2⟩⟩
      · exact ⟨rv, bare_goneN (raises_own T.exC T.tyC) I1 up kk un2 hok2 os2 bare2 ea q2⟩
    | next => exact False.elim z
    | brk => exact False.elim z
    | cont => exact False.elim z
/-- raise C(e, ..) -/
theorem pmk_exoN {CX : CXT} {x : Str} {C fI : Addr} {k : Nat} {fd : FuncData} {ps : List Str} {sp : Sp} {ds : List Value} {dvs : List V} (T : OwC X.K C) (iC : PySem.W.findIn X.K (.ref C) "__init__" = some (some (.ref fI)))
    (tI : PySem.W.typeIn X.K (.ref fI) = some (.type "function")) (F1 : FnOk X.prog X.w X.K X.mg X.base CX k fI fd ps sp) (hr : Room (k + 1) X.A) (hb : Binds X.K fd ps ds) (hd : Vals dvs ds) (hx : Passes CX X (fun _ _ _ => False)) (hg : Gl X x)
    (hm : X.mg x = some (.ref C)) (ha : PA X (e :: es) ta) (hdb : (x == ("__debug__" : Str)) = false := by decide) (he : starEach (e :: es) X.env = (false, eval e X.env) :: starEach es X.env := by rfl) (hpl : (backTo pos (starEach es X.env)).any (·.1) = false := by rfl) :
    L2N.PMk X (.Call (.Name x p) (e :: es) [] pos) (tThr C sp dvs ta) := fun pins s σ H Q I h =>
  wpAny_Call_Name_kw (ld_glob I hg hm (PySem.W.callWith_K (h₀ := X.base) I.ok.mod.kin T.kC (thn (ha.run pos pins s σ H _ I h) fun us s1 ⟨vs, H1, I1, r1, hz, q1⟩ => ⟨I1.kIn, own_thrownN T iC tI F1 hr hb hd hx I1 r1 hz q1⟩) he hpl) hdb)
/-- raise C() -/
theorem pmk_exoN0 {CX : CXT} {x : Str} {C fI : Addr} {k : Nat} {fd : FuncData} {ps : List Str} {sp : Sp} {ds : List Value} {dvs : List V} (T : OwC X.K C) (iC : PySem.W.findIn X.K (.ref C) "__init__" = some (some (.ref fI)))
    (tI : PySem.W.typeIn X.K (.ref fI) = some (.type "function")) (F1 : FnOk X.prog X.w X.K X.mg X.base CX k fI fd ps sp) (hr : Room (k + 1) X.A) (hb : Binds X.K fd ps ds) (hd : Vals dvs ds) (hx : Passes CX X (fun _ _ _ => False)) (hg : Gl X x)
    (hm : X.mg x = some (.ref C)) (hdb : (x == ("__debug__" : Str)) = false := by decide) : L2N.PMk X (.Call (.Name x p) [] [] pos) (tThr C sp dvs tNil) := fun pins s σ H Q I h =>
  wpAny_Call_Name_kw (ld_glob I hg hm (PySem.W.callWith_K0 I.kIn T.kC (own_thrownN (us := []) (vs := []) T iC tI F1 hr hb hd hx I .nil h.1 h.2)) hdb)
end
end Gn
namespace L2
open PySem PySem.Spec PyProof.Rows
section
variable {X : Cx} {pins : List (Addr × Obj)} {τ : St} {G : Hp} {t0 t1 : Shared}
/-- the handler's side: x flies, as it was told, and all else stands -/
structure DownN (X : Cx) (pins : List (Addr × Obj)) (τ : St) (G : Hp) (t0 t1 : Shared) (B : Heap) (x : Addr) (C : Value) (d : Option Addr) : Prop where
  was : Inv X pins τ G t0
  nb : ∀ b o, t0.heap.get? b = some o → b ∉ frs X.stack → B.get? b = some o
  up : t0.heap.UpToSlots t1.heap
  fly : HandSPX.FlyingZ B (X.env :: X.outer) x (L2N.Zn C d) t1.heap
  new : G x = none
  os : t1.os = t0.os
  ag : AllBare t1.gens
variable {B : Heap} {x : Addr} {C : Value} {d : Option Addr}
theorem DownN.inv (S : DownN X pins τ G t0 t1 B x C d) : Inv X pins τ G t1 := S.was.landed S.nb S.fly.1 S.up S.os S.ag
theorem DownN.on (S : DownN X pins τ G t0 t1 B x C d) {h : Heap} (f : HandSPX.FlyingZ B (X.env :: X.outer) x (L2N.Zn C d) h) (u : t1.heap.UpToSlots h) : DownN X pins τ G t0 { t1 with heap := h } B x C d :=
  ⟨S.was, S.nb, S.up.trans u, f, S.new, S.os, S.ag⟩
theorem DownN.more (S : DownN X pins τ G t0 t1 B x C d) (o : Obj) : DownN X pins τ G t0 { t1 with heap := t1.heap.push o } B x C d := by
  have k : ∀ b u, t1.heap.get? b = some u → (t1.heap.push o).get? b = some u := fun _ _ z => Heap.get?_push_of_some _ z
  refine S.on ?_ (Heap.UpToSlots.of_keeps k)
  obtain ⟨a1, a2, a3, oe, w, T, oT, r, g1, g2, g3, g4, g5, g6, g7, g8⟩ := S.fly
  exact ⟨fun b u z => k b u (a1 b u z), a2, a3.of_keeps fun b u z _ => ⟨u, k b u z, rfl⟩, oe, w, T, oT, r, k _ _ g1, g2, g3, g4, g5, g6, k _ _ g7, g8⟩
theorem DownN.suite (S : DownN X pins τ G t0 t1 B x C d) (es : X.stack = X.env :: X.outer) (ef : X.env.frame = some X.env.locals) :
    ∃ oe, t1.heap.get? x = some oe ∧ L2N.Zn C d oe ∧ (∃ w, oe.data = .fields w) ∧ Inv (X.suite x ((x, oe) :: (X.pn ++ pins))) [] τ G t1 := by
  obtain ⟨oe, w, g, z, dt⟩ := S.fly.there
  have off : x ∉ frs (X.env :: X.outer) := fun m => by
    obtain ⟨_, o', e, nf⟩ := S.fly.2.2.1.mem m
    cases g.symm.trans e
    exact nf _ dt
  refine ⟨oe, g, z, ⟨w, dt⟩, S.inv.suite g dt S.new (fun e => off ?_) fun m => off ?_⟩
  · exact List.mem_filterMap.mpr ⟨X.env, by simp, by rw [ef, e]⟩
  · obtain ⟨v, m1, m2⟩ := List.mem_filterMap.mp m
    exact List.mem_filterMap.mpr ⟨v, List.mem_cons.mpr (.inr m1), m2⟩
end
section
variable {X : Cx} {y1 y2 y3 n : Str} {u1 u2 u3 : Value} {j : Nat} {bd su : List Stmt} {s₀ : Stmt} {q1 q2 q3 qt qh qq : Pos} {kk : Nat} {tb : WX → TS} {ts : Addr → Value → Option Addr → TS} {Wo : WX}
theorem ps_try_triN (es : X.stack = X.env :: X.outer) (ef : X.env.frame = some X.env.locals) (nd : X.N.Nodup) (at_ : X.N[j]? = some n) (lo : X.env.kindOf n = some .local) (m1 : Names X y1 u1) (m2 : Names X y2 u2) (m3 : Names X y3 u3) (tk : L2N.Takes X Wo)
    (B : ∀ (W : WX) (pn : List (Addr × Obj)) (xe : Value → Shared → Prop), L2N.Takes (X.tr pn xe) W → PassesOwn (model X.prog X.w) X.A X.env xe → PSs (X.tr pn xe) bd (tb W))
    (S : ∀ (x : Addr) (oe : Obj) (C : Value) (d : Option Addr) (pn : List (Addr × Obj)), L2N.Zn C d oe → (∃ w, oe.data = .fields w) → PSs (X.suite x ((x, oe) :: pn)) (s₀ :: su) (ts x C d)) :
    PS X (.Try bd [.ExceptHandler (some (.Tuple [.Name y1 q1, .Name y2 q2, .Name y3 q3] kk qt)) (some n) (s₀ :: su) qh] [] [] qq) (fun D τ G => tb (wTri X.K [u1, u2, u3] j ts Wo D) D τ G) := by
  constructor
  intro pins t τ G D J want
  have ok := J.ok
  have frames : X.A.frames = some (X.env :: X.outer) := ok.frames.trans (by rw [es])
  let hs := [ExceptHandler.ExceptHandler (some (.Tuple [.Name y1 q1, .Name y2 q2, .Name y3 q3] kk qt)) (some n) (s₀ :: su) qh]
  let after : Value → Shared → Prop := fun e t1 => wpAny (model X.prog X.w) X.A (noteFrame e X.env) (fun _ t2 => wpAny (model X.prog X.w) X.A (setFlight e none) (fun _ t3 => wpAny (model X.prog X.w) X.A (handleBy e X.env hs) (SP X pins D) X.xe t3) X.xe t2) X.xe t1
  have look : L2N.Takes (X.tr (X.pn ++ pins) after) (wTri X.K [u1, u2, u3] j ts Wo D) := by
    rintro e t1 ⟨x, H0, sI, pi, τ1, G1, C, d, rfl, J1, nb, up, sky, new, os, ag, hit, hm, yes, no⟩
    show wpAny (model X.prog X.w) X.A (noteFrame (.ref x) X.env) _ _ _
    rw [show X.stack = X.env :: X.outer from es] at sky
    refine L2N.Sky.land L2N.Zn.steady frames ef sky fun h fl u => ?_
    have D1 : DownN X pins τ1 G1 sI { t1 with heap := h } H0 x C d := ⟨J1.ofTry ok, nb, up.trans u, fl, new, os, ag⟩
    obtain ⟨oe, ge, gz, gd, I1⟩ := D1.suite es ef
    refine wpAny_handleBy_cons (codeAny_handlers_test (ev_tri I1 m1 m2 m3 ?_)) (by intro z; cases z)
    have D2 := D1.more (triO u1 u2 u3)
    have there : (h.push (triO u1 u2 u3)).get? x = some oe := Heap.get?_push_of_some _ ge
    have LT : PySem.W.Looks (model X.prog X.w) (h.push (triO u1 u2 u3)) (typeOf (.ref x)) C := fun A Q E s k z => wpAny_typeOf_ref (k _ _ there) (by rw [gz.1]; exact z)
    refine (PySem.W.exm_tup3 D2.inv.kIn LT (Heap.get?_push_size h rfl) hm).here ?_
    cases hit
    · show wpAny _ X.A (handleBy (.ref x) X.env []) _ _ _
      refine wpAny_handleBy_nil ?_
      obtain ⟨_, _, _, o2, w, T, _, _, g1, _, g3, g4, _⟩ := id D2.fly
      have away : wpAny (model X.prog X.w) X.A (setFlight (.ref x) X.env.frame) (fun _ t5 => wpAny (model X.prog X.w) X.A (throw (.ref x) : Sem Flow) (SP X pins D) X.xe t5) X.xe { t1 with heap := h.push (triO u1 u2 u3) } := by
        rw [ef]
        exact HandSPX.setFlight_upZ D2.fly fun h' held u' => wpAny_throw (tk _ _ ⟨x, H0, sI, pins, τ1, G1, C, d, rfl, D2.was, nb, D2.up.trans u', .inr (.inr (by rw [es]; exact held)), new, os, ag, no rfl⟩)
      unfold PySem.passOn
      refine wpAny_bind (wpAny_field g1 g3 g4 ?_)
      rw [if_neg (by simp : ¬ ((Value.ref T == Value.none) = true))]
      first
        | exact wpAny_bind (wpAny_pure (wpAny_bind away))
        | exact wpAny_bind away
    · refine codeAny_handlers_suite_as (HandSPX.lands_againZ D2.fly fun h' fl' u' => ?_)
      obtain ⟨o3, _, z3, d3, I3⟩ := (D2.on fl' u').suite es ef
      refine store_ok (X := X.suite x ((x, o3) :: (X.pn ++ pins))) (v := .ref x) I3 nd at_ (.inl lo) rfl (fun t5 I5 => ?_) (.inr lo)
      have off : ∀ {τ6 : St} {G6 : Hp} {t6 : Shared} {Q : Shared → Prop}, Inv (X.suite x ((x, o3) :: (X.pn ++ pins))) [] τ6 G6 t6 → (∀ t7, Inv X pins (τ6.set j none) G6 t7 → Q t7) →
          wpAny (model X.prog X.w) X.A (do bindName X.env n .none; unbindBehindTheSuite X.env n qh) (fun _ t7 => Q t7) X.xe t6 := fun I6 go => gone_ok (I6.unsuite ok) nd at_ lo go
      refine wpAny_mono ((S x o3 C d (X.pn ++ pins) z3 d3).run [] t5 _ G1 _ I5 (yes rfl x new)) (fun fl t6 out => ?_) fun _ _ z => z.elim
      cases fl <;> first
        | (obtain ⟨τ6, G6, I6, w6⟩ := out; exact off I6 fun t7 I7 => ⟨_, _, I7, w6⟩)
        | (obtain ⟨v6, τ6, G6, I6, e6, w6⟩ := out; exact off I6 fun t7 I7 => ⟨_, _, _, I7, e6, w6⟩)
  refine wpAny_Try_except (wpAny_mono ((B _ _ after look PassesOwn.looking).run [] t τ G D (J.toTry _) want) (fun fl t1 out => ?_) fun _ _ z => z)
  cases fl <;> first
    | (obtain ⟨τ1, G1, I1, w1⟩ := out; exact wpAny_execs_nil ⟨τ1, G1, I1.ofTry ok, w1⟩)
    | (obtain ⟨τ1, G1, I1, w1⟩ := out; exact ⟨τ1, G1, I1.ofTry ok, w1⟩)
    | (obtain ⟨v1, τ1, G1, I1, e1, w1⟩ := out; exact ⟨v1, τ1, G1, I1.ofTry ok, e1, w1⟩)
end
/-- such a handler is hot -/
theorem hot_suite {X : Cx} {x : Addr} {oe : Obj} {C : Value} {d : Option Addr} {pn : List (Addr × Obj)} (z : L2N.Zn C d oe) (h : ∃ w, oe.data = .fields w) : L2H.HotC (X.suite x ((x, oe) :: pn)) := by
  obtain ⟨w, hw⟩ := h
  exact ⟨(x, oe), ⟨rfl, w, hw, z.2.2 w hw⟩, by simp⟩
end L2
set_option Elab.async false
set_option linter.all false
set_option maxRecDepth 100000
set_option maxHeartbeats 4000000
/-! what a handler asks of the exception that it holds, by itself or in a def that it calls -/
namespace Gn
open PySem PySem.Spec PyProof.Rows L2 L2H
/-! ### a list of truths: how often one stands in it -/
def isB (b : Bool) : Value → Bool
  | .bool c => c == b
  | _ => false
theorem isB_at {b : Bool} {A : Around} {s : Shared} : ∀ {us : List Value} {bs : List Bool}, Vals (bs.map V.bl) us → ∀ y ∈ us, SeqAt.EqAt A s y (.bool b) (isB b y)
  | [], _, _, y, m => nomatch m
  | u :: us, [], r, y, m => nomatch r
  | u :: us, c :: bs, .cons r1 r2, y, m => by
    obtain rfl : u = Value.bool c := r1
    rcases List.mem_cons.mp m with e | m
    · rw [e]; exact SeqAt.EqAt.bool_bool c b
    · exact isB_at r2 y m
theorem isB_count {b : Bool} : ∀ {us : List Value} {bs : List Bool}, Vals (bs.map V.bl) us → us.countP (isB b) = bs.count b
  | [], [], _ => rfl
  | [], _ :: _, r => nomatch r
  | u :: us, [], r => nomatch r
  | u :: us, c :: bs, .cons r1 r2 => by
    obtain rfl : u = Value.bool c := r1
    rw [List.countP_cons, List.count_cons, isB_count r2]; rfl
def rCntB (K : PySem.W.Frag) : V → List V → Hp → VK → Prop := fun x xs H Q => ∃ (p : Addr) (bs : List Bool) (b : Bool), x = .ref p ∧ xs = [.bl b] ∧ SqL K H p (bs.map V.bl) ∧ Q (.int (bs.count b : Nat)) H
theorem mt_countB {X : Cx} : MtR X "list.count" (rCntB X.K) := by
  intro pins s σ H x xs v us Q I rx rxs h
  obtain ⟨p, bs, b, rfl, rfl, hs, q⟩ := h
  cases rx
  obtain ⟨u, rfl, ru⟩ := rxs.one
  obtain rfl : u = Value.bool b := ru
  obtain ⟨its, rv, ⟨⟨cls, dd, data, sl⟩, n, ho, hc, hdn, hd⟩, _⟩ := I.list hs
  dsimp only at hc hd
  subst hc hd
  refine call_meets PySem.F.slot_list_count ⟨_, ho, rfl⟩ PySem.F.entry_list_count (PySem.F.args_list_count_2 _ _) (SeqAt.list_countAt p its.toArray n dd sl (.bool b) (isB b)) ⟨ho, fun y hy => isB_at rv y (by simpa using hy), ⟨.int (bs.count b : Nat), H, I.tok _, ⟨s.toks, ?_⟩, q⟩⟩
  rw [show its.toArray.toList = its from rfl, isB_count rv]
/-! ### the exception that is held: of which classes it is, what it has -/
section
variable {X : Cx} {a : Addr} {cls : Value} {d : Option Addr} {oe : Obj}
theorem held_inst {pins : List (Addr × Obj)} {σ : L2.St} {H : Hp} {s : Shared} {D : Addr} (m : (a, oe) ∈ X.pn) (hz : Zc (.ref D) d oe) (hf : ∃ vs, oe.data = .fields vs) (I : Inv X pins σ H s) (hd : ∀ y, d = some y → ∃ fs, H y = some (.xd fs)) : ∃ ox od, PySem.W.InstAt s.heap a ox D od := by
  obtain ⟨at0, _⟩ := I.pin (a, oe) (List.mem_append.mpr (.inl m))
  obtain ⟨vs, hv⟩ := hf
  obtain ⟨oc, dd, oda, osl⟩ := oe
  obtain ⟨h1, h2⟩ := hz
  dsimp only at h1 h2 hv
  subst h1 h2 hv
  cases dd with
  | none => exact ⟨_, none, at0, rfl, rfl, trivial⟩
  | some y =>
    obtain ⟨fs, ed⟩ := hd y rfl
    obtain ⟨mA, hns, _⟩ := (show ObjOk X.prog X.w H s.heap y (.xd fs) from I.hok y _ ed)
    obtain ⟨od, ho, _⟩ := lookIn_ns hns
    exact ⟨_, some od, at0, rfl, rfl, ho⟩
/-- isinstance(e, c) -/
def rIsP (K : PySem.W.Frag) (cls : Value) (a : Addr) (d : Option Addr) : List V → Hp → VK → Prop := fun xs H Q => ∃ (D : Addr) (c : V) (cv : Value) (b : Bool), cls = .ref D ∧ ExcC K D ∧ xs = [.ref a, c] ∧ (∀ y, d = some y → ∃ fs, H y = some (.xd fs)) ∧ (∀ u, RelV c u → u = cv) ∧ PySem.W.kitOne K (.ref D) cv = some b ∧ Q (.bl b) H
theorem cr_isP (m : (a, oe) ∈ X.pn) (hz : Zc cls d oe) (hf : ∃ vs, oe.data = .fields vs) : CallR X (.builtin "isinstance") (rIsP X.K cls a d) := by
  intro pins s σ H xs us Q I r h
  obtain ⟨D, c, cv, b, rfl, C, rfl, hd, hcv, e, q⟩ := h
  obtain ⟨u1, u2, rfl, r1, r2⟩ := vals2 r
  obtain rfl := hcv _ r2
  cases r1
  exact PySem.W.kia_one (PySem.W.gn_kit C) I.kIn (held_inst m hz hf I hd) e (fun z => nomatch z) fun tk => ⟨.bl b, H, I.tok tk, rfl, q⟩
/-- isinstance(e, (A, B, ..)) -/
def rIsPT (K : PySem.W.Frag) (cls : Value) (a : Addr) (d : Option Addr) : List V → Hp → VK → Prop := fun xs H Q => ∃ (D tp : Addr) (cs : List V) (us : List Value) (b : Bool), cls = .ref D ∧ ExcC K D ∧ xs = [.ref a, .ref tp] ∧ H tp = some (.tup cs) ∧ Paired ClsV cs us ∧ (∀ y, d = some y → ∃ fs, H y = some (.xd fs)) ∧ PySem.W.kitAny K (.ref D) us = some b ∧ Q (.bl b) H
theorem cr_isPT (m : (a, oe) ∈ X.pn) (hz : Zc cls d oe) (hf : ∃ vs, oe.data = .fields vs) : CallR X (.builtin "isinstance") (rIsPT X.K cls a d) := by
  intro pins s σ H xs us Q I r h
  obtain ⟨D, tp, cs, ws, b, rfl, C, rfl, hT, k, hd, e, q⟩ := h
  obtain ⟨u1, u2, rfl, r1, r2⟩ := vals2 r
  cases r1
  cases r2
  obtain ⟨oc, its, rv, o, h1, h2, n, h3⟩ := (show ObjOk X.prog X.w H s.heap tp (.tup cs) from I.hok tp _ hT)
  obtain rfl := ClsV.all k rv
  obtain ⟨ocl, od, dt, sl⟩ := o
  dsimp only at h2 h3
  subst h2 h3
  exact PySem.W.kia_tup (PySem.W.gn_kit C) I.kIn (held_inst m hz hf I hd) h1 e (fun z => nomatch z) fun tk => ⟨.bl b, H, I.tok tk, rfl, q⟩
/-- e.f -/
def tXfP (K : PySem.W.Frag) (a : Addr) (cls : Value) (d : Option Addr) (f : Str) (te : TE) : TE := fun σ H Q => te σ H fun x H1 => ∃ (D dd : Addr) (fs : List (Str × V)) (v : V), x = .ref a ∧ cls = .ref D ∧ XfC K D ∧ PySem.W.findIn K (.ref D) f = some none ∧ d = some dd ∧ H1 dd = some (.xd fs) ∧ fs.lookup f = some v ∧ Q v H1
theorem pe_xfP {e : Expr} {te : TE} {pos : Pos} {f : Str} (m : (a, oe) ∈ X.pn) (hz : Zc cls d oe) (hf : ∃ vs, oe.data = .fields vs) (he : PE X e te) (hb : attributeBase e f X.env (eval e X.env) = eval e X.env := by rfl) : PE X (.Attribute e f pos) (tXfP X.K a cls d f te) := by
  constructor
  intro pins s σ H Q I h
  refine attr_of hb (thn (he.run pins s σ H _ I h) fun u s1 ⟨x, H1, I1, rx, D, dd, fs, v, ex, ec, T, no, ed, ea, l, q⟩ => ?_)
  subst ex ec ed
  obtain rfl : u = Value.ref a := rx
  obtain ⟨at0, _⟩ := I1.pin (a, oe) (List.mem_append.mpr (.inl m))
  obtain ⟨vs, hv⟩ := hf
  obtain ⟨mA, hns, rel⟩ := (show ObjOk X.prog X.w H1 s1.heap dd (.xd fs) from I1.hok dd _ ea)
  obtain ⟨od, ho, hl⟩ := lookIn_ns hns
  obtain ⟨y, hy, ry⟩ := RelO.some_of (v := v) (o := mA f) (by rw [← l]; exact rel f)
  have J : PySem.W.InstAt s1.heap a oe D (some od) := ⟨at0, hz.1, by unfold PySem.W.notCls; rw [hv] <;> rfl, by rw [hz.2]; exact ho⟩
  exact HandSPX.exc_get I1.kIn J T.ga T.gg T.exC (PySem.W.findObj_own T.hdC no rfl (by rw [hl, hy])) (handed_of ry) ⟨v, H1, I1.tok _, ry, q⟩
end
/-! ### a def that is called with the exception that is held: its promise knows it -/
structure FnP (P : Program) (w : World) (K : PySem.W.Frag) (mg : Str → Option Value) (base : Heap) (CX : CXT) (k : Nat) (f : Addr) (fd : FuncData) (ps : List Str) (sp : Addr × Obj → Sp) : Prop where
  len : ∀ p vs H Q E, sp p vs H Q E → vs.length = ps.length
  run : ∀ (A : Around) (outer : List Env) (s : Shared) (H : Hp) (args : Args) (us : List Value) (vs : List V) (Q : VK) (E : XK) (p : Addr × Obj), RoomH k A → Hot1 A p → PinOk outer H s p → Env0 P w K mg base A outer s H → BindsTo s fd args (ps.zip us) → Vals vs us → sp p vs H Q E →
    codeAny (model P w) A (.call (.ref f) args) (CR CX outer P w H s Q E) s
section
variable {P : Program} {w : World} {K : PySem.W.Frag} {mg : Str → Option Value} {base : Heap}
theorem funP {CX : CXT} {x qual : Str} {st : Stmt} {f : Addr} {fd : FuncData} {N ps : List Str} {k : Nat} {sp : Addr × Obj → Sp} (F : Fun K x qual st f fd) (S : FnScope N ps (defScope st)) (len : ∀ p vs H Q E, sp p vs H Q E → vs.length = ps.length)
    (hbody : ∀ (cdv : Value) (A : Around) (outer : List Env) (s : Shared) (H : Hp) (vs : List V) (Q : VK) (E : XK) (p : Addr × Obj), Hot1 A p → RoomH k (A.deeper (envOfC qual (defScope st) s.heap.objs.size f cdv)) → sp p vs H Q E →
      ∃ t, PSs (cxH CX P w K mg base N qual (defScope st) f cdv A outer s H E p) (defBody st) t ∧ t { nx := fun _ H' => Q .non H', rt := Q } (start N vs) H) : FnP P w K mg base CX (k + 1) f fd ps sp := by
  obtain ⟨oc, od, kV, doc, pm, an, cdv, ct, osl, rfl, lk, hcd⟩ := F.ex
  refine ⟨len, fun A outer s H args us vs Q E p hr hot pin e0 hb r hsp => ?_⟩
  have KX : K.In s.heap := e0.mod.kin.keeps fun b o e => (e0.bs b o e).1
  have hkind : ∀ y ∈ ps.zip us, (defScope st).names.lookup y.1 = some .local ∨ ((defScope st).names.lookup y.1 = some .cell ∧ ((cellsFrom (s.heap.objs.size + 1) (defScope st).names []).lookup y.1).isSome = true) := fun y hy =>
    (S.par y.1 (List.of_mem_zip hy).1).elim .inl fun q => .inr ⟨q, PySem.W.cellsFrom_some _ _ _ (.inl q)⟩
  refine codeAny_call_function hr.depth (KX _ _ lk) rfl S.co S.gen rfl (PySem.W.codeRec_of KX hcd) (hb _ _ _ _ (wpAny_newFunctionEnv_cells S.kind hkind fun env he s1 x => ?_))
  subst he
  refine ⟨(e0.mod.nolimit.keeps fun b o e => (e0.bs b o e).1).keeps x.toInCall.keep, codeAny_func ?_⟩
  obtain ⟨t, ht, hq⟩ := hbody cdv A outer s H vs Q E p hot (hr.deeper _) hsp
  have I : Inv (cxH CX P w K mg base N qual (defScope st) f cdv A outer s H E p) [] (start N vs) H s1 := inv_startH S pin e0 (len _ _ _ _ _ hsp) r x
  refine wpAny_mono (ht.run [] s1 (start N vs) H _ I hq) (fun fl s' hs => ?_) fun _ _ hs => hs
  cases fl with
  | ret u => obtain ⟨v, σ', H', J, rv, q⟩ := hs; exact ⟨v, H', J.os, J.bare, J.base, J.hok, rv, q⟩
  | next => obtain ⟨σ', H', J, q⟩ := hs; exact ⟨V.non, H', J.os, J.bare, J.base, J.hok, rfl, q⟩
  | brk => obtain ⟨_, _, _, q⟩ := hs; exact False.elim q
  | cont => obtain ⟨_, _, _, q⟩ := hs; exact False.elim q
end
section
variable {X : Cx} {CX : CXT} {k : Nat} {f : Addr} {fd : FuncData} {ps : List Str} {sp : Addr × Obj → Sp} {E : XK} {x : Str} {p pos : Pos} {e : Expr} {es : List Expr} {t : TA} {q : Addr × Obj}
theorem pe_callP (F : FnP X.prog X.w X.K X.mg X.base CX k f fd ps sp) (hr : RoomH k X.A) (m : q ∈ X.pn) (hot : Hot1 X.A q) (hg : Gl X x) (hm : X.mg x = some (.ref f)) (hk : PySem.W.keepIn X.K (.ref f) = true) (hb : Binds X.K fd ps []) (hx : Passes CX X E)
    (ha : PA X (e :: es) t) (hdb : (x == ("__debug__" : Str)) = false := by decide) (he : starEach (e :: es) X.env = (false, eval e X.env) :: starEach es X.env := by rfl) (hpl : (backTo pos (starEach es X.env)).any (·.1) = false := by rfl) :
    PE X (.Call (.Name x p) (e :: es) [] pos) (tCall (sp q) [] E t) := by
  constructor
  intro pins s σ H Q I h
  refine wpAny_Call_Name_kw (ld_glob I hg hm (PySem.W.callWith_K (h₀ := X.base) I.ok.mod.kin hk (thn (ha.run pos pins s σ H _ I h) fun us s1 ⟨vs, H1, I1, r, z⟩ => ⟨I1.kIn, ?_⟩) he hpl) hdb)
  have z : sp q (vs ++ []) H1 Q E := z
  rw [List.append_nil] at z
  have b := hb s1 us I1.kIn (by rw [List.append_nil, ← r.length]; exact F.len _ _ _ _ _ z)
  rw [List.append_nil] at b
  obtain ⟨p1, p2, p3, p4, p5⟩ := I1.pin q (List.mem_append.mpr (.inl m))
  refine wpAny_call (codeAny_mono (F.run X.A X.stack s1 H1 ⟨us, []⟩ us vs Q E q hr hot ⟨p1, p2, fun hm => (List.mem_cons.mp (I1.stkSub q.1 hm)).elim p3 p4, p5⟩ I1.env0 b r z) fun r s' hq => ?_)
  have y := back_of hx I1 hq
  cases r with
  | error e => exact y
  | ok fl => cases fl with
    | ret u => exact y
    | next => exact y.elim
    | brk => exact y.elim
    | cont => exact y.elim
end
end Gn
set_option Elab.async false
set_option linter.all false
set_option maxRecDepth 100000
set_option maxHeartbeats 4000000
/-! y = [..] within a handler -/
namespace L2
open PySem PySem.Spec PyProof.Rows HotX L2H
section
variable {X : Cx} {i : Nat} {y : Str} {elt tg src : Expr} {ifs : List Expr} {sc : Scope} {own : List (Str × Nat)} {py pa ps : Pos} {ti te : TE} {g : TG} {tt : TT}
theorem ps_setLcH {p : Addr × Obj} (hot : Hot1 X.A p) (pm : p ∈ X.pn) (nd : X.N.Nodup) (hy : X.N[i]? = some y) (lo : X.env.scope.names.lookup y = some .local) (sw : swapsWith (.ListComp elt [⟨tg, src, ifs, 0⟩] sc pa) (some (.Name y py)) ps.line X.env = pure true) (hi : PE X src ti) (ok : BlkOk X.N X.env.scope sc own)
    (hg : ∀ (s : Shared) (H : Hp) (C : Addr) (cl : List (Str × Addr)) (fp : List Addr), Seen (X.blk s H sc (compEnvC sc cl C X.env) fp) p → PG (X.blk s H sc (compEnvC sc cl C X.env) fp) tg g)
    (ht : ∀ (s : Shared) (H : Hp) (C : Addr) (cl : List (Str × Addr)) (fp : List Addr), Seen (X.blk s H sc (compEnvC sc cl C X.env) fp) p → PTs (X.blk s H sc (compEnvC sc cl C X.env) fp) ifs tt)
    (he : ∀ (s : Shared) (H : Hp) (C : Addr) (cl : List (Str × Addr)) (fp : List Addr), Seen (X.blk s H sc (compEnvC sc cl C X.env) fp) p → PE (X.blk s H sc (compEnvC sc cl C X.env) fp) elt te)
    (fo : ∀ x, foldedSetIterable src X.env x = pure x := by intro _; rfl) : PS X (.Assign [.Name y py] (.ListComp elt [⟨tg, src, ifs, 0⟩] sc pa) ps) (tAsg (tLc (iList X.K ti) g tt te (own.map (·.2))) (gName i)) := by
  constructor
  intro pins t τ G D J want
  have want : tLc (iList X.K ti) g tt te (own.map (·.2)) τ G (fun x G1 => gName i x τ G1 D.nx) := want
  rw [exec_Assign_Name_used _ _ _ _ sw]
  refine wpAny_bind (wpAny_standAt (wpAny_bind ?_))
  change wpAny _ X.A (comprehension (.ListComp elt [⟨tg, src, ifs, 0⟩] sc pa) sc X.env (firstIterPos [⟨tg, src, ifs, 0⟩] pa) (newList []) false (eval src X.env) (some (assign (.Name y py) X.env)) >>= _) _ _ t
  refine wpAny_bind (thn (lc_hot (Qf := fun _ u => SP X pins D .next u) hot pm nd J hi ok hg ht he fo want fun L C u m G' J' q hn fr => ?_) fun _ u z => wpAny_pure (wpAny_pure z))
  change wpAny _ _ (assign (.Name y py) X.env (.ref L)) _ _ _
  refine wpAny_assign_Name (store_ok2 (v := V.ref L) J' nd hy (.inl lo) rfl (fun u2 J2 ⟨b, sb, hb⟩ => ?_) (.inr lo))
  have off : C ≠ b := hb.elim (fun z => z ▸ fr.2.1) fun z e => fr.2.2.2.2.1 y b z e.symm
  exact ⟨m, hn.sameBut sb off, fun h3 sb3 => ⟨_, G', J2.turned (t' := u2.toks) (fun c o n e => (sb3.2 c n).trans e) fr.1 fr.2.1 fr.2.2.2.1 fr.2.2.2.2.1 fr.2.2.2.2.2, q⟩⟩
end
end L2
set_option Elab.async false
set_option linter.all false
set_option maxRecDepth 100000
set_option maxHeartbeats 4000000
/-! a lambda handed to a def that tries it: what it raises has a known context -/
namespace Gn
open PySem PySem.Spec PyProof.Rows L2
section
variable {P : Program} {w : World} {K : PySem.W.Frag} {mg : Str → Option Value} {base : Heap}
/-- a def that may raise -/
theorem okN {x qual : Str} {st : Stmt} {f : Addr} {fd : FuncData} {N ps : List Str} {k : Nat} {sp : Sp} (F : Fun K x qual st f fd) (S : FnScope N ps (defScope st)) (len : ∀ vs H Q E, sp vs H Q E → vs.length = ps.length)
    (body : ∀ (cdv : Value) (A : Around) (outer : List Env) (s : Shared) (H : Hp) (vs : List V) (Q : VK) (E : XK), Room k (A.deeper (envOfC qual (defScope st) s.heap.objs.size f cdv)) → sp vs H Q E →
      ∃ t, PSs (cxOf (L2N.CX P w) P w K mg base N qual (defScope st) f cdv A outer s H E) (defBody st) t ∧ t { nx := fun _ G => Q .non G, rt := Q } (start N vs) H) : FnOk P w K mg base (L2N.CX P w) (k + 1) f fd ps sp := by
  obtain ⟨_, _, _, _, _, _, cdv, _, _, rfl, lk, hcd⟩ := F.ex
  exact fn_of lk hcd S len fun A o s H vs Q E => body cdv A o s H vs Q E
end
/-- the lambda's body, entered at s -/
abbrev lamN (X : Cx) (A : Around) (outer : List Env) (s : Shared) (H : Hp) (E : XK) (sc : Scope) (f c : Addr) : Cx :=
  (LamX.lamCx X A outer s H E sc f c).wish fun e t => wpAny (model X.prog X.w) (A.deeper (LamX.lamEnv X sc s.heap.objs.size f c)) (leaving (LamX.lamEnv X sc s.heap.objs.size f c) e) (fun _ t' => L2N.CX X.prog X.w outer H s E e t') (fun e' t' => L2N.CX X.prog X.w outer H s E e' t') t
section
variable {X : Cx} {pins : List (Addr × Obj)} {σ : L2.St} {H : Hp} {s : Shared}
/-- what leaves the body -/
theorem lamN_takes {A : Around} {outer : List Env} {E : XK} {sc : Scope} {f c : Addr} : L2N.Takes (lamN X A outer s H E sc f c) fun C d _ G => E C d G :=
  L2N.takes_of (E₁ := fun e' t' => L2N.CX X.prog X.w outer H s E e' t') rfl rfl rfl rfl
/-- a(), in the def that got the lambda -/
theorem pe_actN {CXg : CXT} {Eg : XK} {Ng : List Str} {qg : Str} {sg sc : Scope} {g f c : Addr} {cdg pm ctv : Value} {pr : Arguments} {bo : Expr} {k i : Nat} {a : Str} {pn : List (Addr × Obj)} {xe : Value → Shared → Prop} {W : WX} {tb : XK → TE} {p1 p2 : Pos}
    (I : Inv X pins σ H s) (L : LamX.LamS X.env.scope sc) (gf : s.heap.get? f = some (PySem.W.kla_obj "<lambda>" (X.env.qual ++ "<lambda>") pr bo sc (cloFrom X.env.cells sc.names []) pm c ctv)) (nf : H f = none) (off : f ∉ frs X.stack)
    (bi : bindArgs (PySem.W.kla_fn "<lambda>" (X.env.qual ++ "<lambda>") pr bo sc (cloFrom X.env.cells sc.names []) pm (.ref c) ctv) ⟨[], []⟩ = pure [])
    (tk : L2N.Takes ((cxOf CXg X.prog X.w X.K X.mg X.base Ng qg sg g cdg X.A X.stack s H Eg).tr pn xe) W) (hr : Room (k + 1) (X.A.deeper (envOfC qg sg s.heap.objs.size g cdg)))
    (body : ∀ (A : Around) (outer : List Env) (s : Shared) (H : Hp) (E : XK), Room k (A.deeper (LamX.lamEnv X sc s.heap.objs.size f c)) → PE (lamN X A outer s H E sc f c) bo (tb E))
    (at_ : Ng[i]? = some a) (vi : Vis sg a) (nd : (a == ("__debug__" : Str)) = false := by decide) (nc : (a == ("__classdict__" : Str)) = false := by decide) :
    PE ((cxOf CXg X.prog X.w X.K X.mg X.base Ng qg sg g cdg X.A X.stack s H Eg).tr pn xe) (.Call (.Name a p1) [] [] p2)
      (fun τ G Q => τ[i]? = some (some (.ref f)) ∧ G c = some (LamX.CodeO c (X.env.qual ++ "<lambda>")) ∧ tb (fun C d G' => W C d τ G') σ G Q) := by
  constructor
  rintro pi t τ G Q J ⟨slot, co, want⟩
  refine wpAny_Call_Name_kw (thn ((pe_var (pos := p1) (i := i) at_ vi nd nc).run pi t τ G (fun v G1 => v = .ref f ∧ G1 = G) J ⟨.ref f, slot, rfl, rfl⟩) fun u t1 ⟨v, G1, J1, rv, ev, eG⟩ => ?_)
  subst ev eG
  obtain rfl : u = Value.ref f := rv
  have g1 := J1.base.keep f _ gf nf off (fun z => nomatch (show f ∈ ([] : List Addr) from z))
  have un : Un (frs X.stack) [] H G1 s.heap t1.heap := J1.base
  obtain ⟨⟨oc, vs, tn, goc, gd, gv⟩, _, _⟩ := J1.hok c _ co
  have run : codeAny (model X.prog X.w) (X.A.deeper (envOfC qg sg s.heap.objs.size g cdg)) (.call (.ref f) ⟨[], []⟩) (CR (L2N.CX X.prog X.w) (envOfC qg sg s.heap.objs.size g cdg :: X.stack) X.prog X.w G1 t1 Q fun C d G' => W C d τ G') t1 := by
    refine PySem.W.kla_callFunE hr.depth g1 rfl L.co L.gen rfl ⟨c, oc, vs, tn, rfl, goc, gd, gv⟩ ?_
    rw [bi]
    refine wpAny_pure (wpAny_newFunctionEnv (fun y m => (L.own y m).2) (fun y m => absurd m (by simp)) (fun h ns sb => ⟨J1.nolimit.fresh _ sb, ?_⟩) L.kind)
    change codeAny _ _ (.expr bo (LamX.lamEnv X sc t1.heap.objs.size f c)) _ _
    have start := LamX.lam_start2 (A := X.A.deeper (envOfC qg sg s.heap.objs.size g cdg)) (outer := envOfC qg sg s.heap.objs.size g cdg :: X.stack) (E := fun C d G' => W C d τ G') (c' := c) (f := f) (tk := t1.toks + ([] : List (Str × Value)).length) I L J1.env0 hr.hd un ns fun b o e => sb.extBut b o (Nat.ne_of_lt (Heap.lt_size e)) (Heap.get?_push_of_some _ e)
    refine PySem.W.kla_codeExpr (wpAny_mono ((body _ _ t1 G1 _ (hr.deeper _)).run [] _ σ G1 Q (start.wish _) want) (fun v t2 ⟨y, G2, J2, ry, q⟩ => ?_) fun _ _ z => z)
    exact ⟨y, G2, J2.os, J2.bare, J2.base, J2.hok, ry, q⟩
  refine PySem.W.callWith_F0 ⟨_, _, _, _, g1⟩ (wpAny_call (codeAny_mono run fun r t2 z => ?_))
  cases r with
  | error e => exact tk e t2 (L2N.XE.of_call J1 (fun C d G' h => h) z)
  | ok fl => cases fl with
    | ret u => exact J1.after z
    | next => exact z.elim
    | brk => exact z.elim
    | cont => exact z.elim
/-- the def that tries what it got: TT, what it makes of the lambda's reading -/
def GivesN (X : Cx) (Ng : List Str) (x : Str) (sg : Scope) (g : Addr) (cdg : Value) (bg : List Stmt) (a : Str) (q : Str) (k : Nat) (TT : (XK → Hp → VK → Prop) → Hp → VK → Prop) : Prop :=
  ∀ (f c : Addr) (s : Shared) (H : Hp) (Q : VK) (tl : XK → Hp → VK → Prop),
    (∀ (W : WX) (pn : List (Addr × Obj)) (xe : Value → Shared → Prop) (p1 p2 : Pos), L2N.Takes ((cxOf CX0 X.prog X.w X.K X.mg X.base Ng x sg g cdg X.A X.stack s H E0).tr pn xe) W →
      PE ((cxOf CX0 X.prog X.w X.K X.mg X.base Ng x sg g cdg X.A X.stack s H E0).tr pn xe) (.Call (.Name a p1) [] [] p2) (fun τ G Q => τ[0]? = some (some (.ref f)) ∧ G c = some (LamX.CodeO c q) ∧ tl (fun C d G' => W C d τ G') G Q)) →
    H c = some (LamX.CodeO c q) → Room (k + 1) (X.A.deeper (envOfC x sg s.heap.objs.size g cdg)) → TT tl H Q →
    ∃ t, PSs (cxOf CX0 X.prog X.w X.K X.mg X.base Ng x sg g cdg X.A X.stack s H E0).nox bg t ∧ t { nx := fun _ G => Q .non G, rt := Q } (L2.start Ng [.ref f]) H
/-- x(lambda: bo) -/
theorem pe_lamN {T : List (Addr × Str)} {TT : (XK → Hp → VK → Prop) → Hp → VK → Prop} {x a : Str} {g c P : Addr} {k : Nat} {st : Stmt} {fd : FuncData} {Ng : List Str} {pr : Arguments} {bo : Expr} {sc : Scope} {t : XK → TE} {p lp pos : Pos}
    (hg : Gl X x) (hm : X.mg x = some (.ref g)) (F : Fun X.K x x st g fd) (kp : PySem.W.keepIn X.K (.ref g) = true) (hb : Binds X.K fd [a] []) (Sg : FnScope Ng [a] (defScope st)) (at_ : Ng[0]? = some a) (vi : Vis (defScope st) a)
    (hG : ∀ cdv, GivesN X Ng x (defScope st) g cdv (defBody st) a (X.env.qual ++ "<lambda>") k TT)
    (TB : LamX.TabB X.base X.mg c P) (ec : X.env.code = .ref c) (mT : (P, X.env.qual ++ "<lambda>") ∈ T) (one : ∀ q ∈ T, q.1 = P → q.2 = X.env.qual ++ "<lambda>") (hr : Room (k + 2) X.A) (L : LamX.LamS X.env.scope sc) (df : defaultsOf pr X.env = ([], []))
    (bi : ∀ (q : Str) (cl : List (Str × Addr)) (pm cv ctv : Value), bindArgs (PySem.W.kla_fn "<lambda>" q pr bo sc cl pm cv ctv) ⟨[], []⟩ = pure [])
    (body : ∀ (A : Around) (outer : List Env) (s : Shared) (H : Hp) (E : XK) (f c' : Addr), Room k (A.deeper (LamX.lamEnv X sc s.heap.objs.size f c')) → PE (lamN X A outer s H E sc f c') bo (t E))
    (nx : (x == ("__debug__" : Str)) = false := by decide) (nd : (a == ("__debug__" : Str)) = false := by decide) (nc : (a == ("__classdict__" : Str)) = false := by decide) :
    PE X (.Call (.Name x p) [.Lambda pr bo sc lp] [] pos) (LamX.tLam T TT t) := by
  obtain ⟨_, _, _, _, _, _, cdv, _, _, rfl, lk, hcd⟩ := F.ex
  constructor
  rintro pins s σ H Q I ⟨tabs, want⟩
  refine wpAny_Call_Name_kw (ld_glob I hg hm (PySem.W.callWith_K (h₀ := X.base) I.ok.mod.kin kp ?_ (by rfl) (by rfl)) nx)
  change wpAny _ _ (spliced ((false, eval (.Lambda pr bo sc lp) X.env) :: backTo pos (starEach [] X.env))) _ _ s
  refine Calls.spliced_cons (LamX.lam_make2 I TB ec mT one tabs df (L.has I.ok) fun f c' pm ctv H1 s1 I1 eN T1 gf nf off co => Calls.spliced_nil ⟨I1.kIn, ?_⟩)
  have run : codeAny (model X.prog X.w) X.A (.call (.ref g) ⟨[.ref f], []⟩) (CR CX0 X.stack X.prog X.w H1 s1 Q E0) s1 := by
    refine LamX.run_ofS (N := Ng) (ps := [a]) (us := [.ref f]) (vs := [.ref f]) lk hcd Sg hr I1.env0 (hb s1 [.ref f] I1.kIn rfl) (.cons rfl .nil) rfl fun hr' => ?_
    obtain ⟨u, hu, q⟩ := hG cdv f c' s1 H1 Q (fun E G Q' => t E σ G Q') (fun W pn xe p1 p2 tk => pe_actN (i := 0) I1 L gf nf off (bi _ _ _ _ _) tk hr' (fun A o s2 H2 E hr2 => body A o s2 H2 E f c' hr2) at_ vi nd nc) co hr' (want H1 eN T1)
    exact ⟨u, hu.nox, q⟩
  refine wpAny_call (codeAny_mono run fun r s2 z => ?_)
  cases r with
  | error e => exact (show False from z).elim
  | ok fl => cases fl with
    | ret u => exact I1.after z
    | next => exact z.elim
    | brk => exact z.elim
    | cont => exact z.elim
end
end Gn
set_option Elab.async false
set_option linter.all false
set_option maxRecDepth 100000
set_option maxHeartbeats 4000000
/-! the end of a law whose defs make lambdas, no guards known ahead -/
namespace Gn
open PySem PySem.Spec PyProof.Rows L2
section
variable {P : Program} {w : World} {K : PySem.W.Frag} {mg mb : Str → Option Value}
/-- a table of code objects that is empty yet -/
def tabO : Obj := { cls := .none, data := .fields #[] }
theorem lawGT {CX : CXT} {k : Nat} {fa a : Addr} {cs : List (Addr × Addr)} {fd : FuncData} {x : Str} {sp : Sp} {s₁ : Shared} {vs : List Value} {ns : List Int}
    (KX : K.In s₁.heap) (hns : s₁.heap.Ns mainGlobals mg) (hb : s₁.heap.Ns builtinsNs mb) (hbb : ∀ x : Str, x ≠ "__name__" → mb x = bootBuiltins x) (hlim : s₁.heap.NoLimit) (hg : s₁.gens = #[])
    (T0 : ∀ p ∈ cs, s₁.heap.get? p.2 = some tabO) (T1 : ∀ p ∈ cs, K.lookup p.2 = none) (T2 : ∀ p ∈ cs, PySem.W.CodeHd s₁.heap p.1 p.2)
    (bm : ∃ (m : Addr) (o : Obj), mg "__builtins__" = some (.ref m) ∧ m ≠ builtinsNs ∧ s₁.heap.get? m = some o ∧ o.cls = .type "module" ∧ o.dict = some builtinsNs ∧ o.data = .plain)
    (ha : s₁.heap.get? a = some { cls := .type "list", data := .seq vs.toArray }) (hi : IntsAre vs ns) (hl : ns.length ≤ sizeLine) (hr : Room k callerA)
    (F : ∀ base : Heap, K.In base → base.Ns mainGlobals mg → (∀ p ∈ cs, LamX.TabB base mg p.1 p.2) → FnG P w K mg base CX k fa fd [x] sp) (hbind : ∀ (s : Shared) (u : Value), BindsTo s fd ⟨[u], []⟩ [(x, u)])
    (hsp : ∀ H : Hp, (∀ p ∈ cs, H p.2 = some (.tbl #[])) → SqL K H a (ns.map V.int) → sp [.ref a] H (fun v _ => v = .bl true) fun _ _ _ => False) (hCX : ∀ H e s', CX [] H s₁ (fun _ _ _ => False) e s' → False) :
    codeAny (model P w) callerA (.call (.ref fa) ⟨[.ref a], []⟩) (fun r s' => r = .ok (.ret (.bool true)) ∧ OldK s₁.heap s'.heap ∧ s'.os = s₁.os ∧ AllBare s'.gens) s₁ := by
  have rv := vals_ints hi
  have isT : ∀ b, b ∈ cs.map (·.2) → s₁.heap.get? b = some tabO := fun b m => by
    obtain ⟨p, pm, rfl⟩ := List.mem_map.mp m
    exact T0 p pm
  have nA : a ∉ cs.map (·.2) := fun m => by
    have z := (isT a m).symm.trans ha
    have z' := congrArg Obj.data (Option.some.inj z)
    cases z'
  have mT : ∀ p ∈ cs, p.2 ∈ cs.map (·.2) := fun p m => List.mem_map.mpr ⟨p, m, rfl⟩
  -- what is tracked at first: the tables, and the script where the kit's frame doesn't hold it
  let H0 : Hp := fun b => if b ∈ cs.map (·.2) then some (.tbl #[]) else if b = a ∧ K.lookup a = none then some (.frz { cls := .type "list", data := .seq vs.toArray } (.lst (ns.map V.int))) else none
  have HT : ∀ p ∈ cs, H0 p.2 = some (.tbl #[]) := fun p m => if_pos (mT p m)
  have HN : ∀ b, b ∉ cs.map (·.2) → ¬ (b = a ∧ K.lookup a = none) → H0 b = none := fun b m n => by
    show (if b ∈ cs.map (·.2) then _ else _) = _
    rw [if_neg m, if_neg n]
  have HA : K.lookup a = none → H0 a = some (.frz { cls := .type "list", data := .seq vs.toArray } (.lst (ns.map V.int))) := fun n => by
    show (if a ∈ cs.map (·.2) then _ else _) = _
    rw [if_neg nA, if_pos ⟨rfl, n⟩]
  have hS : SqL K H0 a (ns.map V.int) := by
    cases q : K.lookup a with
    | none => exact .inl (.inr ⟨_, HA q⟩)
    | some o =>
      have e := KX a o q
      rw [ha] at e
      cases e
      exact .inr ⟨_, vs.toArray, _, q, rfl, rfl, rfl, by rw [List.size_toArray, hi.length]; exact hl, by simpa using rv⟩
  have hok : HOk P w H0 s₁.heap := fun b u e => by
    by_cases m : b ∈ cs.map (·.2)
    · have e' : (some (HO.tbl #[]) : Option HO) = some u := (if_pos m).symm.trans e
      cases e'
      exact isT b m
    · by_cases n : b = a ∧ K.lookup a = none
      · obtain ⟨rfl, n⟩ := n
        cases (HA n).symm.trans e
        exact ⟨ha, by rw [List.length_map]; exact hl, vs, _, rv, ha⟩
      · cases (HN b m n).symm.trans e
  -- what is not tracked lies in the base
  have low : ∀ {b : Addr} {o : Obj}, s₁.heap.get? b = some o → (∀ vs n, o.data ≠ .seq vs n) → o.data ≠ .fields #[] → (hidT s₁.heap H0).get? b = some o := fun {b o} e h1 h2 => hidT_get e (HN b (fun m => by
      rw [isT b m] at e
      cases e
      exact h2 rfl) fun n => by
      rw [n.1, ha] at e
      cases e
      exact h1 _ _ rfl)
  have lowN : ∀ {b : Addr} {m : Str → Option Value}, s₁.heap.Ns b m → (hidT s₁.heap H0).Ns b m := fun {b m} ⟨o, es, ep, e, d, r⟩ => ⟨o, es, ep, low e (fun vs n z => by rw [d] at z; cases z) (fun z => by rw [d] at z; cases z), d, r⟩
  have kb : K.In (hidT s₁.heap H0) := fun b o e => hidT_get (KX b o e) (HN b (fun m => by
      obtain ⟨p, pm, rfl⟩ := List.mem_map.mp m
      rw [T1 p pm] at e
      cases e) fun n => by
      rw [n.1, n.2] at e
      cases e)
  have md : Mod K mg (hidT s₁.heap H0) := ⟨kb, lowN hns, ⟨mb, lowN hb, hbb⟩, let ⟨mc, h1, h2⟩ := hlim; ⟨mc, lowN h1, h2⟩⟩
  have TB : ∀ p ∈ cs, LamX.TabB (hidT s₁.heap H0) mg p.1 p.2 := fun p m => by
    have tp := T0 p m
    refine ⟨?_, ?_, fun z => ?_⟩
    · obtain ⟨o, us, c1, c2, c3, c4, c5, c6, c7, e, r1, r2, r3, r⟩ := T2 p m
      refine ⟨o, us, c1, c2, c3, c4, c5, c6, c7, low e (fun vs n z => ?_) (fun z => ?_), r1, r2, r3, r⟩
      · rw [r2] at z
        cases z
      · rw [r2] at z
        cases z
        simp at r3
    · obtain ⟨m0, o, b1, b2, b3, b4, b5, b6⟩ := bm
      refine ⟨m0, o, b1, b2, fun q => ?_, fun q => ?_, low b3 (fun vs n z => by rw [b6] at z; cases z) (fun z => by rw [b6] at z; cases z), b4, b5, b6⟩
      · obtain ⟨_, _, _, e, d, _⟩ := hns
        rw [q, e] at b3
        cases b3
        rw [d] at b6
        cases b6
      · rw [q, tp] at b3
        cases b3
        cases b6
    · obtain ⟨_, _, _, e, d, _⟩ := hns
      rw [z, tp] at e
      cases e
      cases d
  have e0 : Env0 P w K mg (hidT s₁.heap H0) callerA [] s₁ H0 := ⟨rfl, md, fun b o e => of_hidT e, Nat.le_of_eq (hidT_size _ _), trivial, fun b m => absurd (show b ∈ ([] : List Addr) from m) (by simp), hok, .of_eq hg⟩
  refine codeAny_mono ((F _ kb (lowN hns) TB).run callerA [] s₁ H0 ⟨[.ref a], []⟩ [.ref a] [.ref a] _ _ rfl hr e0 (hbind s₁ (.ref a)) (.cons rfl .nil) (hsp H0 HT hS)) fun r s' h => ?_
  cases r with
  | error e => exact (hCX H0 e s' h).elim
  | ok fl => cases fl with
    | next => exact False.elim h
    | brk => exact False.elim h
    | cont => exact False.elim h
    | ret u =>
      obtain ⟨v, H', os, bare, un, hok', r', q⟩ := h
      obtain rfl : v = .bl true := q
      obtain rfl : u = Value.bool true := r'
      have same : ∀ b o, b ∉ cs.map (·.2) → s₁.heap.get? b = some o → s'.heap.get? b = some o := fun b o m e => by
        by_cases n : b = a ∧ K.lookup a = none
        · obtain ⟨rfl, n⟩ := n
          obtain ⟨e1, _⟩ := hok b _ (HA n)
          obtain ⟨e2, _⟩ := hok' b _ (un.frzs b _ _ (HA n))
          exact e2.trans (e1.symm.trans e)
        · exact un.keep b o e (HN b m n) (fun z => nomatch z) (fun z => nomatch z)
      have more : ∀ p ∈ cs, ∃ ps : Array Value, s'.heap.get? p.2 = some { cls := .none, data := .fields ps } := fun p m => by
        obtain ⟨ps, z⟩ := un.tbls p.2 #[] (HT p m)
        exact ⟨_, hok' p.2 _ z⟩
      refine ⟨rfl, ⟨fun b o e => ?_, fun b o e => ?_⟩, os, bare⟩
      · by_cases m : b ∈ cs.map (·.2)
        · obtain ⟨p, pm, rfl⟩ := List.mem_map.mp m
          obtain ⟨ps, z⟩ := more p pm
          cases (T0 p pm).symm.trans e
          exact .inr (.inl ⟨((T2 p pm).tab (T0 p pm)).isCodeTable, rfl, #[], ps, rfl, by rw [Array.empty_append]; exact z⟩)
        · exact .inl (same b o m e)
      · by_cases m : b ∈ cs.map (·.2)
        · obtain ⟨p, pm, rfl⟩ := List.mem_map.mp m
          obtain ⟨ps, z⟩ := more p pm
          exact ⟨_, z⟩
        · exact ⟨o, same b o m e⟩
/-- what the head gives of the law -/
def LawAtG (l : PySem.W.OpenLaw) (w : World) (K : PySem.W.Frag) (CX : CXT) (k n : Nat) (x : Str) (mg : Str → Option Value) (fa : Addr) (h : Heap) : Prop :=
  ∃ (fd : FuncData) (cs : List (Addr × Addr)) (sp : Sp), (∀ p ∈ cs, h.get? p.2 = some tabO ∧ K.lookup p.2 = none ∧ PySem.W.CodeHd h p.1 p.2) ∧ (∀ (s : Shared) (u : Value), BindsTo s fd ⟨[u], []⟩ [(x, u)]) ∧
    (∀ (H : Hp) (a : Addr) (ns : List Int), ns.length ≤ n → (∀ p ∈ cs, H p.2 = some (.tbl #[])) → SqL K H a (ns.map V.int) → sp [.ref a] H (fun v _ => v = .bl true) fun _ _ _ => False) ∧
    ∀ base : Heap, K.In base → base.Ns mainGlobals mg → (∀ p ∈ cs, LamX.TabB base mg p.1 p.2) → FnG l.prog w K mg base CX k fa fd [x] sp
theorem walkGT {l : PySem.W.OpenLaw} {n k : Nat} {q : Program} {loose : List Str} {XP : (Str → Option Value) → Heap → Prop} {YP : World → Heap → Prop} {d : DefRec} {K : Params → PySem.W.Frag} {CX : World → CXT} {x : Str}
    (hn : l.most = some n) (hn2 : n ≤ sizeLine) (hdf : d.params.defaults = []) (hr : Room k callerA) (hY : ∀ (w : World) (h : Heap), YP w h → (K w.params).In h)
    (F : ∀ (w : World) (mg : Str → Option Value) (fa : Addr) (h : Heap), (∀ (y : Str) (e : DefRec) (c P : Addr), (recsOf q).find? (fun r => r.name == y) = some e → PySem.W.tabIn (K w.params) y = some (c, P) → PySem.W.CodeHd h c P ∧ h.get? P = some tabO) → (K w.params).In h → h.Ns mainGlobals mg → mg d.name = some (.ref fa) → LawAtG l w (K w.params) (CX w) k n x mg fa h)
    (hCX : ∀ (w : World) (H : Hp) (s : Shared) (e : Value) (s' : Shared), CX w [] H s (fun _ _ _ => False) e s' → False) : PySem.W.WalkO q loose XP YP l.row.toRowW d [] (fun f vs => PySem.call f vs) :=
  Att.attach_call hn hdf fun w s₀ s₁ mg mb fa o pm cd doc a vs ns G Y ho hd hcd hmg hobj hints hlen hg => by
    obtain ⟨fd, cs, sp, T, hb, hsp, hF⟩ := F w mg fa _ (fun y e c P h1 h2 => PySem.W.tab_of G.T (hY w _ Y) h1 h2) (hY w _ Y) G.T.g hmg
    exact lawGT (hY w _ Y) G.T.g G.T.b G.T.builtins G.T.nolimit hg (fun p m => (T p m).1) (fun p m => (T p m).2.1) (fun p m => (T p m).2.2) G.T.bmain hobj hints (Nat.le_trans hlen hn2) hr hF hb (fun H h1 h2 => hsp H a ns hlen h1 h2) fun H e s' => hCX w H s₁ e s'
end
end Gn
namespace Gn
open PySem PySem.Spec PyProof.Rows L2
/-- as funG0, the code object told -/
theorem funGC {P : Program} {w : World} {K : PySem.W.Frag} {mg : Str → Option Value} {base : Heap} {x qual : Str} {st : Stmt} {f : Addr} {fd : FuncData} {N ps : List Str} {k : Nat} {sp : Sp} (F : Fun K x qual st f fd) (S : FnScope N ps (defScope st)) (len : ∀ vs H Q E, sp vs H Q E → vs.length = ps.length)
    (hbody : ∀ (A : Around) (outer : List Env) (s : Shared) (H : Hp) (vs : List V) (Q : VK) (E : XK), (A.deeper (envOfC qual (defScope st) s.heap.objs.size f fd.code)).guards = some [] → Room k (A.deeper (envOfC qual (defScope st) s.heap.objs.size f fd.code)) → sp vs H Q E →
      ∃ t, PSs (cxOf CX0 P w K mg base N qual (defScope st) f fd.code A outer s H E).nox (defBody st) t ∧ t { nx := fun _ H' => Q .non H', rt := Q } (start N vs) H) : FnG P w K mg base CX0 (k + 1) f fd ps sp := by
  obtain ⟨oc, od, kV, doc, pm, an, cdv, ct, osl, rfl, lk, hcd⟩ := F.ex
  refine ⟨len, fun A outer s H args us vs Q E hg hr e0 hb r hsp => ?_⟩
  have KX : K.In s.heap := e0.mod.kin.keeps fun b o e => (e0.bs b o e).1
  have hkind : ∀ y ∈ ps.zip us, (defScope st).names.lookup y.1 = some .local ∨ ((defScope st).names.lookup y.1 = some .cell ∧ ((cellsFrom (s.heap.objs.size + 1) (defScope st).names []).lookup y.1).isSome = true) := fun y hy =>
    (S.par y.1 (List.of_mem_zip hy).1).elim .inl fun q => .inr ⟨q, PySem.W.cellsFrom_some _ _ _ (.inl q)⟩
  refine codeAny_call_function hr.depth (KX _ _ lk) rfl S.co S.gen rfl (PySem.W.codeRec_of KX hcd) (hb _ _ _ _ (wpAny_newFunctionEnv_cells S.kind hkind fun env he s1 x => ?_))
  subst he
  refine ⟨(e0.mod.nolimit.keeps fun b o e => (e0.bs b o e).1).keeps x.toInCall.keep, codeAny_func ?_⟩
  obtain ⟨t, ht, hq⟩ := hbody A outer s H vs Q E hg (hr.deeper _) hsp
  have I : Inv (cxOf CX0 P w K mg base N qual (defScope st) f cdv A outer s H E) [] (start N vs) H s1 := inv_start S hr.hd e0 (len _ _ _ _ hsp) r x
  refine wpAny_mono (ht.nox.run [] s1 (start N vs) H _ I hq) (fun fl s' hs => ?_) fun _ _ hs => hs
  cases fl with
  | ret u => obtain ⟨v, σ', H', J, rv, q⟩ := hs; exact ⟨v, H', J.os, J.bare, J.base, J.hok, rv, q⟩
  | next => obtain ⟨σ', H', J, q⟩ := hs; exact ⟨V.non, H', J.os, J.bare, J.base, J.hok, rfl, q⟩
  | brk => obtain ⟨_, _, _, q⟩ := hs; exact False.elim q
  | cont => obtain ⟨_, _, _, q⟩ := hs; exact False.elim q
end Gn
set_option Elab.async false
set_option linter.all false
set_option maxRecDepth 100000
set_option maxHeartbeats 8000000
/-! the head by facts, widened: own exceptions, a class's property, what lies deeper in a class -/
namespace Gn
open PySem PySem.Spec PyProof.Rows L2
/-- some steps further from these -/
def deep (g : Addr → Option Obj) : Nat → List Addr → List Addr
  | 0, l => l
  | n + 1, l => deep g n (He.growD g l)
/-- n steps from the module's names, and m more from what some of the names stand for -/
def asY (g : Addr → Option Obj) (n m : Nat) (xs : List Str) : List Addr := (fun l => l ++ deep g m (xs.map (He.ga (He.frG g l))) ++ [PySem.cStatics]) (He.asD g n)
/-- a property's function -/
def prF (K : PySem.W.Frag) (C : Addr) (f : Str) : Addr := match K.lookup (He.ma K C f) with
  | some ⟨_, _, .fields vs, _⟩ => (match vs.toList with
    | .ref a :: _ => a
    | _ => 0)
  | _ => 0
structure PrD where
  cls : Str
  name : Str
  qual : Str
  params : Arguments
  body : List Stmt
  scope : Scope
  cm : Bool
def PrD.at_ (K : PySem.W.Frag) (d : PrD) : Addr := if d.cm = true then He5.wf K (He.ga K d.cls) "classmethod" d.name else prF K (He.ga K d.cls) d.name
def PrD.val (d : PrD) : He.FnW := some (d.name, d.qual, d.params, .stmts d.body, d.scope, mainGlobals, [], builtinsNs)
def PrD.obs (K : PySem.W.Frag) (d : PrD) : He.FnW := match K.lookup (d.at_ K) with
  | some ⟨_, _, .func fd, _⟩ => some (fd.name, fd.qualname, fd.params, fd.body, fd.scope, fd.globals, fd.closure, fd.builtins)
  | _ => none
def PrD.fnB (K : PySem.W.Frag) (d : PrD) : Bool := PySem.W.keepIn K (.ref (d.at_ K)) && (match K.lookup (d.at_ K) with
  | some ⟨_, _, .func fd, _⟩ => PySem.W.codeIn K fd.code d.qual && (match fd.defaults, fd.kwdefaults with
    | .none, _ => true
    | _, _ => false)
  | _ => false)
/-- the property itself, or the classmethod -/
def PrD.prP (K : PySem.W.Frag) (d : PrD) : Bool := He.eqO (PySem.W.findIn K (.ref (He.ga K d.cls)) d.name) (some (some (.ref (He.ma K (He.ga K d.cls) d.name)))) &&
  (He.eqO (PySem.W.specialIn K (.ref (He.ma K (He.ga K d.cls) d.name)) "__get__") (some (some (.builtin "property.__get__"))) && (decide (PySem.W.takesIn K (.ref (He.ma K (He.ga K d.cls) d.name)) = some true) &&
  (match K.lookup (He.ma K (He.ga K d.cls) d.name) with
    | some ⟨.type t, _, .fields vs, _⟩ => decide (t = "property") && (match vs.toList with
      | .ref _ :: _ => true
      | _ => false)
    | _ => false)))
def PrD.prC (K : PySem.W.Frag) (d : PrD) : Bool := PySem.W.readsIn K (He.ga K d.cls) (.type "type") && (He.eqO (PySem.W.specialIn K (.ref (He.ga K d.cls)) "__getattribute__") (some (some (.builtin "type.__getattribute__"))) &&
  (He5.wrapB K (He.ga K d.cls) "classmethod" "classmethod.__get__" d.name && PySem.W.fnIn K (d.at_ K)))
def PrD.prB (K : PySem.W.Frag) (d : PrD) : Bool := if d.cm = true then d.prC K else d.prP K
theorem PrD.cmr {K : PySem.W.Frag} {d : PrD} (c : d.prB K = true) (k : d.cm = true) : ClX.CRead K (He.ga K d.cls) (.type "type") ∧ ClX.CMet K (He.ga K d.cls) (.type "type") d.name (He.ma K (He.ga K d.cls) d.name) (d.at_ K) := by
  unfold PrD.prB at c
  rw [if_pos k] at c
  obtain ⟨h1, c⟩ := He.ba c
  obtain ⟨h2, c⟩ := He.ba c
  obtain ⟨h3, h4⟩ := He.ba c
  unfold PrD.at_ at h4 ⊢
  rw [if_pos k] at h4 ⊢
  exact ⟨⟨h1, He.eqO_ok h2⟩, He5.cmet_of h3 h4⟩
theorem PrD.fn {K : PySem.W.Frag} {d : PrD} (e : d.obs K = d.val) (c : d.fnB K = true) : ∃ (oc : Value) (od : Option Addr) (kV doc pm : Value) (an : Option Addr) (cdv ct : Value) (osl : Array (Option Value)),
    K.lookup (d.at_ K) = some ⟨oc, od, .func (PySem.W.fnOf d.name d.qual d.params d.body d.scope .none kV doc pm an cdv ct), osl⟩ ∧ PySem.W.codeIn K cdv d.qual = true ∧ PySem.W.keepIn K (.ref (d.at_ K)) = true := by
  obtain ⟨kp, c2⟩ := He.ba c
  unfold PrD.obs at e
  split at e
  · rename_i oc od fd osl q
    rw [q] at c2
    obtain ⟨c3, c4⟩ := He.ba (show (PySem.W.codeIn K fd.code d.qual && (match fd.defaults, fd.kwdefaults with
      | .none, _ => true
      | _, _ => false)) = true from c2)
    obtain ⟨n1, n2, n3, n4, n5, n6, n7, n8, n9, n10, n11, n12, n13, n14, n15⟩ := fd
    have e2 : (some (n1, n2, n3, n4, n5, n6, n7, n15) : He.FnW) = some (d.name, d.qual, d.params, .stmts d.body, d.scope, mainGlobals, [], builtinsNs) := e
    simp only [Option.some.injEq, Prod.mk.injEq] at e2
    obtain ⟨h1, h2, h3, h4, h5, h6, h7, h8⟩ := e2
    subst h1 h2 h3 h4 h5 h6 h7 h8
    dsimp only at c4
    cases n8 with
    | none => exact ⟨oc, od, n9, n10, n11, n12, n13, n14, osl, q, c3, kp⟩
    | _ => cases c4
  · cases e
theorem PrD.pr {K : PySem.W.Frag} {d : PrD} (c : d.prB K = true) (k : d.cm = false := by rfl) : ∃ (p : Addr) (od : Option Addr) (vs : Array Value) (sl : Array (Option Value)) (rest : List Value), PySem.W.findIn K (.ref (He.ga K d.cls)) d.name = some (some (.ref p)) ∧
    PySem.W.specialIn K (.ref p) "__get__" = some (some (.builtin "property.__get__")) ∧ PySem.W.takesIn K (.ref p) = some true ∧ K.lookup p = some ⟨.type "property", od, .fields vs, sl⟩ ∧ vs.toList = .ref (d.at_ K) :: rest := by
  unfold PrD.prB at c
  rw [if_neg (by rw [k]; decide)] at c
  obtain ⟨c1, c⟩ := He.ba c
  obtain ⟨c2, c⟩ := He.ba c
  obtain ⟨c3, c⟩ := He.ba c
  split at c
  · rename_i t od vs sl q
    obtain ⟨c4, c5⟩ := He.ba c
    cases of_decide_eq_true c4
    split at c5
    · rename_i a rest ev
      have ea : d.at_ K = a := by
        unfold PrD.at_ prF
        rw [if_neg (by rw [k]; decide), q]
        dsimp only
        rw [ev]
      exact ⟨_, od, vs, sl, rest, He.eqO_ok c1, He.eqO_ok c2, of_decide_eq_true c3, q, by rw [ea]; exact ev⟩
    · cases c5
  · cases c
/-! ### further facts -/
inductive Fb where
  | bi (x : Str) (id : String)
  | own (x R : Str)
  | kit (x y : Str) (b : Bool)
  | kitT (x : Str) (t : String) (b : Bool)
  | glob
  | cut (x : Str)
  | ne (p q : He.Defn)
  | eqc (x : Str)
  | ownA (x R : Str)
  | mth (x m : Str)
def cutB (K : PySem.W.Frag) (a : Addr) : Bool := match K.lookup a with
  | some ⟨.type c, _, .seq ia _, _⟩ => decide (c = "tuple") && (match ia.toList with
    | [.ref b, .int i _] => decide (i = 0) && (match K.lookup b with
      | some ⟨.type c2, _, .seq ib _, _⟩ => decide (c2 = "tuple") && (match ib.toList with
        | [.int p _, .int q _] => decide (p = 1) && decide (q = 1)
        | _ => false)
      | _ => false)
    | _ => false)
  | _ => false
theorem cutB_ok {K : PySem.W.Frag} {a : Addr} (h : cutB K a = true) : ∃ (b : Addr) (oa ob : Option Addr) (sa sb : Array (Option Value)) (ia ib : Array Value) (na nb : Nat) (t0 t1 t2 : Tok),
    K.lookup a = some ⟨.type "tuple", oa, .seq ia na, sa⟩ ∧ ia.toList = [.ref b, .int 0 t0] ∧ K.lookup b = some ⟨.type "tuple", ob, .seq ib nb, sb⟩ ∧ ib.toList = [.int 1 t1, .int 1 t2] := by
  unfold cutB at h
  split at h
  · rename_i c oa ia na sa la
    obtain ⟨h1, ha⟩ := He.ba h
    cases of_decide_eq_true h1
    clear h h1
    split at ha
    · rename_i b i t0 ea
      obtain ⟨h2, hb⟩ := He.ba ha
      cases of_decide_eq_true h2
      clear ha h2
      split at hb
      · rename_i c2 ob ib nb sb lb
        obtain ⟨h3, hc⟩ := He.ba hb
        cases of_decide_eq_true h3
        clear hb h3
        split at hc
        · rename_i p t1 q t2 eb
          obtain ⟨h4, h5⟩ := He.ba hc
          cases of_decide_eq_true h4
          cases of_decide_eq_true h5
          exact ⟨b, oa, ob, sa, sb, ia, ib, na, nb, t0, t1, t2, la, ea, lb, eb⟩
        · cases hc
      · cases hb
    · cases ha
  · cases h
/-- an own class over ValueError by a class of ours -/
def ownB (K : PySem.W.Frag) (C R : Addr) : Bool := match K.lookup C with
  | some ⟨.type m, _, .cls cd, sl⟩ => decide (m = "type") && (match cd.mro, sl.toList with
    | .ref C' :: .ref R' :: tl, [_, _, _, _, some (.builtin n), _] => decide (C' = C) && (decide (R' = R) && (decide (n = "ValueError.__new__") && (!cd.hasDel && (cd.hasDict && decide (tl = He.veBase)))))
    | _, _ => false)
  | _ => false
theorem ownB_ok {K : PySem.W.Frag} {C R : Addr} (h : ownB K C R = true) : ∃ (nm q : Str) (N : Addr) (bs : List Value) (sn : List Str) (sub : List Value) (ab : Bool) (col : Option Bool) (dd : Option Addr) (k0 k1 k2 k3 k5 : Option Value),
    K.lookup C = some (excClassObj nm q C N bs (.ref R :: He.veBase) true sn sub ab col dd k0 k1 k2 k3 k5 "ValueError.__new__") := by
  unfold ownB at h
  split at h
  · rename_i m dd cd sl lk
    obtain ⟨h1, ha⟩ := He.ba h
    cases of_decide_eq_true h1
    clear h h1
    split at ha
    · rename_i C' R' tl k0 k1 k2 k3 n k5 em es
      obtain ⟨h2, hb⟩ := He.ba ha
      obtain ⟨h3, hc⟩ := He.ba hb
      obtain ⟨h4, hd⟩ := He.ba hc
      obtain ⟨h5, he⟩ := He.ba hd
      obtain ⟨h6, h7⟩ := He.ba he
      cases of_decide_eq_true h2
      cases of_decide_eq_true h3
      cases of_decide_eq_true h4
      cases of_decide_eq_true h7
      clear ha hb hc hd he h2 h3 h4 h7
      obtain ⟨nm, bs, mro, ns, qn, hd, sn, sub, ab, col, del⟩ := cd
      dsimp only at em h5 h6
      have h5 : del = false := by cases del; rfl; cases h5
      subst em h5 h6
      have esl : sl = #[k0, k1, k2, k3, some (.builtin "ValueError.__new__"), k5] := by
        obtain ⟨l⟩ := sl
        dsimp only at es
        rw [es]
      subst esl
      exact ⟨nm, qn, ns, bs, sn, sub, ab, col, dd, k0, k1, k2, k3, k5, lk⟩
    · cases ha
  · cases h
def ownC (K : PySem.W.Frag) (C R : Addr) : Bool := ownB K C R && (He.eqO (PySem.W.findIn K (.ref C) "__setattr__") (some (some (.builtin "object.__setattr__"))) && (decide (PySem.W.typeIn K (.ref C) = some (.type "type")) && (PySem.W.keepIn K (.ref C) && (xfB K C &&
  (He.eqO (PySem.W.findIn K (.ref C) "__class__") (some (some (.builtin "object.__class__"))) && (decide (PySem.W.mroIn K C (.type "object") = some true) && (He.eqO (PySem.W.findIn K (.ref C) "__init__") (some (some (.ref (He.ma K C "__init__")))) &&
  decide (PySem.W.typeIn K (.ref (He.ma K C "__init__")) = some (.type "function")))))))))
def aeBase : List Value := [.type "ArithmeticError", .type "Exception", .type "BaseException", .type "object"]
/-- an own class over ArithmeticError by a class of ours -/
def ownE (K : PySem.W.Frag) (C R : Addr) : Bool := match K.lookup C with
  | some ⟨.type m, _, .cls cd, sl⟩ => decide (m = "type") && (match cd.mro, sl.toList with
    | .ref C' :: .ref R' :: tl, [_, _, _, _, some (.builtin n), _] => decide (C' = C) && (decide (R' = R) && (decide (n = "ArithmeticError.__new__") && (!cd.hasDel && (cd.hasDict && decide (tl = aeBase)))))
    | _, _ => false)
  | _ => false
theorem ownE_ok {K : PySem.W.Frag} {C R : Addr} (h : ownE K C R = true) : ∃ (nm q : Str) (N : Addr) (bs : List Value) (sn : List Str) (sub : List Value) (ab : Bool) (col : Option Bool) (dd : Option Addr) (k0 k1 k2 k3 k5 : Option Value),
    K.lookup C = some (excClassObj nm q C N bs (.ref R :: aeBase) true sn sub ab col dd k0 k1 k2 k3 k5 "ArithmeticError.__new__") := by
  unfold ownE at h
  split at h
  · rename_i m dd cd sl lk
    obtain ⟨h1, ha⟩ := He.ba h
    cases of_decide_eq_true h1
    clear h h1
    split at ha
    · rename_i C' R' tl k0 k1 k2 k3 n k5 em es
      obtain ⟨h2, hb⟩ := He.ba ha
      obtain ⟨h3, hc⟩ := He.ba hb
      obtain ⟨h4, hd⟩ := He.ba hc
      obtain ⟨h5, he⟩ := He.ba hd
      obtain ⟨h6, h7⟩ := He.ba he
      cases of_decide_eq_true h2
      cases of_decide_eq_true h3
      cases of_decide_eq_true h4
      cases of_decide_eq_true h7
      clear ha hb hc hd he h2 h3 h4 h7
      obtain ⟨nm, bs, mro, ns, qn, hd, sn, sub, ab, col, del⟩ := cd
      dsimp only at em h5 h6
      have h5 : del = false := by cases del; rfl; cases h5
      subst em h5 h6
      have esl : sl = #[k0, k1, k2, k3, some (.builtin "ArithmeticError.__new__"), k5] := by
        obtain ⟨l⟩ := sl
        dsimp only at es
        rw [es]
      subst esl
      exact ⟨nm, qn, ns, bs, sn, sub, ab, col, dd, k0, k1, k2, k3, k5, lk⟩
    · cases ha
  · cases h
def ownD (K : PySem.W.Frag) (C R : Addr) : Bool := ownE K C R && (He.eqO (PySem.W.findIn K (.ref C) "__setattr__") (some (some (.builtin "object.__setattr__"))) && (decide (PySem.W.typeIn K (.ref C) = some (.type "type")) && (PySem.W.keepIn K (.ref C) && (xfB K C &&
  (He.eqO (PySem.W.findIn K (.ref C) "__class__") (some (some (.builtin "object.__class__"))) && (decide (PySem.W.mroIn K C (.type "object") = some true) && (He.eqO (PySem.W.findIn K (.ref C) "__init__") (some (some (.ref (He.ma K C "__init__")))) &&
  decide (PySem.W.typeIn K (.ref (He.ma K C "__init__")) = some (.type "function")))))))))
def globB (K : PySem.W.Frag) : Bool := He.eqO (PySem.W.specialIn K (.builtin "object.__class__") "__get__") (some (some (.builtin "getset_descriptor.__get__"))) && decide (PySem.W.takesIn K (.builtin "object.__class__") = some true)
/-- a class over object with an own __eq__, at f, and no __ne__ -/
def neB (K : PySem.W.Frag) (C f : Addr) : Bool := match K.lookup C with
  | some ⟨.type m, _, .cls cd, sl⟩ => decide (m = "type") && (match cd.mro, sl.toList with
    | [.ref C', .type o], [_, _, _, _, some (.builtin n), _] => decide (C' = C) && (decide (o = "object") && (!cd.hasDel && (PySem.W.nsOkIn K cd.ns && (He.eqO (PySem.W.nsIn K cd.ns "__eq__") (some (some (.ref f))) && He.eqO (PySem.W.nsIn K cd.ns "__ne__") (some none)))))
    | _, _ => false)
  | _ => false
/-- what a class with an own __eq__ and __repr__ has, and has not -/
def eqcB (K : PySem.W.Frag) (C : Addr) : Bool := He.eqO (PySem.W.findIn K (.ref C) "__class__") (some (some (.builtin "object.__class__"))) && (decide (PySem.W.mroIn K C (.type "object") = some true) && (decide (PySem.W.kitOne K (.ref C) (.ref C) = some true) && (decide (PySem.W.kitOne K (.type "tuple") (.ref C) = some false) &&
  (He.eqO (PySem.W.findIn K (.ref C) "__eq__") (some (some (.ref (He.ma K C "__eq__")))) && (PySem.W.isFn K (.ref (He.ma K C "__eq__")) && (PySem.W.notFirst K C (.type "tuple") && (neB K C (He.ma K C "__eq__") &&
  (He.eqO (PySem.W.findIn K (.ref C) "__repr__") (some (some (.ref (He.ma K C "__repr__")))) && (PySem.W.isFn K (.ref (He.ma K C "__repr__")) && (He.eqO (PySem.W.findIn K (.ref C) "__bool__") (some none) && He.eqO (PySem.W.findIn K (.ref C) "__len__") (some none)))))))))))
def Fb.ok (K : PySem.W.Frag) : Fb → Bool
  | .bi x id => He.eqO (PySem.W.nsIn K mainGlobals x) (some (some (.builtin id)))
  | .own x R => ownC K (He.ga K x) (He.ga K R)
  | .kit x y b => decide (PySem.W.kitOne K (.ref (He.ga K x)) (.ref (He.ga K y)) = some b)
  | .kitT x t b => decide (PySem.W.kitOne K (.ref (He.ga K x)) (.type t) = some b)
  | .glob => globB K
  | .cut x => cutB K (He.ga K x)
  | .ne p q => decide ((He.cT K p).2 ≠ (He.cT K q).2)
  | .eqc x => eqcB K (He.ga K x)
  | .ownA x R => ownD K (He.ga K x) (He.ga K R)
  | .mth x m => He.eqO (PySem.W.findIn K (.ref (He.ga K x)) m) (some (some (.ref (He.ma K (He.ga K x) m)))) && PySem.W.isFn K (.ref (He.ma K (He.ga K x) m))
theorem glob_ok {K : PySem.W.Frag} (h : Fb.glob.ok K = true) : PySem.W.specialIn K (.builtin "object.__class__") "__get__" = some (some (.builtin "getset_descriptor.__get__")) ∧ PySem.W.takesIn K (.builtin "object.__class__") = some true := by
  obtain ⟨h1, h2⟩ := He.ba (show globB K = true from h)
  exact ⟨He.eqO_ok h1, of_decide_eq_true h2⟩
theorem kit_ok {K : PySem.W.Frag} {x y : Str} {b : Bool} (h : (Fb.kit x y b).ok K = true) : PySem.W.kitOne K (.ref (He.ga K x)) (.ref (He.ga K y)) = some b := of_decide_eq_true h
theorem kitT_ok {K : PySem.W.Frag} {x : Str} {t : String} {b : Bool} (h : (Fb.kitT x t b).ok K = true) : PySem.W.kitOne K (.ref (He.ga K x)) (.type t) = some b := of_decide_eq_true h
theorem ne_ok {K : PySem.W.Frag} {p q : He.Defn} (h : (Fb.ne p q).ok K = true) : (He.cT K p).2 ≠ (He.cT K q).2 := of_decide_eq_true h
theorem bi_ok {K : PySem.W.Frag} {h : Heap} {mg : Str → Option Value} (X : K.In h) (G : h.Ns mainGlobals mg) {x : Str} {id : String} (c : (Fb.bi x id).ok K = true) : mg x = some (.builtin id) := PySem.W.mg_of X G (He.eqO_ok c)
/-- what stands of an own exception class -/
theorem own_ok {K : PySem.W.Frag} {C R : Addr} (g : globB K = true) (h : ownC K C R = true) : OwC K C ∧ XfC K C ∧ ExcC K C ∧ PySem.W.findIn K (.ref C) "__init__" = some (some (.ref (He.ma K C "__init__"))) ∧ PySem.W.typeIn K (.ref (He.ma K C "__init__")) = some (.type "function") := by
  obtain ⟨h1, h⟩ := He.ba h
  obtain ⟨h2, h⟩ := He.ba h
  obtain ⟨h3, h⟩ := He.ba h
  obtain ⟨h4, h⟩ := He.ba h
  obtain ⟨h5, h⟩ := He.ba h
  obtain ⟨h6, h⟩ := He.ba h
  obtain ⟨h7, h⟩ := He.ba h
  obtain ⟨h8, h9⟩ := He.ba h
  obtain ⟨g1, g2⟩ := He.ba g
  have xf := xfB_ok h5
  obtain ⟨nm, q, N, bs, sn, sub, ab, col, dd, k0, k1, k2, k3, k5, lk⟩ := ownB_ok h1
  exact ⟨⟨⟨nm, q, N, bs, .ref R :: He.veBase, sn, sub, ab, col, dd, k0, k1, k2, k3, k5, _, _, _, He.veBase, lk, .own .base, basV⟩, He.eqO_ok h2, xf.exC, of_decide_eq_true h3, h4⟩, xf, ⟨xf.ga, xf.gg, xf.exC, xf.hdC, He.eqO_ok h6, He.eqO_ok g1, of_decide_eq_true g2, of_decide_eq_true h7⟩, He.eqO_ok h8, of_decide_eq_true h9⟩
/-- what stands of an own exception class -/
theorem ownA_ok {K : PySem.W.Frag} {C R : Addr} (g : globB K = true) (h : ownD K C R = true) : OwC K C ∧ XfC K C ∧ ExcC K C ∧ PySem.W.findIn K (.ref C) "__init__" = some (some (.ref (He.ma K C "__init__"))) ∧ PySem.W.typeIn K (.ref (He.ma K C "__init__")) = some (.type "function") := by
  obtain ⟨h1, h⟩ := He.ba h
  obtain ⟨h2, h⟩ := He.ba h
  obtain ⟨h3, h⟩ := He.ba h
  obtain ⟨h4, h⟩ := He.ba h
  obtain ⟨h5, h⟩ := He.ba h
  obtain ⟨h6, h⟩ := He.ba h
  obtain ⟨h7, h⟩ := He.ba h
  obtain ⟨h8, h9⟩ := He.ba h
  obtain ⟨g1, g2⟩ := He.ba g
  have xf := xfB_ok h5
  obtain ⟨nm, q, N, bs, sn, sub, ab, col, dd, k0, k1, k2, k3, k5, lk⟩ := ownE_ok h1
  exact ⟨⟨⟨nm, q, N, bs, .ref R :: aeBase, sn, sub, ab, col, dd, k0, k1, k2, k3, k5, _, _, _, aeBase, lk, .own .base, basA⟩, He.eqO_ok h2, xf.exC, of_decide_eq_true h3, h4⟩, xf, ⟨xf.ga, xf.gg, xf.exC, xf.hdC, He.eqO_ok h6, He.eqO_ok g1, of_decide_eq_true g2, of_decide_eq_true h7⟩, He.eqO_ok h8, of_decide_eq_true h9⟩
/-! ### the Hook -/
structure SaysZ (fa : List He.Fa) (fn : List He.DefD) (tf : List He.Defn) (fb : List Fb) (ps : List PrD) (w : World) (h : Heap) (K : PySem.W.Frag) : Prop where
  d : He.SaysD fa fn K
  more : ∀ f ∈ fb, f.ok K = true
  prb : ∀ p ∈ ps, p.fnB K = true ∧ p.prB K = true
  pro : ps.map (PrD.obs K) = ps.map PrD.val
  hd : ∀ p ∈ tf, PySem.W.codeHdIn K (He.cT K p).1 (He.cT K p).2 = true
  out : ∀ p ∈ tf, K.lookup (He.cT K p).2 = none
  empty : ∀ p ∈ tf, h.get? (He.cT K p).2 = some tabO
abbrev AlZ : Type := (He.AlD × List He.FnW) × Bool
def exZ (fb : List Fb) (ps : List PrD) (tf : List He.Defn) (g : Addr → Option Obj) (K : PySem.W.Frag) : Bool := (fb.all fun f => f.ok K) && ((ps.all fun p => p.fnB K && p.prB K) && He.tabsB g tf K)
def obsK (fa : List He.Fa) (fn : List He.DefD) (tf : List He.Defn) (fb : List Fb) (ps : List PrD) (g : Addr → Option Obj) (K : PySem.W.Frag) : AlZ := ((He.obsD fa fn K, ps.map (PrD.obs K)), exZ fb ps tf g K)
def obsZ (n m : Nat) (xs : List Str) (fa : List He.Fa) (fn : List He.DefD) (tf : List He.Defn) (fb : List Fb) (ps : List PrD) (g : Addr → Option Obj) : AlZ := obsK fa fn tf fb ps g (He.frT g (asY g n m xs))
def valZ (fn : List He.DefD) (ps : List PrD) : AlZ := ((He.valD fn, ps.map PrD.val), true)
theorem saysZ_of {as : List Addr} {fa : List He.Fa} {fn : List He.DefD} {tf : List He.Defn} {fb : List Fb} {ps : List PrD} {w : World} {h : Heap} (e : obsK fa fn tf fb ps h.get? (He.frT h.get? as) = valZ fn ps) : SaysZ fa fn tf fb ps w h (He.frT h.get? as) := by
  have e0 : (He.obsD fa fn (He.frT h.get? as), ps.map (PrD.obs (He.frT h.get? as))) = (He.valD fn, ps.map PrD.val) := congrArg (fun z : AlZ => z.1) e
  have e3 : exZ fb ps tf h.get? (He.frT h.get? as) = true := congrArg (fun z : AlZ => z.2) e
  obtain ⟨e1, e2⟩ := Prod.mk.inj e0
  obtain ⟨a1, a2⟩ := He.ba e3
  obtain ⟨a3, a4⟩ := He.ba a2
  have T : ∀ p ∈ tf, PySem.W.codeHdIn (He.frT h.get? as) (He.cT (He.frT h.get? as) p).1 (He.cT (He.frT h.get? as) p).2 = true ∧ (match h.get? (He.cT (He.frT h.get? as) p).2 with
      | some o => He.emptyTab o
      | none => false) = true := fun p hp => He.ba (List.all_eq_true.mp a4 p hp)
  have T2 : ∀ p ∈ tf, ∃ o, h.get? (He.cT (He.frT h.get? as) p).2 = some o ∧ He.emptyTab o = true := fun p hp => by
    have z := (T p hp).2
    split at z
    · rename_i o q
      exact ⟨o, q, z⟩
    · cases z
  refine ⟨e1, fun f hf => List.all_eq_true.mp a1 f hf, fun p hp => He.ba (List.all_eq_true.mp a3 p hp), e2, fun p hp => (T p hp).1, fun p hp => ?_, fun p hp => ?_⟩
  · obtain ⟨o, q, z⟩ := T2 p hp
    exact He.frT_none q z
  · obtain ⟨o, q, z⟩ := T2 p hp
    rw [q, He.emptyTab_eq z]
    rfl
def hookZ (n m : Nat) (xs : List Str) (fa : List He.Fa) (fn : List He.DefD) (tf : List He.Defn) (fb : List Fb) (ps : List PrD) : PySem.W.Hook where
  α := AlZ
  obs := fun s => obsZ n m xs fa fn tf fb ps s.heap.get?
  val := fun _ => valZ fn ps
  says := fun w h => ∃ K : PySem.W.Frag, K.In h ∧ SaysZ fa fn tf fb ps w h K
  of := fun _ _ e => ⟨_, He.frT_in, saysZ_of e⟩
  keeps := fun _ _ _ z k => z.elim fun K y => ⟨K, PySem.W.Frag.In.keeps y.1 k, ⟨y.2.d, y.2.more, y.2.prb, y.2.pro, y.2.hd, y.2.out, fun p hp => k _ _ (y.2.empty p hp)⟩⟩
theorem obsZ_eq {n m : Nat} {xs : List Str} {fa : List He.Fa} {fn : List He.DefD} {tf : List He.Defn} {fb : List Fb} {ps : List PrD} {g : Addr → Option Obj} {s : Shared} (h : ∀ a, g a = s.heap.get? a) : obsZ n m xs fa fn tf fb ps g = (hookZ n m xs fa fn tf fb ps).obs s := by
  have e : g = s.heap.get? := funext h
  subst e
  rfl
section
variable {fa : List He.Fa} {fn : List He.DefD} {tf : List He.Defn} {fb : List Fb} {ps : List PrD} {w : World} {h : Heap} {K : PySem.W.Frag}
theorem SaysZ.fx (c : SaysZ fa fn tf fb ps w h K) (i : Nat) {f : Fb} (e : fb[i]? = some f := by rfl) : f.ok K = true := c.more f (List.mem_of_getElem? e)
theorem SaysZ.prop (c : SaysZ fa fn tf fb ps w h K) (i : Nat) {p : PrD} (e : ps[i]? = some p := by rfl) : p.obs K = p.val ∧ p.fnB K = true ∧ p.prB K = true := by
  have m := List.mem_of_getElem? e
  refine ⟨?_, c.prb p m⟩
  have e2 : (ps.map (PrD.obs K))[i]? = (ps.map PrD.val)[i]? := by rw [c.pro]
  rw [List.getElem?_map, List.getElem?_map, e] at e2
  exact Option.some.inj e2
theorem SaysZ.tab (c : SaysZ fa fn tf fb ps w h K) (X : K.In h) {p : He.Defn} (m : p ∈ tf) : h.get? (He.cT K p).2 = some tabO ∧ K.lookup (He.cT K p).2 = none ∧ PySem.W.CodeHd h (He.cT K p).1 (He.cT K p).2 := ⟨c.empty p m, c.out p m, PySem.W.codeHd_of_K X (c.hd p m)⟩
end
/-- a def without defaults, its code object told -/
theorem funZ {K : PySem.W.Frag} {x qual : Str} {st : Stmt} {p : He.Defn} {fd : FuncData} (F : FunD K x qual (defArgs st) (defBody st) (defScope st) [] [] (He.fAd K p) fd) : Fun K x qual st (He.fAd K p) fd ∧ fd.code = .ref (He.cT K p).1 := by
  obtain ⟨oc, od, dV, kV, doc, pm, an, cdv, ct, osl, e, lk, hcd, hD, _⟩ := F.ex
  obtain ⟨c, hc⟩ := He.codeIn_ref hcd
  rcases hD with ⟨_, rfl⟩ | ⟨e', _⟩
  · refine ⟨⟨⟨oc, od, kV, doc, pm, an, cdv, ct, osl, e, lk, hcd⟩, F.kp⟩, ?_⟩
    have z : fd.code = .ref c := by rw [e]; exact hc
    rw [z]
    exact congrArg Value.ref (He.codeOf_eq lk z).symm
  · exact absurd rfl e'
end Gn
set_option Elab.async false
set_option linter.all false
set_option maxRecDepth 100000
set_option maxHeartbeats 8000000
/-! the head by facts, widened once more: tuples ((p, q), i), what stands in tables, tables with text keys -/
namespace Gn
open PySem PySem.Spec PyProof.Rows L2
/-- ((p, q), i) in K -/
def cutV3 (K : PySem.W.Frag) (a : Addr) (p q i : Int) : Bool := match K.lookup a with
  | some ⟨.type c, _, .seq ia _, _⟩ => decide (c = "tuple") && (match ia.toList with
    | [.ref b, .int j _] => decide (j = i) && (match K.lookup b with
      | some ⟨.type c2, _, .seq ib _, _⟩ => decide (c2 = "tuple") && (match ib.toList with
        | [.int r _, .int s _] => decide (r = p) && decide (s = q)
        | _ => false)
      | _ => false)
    | _ => false)
  | _ => false
theorem cutV3_ok {K : PySem.W.Frag} {a : Addr} {p q i : Int} (h : cutV3 K a p q i = true) : ∀ H : Hp, Dp K H (.ref a) (.tuple [.tuple [.int p, .int q], .int i]) := by
  unfold cutV3 at h
  split at h
  · rename_i c oa ia na sa la
    obtain ⟨h1, ha⟩ := He.ba h
    cases of_decide_eq_true h1
    clear h h1
    split at ha
    · rename_i b j t0 ea
      obtain ⟨h2, hb⟩ := He.ba ha
      cases of_decide_eq_true h2
      clear ha h2
      split at hb
      · rename_i c2 ob ib nb sb lb
        obtain ⟨h3, hc⟩ := He.ba hb
        cases of_decide_eq_true h3
        clear hb h3
        split at hc
        · rename_i r t1 s t2 eb
          obtain ⟨h4, h5⟩ := He.ba hc
          cases of_decide_eq_true h4
          cases of_decide_eq_true h5
          intro H
          have za : ia.size ≤ sizeLine := by
            rw [← Array.length_toList, ea]
            exact (by decide : 2 ≤ sizeLine)
          have zb : ib.size ≤ sizeLine := by
            rw [← Array.length_toList, eb]
            exact (by decide : 2 ≤ sizeLine)
          refine .tup (xs := [.ref b, .int _]) (.inr ⟨_, ia, na, la, rfl, rfl, za, ?_⟩) (.cons (.tup (xs := [.int _, .int _]) (.inr ⟨_, ib, nb, lb, rfl, rfl, zb, ?_⟩) (.cons (.int _) (.cons (.int _) .nil))) (.cons (.int _) .nil))
          · rw [ea]
            exact .cons rfl (.cons ⟨t0, rfl⟩ .nil)
          · rw [eb]
            exact .cons ⟨t1, rfl⟩ (.cons ⟨t2, rfl⟩ .nil)
        · cases hc
      · cases hb
    · cases ha
  · cases h
inductive Fc where
  | cut3 (x : Str) (p q i : Int)
  | vals (x : Str) (kvs : List (Str × He.Dv))
def Fc.ok (K : PySem.W.Frag) : Fc → Bool
  | .cut3 x p q i => cutV3 K (He.ga K x) p q i
  | .vals x kvs => He.valsB K (He.ga K x) kvs
structure SaysY (fa : List He.Fa) (fn : List He.DefD) (tf : List He.Defn) (fb : List Fb) (ps : List PrD) (fc : List Fc) (ts : List He.Tab) (w : World) (h : Heap) (K : PySem.W.Frag) : Prop where
  z : SaysZ fa fn tf fb ps w h K
  c : ∀ f ∈ fc, f.ok K = true
  t : ts.map (fun t => He.dicW K (t.1 K)) = ts.map fun t => some (He.keysIn w.params t.2)
abbrev AlY : Type := (AlZ × Bool) × List (Option (List (Option (Str × Int))))
def obsKY (fa : List He.Fa) (fn : List He.DefD) (tf : List He.Defn) (fb : List Fb) (ps : List PrD) (fc : List Fc) (ts : List He.Tab) (g : Addr → Option Obj) (K : PySem.W.Frag) : AlY := ((obsK fa fn tf fb ps g K, fc.all fun f => f.ok K), ts.map fun t => He.dicW K (t.1 K))
def obsY (n m : Nat) (xs : List Str) (fa : List He.Fa) (fn : List He.DefD) (tf : List He.Defn) (fb : List Fb) (ps : List PrD) (fc : List Fc) (ts : List He.Tab) (g : Addr → Option Obj) : AlY := obsKY fa fn tf fb ps fc ts g (He.frT g (asY g n m xs))
def valY (fn : List He.DefD) (ps : List PrD) (ts : List He.Tab) (w : World) : AlY := ((valZ fn ps, true), ts.map fun t => some (He.keysIn w.params t.2))
theorem saysY_of {as : List Addr} {fa : List He.Fa} {fn : List He.DefD} {tf : List He.Defn} {fb : List Fb} {ps : List PrD} {fc : List Fc} {ts : List He.Tab} {w : World} {h : Heap} (e : obsKY fa fn tf fb ps fc ts h.get? (He.frT h.get? as) = valY fn ps ts w) : SaysY fa fn tf fb ps fc ts w h (He.frT h.get? as) := by
  have e1 : obsK fa fn tf fb ps h.get? (He.frT h.get? as) = valZ fn ps := congrArg (fun z : AlY => z.1.1) e
  have e2 : (fc.all fun f => f.ok (He.frT h.get? as)) = true := congrArg (fun z : AlY => z.1.2) e
  have e3 : ts.map (fun t => He.dicW (He.frT h.get? as) (t.1 (He.frT h.get? as))) = ts.map fun t => some (He.keysIn w.params t.2) := congrArg (fun z : AlY => z.2) e
  exact ⟨saysZ_of e1, fun f hf => List.all_eq_true.mp e2 f hf, e3⟩
def hookY (n m : Nat) (xs : List Str) (fa : List He.Fa) (fn : List He.DefD) (tf : List He.Defn) (fb : List Fb) (ps : List PrD) (fc : List Fc) (ts : List He.Tab) : PySem.W.Hook where
  α := AlY
  obs := fun s => obsY n m xs fa fn tf fb ps fc ts s.heap.get?
  val := fun w => valY fn ps ts w
  says := fun w h => ∃ K : PySem.W.Frag, K.In h ∧ SaysY fa fn tf fb ps fc ts w h K
  of := fun _ _ e => ⟨_, He.frT_in, saysY_of e⟩
  keeps := fun _ _ _ z k => z.elim fun K y => ⟨K, PySem.W.Frag.In.keeps y.1 k, ⟨⟨y.2.z.d, y.2.z.more, y.2.z.prb, y.2.z.pro, y.2.z.hd, y.2.z.out, fun p hp => k _ _ (y.2.z.empty p hp)⟩, y.2.c, y.2.t⟩⟩
theorem obsY_eq {n m : Nat} {xs : List Str} {fa : List He.Fa} {fn : List He.DefD} {tf : List He.Defn} {fb : List Fb} {ps : List PrD} {fc : List Fc} {ts : List He.Tab} {g : Addr → Option Obj} {s : Shared} (h : ∀ a, g a = s.heap.get? a) : obsY n m xs fa fn tf fb ps fc ts g = (hookY n m xs fa fn tf fb ps fc ts).obs s := by
  have e : g = s.heap.get? := funext h
  subst e
  rfl
section
variable {fa : List He.Fa} {fn : List He.DefD} {tf : List He.Defn} {fb : List Fb} {ps : List PrD} {fc : List Fc} {ts : List He.Tab} {w : World} {h : Heap} {K : PySem.W.Frag}
theorem SaysY.fc_ (c : SaysY fa fn tf fb ps fc ts w h K) (i : Nat) {f : Fc} (e : fc[i]? = some f := by rfl) : f.ok K = true := c.c f (List.mem_of_getElem? e)
theorem SaysY.tab_ (c : SaysY fa fn tf fb ps fc ts w h K) (i : Nat) {t : He.Tab} (e : ts[i]? = some t := by rfl) : ∃ es n, KDict K w (t.1 K) es n := by
  have e2 : (ts.map fun t => He.dicW K (t.1 K))[i]? = (ts.map fun t => some (He.keysIn w.params t.2))[i]? := by rw [c.t]
  rw [List.getElem?_map, List.getElem?_map, e] at e2
  exact He.dicW_ok (Option.some.inj e2)
end
end Gn
set_option Elab.async false
set_option linter.all false
set_option maxRecDepth 100000
set_option maxHeartbeats 8000000
namespace My
open PySem PySem.Spec PyProof.Rows L2 Gn
def topX (i : Nat) : Stmt := PySem.Challenge.pw_rimorders_k72_known_doubts.main.body.getD i (.Pass ⟨0, 0, 0, 0⟩)
/-- the first statement of a class -/
def innX : Stmt → Stmt
  | .ClassDef _ _ _ (s :: _) _ _ _ _ _ _ _ => s
  | s => s
def nmX0 : List PySem.Str := ("gcd" : PySem.Str) :: ("lcm" : PySem.Str) :: ("_wall" : PySem.Str) :: ("NotRight" : PySem.Str) :: ("InvalidText" : PySem.Str) :: ("InvalidNumber" : PySem.Str) :: ("InvalidSighting" : PySem.Str) :: ("NotALot" : PySem.Str) :: ("InvalidPieces" : PySem.Str) :: ("InvalidSightings" : PySem.Str) :: ("NotPossible" : PySem.Str) :: ("NoStep" : PySem.Str) :: ("is_integer" : PySem.Str) :: ("is_fraction" : PySem.Str) :: ("is_part" : PySem.Str) :: ("is_less" : PySem.Str) :: ("is_number" : PySem.Str) :: ("check_number" : PySem.Str) :: ("MOST_MARK" : PySem.Str) :: ("MOST_PART" : PySem.Str) :: ("lowest" : PySem.Str) :: ("mediant" : PySem.Str) :: ("_FIRST_CUT" : PySem.Str) :: ("_LAST_CUT" : PySem.Str) :: ("_BEYOND" : PySem.Str) :: ("_DIGITS" : PySem.Str) :: ("_GROUP" : PySem.Str) :: ("Lot" : PySem.Str) :: ("inside" : PySem.Str) :: ("both" : PySem.Str) :: ("either" : PySem.Str) :: ("check_lot" : PySem.Str) :: ("whole_lot" : PySem.Str) :: ("lot_where" : PySem.Str) :: ("fraction_text" : PySem.Str) :: []
def nmX1 : List PySem.Str := ("_first_wrong" : PySem.Str) :: ("_is_piece" : PySem.Str) :: ("_cuts_at" : PySem.Str) :: ("_is_ahead" : PySem.Str) :: ("_cuts_of" : PySem.Str) :: ("_lot_with" : PySem.Str) :: ("_covered" : PySem.Str) :: ("_text_of" : PySem.Str) :: ("_word_of" : PySem.Str) :: ("_digits_of" : PySem.Str) :: ("_read_pieces" : PySem.Str) :: ("_read_fraction" : PySem.Str) :: ("_are_digits" : PySem.Str) :: ("_read_digits" : PySem.Str) :: ("lot_of" : PySem.Str) :: ("check_sighting" : PySem.Str) :: ("check_sightings" : PySem.Str) :: ("is_sighting" : PySem.Str) :: ("whole_points" : PySem.Str) :: ("_points" : PySem.Str) :: ("_are_marks" : PySem.Str) :: ("_is_turn" : PySem.Str) :: ("_is_on" : PySem.Str) :: ("_is_within" : PySem.Str) :: ("_is_next" : PySem.Str) :: ("_fits" : PySem.Str) :: ("_way" : PySem.Str) :: ("_turn_is_right" : PySem.Str) :: ("_on_is_right" : PySem.Str) :: ("_within_is_right" : PySem.Str) :: ("_next_is_right" : PySem.Str) :: ("_turn_points" : PySem.Str) :: ("_on_points" : PySem.Str) :: ("_within_points" : PySem.Str) :: ("_next_points" : PySem.Str) :: []
def nmX2 : List PySem.Str := ("_FORMS" : PySem.Str) :: ("_RIGHT" : PySem.Str) :: ("_POINTS" : PySem.Str) :: ("_MOST_DOUBTED" : PySem.Str) :: ("lot_with" : PySem.Str) :: ("fewest_wrong" : PySem.Str) :: ("surely_wrong" : PySem.Str) :: ("surely_right" : PySem.Str) :: ("_check_doubted" : PySem.Str) :: ("_lot_with_steps" : PySem.Str) :: ("_lots_by_wrong" : PySem.Str) :: ("_law_reel" : PySem.Str) :: ("_law_spin" : PySem.Str) :: ("_law_right" : PySem.Str) :: []
def namesX : List PySem.Str := nmX0 ++ nmX1 ++ nmX2
def ddX0 : He.DefD := ⟨("is_integer", none), "is_integer", "is_integer", defArgs (topX 13), defBody (topX 13), defScope (topX 13), [], []⟩
def ddX1 : He.DefD := ⟨("lowest", none), "lowest", "lowest", defArgs (topX 22), defBody (topX 22), defScope (topX 22), [], []⟩
def ddX2 : He.DefD := ⟨("_cuts_of", none), "_cuts_of", "_cuts_of", defArgs (topX 42), defBody (topX 42), defScope (topX 42), [], []⟩
def ddX3 : He.DefD := ⟨("_covered", none), "_covered", "_covered", defArgs (topX 44), defBody (topX 44), defScope (topX 44), [], []⟩
def ddX4 : He.DefD := ⟨("is_fraction", none), "is_fraction", "is_fraction", defArgs (topX 14), defBody (topX 14), defScope (topX 14), [], []⟩
def ddX5 : He.DefD := ⟨("is_part", none), "is_part", "is_part", defArgs (topX 15), defBody (topX 15), defScope (topX 15), [], []⟩
def ddX6 : He.DefD := ⟨("is_less", none), "is_less", "is_less", defArgs (topX 16), defBody (topX 16), defScope (topX 16), [], []⟩
def ddX7 : He.DefD := ⟨("mediant", none), "mediant", "mediant", defArgs (topX 23), defBody (topX 23), defScope (topX 23), [], []⟩
def ddX8 : He.DefD := ⟨("_first_wrong", none), "_first_wrong", "_first_wrong", defArgs (topX 38), defBody (topX 38), defScope (topX 38), [], []⟩
def ddX9 : He.DefD := ⟨("_is_piece", none), "_is_piece", "_is_piece", defArgs (topX 39), defBody (topX 39), defScope (topX 39), [], []⟩
def ddX10 : He.DefD := ⟨("_cuts_at", none), "_cuts_at", "_cuts_at", defArgs (topX 40), defBody (topX 40), defScope (topX 40), [], []⟩
def ddX11 : He.DefD := ⟨("_is_ahead", none), "_is_ahead", "_is_ahead", defArgs (topX 41), defBody (topX 41), defScope (topX 41), [], []⟩
def ddX12 : He.DefD := ⟨("_lot_with", none), "_lot_with", "_lot_with", defArgs (topX 43), defBody (topX 43), defScope (topX 43), [], []⟩
def ddX13 : He.DefD := ⟨("both", none), "both", "both", defArgs (topX 32), defBody (topX 32), defScope (topX 32), [], []⟩
def ddX14 : He.DefD := ⟨("either", none), "either", "either", defArgs (topX 33), defBody (topX 33), defScope (topX 33), [], []⟩
def ddX15 : He.DefD := ⟨("inside", none), "inside", "inside", defArgs (topX 31), defBody (topX 31), defScope (topX 31), [], []⟩
def ddX16 : He.DefD := ⟨("check_lot", none), "check_lot", "check_lot", defArgs (topX 34), defBody (topX 34), defScope (topX 34), [], []⟩
def ddX17 : He.DefD := ⟨("whole_lot", none), "whole_lot", "whole_lot", defArgs (topX 35), defBody (topX 35), defScope (topX 35), [], []⟩
def ddX18 : He.DefD := ⟨("_digits_of", none), "_digits_of", "_digits_of", defArgs (topX 47), defBody (topX 47), defScope (topX 47), [], []⟩
def ddX19 : He.DefD := ⟨("fraction_text", none), "fraction_text", "fraction_text", defArgs (topX 37), defBody (topX 37), defScope (topX 37), [], []⟩
def ddX20 : He.DefD := ⟨("_word_of", none), "_word_of", "_word_of", defArgs (topX 46), defBody (topX 46), defScope (topX 46), [], []⟩
def ddX21 : He.DefD := ⟨("_text_of", none), "_text_of", "_text_of", defArgs (topX 45), defBody (topX 45), defScope (topX 45), [], []⟩
def ddX22 : He.DefD := ⟨("_way", none), "_way", "_way", defArgs (topX 65), defBody (topX 65), defScope (topX 65), [], []⟩
def ddX23 : He.DefD := ⟨("_turn_is_right", none), "_turn_is_right", "_turn_is_right", defArgs (topX 66), defBody (topX 66), defScope (topX 66), [], []⟩
def ddX24 : He.DefD := ⟨("_on_is_right", none), "_on_is_right", "_on_is_right", defArgs (topX 67), defBody (topX 67), defScope (topX 67), [], []⟩
def ddX25 : He.DefD := ⟨("_within_is_right", none), "_within_is_right", "_within_is_right", defArgs (topX 68), defBody (topX 68), defScope (topX 68), [], []⟩
def ddX26 : He.DefD := ⟨("_fits", none), "_fits", "_fits", defArgs (topX 64), defBody (topX 64), defScope (topX 64), [], []⟩
def ddX27 : He.DefD := ⟨("_turn_points", none), "_turn_points", "_turn_points", defArgs (topX 70), defBody (topX 70), defScope (topX 70), [], []⟩
def ddX28 : He.DefD := ⟨("_on_points", none), "_on_points", "_on_points", defArgs (topX 71), defBody (topX 71), defScope (topX 71), [], []⟩
def ddX29 : He.DefD := ⟨("_within_points", none), "_within_points", "_within_points", defArgs (topX 72), defBody (topX 72), defScope (topX 72), [], []⟩
def ddX30 : He.DefD := ⟨("whole_points", none), "whole_points", "whole_points", defArgs (topX 57), defBody (topX 57), defScope (topX 57), [], []⟩
def ddX31 : He.DefD := ⟨("_points", none), "_points", "_points", defArgs (topX 58), defBody (topX 58), defScope (topX 58), [], []⟩
def ddX32 : He.DefD := ⟨("lot_where", none), "lot_where", "lot_where", defArgs (topX 36), defBody (topX 36), defScope (topX 36), [], []⟩
def ddX33 : He.DefD := ⟨("lot_of", none), "lot_of", "lot_of", defArgs (topX 53), defBody (topX 53), defScope (topX 53), [], []⟩
def ddX34 : He.DefD := ⟨("check_sighting", none), "check_sighting", "check_sighting", defArgs (topX 54), defBody (topX 54), defScope (topX 54), [], []⟩
def ddX35 : He.DefD := ⟨("check_sightings", none), "check_sightings", "check_sightings", defArgs (topX 55), defBody (topX 55), defScope (topX 55), [], []⟩
def ddX36 : He.DefD := ⟨("is_sighting", none), "is_sighting", "is_sighting", defArgs (topX 56), defBody (topX 56), defScope (topX 56), [], []⟩
def ddX37 : He.DefD := ⟨("_are_marks", none), "_are_marks", "_are_marks", defArgs (topX 59), defBody (topX 59), defScope (topX 59), [], []⟩
def ddX38 : He.DefD := ⟨("_is_turn", none), "_is_turn", "_is_turn", defArgs (topX 60), defBody (topX 60), defScope (topX 60), [], []⟩
def ddX39 : He.DefD := ⟨("_is_on", none), "_is_on", "_is_on", defArgs (topX 61), defBody (topX 61), defScope (topX 61), [], []⟩
def ddX40 : He.DefD := ⟨("_is_within", none), "_is_within", "_is_within", defArgs (topX 62), defBody (topX 62), defScope (topX 62), [], []⟩
def ddX41 : He.DefD := ⟨("_lots_by_wrong", none), "_lots_by_wrong", "_lots_by_wrong", defArgs (topX 85), defBody (topX 85), defScope (topX 85), [], []⟩
def ddX42 : He.DefD := ⟨("lot_with", none), "lot_with", "lot_with", defArgs (topX 79), defBody (topX 79), defScope (topX 79), [], []⟩
def ddX43 : He.DefD := ⟨("fewest_wrong", none), "fewest_wrong", "fewest_wrong", defArgs (topX 80), defBody (topX 80), defScope (topX 80), [], []⟩
def ddX44 : He.DefD := ⟨("surely_wrong", none), "surely_wrong", "surely_wrong", defArgs (topX 81), defBody (topX 81), defScope (topX 81), [], []⟩
def ddX45 : He.DefD := ⟨("surely_right", none), "surely_right", "surely_right", defArgs (topX 82), defBody (topX 82), defScope (topX 82), [], []⟩
def ddX46 : He.DefD := ⟨("_check_doubted", none), "_check_doubted", "_check_doubted", defArgs (topX 83), defBody (topX 83), defScope (topX 83), [], []⟩
def ddX47 : He.DefD := ⟨("_lot_with_steps", none), "_lot_with_steps", "_lot_with_steps", defArgs (topX 84), defBody (topX 84), defScope (topX 84), [], []⟩
def ddX48 : He.DefD := ⟨("check_number", none), "check_number", "check_number", defArgs (topX 18), defBody (topX 18), defScope (topX 18), [], []⟩
def ddX49 : He.DefD := ⟨("is_number", none), "is_number", "is_number", defArgs (topX 17), defBody (topX 17), defScope (topX 17), [], []⟩
def ddX50 : He.DefD := ⟨("_law_spin", none), "_law_spin", "_law_spin", defArgs (topX 88), defBody (topX 88), defScope (topX 88), [], []⟩
def ddX51 : He.DefD := ⟨("_law_reel", none), "_law_reel", "_law_reel", defArgs (topX 87), defBody (topX 87), defScope (topX 87), [], []⟩
def ddX52 : He.DefD := ⟨("_law_right", none), "_law_right", "_law_right", defArgs (topX 89), defBody (topX 89), defScope (topX 89), [], []⟩
def ddX53 : He.DefD := ⟨("law", none), "law", "law", defArgs (topX 90), defBody (topX 90), defScope (topX 90), [], []⟩
def ddX54 : He.DefD := ⟨("Lot", some "__init__"), "__init__", "Lot.__init__", defArgs (inClass (topX 30) 0), defBody (inClass (topX 30) 0), defScope (inClass (topX 30) 0), [], []⟩
def ddX55 : He.DefD := ⟨("Lot", some "__eq__"), "__eq__", "Lot.__eq__", defArgs (inClass (topX 30) 5), defBody (inClass (topX 30) 5), defScope (inClass (topX 30) 5), [], []⟩
def fnsX : List He.DefD := ddX0 :: ddX1 :: ddX2 :: ddX3 :: ddX4 :: ddX5 :: ddX6 :: ddX7 :: ddX8 :: ddX9 :: ddX10 :: ddX11 :: ddX12 :: ddX13 :: ddX14 :: ddX15 :: ddX16 :: ddX17 :: ddX18 :: ddX19 :: ddX20 :: ddX21 :: ddX22 :: ddX23 :: ddX24 :: ddX25 :: ddX26 :: ddX27 :: ddX28 :: ddX29 :: ddX30 :: ddX31 :: ddX32 :: ddX33 :: ddX34 :: ddX35 :: ddX36 :: ddX37 :: ddX38 :: ddX39 :: ddX40 :: ddX41 :: ddX42 :: ddX43 :: ddX44 :: ddX45 :: ddX46 :: ddX47 :: ddX48 :: ddX49 :: ddX50 :: ddX51 :: ddX52 :: ddX53 :: ddX54 :: ddX55 :: []
def prX0 : PrD := ⟨"Lot", "pieces", "Lot.pieces", defArgs (inClass (topX 30) 2), defBody (inClass (topX 30) 2), defScope (inClass (topX 30) 2), false⟩
def prX1 : PrD := ⟨"Lot", "text", "Lot.text", defArgs (inClass (topX 30) 3), defBody (inClass (topX 30) 3), defScope (inClass (topX 30) 3), false⟩
def prsX : List PrD := prX0 :: prX1 :: []
def faX0 : List He.Fa := (He.Fa.glo "is_integer") :: (He.Fa.glo "lowest") :: (He.Fa.glo "_cuts_of") :: (He.Fa.glo "_covered") :: (He.Fa.glo "is_fraction") :: (He.Fa.glo "is_part") :: (He.Fa.glo "is_less") :: (He.Fa.glo "mediant") :: (He.Fa.glo "_first_wrong") :: (He.Fa.glo "_is_piece") :: (He.Fa.glo "_cuts_at") :: (He.Fa.glo "_is_ahead") :: (He.Fa.glo "_lot_with") :: (He.Fa.glo "both") :: (He.Fa.glo "either") :: (He.Fa.glo "inside") :: (He.Fa.glo "check_lot") :: (He.Fa.glo "whole_lot") :: (He.Fa.glo "_digits_of") :: (He.Fa.glo "fraction_text") :: (He.Fa.glo "_word_of") :: (He.Fa.glo "_text_of") :: (He.Fa.glo "_way") :: (He.Fa.glo "_turn_is_right") :: (He.Fa.glo "_on_is_right") :: (He.Fa.glo "_within_is_right") :: (He.Fa.glo "_fits") :: (He.Fa.glo "_turn_points") :: (He.Fa.glo "_on_points") :: (He.Fa.glo "_within_points") :: (He.Fa.glo "whole_points") :: (He.Fa.glo "_points") :: (He.Fa.glo "lot_where") :: (He.Fa.glo "lot_of") :: (He.Fa.glo "check_sighting") :: []
def faX1 : List He.Fa := (He.Fa.glo "check_sightings") :: (He.Fa.glo "is_sighting") :: (He.Fa.glo "_are_marks") :: (He.Fa.glo "_is_turn") :: (He.Fa.glo "_is_on") :: (He.Fa.glo "_is_within") :: (He.Fa.glo "_lots_by_wrong") :: (He.Fa.glo "lot_with") :: (He.Fa.glo "fewest_wrong") :: (He.Fa.glo "surely_wrong") :: (He.Fa.glo "surely_right") :: (He.Fa.glo "_check_doubted") :: (He.Fa.glo "_lot_with_steps") :: (He.Fa.glo "check_number") :: (He.Fa.glo "is_number") :: (He.Fa.glo "_law_spin") :: (He.Fa.glo "_law_reel") :: (He.Fa.glo "_law_right") :: (He.Fa.glo "law") :: (He.Fa.free "len") :: (He.Fa.free "int") :: (He.Fa.free "abs") :: (He.Fa.free "isinstance") :: (He.Fa.free "bool") :: (He.Fa.free "tuple") :: (He.Fa.free "range") :: (He.Fa.free "min") :: (He.Fa.free "max") :: (He.Fa.free "all") :: (He.Fa.free "sorted") :: (He.Fa.free "set") :: (He.Fa.free "str") :: (He.Fa.free "enumerate") :: (He.Fa.free "zip") :: (He.Fa.free "divmod") :: []
def faX2 : List He.Fa := (He.Fa.int "_GROUP" (Int.ofNat (10 ^ 600))) :: (He.Fa.int "MOST_MARK" (40)) :: (He.Fa.int "MOST_PART" (60)) :: (He.Fa.int "_MOST_DOUBTED" (8)) :: (He.Fa.glo "Lot") :: (He.Fa.cls "Lot") :: (He.Fa.mkr "Lot") :: (He.Fa.noat "Lot" "_pieces") :: (He.Fa.glo "_LAST_CUT") :: (He.Fa.glo "_FIRST_CUT") :: (He.Fa.glo "_BEYOND") :: (He.Fa.glo "_RIGHT") :: (He.Fa.glo "_POINTS") :: (He.Fa.glo "_FORMS") :: []
def fasX : List He.Fa := faX0 ++ faX1 ++ faX2
def fbX0 : List Fb := (.glob) :: (.bi "gcd" "math.gcd") :: (.bi "lcm" "math.lcm") :: (.eqc "Lot") :: []
def fbsX : List Fb := fbX0
def tfX : List He.Defn := ("lot_of", none) :: []
def dnX : List PySem.Str := ("Lot" : PySem.Str) :: ("_LAST_CUT" : PySem.Str) :: ("_FIRST_CUT" : PySem.Str) :: ("_BEYOND" : PySem.Str) :: []
def fcX : List Fc := (Fc.cut3 "_LAST_CUT" 1 1 0) :: (Fc.cut3 "_FIRST_CUT" 0 1 0) :: (Fc.cut3 "_BEYOND" 2 1 0) :: (Fc.vals "_RIGHT" ((("turn" : PySem.Str), He.Dv.glo "_turn_is_right") :: (("on" : PySem.Str), He.Dv.glo "_on_is_right") :: (("within" : PySem.Str), He.Dv.glo "_within_is_right") :: [])) :: (Fc.vals "_POINTS" ((("turn" : PySem.Str), He.Dv.glo "_turn_points") :: (("on" : PySem.Str), He.Dv.glo "_on_points") :: (("within" : PySem.Str), He.Dv.glo "_within_points") :: [])) :: (Fc.vals "_FORMS" ((("turn" : PySem.Str), He.Dv.glo "_is_turn") :: (("on" : PySem.Str), He.Dv.glo "_is_on") :: (("within" : PySem.Str), He.Dv.glo "_is_within") :: [])) :: []
def tsX : List He.Tab := ((fun K => He.ga K "_RIGHT"), (("turn" : PySem.Str) :: ("on" : PySem.Str) :: ("within" : PySem.Str) :: ("next" : PySem.Str) :: [])) :: ((fun K => He.ga K "_POINTS"), (("turn" : PySem.Str) :: ("on" : PySem.Str) :: ("within" : PySem.Str) :: ("next" : PySem.Str) :: [])) :: ((fun K => He.ga K "_FORMS"), (("turn" : PySem.Str) :: ("on" : PySem.Str) :: ("within" : PySem.Str) :: ("next" : PySem.Str) :: [])) :: []
abbrev RRX : PySem.W.OpenRow := PySem.W.OpenLaw.row PySem.Challenge.rw_rimorders_k72_known_doubts
abbrev hkX : PySem.W.Hook := hookY 2 5 dnX fasX fnsX tfX fbsX prsX fcX tsX
def obX (s : PySem.W.SharedT) : hkX.α := obsY 2 5 dnX fasX fnsX tfX fbsX prsX fcX tsX (HandSHeadRun.getT s)
theorem obX_eq (s : PySem.W.SharedT) : obX s = hkX.obs s.abs := obsY_eq (HandSHeadRun.getT_eq s)
abbrev qvX : Program := PySem.W.view RRX.prog [0, 90]
theorem runX_false (w : World) : HandSHeadRun.RunEqI RRX qvX hkX obX 9000 namesX (w.withFollow "special-get-raises" false) := by
  delta HandSHeadRun.RunEqI
  kernel_rfl
theorem runX_true (w : World) : HandSHeadRun.RunEqI RRX qvX hkX obX 9000 namesX (w.withFollow "special-get-raises" true) := by
  delta HandSHeadRun.RunEqI
  kernel_rfl
theorem runX (w : World) : HandSHeadRun.RunEqI RRX qvX hkX obX 9000 namesX w := PySem.W.byRow2 "special-get-raises" runX_false runX_true w
end My
set_option Elab.async false
set_option linter.all false
set_option maxRecDepth 100000
set_option maxHeartbeats 4000000
namespace Gn
open PySem PySem.Spec PyProof.Rows L2
/-! keywords in the contrary order, all of them -/
def kwR {α : Type} : List α → List α → List α
  | [], ws => ws.reverse
  | _, _ => []
theorem kbR {K : PySem.W.Frag} {fd : FuncData} {ps ks : List Str} (hk : ks = ps.reverse) (h0 : 0 < ps.length) (h : ∀ ws : List Value, ws.length = ps.length → bindArgs fd ⟨[], ks.zip ws⟩ = pure (ps.zip ws.reverse)) : KBinds K fd ps ks kwR kwR :=
  ⟨fun s us ws _ hl => match us, hl with
    | [], hl => .of_eq (h ws (by rw [← hl]; show ws.length = ws.reverse.length; rw [List.length_reverse]))
    | _ :: _, hl => absurd hl (by show ¬ 0 = ps.length; omega), fun {vs us zs ws} r rz => by
    cases r with
    | nil => exact Vals.reverse rz
    | cons _ _ => exact .nil⟩
theorem kwOfR {K : PySem.W.Frag} {x qual : Str} {st : Stmt} {f : Addr} {fd : FuncData} {ps ks : List Str} (F : Fun K x qual st f fd) (hk : ks = ps.reverse) (h0 : 0 < ps.length)
    (h : ∀ (kV doc pm : Value) (an : Option Addr) (cdv ct : Value) (ws : List Value), ws.length = ps.length → bindArgs (PySem.W.fnOf x qual (defArgs st) (defBody st) (defScope st) .none kV doc pm an cdv ct) ⟨[], ks.zip ws⟩ = pure (ps.zip ws.reverse)) : KBinds K fd ps ks kwR kwR := by
  obtain ⟨oc, od, kV, doc, pm, an, cdv, ct, osl, rfl, lk, hcd⟩ := F.ex
  exact kbR hk h0 fun ws hl => h kV doc pm an cdv ct ws hl
/-- divmod by a positive divisor of any size -/
theorem call_divmodW {X : Cx} : CallR X (.builtin "divmod") (fun xs H Q => ∃ i j, xs = [.int i, .int j] ∧ CDivW i j ∧ ∀ p, H p = none → Q (.ref p) (upd H p (.tup [.int (i / j), .int (i % j)]))) := by
  intro pins s σ H xs us Q I r h
  obtain ⟨i, j, rfl, ⟨h1, h2⟩, q⟩ := h
  obtain ⟨u, w', rfl, ⟨t, rfl⟩, ⟨t', rfl⟩⟩ := vals2 r
  refine divmod_int (by omega) ?_ (.inl (PyProof.noPylong_of_log2 h2))
  rw [Int.fdiv_eq_ediv_of_nonneg i (by omega), Int.fmod_eq_emod_of_nonneg i (by omega)]
  have hn : H s.heap.objs.size = none := I.hok.fresh (Nat.le_refl _)
  refine ⟨.ref s.heap.objs.size, _, ?_, rfl, q _ hn⟩
  refine I.laid (fun b o e => Heap.get?_push_of_some _ e) (Nat.le_refl _) ⟨by simp only [List.length_cons, List.length_nil]; rw [sizeLine_eq]; decide, [.int (i / j) s.toks, .int (i % j) (s.toks + 1)], .cons ⟨_, rfl⟩ (.cons ⟨_, rfl⟩ .nil), ?_⟩
  exact ⟨_, Heap.get?_push_size s.heap rfl, rfl, 0, rfl⟩
end Gn
namespace Gn
open PySem PySem.Spec PyProof.Rows L2
theorem pair_eqv {a b c d : Int} : PyData.eqv (.tuple [.int a, .int b]) (.tuple [.int c, .int d]) = decide (a = c ∧ b = d) := by
  rw [Bool.eq_iff_iff]
  simp [PyData.eqv, PyData.eqvAll]
/-- either branch, what holds of either -/
theorem tIf_anyG {tt : TT} {ta tb : TE} {σ : L2.St} {H : Hp} {Q : VK} (Φ : V → Hp → Prop) (c : Bool) (ht : ∀ R : Bool → Hp → Prop, R c H → tt σ H R)
    (h1 : c = true → ∀ R : VK, (∀ v H', Φ v H' → R v H') → ta σ H R) (h2 : c = false → ∀ R : VK, (∀ v H', Φ v H' → R v H') → tb σ H R) (k : ∀ v H', Φ v H' → Q v H') : tIf tt ta tb σ H Q := by
  refine ht _ ?_
  cases c with
  | true => exact iteT (h1 rfl Q k)
  | false => exact iteF (h2 rfl Q k)
end Gn
namespace Gn
open PySem PySem.Spec PyProof.Rows L2
/-- either branch, what holds of either; all may make new objects -/
theorem tIf_same {tt : TT} {ta tb : TE} {σ : L2.St} {H : Hp} {Q : VK} (Φ : V → Hp → Prop) (c : Bool) (ht : ∀ R : Bool → Hp → Prop, (∀ H', Same H H' → R c H') → tt σ H R)
    (h1 : c = true → ∀ H', Same H H' → ∀ R : VK, (∀ v H2, Φ v H2 → R v H2) → ta σ H' R) (h2 : c = false → ∀ H', Same H H' → ∀ R : VK, (∀ v H2, Φ v H2 → R v H2) → tb σ H' R) (k : ∀ v H', Φ v H' → Q v H') : tIf tt ta tb σ H Q := by
  refine ht _ fun H' s => ?_
  cases c with
  | true => exact iteT (h1 rfl H' s Q k)
  | false => exact iteF (h2 rfl H' s Q k)
end Gn
set_option Elab.async false
set_option linter.all false
set_option maxRecDepth 100000
set_option maxHeartbeats 4000000
set_option exponentiation.threshold 2000
namespace My
open PySem PySem.Spec PyProof.Rows L2 Gn
def top (i : Nat) : Stmt := PySem.Challenge.pw_rimorders_k72_known_doubts.main.body.getD i (.Pass ⟨0, 0, 0, 0⟩)
/-! the reel: what the laws of papers draw from -/
abbrev sReel : Stmt := top 87
abbrev sSpin : Stmt := top 88
theorem scReel : FnScope ["_law_script", "_law_at", "_law_mixed", "_law_cell", "_law_own"] ["_law_script", "_law_at"] (defScope sReel) := ⟨rfl, rfl, rfl, by decide +kernel, rfl, by decide +kernel, by decide +kernel⟩
theorem scSpin : FnScope ["_law_reel_here", "_law_many", "_law_figure", "_law_mixed"] ["_law_reel_here", "_law_many"] (defScope sSpin) := ⟨rfl, rfl, rfl, by decide +kernel, rfl, by decide +kernel, by decide +kernel⟩
/-- the built-ins that the text calls are still the built-ins -/
structure Bl (mg : Str → Option Value) : Prop where
  len : mg "len" = none
  int : mg "int" = none
  abs : mg "abs" = none
  dv : mg "divmod" = none
/-- a reel at t: the mixed number, what is left of the great cell, how often it was spun, N times at most -/
def Reel (H : Hp) (t : Addr) (N : Int) : Prop := ∃ a b c : Int, H t = some (.lst [.int a, .int b, .int c]) ∧ 0 ≤ a ∧ a < 2147482313 ∧ 0 ≤ b ∧ 0 ≤ c ∧ c ≤ N
/-- all but t is as it was, t is a reel -/
structure Spun (H H' : Hp) (t : Addr) (N : Int) : Prop where
  r : Reel H' t N
  keep : ∀ b o, H b = some o → b ≠ t → H' b = some o
theorem Reel.not {H : Hp} {t b : Addr} {N : Int} (T : Reel H t N) (h : H b = none) : b ≠ t := by
  obtain ⟨_, _, _, h1, _⟩ := T
  exact (ne_of_none h1 h).symm
theorem Reel.same {H H1 : Hp} {t : Addr} {N : Int} (T : Reel H t N) (s : Same H H1) : Reel H1 t N := by
  obtain ⟨a, b, c, h, r⟩ := T
  exact ⟨a, b, c, s _ _ h, r⟩
theorem Reel.le {H : Hp} {t : Addr} {N M : Int} (T : Reel H t N) (h : N ≤ M) : Reel H t M := by
  obtain ⟨a, b, c, z, h1, h2, h3, h4, h5⟩ := T
  exact ⟨a, b, c, z, h1, h2, h3, h4, by omega⟩
theorem Spun.trans {H H1 H2 : Hp} {t : Addr} {N M : Int} (a : Spun H H1 t N) (b : Spun H1 H2 t M) : Spun H H2 t M := ⟨b.r, fun c o e n => b.keep c o (a.keep c o e n) n⟩
theorem Spun.ofSame {H H1 : Hp} {t : Addr} {N : Int} (T : Reel H t N) (s : Same H H1) : Spun H H1 t N := ⟨T.same s, fun c o e _ => s c o e⟩
theorem Spun.le {H H1 : Hp} {t : Addr} {N M : Int} (a : Spun H H1 t N) (h : N ≤ M) : Spun H H1 t M := ⟨a.r.le h, a.keep⟩
theorem Spun.free {H H1 : Hp} {t p : Addr} {N : Int} (s : Spun H H1 t N) (h : H1 p = none) : H p = none := by
  cases q : H p with
  | none => rfl
  | some o =>
    have n : p ≠ t := by
      rintro rfl
      obtain ⟨_, _, _, e, _⟩ := s.r
      rw [h] at e; cases e
    rw [s.keep p o q n] at h
    cases h
def spReel (K : PySem.W.Frag) : Sp := fun vs H Q _ => ∃ (a : Addr) (ns : List Int) (t : Int), vs = [.ref a, .int t] ∧ SqL K H a (ns.map V.int) ∧ 0 ≤ t ∧ t ≤ 100 ∧
  ∀ p H', Same H H' → H p = none → Reel H' p 0 → Q (.ref p) H'
def spSpin : Sp := fun vs H Q _ => ∃ (t : Addr) (n N : Int), vs = [.ref t, .int n] ∧ Reel H t N ∧ N < 2 ^ 60 ∧ 0 < n ∧ n.natAbs < 2 ^ 200 ∧ ∀ d H', 0 ≤ d → d < n → Spun H H' t (N + 1) → Q (.int d) H'
theorem nzA : (2147482291 : Int) ≠ 0 := by decide
theorem nzB : (2147482313 : Int) ≠ 0 := by decide
theorem nzC : (3607 : Int) ≠ 0 := by decide
section
variable {P : Program} {w : World} {K : PySem.W.Frag} {mg : Str → Option Value} {base : Heap}
theorem ok_reel {f : Addr} {fd : FuncData} (F : Fun K "_law_reel" "_law_reel" sReel f fd) (B : Bl mg) : FnOk P w K mg base CX0 1 f fd ["_law_script", "_law_at"] (spReel K) := by
  refine F.ok scReel (fun vs H Q E h => ?_) (fun cdv A outer s H vs Q E hr h => ?_)
  · obtain ⟨a, ns, t, rfl, _⟩ := h
    rfl
  · obtain ⟨a, ns, t, rfl, hS, t0, t1, q⟩ := h
    refine ⟨_, pss_cons (ps_set (i := 2) scReel.nd rfl (.inl rfl) (pe_op op_add pe_int (pe_op op_mul pe_int (pv 1))))
      (pss_cons (ps_for PassesOwn.never rfl (pi_list (pe_slice sl_list (pv 0) po_none (po_some pe_int))) (pg_name (i := 3) scReel.nd rfl (.inl rfl))
        (pss_one (ps_set (i := 2) scReel.nd rfl (.inl rfl) (pe_op op_modN (pe_callTy call_int1 (by rfl) B.int (by decide +kernel) (pa_cons (pe_op op_add (pe_op op_mul (pv 2) pe_int) (pv 3)) pa_nil)) pe_int))))
      (pss_cons (ps_set (i := 4) scReel.nd rfl (.inl rfl) (pe_ifExp (pt_cmpR op_lt (pv 1) (pe_callB call_len_seq (by rfl) B.len PySem.boot_len (pa_cons (pv 0) pa_nil)) (nomark _))
        (pe_ix ix_list (pv 0) (pv 1) (fun _ _ => rfl)) (pe_op op_add (pe_op op_mul pe_int (pv 1)) pe_int)))
      (pss_one (ps_ret (pe_lst (pa_cons (pe_op op_modN (pe_callTy call_int1 (by rfl) B.int (by decide +kernel) (pa_cons (pe_op op_add (pe_op op_add (pe_op op_mul (pv 2) pe_int) (pe_op op_mul (pv 4) pe_int)) pe_int) pa_nil)) pe_int)
          (pa_cons (pe_ifExp (pt_cmpR op_ge (pe_callB call_abs (by rfl) B.abs (by decide +kernel) (pa_cons (pv 4) pa_nil)) (pe_op op_pow pe_int pe_int) (nomark _)) (pe_callB call_abs (by rfl) B.abs (by decide +kernel) (pa_cons (pv 4) pa_nil)) pe_int)
          (pa_cons pe_int pa_nil)))))))), ?_⟩
    refine ⟨_, rfl, _, _, rfl, rfl, .inl ⟨by decide, by decide⟩, _, _, rfl, rfl, ?_⟩
    refine ⟨_, rfl, 5, rfl, a, _, rfl, hS, fun p hp => ⟨p, rfl, ⟨_, .inl (.inl upd_same)⟩, ?_⟩⟩
    have sm := same_put (o := .lst (cutV (ns.map V.int) none (some 5))) hp
    refine for_list (K := K) (a := p) (xs := cutV (ns.map V.int) none (some 5)) (fun i σ H' => ∃ (st : Int) (y : Option V), σ = [some (.ref a), some (.int t), some (.int st), y, none] ∧ 0 ≤ st ∧ st ≤ 2147483647 ∧ H' = upd H p (.lst (cutV (ns.map V.int) none (some 5))))
      ⟨90007 + 8009 * t, none, rfl, by omega, by omega, rfl⟩ (fun i σ H' _ ⟨_, _, _, _, _, e⟩ => by rw [e]; exact .inl (.inl upd_same)) ?_ ?_
    · rintro i x σ H' hi ⟨st, y, rfl, s0, s1, rfl⟩
      obtain ⟨z, rfl⟩ := int_at (cut_mem (List.mem_of_getElem? hi))
      refine ⟨_, rfl, _, _, rfl, rfl, .inl ⟨by omega, by omega⟩, _, rfl, _, _, rfl, rfl, .inl ⟨_, rfl, _, _, rfl, rfl, nzA, ?_⟩⟩
      exact ⟨_, _, rfl, fmod_ge (by decide), Int.le_trans (Int.le_of_lt (fmod_lt (by decide))) (by decide), rfl⟩
    · rintro σ H' ⟨st, y, rfl, s0, s1, rfl⟩
      refine ⟨_, rfl, _, rfl, a, _, rfl, .inl (sm.seq hS), _, _, rfl, rfl, _, rfl, ?_⟩
      refine tif (.int (ns.getD t.toNat 0)) (.int (37 * t + 19)) (fun hc R z => ?_) (fun _ R z => ?_) (fun v e1 e2 => ?_)
      · have hl : t.toNat < ns.length := by have := of_decide_eq_true hc; rw [List.length_map] at this; omega
        exact ⟨_, rfl, _, rfl, a, _, t, .int (ns.getD t.toNat 0), rfl, rfl, sm.seq hS, at_of (j := t.toNat) (by omega) (by rw [List.getElem?_map, List.getElem?_eq_getElem hl, List.getD_eq_getElem?_getD, List.getElem?_eq_getElem hl]; rfl), z⟩
      · exact ⟨_, rfl, _, _, rfl, rfl, .inl ⟨by decide, by decide⟩, _, _, rfl, rfl, z⟩
      obtain ⟨e, rfl⟩ : ∃ e, v = V.int e := by
        rcases Bool.eq_false_or_eq_true (decide (t < ↑(List.map V.int ns).length)) with z | z
        · exact ⟨_, e1 z⟩
        · exact ⟨_, e2 z⟩
      refine ⟨_, rfl, _, _, rfl, rfl, .inl ⟨by omega, by omega⟩, _, rfl, _, _, rfl, rfl, .inr ⟨by decide, by decide⟩, _, _, rfl, rfl, _, _, rfl, rfl, .inl ⟨_, rfl, _, _, rfl, rfl, nzA, ?_⟩⟩
      refine ⟨_, rfl, _, rfl, _, _, rfl, rfl, ⟨by decide, by decide, by decide⟩, _, _, rfl, rfl, _, rfl, ?_⟩
      refine tif (.int (if e < 0 then -e else e)) (.int 0) (fun _ R z => ⟨_, rfl, _, rfl, z⟩) (fun _ R z => z) (fun v e1 e2 => ?_)
      obtain ⟨b, rfl, hb⟩ : ∃ b, v = V.int b ∧ 0 ≤ b := by
        rcases Bool.eq_false_or_eq_true (decide ((10 : Int) ^ (17 : Int).toNat ≤ if e < 0 then -e else e)) with z | z
        · exact ⟨_, e1 z, by split <;> omega⟩
        · exact ⟨_, e2 z, by decide⟩
      refine ⟨(by show 3 ≤ sizeLine; decide), fun r hr' => ?_⟩
      exact q r _ (sm.trans (same_put hr')) (sm.free hr') ⟨_, _, _, upd_same, fmod_ge (by decide), Int.lt_of_lt_of_le (fmod_lt (by decide)) (by decide), hb, by decide, by decide⟩
theorem ok_spin {f : Addr} {fd : FuncData} (F : Fun K "_law_spin" "_law_spin" sSpin f fd) (B : Bl mg) : FnOk P w K mg base CX0 1 f fd ["_law_reel_here", "_law_many"] spSpin := by
  refine F.ok scSpin (fun vs H Q E h => ?_) (fun cdv A outer s H vs Q E hr h => ?_)
  · obtain ⟨t, n, N, rfl, _⟩ := h
    rfl
  · obtain ⟨t, n, N, rfl, ⟨a, b, c, hT, a0, a1, b0, c0, cN⟩, NN, n0, n1, q⟩ := h
    have c60 : c < 2 ^ 60 := by omega
    refine ⟨_, pss_cons (ps_if (pt_cmpR op_gt (pe_ix ix_list (pv 0) pe_int (fun _ _ => rfl)) pe_int (nomark _))
        (pss_cons (ps_asg (pe_callB call_divmodW (by rfl) B.dv (by decide +kernel) (pa_cons (pe_ix ix_list (pv 0) pe_int (fun _ _ => rfl)) (pa_cons (pv 1) pa_nil))) (pg_tup (by rfl) (pgs_cons (pg_sub (pv 0) pe_int set_list) (pgs_cons (pg_name (i := 2) scSpin.nd rfl (.inl rfl)) pgs_nil))))
        (pss_one (ps_ret (pv 2)))) pss_nil)
      (pss_cons (ps_asg (pe_op op_add (pe_ix ix_list (pv 0) pe_int (fun _ _ => rfl)) pe_int) (pg_sub (pv 0) pe_int set_list))
      (pss_cons (ps_set (i := 3) scSpin.nd rfl (.inl rfl) (pe_op op_modN (pe_callTy call_int1 (by rfl) B.int (by decide +kernel) (pa_cons (pe_op op_add (pe_op op_add (pe_op op_mul (pe_ix ix_list (pv 0) pe_int (fun _ _ => rfl)) pe_int) (pe_op op_mul (pe_op op_mul (pe_ix ix_list (pv 0) pe_int (fun _ _ => rfl)) (pe_ix ix_list (pv 0) pe_int (fun _ _ => rfl))) pe_int)) pe_int) pa_nil)) pe_int))
      (pss_cons (ps_asg (pe_op op_modN (pe_callTy call_int1 (by rfl) B.int (by decide +kernel) (pa_cons (pe_op op_add (pe_op op_mul (pv 3) (pe_op op_add pe_int (pe_op op_modN (pe_callTy call_int1 (by rfl) B.int (by decide +kernel) (pa_cons (pv 3) pa_nil)) pe_int))) pe_int) pa_nil)) pe_int) (pg_sub (pv 0) pe_int set_list))
      (pss_one (ps_ret (pe_op op_modN (pe_callTy call_int1 (by rfl) B.int (by decide +kernel) (pa_cons (pe_op op_fdivW (pe_ix ix_list (pv 0) pe_int (fun _ _ => rfl)) pe_int) pa_nil)) (pv 1))))))), ?_⟩
    refine ⟨_, rfl, t, _, 1, .int b, rfl, rfl, SqL.of hT, at_of (j := 1) rfl rfl, _, _, rfl, rfl, _, rfl, ?_⟩
    refine ite2 (fun hc => ?_) (fun hc => ?_)
    · have hb : 0 < b := of_decide_eq_true hc
      refine ⟨_, rfl, t, _, 1, .int b, rfl, rfl, SqL.of hT, at_of (j := 1) rfl rfl, _, rfl, b, n, rfl, wide_div n0 n1 (by decide) (by decide), fun p hp => ?_⟩
      have s1 := same_put (o := HO.tup [.int (b / n), .int (b % n)]) hp
      refine ⟨p, _, rfl, SqT.of upd_same, rfl, ?_⟩
      refine ⟨_, _, rfl, _, rfl, t, _, _, 1, rfl, rfl, s1 _ _ hT, rfl, _, _, rfl, rfl, _, rfl, ?_⟩
      refine q _ _ (Int.emod_nonneg _ (by omega)) (Int.emod_lt_of_pos _ n0) ⟨⟨_, _, _, upd_same, a0, a1, Int.ediv_nonneg b0 (by omega), c0, by omega⟩, fun z o e hz => ?_⟩
      rw [upd_ne hz]
      exact s1 _ _ e
    · refine ⟨_, rfl, t, _, 2, .int c, rfl, rfl, SqL.of hT, at_of (j := 2) rfl rfl, _, _, rfl, rfl, _, rfl, t, _, _, 2, rfl, rfl, hT, rfl, ?_⟩
      have h1 : upd H t (.lst ([V.int a, V.int b, V.int c].set 2 (V.int (c + 1)))) t = some (.lst [.int a, .int b, .int (c + 1)]) := upd_same
      refine ⟨_, rfl, t, _, 0, .int a, rfl, rfl, SqL.of h1, at_of (j := 0) rfl rfl, _, _, rfl, rfl, .inl ⟨by omega, by omega⟩, _, rfl, t, _, 2, .int (c + 1), rfl, rfl, SqL.of h1, at_of (j := 2) rfl rfl, _, rfl, t, _, 2, .int (c + 1), rfl, rfl, SqL.of h1, at_of (j := 2) rfl rfl, _, _, rfl, rfl, .inl ⟨by omega, by omega⟩, ?_⟩
      refine ⟨_, _, rfl, rfl, .inr ⟨by decide, by decide⟩, _, _, rfl, rfl, _, _, rfl, rfl, .inl ⟨_, rfl, _, _, rfl, rfl, nzA, ?_⟩⟩
      have m0 := fmod_ge (a := a * 41011 + (c + 1) * (c + 1) * 101 + 71) (show (0 : Int) < 2147482291 by decide)
      have m1 := fmod_lt (a := a * 41011 + (c + 1) * (c + 1) * 101 + 71) (show (0 : Int) < 2147482291 by decide)
      refine ⟨_, rfl, _, rfl, .inl ⟨_, rfl, _, _, rfl, rfl, nzC, _, _, rfl, rfl, _, _, rfl, rfl, .inl ⟨by omega, by omega⟩, _, _, rfl, rfl, .inl ⟨_, rfl, _, _, rfl, rfl, nzB, _, rfl, t, _, _, 0, rfl, rfl, h1, rfl, ?_⟩⟩⟩
      have h2 : ∀ z : Int, upd (upd H t (.lst ([V.int a, V.int b, V.int c].set 2 (V.int (c + 1))))) t (.lst ([V.int a, V.int b, V.int (c + 1)].set 0 (V.int z))) t = some (.lst [.int z, .int b, .int (c + 1)]) := fun z => upd_same
      refine ⟨_, rfl, t, _, 0, _, rfl, rfl, SqL.of (h2 _), at_of (j := 0) rfl rfl, _, _, rfl, rfl, wide_div (b := 9) (by decide) (by decide) (by decide) (by decide), .inl ⟨_, rfl, _, rfl, _, _, rfl, rfl, (show n ≠ 0 by omega), ?_⟩⟩
      refine q _ _ (fmod_ge n0) (fmod_lt n0) ⟨⟨_, _, _, h2 _, fmod_ge (by decide), fmod_lt (by decide), b0, by omega, by omega⟩, fun z o e hz => ?_⟩
      rw [upd_ne hz, upd_ne hz]; exact e
end
end My
set_option Elab.async false
set_option linter.all false
set_option maxRecDepth 100000
set_option maxHeartbeats 4000000
set_option exponentiation.threshold 2000
namespace My
open PySem PySem.Spec PyProof.Rows L2 Gn
/-- x / y is a step: lowest terms, from 0 on, below 1 -/
structure IsStep (x y : Int) : Prop where
  x0 : 0 ≤ x
  xy : x < y
  co : Nat.gcd x.natAbs y.natAbs = 1
theorem low_step {a b : Int} (h0 : 0 ≤ a) (h : a < b) : IsStep (a / ((Nat.gcd a.natAbs b.natAbs : Nat) : Int)) (b / ((Nat.gcd a.natAbs b.natAbs : Nat) : Int)) ∧ b / ((Nat.gcd a.natAbs b.natAbs : Nat) : Int) ≤ b := by
  obtain ⟨x, rfl⟩ := Int.eq_ofNat_of_zero_le h0
  obtain ⟨y, rfl⟩ := Int.eq_ofNat_of_zero_le (show 0 ≤ b by omega)
  simp only [Int.natAbs_natCast]
  have hy : 0 < y := by omega
  have g0 : 0 < Nat.gcd x y := Nat.gcd_pos_of_pos_right _ hy
  have e1 : ((x : Int) / ((Nat.gcd x y : Nat) : Int)) = ((x / Nat.gcd x y : Nat) : Int) := by simp
  have e2 : ((y : Int) / ((Nat.gcd x y : Nat) : Int)) = ((y / Nat.gcd x y : Nat) : Int) := by simp
  rw [e1, e2]
  obtain ⟨u, hu⟩ := Nat.gcd_dvd_left x y
  obtain ⟨v, hv⟩ := Nat.gcd_dvd_right x y
  have du : x / Nat.gcd x y = u := Nat.div_eq_of_eq_mul_right g0 hu
  have dv : y / Nat.gcd x y = v := Nat.div_eq_of_eq_mul_right g0 hv
  refine ⟨⟨by omega, ?_, ?_⟩, ?_⟩
  · rw [du, dv]
    have : Nat.gcd x y * u < Nat.gcd x y * v := by rw [← hu, ← hv]; omega
    have := Nat.lt_of_mul_lt_mul_left this
    omega
  · simp only [Int.natAbs_natCast]
    exact Nat.coprime_div_gcd_div_gcd g0
  · have := Nat.div_le_self y (Nat.gcd x y)
    omega
/-- a def that the module holds under its own name, and how it binds -/
structure Df (K : PySem.W.Frag) (mg : Str → Option Value) (x : Str) (st : Stmt) (ps : List Str) (f : Addr) (fd : FuncData) : Prop where
  F : Fun K x x st f fd
  g : mg x = some (.ref f)
  b : Binds K fd ps []
section
variable {P : Program} {w : World} {K : PySem.W.Frag} {mg : Str → Option Value} {base : Heap}
end
end My
set_option Elab.async false
set_option linter.all false
set_option maxRecDepth 100000
set_option maxHeartbeats 4000000
namespace My
open PySem PySem.Spec PyProof.Rows L2 Gn
abbrev sIsInt : Stmt := top 13
abbrev sIsFr : Stmt := top 14
abbrev sIsNum : Stmt := top 17
abbrev sChNum : Stmt := top 18
theorem scIsInt : FnScope ["given"] ["given"] (defScope sIsInt) := ⟨rfl, rfl, rfl, by decide +kernel, rfl, by decide +kernel, by decide +kernel⟩
theorem scIsFr : FnScope ["given", "top", "bottom"] ["given"] (defScope sIsFr) := ⟨rfl, rfl, rfl, by decide +kernel, rfl, by decide +kernel, by decide +kernel⟩
theorem scIsNum : FnScope ["given", "least", "most"] ["given", "least", "most"] (defScope sIsNum) := ⟨rfl, rfl, rfl, by decide +kernel, rfl, by decide +kernel, by decide +kernel⟩
theorem scChNum : FnScope ["given", "least", "most"] ["given", "least", "most"] (defScope sChNum) := ⟨rfl, rfl, rfl, by decide +kernel, rfl, by decide +kernel, by decide +kernel⟩
/-- the step x / y stands at t -/
def StepAt (H : Hp) (t : Addr) (x y : Int) : Prop := H t = some (.tup [.int x, .int y]) ∧ IsStep x y
def spIsInt : Sp := fun vs H Q _ => ∃ i : Int, vs = [.int i] ∧ Q (.bl true) H
def spIsSt (r : V) : Sp := fun vs H Q _ => ∃ (t : Addr) (x y : Int), vs = [.ref t] ∧ StepAt H t x y ∧ Q r H
def spChNum : Sp := fun vs H Q _ => ∃ (i a b : Int), vs = [.int i, .int a, .int b] ∧ a ≤ i ∧ i ≤ b ∧ Q .non H
def spIsNum : Sp := fun vs H Q _ => ∃ (i a b : Int), vs = [.int i, .int a, .int b] ∧ a ≤ i ∧ i ≤ b ∧ Q (.bl true) H
structure Bc (mg : Str → Option Value) : Prop where
  isi : mg "isinstance" = none
  int : mg "int" = none
  bool : mg "bool" = none
  tuple : mg "tuple" = none
  len : mg "len" = none
  gcd : mg "gcd" = some (.builtin "math.gcd")
section
variable {P : Program} {w : World} {K : PySem.W.Frag} {mg : Str → Option Value} {base : Heap}
theorem ok_isInt {f : Addr} {fd : FuncData} (F : Fun K "is_integer" "is_integer" sIsInt f fd) (B : Bc mg) : FnOk P w K mg base CX0 1 f fd ["given"] spIsInt := by
  refine F.ok scIsInt (fun vs H Q E h => ?_) (fun cdv A outer s H vs Q E hr h => ?_)
  · obtain ⟨i, rfl, _⟩ := h
    rfl
  · obtain ⟨i, rfl, q⟩ := h
    refine ⟨_, pss_one (ps_ret (pe_and (pe_callB call_isi (by rfl) B.isi (by decide +kernel) (pa_cons (pv 0) (pa_cons (pe_bltn (v := .ty "int") (by rfl) B.int (by decide +kernel) rfl) pa_nil)))
      (pe_one (pe_not (pe_callB call_isi (by rfl) B.isi (by decide +kernel) (pa_cons (pv 0) (pa_cons (pe_bltn (v := .ty "bool") (by rfl) B.bool (by decide +kernel) rfl) pa_nil))))))), ?_⟩
    refine ⟨_, rfl, .int i, .ty "int", _, _, true, rfl, .ty "int", .base (.int i), kit_ty (by decide +kernel), true, rfl, iteT ?_⟩
    exact ⟨_, rfl, .int i, .ty "bool", _, _, false, rfl, .ty "bool", .base (.int i), kit_ty (by decide +kernel), false, rfl, q⟩
theorem ok_isNum {f fI : Addr} {fd fdI : FuncData} (F : Fun K "is_number" "is_number" sIsNum f fd) (B : Bc mg) (D : Df K mg "is_integer" sIsInt ["given"] fI fdI) : FnOk P w K mg base CX0 2 f fd ["given", "least", "most"] spIsNum := by
  have GI : FnOk P w K mg base CX0 1 fI fdI ["given"] spIsInt := ok_isInt D.F B
  refine F.ok scIsNum (fun vs H Q E h => ?_) (fun cdv A outer s H vs Q E hr h => ?_)
  · obtain ⟨i, a, b, rfl, _⟩ := h
    rfl
  · obtain ⟨i, a, b, rfl, h1, h2, q⟩ := h
    refine ⟨_, pss_one (ps_ret (pe_and (pe_call GI hr (by rfl) D.g D.F.kp D.b .nil pass0 (pa_cons (pv 0) pa_nil)) (pe_one (pe_chain op_le op_le (pv 1) (pv 0) (pv 2))))), ?_⟩
    refine ⟨_, rfl, i, rfl, true, rfl, iteT ?_⟩
    refine ⟨_, rfl, _, rfl, _, _, rfl, rfl, _, rfl, ?_⟩
    rw [decide_eq_true h1]
    refine iteT ⟨_, rfl, _, _, rfl, rfl, ?_⟩
    show Q (.bl (decide (i ≤ b))) H
    rw [decide_eq_true h2]
    exact q
theorem ok_chNum {f fN fI : Addr} {fd fdN fdI : FuncData} (F : Fun K "check_number" "check_number" sChNum f fd) (B : Bc mg) (D : Df K mg "is_integer" sIsInt ["given"] fI fdI) (N : Df K mg "is_number" sIsNum ["given", "least", "most"] fN fdN) : FnOk P w K mg base CX0 3 f fd ["given", "least", "most"] spChNum := by
  have GN : FnOk P w K mg base CX0 2 fN fdN ["given", "least", "most"] spIsNum := ok_isNum N.F B D
  refine F.ok scChNum (fun vs H Q E h => ?_) (fun cdv A outer s H vs Q E hr h => ?_)
  · obtain ⟨i, a, b, rfl, _⟩ := h
    rfl
  · obtain ⟨i, a, b, rfl, h1, h2, q⟩ := h
    refine ⟨_, pss_one (ps_if (pt_not (pt_val (pe_call GN hr (by rfl) N.g N.F.kp N.b .nil pass0 (pa_cons (pv 0) (pa_cons (pv 1) (pa_cons (pv 2) pa_nil)))))) (pss_one (ps_never)) pss_nil), ?_⟩
    exact ⟨_, rfl, _, rfl, _, rfl, i, a, b, rfl, h1, h2, true, rfl, iteF q⟩
end
end My
set_option Elab.async false
set_option maxRecDepth 100000
/-! orders as lists: places sorted, marks at one place together. Plain lists of ints -/
namespace Mt
def insU (v : Int) : List Int → List Int
  | [] => [v]
  | a :: l => if v < a then v :: a :: l else if v = a then a :: l else a :: insU v l
/-- sorted, each once -/
def sortU (l : List Int) : List Int := l.foldr insU []
theorem insU_mem {v u : Int} : ∀ {l : List Int}, u ∈ insU v l ↔ u = v ∨ u ∈ l
  | [] => by simp [insU]
  | a :: l => by
    unfold insU
    split
    · simp
    · split
      · rename_i h1 h2
        subst h2
        simp
      · simp only [List.mem_cons, insU_mem (l := l)]
        constructor
        · rintro (h | h | h)
          · exact .inr (.inl h)
          · exact .inl h
          · exact .inr (.inr h)
        · rintro (h | h | h)
          · exact .inr (.inl h)
          · exact .inl h
          · exact .inr (.inr h)
theorem insU_pw {v : Int} : ∀ {l : List Int}, l.Pairwise (· < ·) → (insU v l).Pairwise (· < ·)
  | [], _ => by simp [insU]
  | a :: l, h => by
    obtain ⟨h1, h2⟩ := List.pairwise_cons.mp h
    unfold insU
    split
    · rename_i c
      refine List.pairwise_cons.mpr ⟨fun b hb => ?_, h⟩
      rcases List.mem_cons.mp hb with rfl | hb
      · exact c
      · exact Int.lt_trans c (h1 b hb)
    · split
      · exact h
      · rename_i c d
        refine List.pairwise_cons.mpr ⟨fun b hb => ?_, insU_pw h2⟩
        rcases insU_mem.mp hb with rfl | hb
        · omega
        · exact h1 b hb
theorem sortU_mem {v : Int} : ∀ {l : List Int}, v ∈ sortU l ↔ v ∈ l
  | [] => by simp [sortU]
  | a :: l => by
    show v ∈ insU a (sortU l) ↔ _
    rw [insU_mem, sortU_mem, List.mem_cons]
theorem sortU_pw : ∀ l : List Int, (sortU l).Pairwise (· < ·)
  | [] => List.Pairwise.nil
  | a :: l => insU_pw (sortU_pw l)
/-- a strictly rising list is told by its members -/
theorem strict_one : ∀ {l m : List Int}, l.Pairwise (· < ·) → m.Pairwise (· < ·) → (∀ v, v ∈ l ↔ v ∈ m) → l = m
  | [], [], _, _, _ => rfl
  | [], b :: m, _, _, h => by have := (h b).mpr List.mem_cons_self; simp at this
  | a :: l, [], _, _, h => by have := (h a).mp List.mem_cons_self; simp at this
  | a :: l, b :: m, h1, h2, h => by
    obtain ⟨p1, q1⟩ := List.pairwise_cons.mp h1
    obtain ⟨p2, q2⟩ := List.pairwise_cons.mp h2
    have e : a = b := by
      rcases List.mem_cons.mp ((h a).mp List.mem_cons_self) with x | x
      · exact x
      · rcases List.mem_cons.mp ((h b).mpr List.mem_cons_self) with y | y
        · exact y.symm
        · have := p2 a x; have := p1 b y; omega
    subst e
    have : l = m := strict_one q1 q2 fun v => by
      constructor
      · intro hv
        rcases List.mem_cons.mp ((h v).mp (List.mem_cons_of_mem _ hv)) with x | x
        · subst x; have := p1 v hv; omega
        · exact x
      · intro hv
        rcases List.mem_cons.mp ((h v).mpr (List.mem_cons_of_mem _ hv)) with x | x
        · subst x; have := p2 v hv; omega
        · exact x
    rw [this]
theorem le_nodup_lt {l : List Int} (h : l.Pairwise (· ≤ ·)) (n : l.Nodup) : l.Pairwise (· < ·) := by
  induction l with
  | nil => exact .nil
  | cons a l ih =>
    obtain ⟨p, q⟩ := List.pairwise_cons.mp h
    obtain ⟨r, s⟩ := List.nodup_cons.mp n
    refine List.pairwise_cons.mpr ⟨fun b hb => ?_, ih q s⟩
    have h1 := p b hb
    have h2 : a ≠ b := fun e => r (by rw [e]; exact hb)
    omega
/-- a rising list is told by what it is a permutation of -/
theorem le_one : ∀ {l m : List Int}, l.Pairwise (· ≤ ·) → m.Pairwise (· ≤ ·) → l.Perm m → l = m
  | [], m, _, _, h => by rw [List.nil_perm] at h; exact h.symm
  | a :: l, [], _, _, h => by have := h.length_eq; simp at this
  | a :: l, b :: m, h1, h2, h => by
    obtain ⟨p1, q1⟩ := List.pairwise_cons.mp h1
    obtain ⟨p2, q2⟩ := List.pairwise_cons.mp h2
    have e : a = b := by
      rcases List.mem_cons.mp (h.mem_iff.mp (List.mem_cons_self (a := a) (l := l))) with x | x
      · exact x
      · rcases List.mem_cons.mp (h.mem_iff.mpr (List.mem_cons_self (a := b) (l := m))) with y | y
        · exact y.symm
        · have := p2 a x; have := p1 b y; omega
    subst e
    rw [le_one q1 q2 ((List.perm_cons a).mp h)]
def iota (n : Nat) : List Int := (List.range n).map Int.ofNat
theorem iota_len (n : Nat) : (iota n).length = n := by simp [iota]
theorem iota_succ (n : Nat) : iota (n + 1) = iota n ++ [(n : Int)] := by simp [iota, List.range_succ]
theorem iota_mem {n : Nat} {k : Int} : k ∈ iota n ↔ 0 ≤ k ∧ k < n := by
  unfold iota
  rw [List.mem_map]
  constructor
  · rintro ⟨m, hm, rfl⟩
    have := List.mem_range.mp hm
    exact ⟨Int.natCast_nonneg _, by show (m : Int) < n; omega⟩
  · rintro ⟨h1, h2⟩
    exact ⟨k.toNat, List.mem_range.mpr (by omega), by show ((k.toNat : Nat) : Int) = k; omega⟩
theorem iota_pw (n : Nat) : (iota n).Pairwise (· < ·) := by
  unfold iota
  rw [List.pairwise_map]
  exact List.pairwise_lt_range.imp fun h => by show ((_ : Nat) : Int) < ((_ : Nat) : Int); omega
/-- the marks at the place v -/
def grp (f : Int → Int) (ms : List Int) (v : Int) : List Int := ms.filter fun k => f k == v
/-- the order: places rising, the marks at each -/
def ord (f : Int → Int) (ms : List Int) : List (List Int) := (sortU (ms.map f)).map (grp f ms)
theorem grp_snoc {f : Int → Int} {ms : List Int} {k v : Int} : grp f (ms ++ [k]) v = if f k = v then grp f ms v ++ [k] else grp f ms v := by
  unfold grp
  rw [List.filter_append]
  by_cases h : f k = v
  · rw [if_pos h]; simp [h]
  · rw [if_neg h]; simp [h]
theorem grp_none {f : Int → Int} {ms : List Int} {v : Int} (h : v ∉ ms.map f) : grp f ms v = [] := by
  unfold grp
  rw [List.filter_eq_nil_iff]
  intro k hk e
  exact h (List.mem_map.mpr ⟨k, hk, by simpa using e⟩)
theorem ord_congr {f g : Int → Int} {ms : List Int} (h : ∀ k ∈ ms, f k = g k) : ord f ms = ord g ms := by
  unfold ord
  have e : ms.map f = ms.map g := List.map_congr_left h
  rw [e]
  refine List.map_congr_left fun v _ => ?_
  unfold grp
  exact List.filter_congr fun k hk => by rw [h k hk]
theorem pw_rev_map {y : Int} {W : List Int} (h : W.Pairwise (· < ·)) : ((W.map (y - ·)).reverse).Pairwise (· < ·) := by
  rw [List.pairwise_reverse, List.pairwise_map]
  exact h.imp fun h => by omega
/-- the other way round -/
theorem ord_mirror {f g : Int → Int} {ms : List Int} {y : Int} (hf : ∀ k ∈ ms, 0 ≤ f k ∧ f k < y) (hg : ∀ k ∈ ms, g k = if f k = 0 then 0 else y - f k) {k0 : Int} (h0 : k0 ∈ ms) (z0 : f k0 = 0) :
    ord g ms = (ord f ms).take 1 ++ ((ord f ms).drop 1).reverse := by
  have hm : ∀ v, v ∈ sortU (ms.map f) → 0 ≤ v ∧ v < y := fun v hv => by
    obtain ⟨k, hk, rfl⟩ := List.mem_map.mp (sortU_mem.mp hv)
    exact hf k hk
  have m0 : (0 : Int) ∈ sortU (ms.map f) := sortU_mem.mpr (List.mem_map.mpr ⟨k0, h0, z0⟩)
  obtain ⟨W, hW⟩ : ∃ W, sortU (ms.map f) = 0 :: W := by
    cases e : sortU (ms.map f) with
    | nil => rw [e] at m0; simp at m0
    | cons a W =>
      have p := sortU_pw (ms.map f)
      rw [e] at p m0 hm
      obtain ⟨p1, _⟩ := List.pairwise_cons.mp p
      rcases List.mem_cons.mp m0 with q | q
      · exact ⟨W, by rw [← q]⟩
      · have := p1 0 q
        have := (hm a List.mem_cons_self).1
        omega
  have pw : (0 :: W).Pairwise (· < ·) := by rw [← hW]; exact sortU_pw _
  obtain ⟨pW, qW⟩ := List.pairwise_cons.mp pw
  have mW : ∀ v ∈ W, 0 < v ∧ v < y := fun v hv => ⟨pW v hv, (hm v (by rw [hW]; exact List.mem_cons_of_mem _ hv)).2⟩
  have eV : sortU (ms.map g) = 0 :: (W.map (y - ·)).reverse := by
    refine strict_one (sortU_pw _) (List.pairwise_cons.mpr ⟨fun b hb => ?_, pw_rev_map qW⟩) fun v => ?_
    · obtain ⟨u, hu, rfl⟩ := List.mem_map.mp (List.mem_reverse.mp hb)
      have := (mW u hu).2
      show 0 < y - u
      omega
    · rw [sortU_mem, List.mem_map, List.mem_cons, List.mem_reverse, List.mem_map]
      constructor
      · rintro ⟨k, hk, rfl⟩
        rw [hg k hk]
        by_cases e : f k = 0
        · rw [if_pos e]; exact .inl rfl
        · rw [if_neg e]
          refine .inr ⟨f k, ?_, rfl⟩
          have : f k ∈ sortU (ms.map f) := sortU_mem.mpr (List.mem_map.mpr ⟨k, hk, rfl⟩)
          rw [hW] at this
          exact (List.mem_cons.mp this).resolve_left e
      · rintro (rfl | ⟨u, hu, rfl⟩)
        · exact ⟨k0, h0, by rw [hg k0 h0, if_pos z0]⟩
        · have : u ∈ sortU (ms.map f) := by rw [hW]; exact List.mem_cons_of_mem _ hu
          obtain ⟨k, hk, e⟩ := List.mem_map.mp (sortU_mem.mp this)
          refine ⟨k, hk, ?_⟩
          have := (mW u hu).1
          rw [hg k hk, e, if_neg (by omega)]
  have g0 : grp g ms 0 = grp f ms 0 := List.filter_congr fun k hk => by
    rw [hg k hk]
    have := hf k hk
    by_cases e : f k = 0
    · rw [if_pos e, e]
    · rw [if_neg e]
      rw [beq_eq_false_iff_ne.mpr e, beq_eq_false_iff_ne.mpr (by omega)]
  have gW : ∀ u ∈ W, grp g ms (y - u) = grp f ms u := fun u hu => List.filter_congr fun k hk => by
    rw [hg k hk]
    have h1 := hf k hk
    have h2 := mW u hu
    by_cases e : f k = 0
    · rw [if_pos e, beq_eq_false_iff_ne.mpr (by omega), beq_eq_false_iff_ne.mpr (by omega)]
    · rw [if_neg e]
      by_cases e2 : f k = u
      · rw [e2]; simp
      · rw [beq_eq_false_iff_ne.mpr e2, beq_eq_false_iff_ne.mpr (by omega)]
  unfold ord
  rw [eV, hW, List.map_cons, List.map_cons, g0, List.map_reverse, List.map_map]
  show _ = [grp f ms 0] ++ (List.map (grp f ms) W).reverse
  rw [List.singleton_append]
  congr 2
  exact List.map_congr_left fun u hu => gW u hu
end Mt
namespace Mt
theorem map_inj {α β : Type} {g : α → β} : ∀ {l : List α}, (l.map g).Nodup → ∀ {a b : α}, a ∈ l → b ∈ l → g a = g b → a = b
  | [], _, _, _, h, _, _ => by simp at h
  | c :: l, n, a, b, ha, hb, e => by
    obtain ⟨n1, n2⟩ := List.nodup_cons.mp (show (g c :: l.map g).Nodup from n)
    rcases List.mem_cons.mp ha with x | x
    · rcases List.mem_cons.mp hb with y | y
      · rw [x, y]
      · subst x
        exact absurd (List.mem_map.mpr ⟨b, y, e.symm⟩) n1
    · rcases List.mem_cons.mp hb with y | y
      · subst y
        exact absurd (List.mem_map.mpr ⟨a, x, e⟩) n1
      · exact map_inj n2 x y e
end Mt
namespace Mt
theorem insU_len (v : Int) : ∀ m : List Int, (insU v m).length ≤ m.length + 1
  | [] => Nat.le_refl 1
  | b :: m => by
    unfold insU
    split
    · exact Nat.le_refl _
    · split
      · exact Nat.le_succ _
      · exact Nat.succ_le_succ (insU_len v m)
theorem sortU_len : ∀ l : List Int, (sortU l).length ≤ l.length
  | [] => Nat.le_refl 0
  | a :: l => Nat.le_trans (insU_len a (sortU l)) (Nat.succ_le_succ (sortU_len l))
end Mt
set_option Elab.async false
set_option linter.all false
set_option maxRecDepth 100000
set_option maxHeartbeats 4000000
namespace My
open PySem PySem.Spec PyProof.Rows L2 Gn Mt
/-- data lasts while nothing tracked changes -/
theorem sqT_same {H H' : Hp} {a : Addr} {xs : List V} {K : PySem.W.Frag} (e : Same H H') (h : SqT K H a xs) : SqT K H' a xs := by
  rcases h with (h | ⟨o, h⟩) | h
  · exact .inl (.inl (e _ _ h))
  · exact .inl (.inr ⟨o, e _ _ h⟩)
  · exact .inr h
mutual
theorem dp_same {K : PySem.W.Frag} {H H' : Hp} (e : Same H H') : ∀ (d : PyData) (v : V), Dp K H v d → Dp K H' v d
  | .none, _, h => by cases h; exact .non
  | .bool b, _, h => by cases h; exact .bl b
  | .int i, _, h => by cases h; exact .int i
  | .str x, _, h => by cases h; exact .str x
  | .list ds, _, h => by cases h with | lst a b => exact .lst (e.seq a) (dps_same e ds _ b)
  | .tuple ds, _, h => by cases h with | tup a b => exact .tup (sqT_same e a) (dps_same e ds _ b)
  | .dict _, _, h => by cases h
theorem dps_same {K : PySem.W.Frag} {H H' : Hp} (e : Same H H') : ∀ (ds : List PyData) (vs : List V), DpAll K H vs ds → DpAll K H' vs ds
  | [], _, h => by cases h; exact .nil
  | d :: ds, _, h => by cases h with | cons a b => exact .cons (dp_same e d _ a) (dps_same e ds _ b)
end
theorem dp_ints {K : PySem.W.Frag} {H : Hp} : ∀ ns : List Int, DpAll K H (ns.map V.int) (ns.map PyData.int)
  | [] => .nil
  | n :: ns => .cons (.int n) (dp_ints ns)
/-- tuples of ints stand at these addresses, as these lists tell -/
def Tups (H : Hp) : List Addr → List (List Int) → Prop
  | [], [] => True
  | r :: rs, g :: gs => H r = some (.tup (g.map V.int)) ∧ Tups H rs gs
  | _, _ => False
theorem Tups.mono {H H' : Hp} : ∀ {rs : List Addr} {gs : List (List Int)}, Tups H rs gs → (∀ r g, H r = some (.tup g) → H' r = some (.tup g)) → Tups H' rs gs
  | [], [], _, _ => trivial
  | _ :: _, _ :: _, h, k => ⟨k _ _ h.1, h.2.mono k⟩
  | [], _ :: _, h, _ => h.elim
  | _ :: _, [], h, _ => h.elim
theorem Tups.snoc {H : Hp} {r : Addr} {g : List Int} (hr : H r = some (.tup (g.map V.int))) : ∀ {rs : List Addr} {gs : List (List Int)}, Tups H rs gs → Tups H (rs ++ [r]) (gs ++ [g])
  | [], [], _ => ⟨hr, trivial⟩
  | _ :: _, _ :: _, h => ⟨h.1, Tups.snoc hr h.2⟩
  | [], _ :: _, h => h.elim
  | _ :: _, [], h => h.elim
theorem Tups.len {H : Hp} : ∀ {rs : List Addr} {gs : List (List Int)}, Tups H rs gs → rs.length = gs.length
  | [], [], _ => rfl
  | _ :: _, _ :: _, h => congrArg Nat.succ h.2.len
  | [], _ :: _, h => h.elim
  | _ :: _, [], h => h.elim
theorem Tups.dps {K : PySem.W.Frag} {H : Hp} : ∀ {rs : List Addr} {gs : List (List Int)}, Tups H rs gs → DpAll K H (rs.map V.ref) (gs.map fun g => PyData.tuple (g.map PyData.int))
  | [], [], _ => .nil
  | _ :: _, _ :: _, h => .cons (.tup (SqT.of h.1) (dp_ints _)) h.2.dps
  | [], _ :: _, h => h.elim
  | _ :: _, [], h => h.elim
/-- an order as data -/
def ordD (gs : List (List Int)) : PyData := .tuple (gs.map fun g => PyData.tuple (g.map PyData.int))
/-- an order stands at r: a tuple of tuples of ints -/
def OrdAt (H : Hp) (r : Addr) (gs : List (List Int)) : Prop := ∃ rs : List Addr, H r = some (.tup (rs.map V.ref)) ∧ Tups H rs gs
theorem OrdAt.dp {K : PySem.W.Frag} {H : Hp} {r : Addr} {gs : List (List Int)} (h : OrdAt H r gs) : Dp K H (.ref r) (ordD gs) := by
  obtain ⟨rs, h1, h2⟩ := h
  exact .tup (SqT.of h1) h2.dps
theorem OrdAt.same {H H' : Hp} {r : Addr} {gs : List (List Int)} (h : OrdAt H r gs) (e : Same H H') : OrdAt H' r gs := by
  obtain ⟨rs, h1, h2⟩ := h
  exact ⟨rs, e _ _ h1, h2.mono fun r g z => e _ _ z⟩
end My
set_option Elab.async false
set_option linter.all false
set_option maxRecDepth 100000
set_option maxHeartbeats 4000000
namespace My
open PySem PySem.Spec PyProof.Rows L2 Gn Mt
abbrev sLowest : Stmt := top 22
theorem scLowest : FnScope ["top", "bottom", "shared"] ["top", "bottom"] (defScope sLowest) := ⟨rfl, rfl, rfl, by decide +kernel, rfl, by decide +kernel, by decide +kernel⟩
def spLow : Sp := fun vs H Q _ => ∃ (a b : Int), vs = [.int a, .int b] ∧ 0 ≤ a ∧ 0 < b ∧ b.natAbs < 2 ^ 100 ∧
  ∀ p, H p = none → Q (.ref p) (upd H p (.tup [.int (a / ((Nat.gcd a.natAbs b.natAbs : Nat) : Int)), .int (b / ((Nat.gcd a.natAbs b.natAbs : Nat) : Int))]))
section
variable {P : Program} {w : World} {K : PySem.W.Frag} {mg : Str → Option Value} {base : Heap}
theorem ok_lowest {f : Addr} {fd : FuncData} (F : Fun K "lowest" "lowest" sLowest f fd) (B : Bc mg) : FnOk P w K mg base CX0 1 f fd ["top", "bottom"] spLow := by
  refine F.ok scLowest (fun vs H Q E h => ?_) (fun cdv A outer s H vs Q E hr h => ?_)
  · obtain ⟨a, b, rfl, _⟩ := h
    rfl
  · obtain ⟨a, b, rfl, a0, b0, b1, q⟩ := h
    refine ⟨_, pss_cons (ps_set (i := 2) scLowest.nd rfl (.inl rfl) (pe_callBfun cr_gcd (by rfl) B.gcd (pa_cons (pv 0) (pa_cons (pv 1) pa_nil))))
      (pss_one (ps_ret (pe_tup (pa_cons (pe_op op_fdivW (pv 0) (pv 2)) (pa_cons (pe_op op_fdivW (pv 1) (pv 2)) pa_nil))))), ?_⟩
    have g0 : (0 : Int) < ((Nat.gcd a.natAbs b.natAbs : Nat) : Int) := by
      have := Nat.gcd_pos_of_pos_right a.natAbs (show 0 < b.natAbs by omega); omega
    have g1 : (((Nat.gcd a.natAbs b.natAbs : Nat) : Int)).natAbs < 2 ^ 100 := by
      rw [Int.natAbs_natCast]
      exact Nat.lt_of_le_of_lt (Nat.le_of_dvd (by omega) (Nat.gcd_dvd_right _ _)) b1
    exact ⟨_, rfl, _, rfl, a, b, rfl, _, rfl, _, rfl, _, _, rfl, rfl, wide_div g0 g1 (by decide) (by decide), _, rfl, _, rfl, _, _, rfl, rfl, wide_div g0 g1 (by decide) (by decide), (by show 2 ≤ sizeLine; decide), fun p hp => q p hp⟩
end
end My
set_option Elab.async false
set_option maxRecDepth 100000
set_option maxHeartbeats 1000000
set_option linter.all false
/-! lots of steps as ascending cuts: just ahead of a fraction, or just behind it -/
namespace Mt
structure Cut where
  n : Int
  d : Int
  b : Bool
deriving DecidableEq
namespace Cut
def lt (c e : Cut) : Bool := if c.n = e.n ∧ c.d = e.d then !c.b && e.b else decide (c.n * e.d < e.n * c.d)
structure V (c : Cut) : Prop where
  d : 0 < c.d
  co : Int.gcd c.n c.d = 1
theorem dvd_co {a b c : Int} (h : Int.gcd a b = 1) (h2 : a ∣ b * c) : a ∣ c := by
  have d1 : a.natAbs ∣ b.natAbs * c.natAbs := by
    have := Int.natAbs_dvd_natAbs.mpr h2
    rwa [Int.natAbs_mul] at this
  exact Int.natAbs_dvd_natAbs.mp ((show Nat.Coprime a.natAbs b.natAbs from h).dvd_of_dvd_mul_left d1)
theorem cross {a b c d : Int} (b0 : 0 < b) (d0 : 0 < d) (h1 : Int.gcd a b = 1) (h2 : Int.gcd c d = 1) (e : a * d = c * b) : a = c ∧ b = d := by
  have k1 : b ∣ d := dvd_co (by rw [Int.gcd_comm]; exact h1) ⟨c, by rw [e, Int.mul_comm]⟩
  have k2 : d ∣ b := dvd_co (by rw [Int.gcd_comm]; exact h2) ⟨a, by rw [← e, Int.mul_comm]⟩
  have l1 := Int.le_of_dvd d0 k1
  have l2 := Int.le_of_dvd b0 k2
  have bd : b = d := by omega
  subst bd
  exact ⟨Int.eq_of_mul_eq_mul_right (by omega) e, rfl⟩
theorem irr (c : Cut) : c.lt c = false := by unfold lt; rw [if_pos ⟨rfl, rfl⟩]; cases c.b <;> rfl
theorem mul_lt3 {a b c d e f : Int} (b0 : 0 < b) (d0 : 0 < d) (f0 : 0 < f) (h1 : a * d < c * b) (h2 : c * f < e * d) : a * f < e * b := by
  have e1 : a * d * f < c * b * f := Int.mul_lt_mul_of_pos_right h1 f0
  have e2 : c * f * b < e * d * b := Int.mul_lt_mul_of_pos_right h2 b0
  have : a * f * d < e * b * d := by
    have x1 : a * f * d = a * d * f := Int.mul_right_comm ..
    have x2 : e * b * d = e * d * b := Int.mul_right_comm ..
    have x3 : c * b * f = c * f * b := Int.mul_right_comm ..
    omega
  exact Int.lt_of_mul_lt_mul_right this (by omega)
theorem trans {c e f : Cut} (vc : c.V) (ve : e.V) (vf : f.V) (h1 : c.lt e = true) (h2 : e.lt f = true) : c.lt f = true := by
  obtain ⟨cn, cd, cb⟩ := c
  obtain ⟨en, ed, eb⟩ := e
  obtain ⟨fn, fd, fb⟩ := f
  have c0 := vc.d; have e0 := ve.d; have f0 := vf.d
  have cc := vc.co; have fc := vf.co
  simp only [lt] at *
  by_cases a1 : cn = en ∧ cd = ed
  · rw [if_pos a1] at h1
    by_cases a2 : en = fn ∧ ed = fd
    · rw [if_pos a2] at h2
      rw [if_pos ⟨a1.1.trans a2.1, a1.2.trans a2.2⟩]
      cases cb <;> cases eb <;> cases fb <;> simp_all
    · rw [if_neg a2] at h2
      rw [a1.1, a1.2, if_neg a2]
      exact h2
  · rw [if_neg a1] at h1
    by_cases a2 : en = fn ∧ ed = fd
    · rw [← a2.1, ← a2.2, if_neg a1]
      exact h1
    · rw [if_neg a2] at h2
      have z := mul_lt3 c0 e0 f0 (of_decide_eq_true h1) (of_decide_eq_true h2)
      rw [if_neg (fun q => by rw [q.1, q.2] at z; omega)]
      exact decide_eq_true z
theorem tot {c e : Cut} (vc : c.V) (ve : e.V) (h1 : c.lt e = false) (h2 : e.lt c = false) : c = e := by
  obtain ⟨cn, cd, cb⟩ := c
  obtain ⟨en, ed, eb⟩ := e
  have c0 := vc.d; have e0 := ve.d
  have cc := vc.co; have ec := ve.co
  simp only [lt] at *
  by_cases a1 : cn = en ∧ cd = ed
  · rw [if_pos a1] at h1
    rw [if_pos ⟨a1.1.symm, a1.2.symm⟩] at h2
    obtain ⟨rfl, rfl⟩ := a1
    cases cb <;> cases eb <;> simp_all
  · rw [if_neg a1] at h1
    rw [if_neg fun z => a1 ⟨z.1.symm, z.2.symm⟩] at h2
    have l1 := of_decide_eq_false h1
    have l2 := of_decide_eq_false h2
    exact absurd (cross c0 e0 cc ec (by omega)) a1
theorem asym {c e : Cut} (vc : c.V) (ve : e.V) (h : c.lt e = true) : e.lt c = false := by
  cases z : e.lt c with
  | false => rfl
  | true => have := trans vc ve vc h z; rw [irr] at this; cases this
/-- not ahead, ahead -/
theorem le_lt {c e f : Cut} (vc : c.V) (ve : e.V) (vf : f.V) (h1 : e.lt c = false) (h2 : e.lt f = true) : c.lt f = true := by
  cases z : c.lt e with
  | true => exact trans vc ve vf z h2
  | false => rw [tot vc ve z h1]; exact h2
theorem lt_le {c e f : Cut} (vc : c.V) (ve : e.V) (vf : f.V) (h1 : c.lt e = true) (h2 : f.lt e = false) : c.lt f = true := by
  cases z : e.lt f with
  | true => exact trans vc ve vf h1 z
  | false => rw [← tot ve vf z h2]; exact h1
end Cut
/-- ascending -/
def Asc (cs : List Cut) : Prop := cs.Pairwise fun c e => c.lt e = true
def AllV (cs : List Cut) : Prop := ∀ c ∈ cs, c.V
/-- behind an odd number of its cuts one is within -/
def mem : List Cut → Cut → Bool
  | [], _ => false
  | c :: cs, x => xor (!x.lt c) (mem cs x)
theorem mem_out {cs : List Cut} {x : Cut} (h : ∀ c ∈ cs, x.lt c = true) : mem cs x = false := by
  induction cs with
  | nil => rfl
  | cons c cs ih =>
    show xor (!x.lt c) (mem cs x) = false
    rw [h c List.mem_cons_self, ih fun e m => h e (List.mem_cons_of_mem _ m)]
    rfl
/-- the cuts of two lots together, each told which of them it is of -/
structure Ev where
  c : Cut
  i : Bool
  j : Bool
def mg : List Cut → List Cut → List Ev
  | [], bs => bs.map fun b => ⟨b, false, true⟩
  | a :: as, [] => (a :: as).map fun a => ⟨a, true, false⟩
  | a :: as, b :: bs => if b.lt a then ⟨b, false, true⟩ :: mg (a :: as) bs else if a = b then ⟨a, true, true⟩ :: mg as bs else ⟨a, true, false⟩ :: mg as (b :: bs)
termination_by as bs => as.length + bs.length
/-- the cuts where f of being within the ones and within the others changes -/
def run (f : Bool → Bool → Bool) : Bool → Bool → List Ev → List Cut
  | _, _, [] => []
  | p, q, ⟨c, i, j⟩ :: es => if f (xor p i) (xor q j) != f p q then c :: run f (xor p i) (xor q j) es else run f (xor p i) (xor q j) es
def memI : List Ev → Cut → Bool
  | [], _ => false
  | e :: es, x => xor (e.i && !x.lt e.c) (memI es x)
def memJ : List Ev → Cut → Bool
  | [], _ => false
  | e :: es, x => xor (e.j && !x.lt e.c) (memJ es x)
theorem mg_I : ∀ (as bs : List Cut) (x : Cut), memI (mg as bs) x = mem as x := by
  intro as bs x
  fun_induction mg as bs with
  | case1 bs => induction bs with
    | nil => rfl
    | cons b bs ih => show xor (false && _) _ = _; rw [Bool.false_and, Bool.false_xor]; exact ih
  | case2 a as => 
    have : ∀ as : List Cut, memI (as.map fun a => (⟨a, true, false⟩ : Ev)) x = mem as x := by
      intro as
      induction as with
      | nil => rfl
      | cons b bs ih => show xor (true && _) _ = xor _ _; rw [Bool.true_and, ih]
    exact this _
  | case3 a as b bs h ih => show xor (false && _) _ = _; rw [Bool.false_and, Bool.false_xor]; exact ih
  | case4 as b bs h ih => show xor (true && _) _ = xor _ _; rw [Bool.true_and, ih]
  | case5 a as b bs h h2 ih => show xor (true && _) _ = xor _ _; rw [Bool.true_and, ih]
theorem mg_J : ∀ (as bs : List Cut) (x : Cut), memJ (mg as bs) x = mem bs x := by
  intro as bs x
  fun_induction mg as bs with
  | case1 bs => induction bs with
    | nil => rfl
    | cons b bs ih => show xor (true && _) _ = xor _ _; rw [Bool.true_and, ih]
  | case2 a as => 
    have : ∀ as : List Cut, memJ (as.map fun a => (⟨a, true, false⟩ : Ev)) x = false := by
      intro as
      induction as with
      | nil => rfl
      | cons b bs ih => show xor (false && _) _ = _; rw [Bool.false_and, ih]; rfl
    exact this _
  | case3 a as b bs h ih => show xor (true && _) _ = xor _ _; rw [Bool.true_and, ih]
  | case4 as b bs h ih => show xor (true && _) _ = xor _ _; rw [Bool.true_and, ih]
  | case5 a as b bs h h2 ih => show xor (false && _) _ = _; rw [Bool.false_and, ih]; simp
theorem mg_mem : ∀ (as bs : List Cut) {e : Ev}, e ∈ mg as bs → e.c ∈ as ∨ e.c ∈ bs := by
  intro as bs
  fun_induction mg as bs <;> intro e h <;> simp at * <;> grind
def AscE (es : List Ev) : Prop := es.Pairwise fun a b => a.c.lt b.c = true
theorem mg_asc : ∀ (as bs : List Cut), AllV as → AllV bs → Asc as → Asc bs → AscE (mg as bs) := by
  intro as bs
  fun_induction mg as bs with
  | case1 bs => intro _ _ _ hb; exact List.pairwise_map.mpr hb
  | case2 a as => intro _ _ ha _; exact List.pairwise_map.mpr ha
  | case3 a as b bs h ih =>
    intro va vb ha hb
    refine List.pairwise_cons.mpr ⟨fun e he => ?_, ih va (fun c m => vb c (List.mem_cons_of_mem _ m)) ha (List.pairwise_cons.mp hb).2⟩
    rcases mg_mem _ _ he with m | m
    · rcases List.mem_cons.mp m with z | m
      · rw [z]; exact h
      · exact Cut.trans (vb _ List.mem_cons_self) (va _ List.mem_cons_self) (va _ (List.mem_cons_of_mem _ m)) h ((List.pairwise_cons.mp ha).1 _ m)
    · exact (List.pairwise_cons.mp hb).1 _ m
  | case4 as b bs h ih =>
    intro va vb ha hb
    refine List.pairwise_cons.mpr ⟨fun e he => ?_, ih (fun c m => va c (List.mem_cons_of_mem _ m)) (fun c m => vb c (List.mem_cons_of_mem _ m)) (List.pairwise_cons.mp ha).2 (List.pairwise_cons.mp hb).2⟩
    rcases mg_mem _ _ he with m | m
    · exact (List.pairwise_cons.mp ha).1 _ m
    · exact (List.pairwise_cons.mp hb).1 _ m
  | case5 a as b bs h h2 ih =>
    intro va vb ha hb
    have z : a.lt b = true := by
      cases q : a.lt b with
      | true => rfl
      | false => exact absurd (Cut.tot (va _ List.mem_cons_self) (vb _ List.mem_cons_self) q (by simpa using h)) h2
    refine List.pairwise_cons.mpr ⟨fun e he => ?_, ih (fun c m => va c (List.mem_cons_of_mem _ m)) vb (List.pairwise_cons.mp ha).2 hb⟩
    rcases mg_mem _ _ he with m | m
    · exact (List.pairwise_cons.mp ha).1 _ m
    · rcases List.mem_cons.mp m with y | m
      · rw [y]; exact z
      · exact Cut.trans (va _ List.mem_cons_self) (vb _ List.mem_cons_self) (vb _ (List.mem_cons_of_mem _ m)) z ((List.pairwise_cons.mp hb).1 _ m)
section
variable {f : Bool → Bool → Bool}
theorem run_sub : ∀ (es : List Ev) (p q : Bool) {x : Cut}, x ∈ run f p q es → ∃ e ∈ es, e.c = x
  | [], _, _, x, h => nomatch h
  | ⟨c, i, j⟩ :: es, p, q, x, h => by
    unfold run at h
    split at h
    · rcases List.mem_cons.mp h with rfl | h
      · exact ⟨_, List.mem_cons_self, rfl⟩
      · obtain ⟨e, m, z⟩ := run_sub es _ _ h
        exact ⟨e, List.mem_cons_of_mem _ m, z⟩
    · obtain ⟨e, m, z⟩ := run_sub es _ _ h
      exact ⟨e, List.mem_cons_of_mem _ m, z⟩
theorem run_asc : ∀ (es : List Ev) (p q : Bool), AscE es → Asc (run f p q es)
  | [], _, _, _ => List.Pairwise.nil
  | ⟨c, i, j⟩ :: es, p, q, h => by
    have h2 := List.pairwise_cons.mp h
    unfold run
    split
    · refine List.pairwise_cons.mpr ⟨fun x m => ?_, run_asc es _ _ h2.2⟩
      obtain ⟨e, me, rfl⟩ := run_sub es _ _ m
      exact h2.1 e me
    · exact run_asc es _ _ h2.2
def VE (es : List Ev) : Prop := ∀ e ∈ es, e.c.V
theorem memI_out {es : List Ev} {x : Cut} (h : ∀ e ∈ es, x.lt e.c = true) : memI es x = false := by
  induction es with
  | nil => rfl
  | cons c cs ih =>
    show xor (c.i && !x.lt c.c) (memI cs x) = false
    rw [h c List.mem_cons_self, ih fun e m => h e (List.mem_cons_of_mem _ m)]
    simp
theorem memJ_out {es : List Ev} {x : Cut} (h : ∀ e ∈ es, x.lt e.c = true) : memJ es x = false := by
  induction es with
  | nil => rfl
  | cons c cs ih =>
    show xor (c.j && !x.lt c.c) (memJ cs x) = false
    rw [h c List.mem_cons_self, ih fun e m => h e (List.mem_cons_of_mem _ m)]
    simp
theorem run_mem {x : Cut} (vx : x.V) : ∀ (es : List Ev) (p q : Bool), VE es → AscE es → mem (run f p q es) x = xor (f p q) (f (xor p (memI es x)) (xor q (memJ es x)))
  | [], p, q, _, _ => by simp [run, memI, memJ, mem]
  | ⟨c, i, j⟩ :: es, p, q, v, h => by
    have h2 := List.pairwise_cons.mp h
    have vc : c.V := v ⟨c, i, j⟩ List.mem_cons_self
    have ve : VE es := fun e m => v e (List.mem_cons_of_mem _ m)
    have ih := run_mem vx es (xor p i) (xor q j) ve h2.2
    unfold run memI memJ
    cases z : x.lt c with
    | true =>
      have out : ∀ e ∈ es, x.lt e.c = true := fun e m => Cut.trans vx vc (ve e m) z (h2.1 e m)
      have o1 : mem (run f (xor p i) (xor q j) es) x = false := mem_out fun y m => by
        obtain ⟨e, me, rfl⟩ := run_sub es _ _ m
        exact out e me
      rw [memI_out out, memJ_out out]
      split
      · show xor (!x.lt c) _ = _
        rw [z, o1]; simp [z]
      · rw [o1]; simp [z]
    | false =>
      split
      · rename_i hd
        show xor (!x.lt c) _ = _
        rw [z, ih]
        simp only [z, Bool.not_false, Bool.and_true]
        have e1 : xor (xor p i) (memI es x) = xor p (xor i (memI es x)) := Bool.xor_assoc ..
        have e2 : xor (xor q j) (memJ es x) = xor q (xor j (memJ es x)) := Bool.xor_assoc ..
        rw [e1, e2]
        revert hd
        cases f p q <;> cases f (xor p i) (xor q j) <;> cases f (xor p (xor i (memI es x))) (xor q (xor j (memJ es x))) <;> decide
      · rename_i hd
        rw [ih]
        simp only [z, Bool.not_false, Bool.and_true]
        have e1 : xor (xor p i) (memI es x) = xor p (xor i (memI es x)) := Bool.xor_assoc ..
        have e2 : xor (xor q j) (memJ es x) = xor q (xor j (memJ es x)) := Bool.xor_assoc ..
        rw [e1, e2]
        revert hd
        cases f p q <;> cases f (xor p i) (xor q j) <;> cases f (xor p (xor i (memI es x))) (xor q (xor j (memJ es x))) <;> decide
/-- an odd number of them -/
def odd : Nat → Bool
  | 0 => false
  | n + 1 => !odd n
def oddI (es : List Ev) : Bool := es.foldr (fun e b => xor e.i b) false
def oddJ (es : List Ev) : Bool := es.foldr (fun e b => xor e.j b) false
theorem run_odd : ∀ (es : List Ev) (p q : Bool), odd (run f p q es).length = xor (f p q) (f (xor p (oddI es)) (xor q (oddJ es)))
  | [], p, q => by simp [run, oddI, oddJ, odd]
  | ⟨c, i, j⟩ :: es, p, q => by
    have ih := run_odd es (xor p i) (xor q j)
    have e1 : oddI (⟨c, i, j⟩ :: es) = xor i (oddI es) := rfl
    have e2 : oddJ (⟨c, i, j⟩ :: es) = xor j (oddJ es) := rfl
    rw [e1, e2]
    unfold run
    rw [Bool.xor_assoc, Bool.xor_assoc] at ih
    split
    · rename_i hd
      rw [List.length_cons, odd, ih]
      revert hd
      cases f p q <;> cases f (xor p i) (xor q j) <;> cases f (xor p (xor i (oddI es))) (xor q (xor j (oddJ es))) <;> decide
    · rename_i hd
      rw [ih]
      revert hd
      cases f p q <;> cases f (xor p i) (xor q j) <;> cases f (xor p (xor i (oddI es))) (xor q (xor j (oddJ es))) <;> decide
end
theorem mg_oddI : ∀ (as bs : List Cut), oddI (mg as bs) = odd as.length := by
  intro as bs
  fun_induction mg as bs with
  | case1 bs => induction bs with
    | nil => rfl
    | cons b bs ih => show xor false _ = _; rw [Bool.false_xor]; exact ih
  | case2 a as =>
    have : ∀ as : List Cut, oddI (as.map fun a => (⟨a, true, false⟩ : Ev)) = odd as.length := by
      intro as
      induction as with
      | nil => rfl
      | cons b bs ih => show xor true (oddI _) = !_; rw [ih]; simp
    exact this _
  | case3 a as b bs h ih => show xor false (oddI _) = _; rw [Bool.false_xor]; exact ih
  | case4 as b bs h ih => show xor true (oddI _) = !_; rw [ih]; simp
  | case5 a as b bs h h2 ih => show xor true (oddI _) = !_; rw [ih]; simp
theorem mg_oddJ : ∀ (as bs : List Cut), oddJ (mg as bs) = odd bs.length := by
  intro as bs
  fun_induction mg as bs with
  | case1 bs => induction bs with
    | nil => rfl
    | cons b bs ih => show xor true (oddJ _) = !_; rw [ih]; simp
  | case2 a as =>
    have : ∀ as : List Cut, oddJ (as.map fun a => (⟨a, true, false⟩ : Ev)) = false := by
      intro as
      induction as with
      | nil => rfl
      | cons b bs ih => show xor false (oddJ _) = _; rw [ih]; rfl
    exact this _
  | case3 a as b bs h ih => show xor true (oddJ _) = !_; rw [ih]; simp
  | case4 as b bs h ih => show xor true (oddJ _) = !_; rw [ih]; simp
  | case5 a as b bs h h2 ih => show xor false (oddJ _) = _; rw [Bool.false_xor]; exact ih
/-- from 0 to just ahead of 1 -/
def first : Cut := ⟨0, 1, false⟩
def last : Cut := ⟨1, 1, false⟩
structure Cut.In (c : Cut) : Prop extends c.V where
  n0 : 0 ≤ c.n
  le : last.lt c = false
theorem Cut.In.nd {c : Cut} (h : c.In) : c.n ≤ c.d := by
  have le := h.le
  unfold Cut.lt last at le
  simp only at le
  split at le
  · omega
  · have := of_decide_eq_false le
    omega
/-- a lot's cuts -/
structure Lt (cs : List Cut) : Prop where
  v : ∀ c ∈ cs, c.In
  a : Asc cs
  e : odd cs.length = false
theorem first_inC : first.In := ⟨⟨by decide, by decide⟩, by decide, by decide⟩
theorem last_in : last.In := ⟨⟨by decide, by decide⟩, by decide, by decide⟩
theorem Lt.av {cs : List Cut} (h : Lt cs) : AllV cs := fun c m => (h.v c m).toV
def both (as bs : List Cut) : List Cut := run (fun p q => p && q) false false (mg as bs)
def either (as bs : List Cut) : List Cut := run (fun p q => p || q) false false (mg as bs)
theorem ve_mg {as bs : List Cut} (ha : AllV as) (hb : AllV bs) : VE (mg as bs) := fun e m => (mg_mem as bs m).elim (ha _) (hb _)
theorem lt_run {f : Bool → Bool → Bool} (h0 : f false false = false) {as bs : List Cut} (ha : Lt as) (hb : Lt bs) : Lt (run f false false (mg as bs)) where
  v := fun c m => by
    obtain ⟨e, me, rfl⟩ := run_sub _ _ _ m
    exact (mg_mem as bs me).elim (ha.v _) (hb.v _)
  a := run_asc _ _ _ (mg_asc as bs ha.av hb.av ha.a hb.a)
  e := by rw [run_odd, mg_oddI, mg_oddJ, ha.e, hb.e, h0]; simp [h0]
theorem Lt.both {as bs : List Cut} (ha : Lt as) (hb : Lt bs) : Lt (both as bs) := lt_run rfl ha hb
theorem Lt.either {as bs : List Cut} (ha : Lt as) (hb : Lt bs) : Lt (either as bs) := lt_run rfl ha hb
theorem mem_both {as bs : List Cut} (ha : Lt as) (hb : Lt bs) {x : Cut} (vx : x.V) : mem (both as bs) x = (mem as x && mem bs x) := by
  unfold Mt.both
  rw [run_mem vx _ _ _ (ve_mg ha.av hb.av) (mg_asc as bs ha.av hb.av ha.a hb.a), mg_I, mg_J]
  simp
theorem mem_either {as bs : List Cut} (ha : Lt as) (hb : Lt bs) {x : Cut} (vx : x.V) : mem (either as bs) x = (mem as x || mem bs x) := by
  unfold Mt.either
  rw [run_mem vx _ _ _ (ve_mg ha.av hb.av) (mg_asc as bs ha.av hb.av ha.a hb.a), mg_I, mg_J]
  simp
/-- what does not belong -/
def noFirst (cs : List Cut) : List Cut := match cs with | c :: r => if c = first then r else first :: cs | [] => [first]
def noLast (cs : List Cut) : List Cut := if cs.getLast? = some last then cs.dropLast else cs ++ [last]
def others (cs : List Cut) : List Cut := noLast (noFirst cs)
theorem mem_app : ∀ (as bs : List Cut) (x : Cut), mem (as ++ bs) x = xor (mem as x) (mem bs x)
  | [], bs, x => by simp [mem]
  | a :: as, bs, x => by show xor _ (mem (as ++ bs) x) = xor (xor _ _) _; rw [mem_app as bs x, Bool.xor_assoc]
theorem noFirst_mem {cs : List Cut} {x : Cut} (h : x.lt first = false) : mem (noFirst cs) x = !mem cs x := by
  unfold noFirst
  split
  · rename_i c r
    split
    · rename_i e
      show mem r x = !(xor (!x.lt c) (mem r x))
      rw [e, h]; simp
    · show xor (!x.lt first) _ = _
      rw [h]; simp
  · show xor (!x.lt first) _ = _
    rw [h]; simp
theorem noLast_mem {cs : List Cut} {x : Cut} (h : x.lt last = true) : mem (noLast cs) x = mem cs x := by
  unfold noLast
  split
  · rename_i e
    have : cs = cs.dropLast ++ [last] := by
      have ne : cs ≠ [] := by intro z; rw [z] at e; cases e
      rw [List.getLast?_eq_some_getLast ne] at e
      have := List.dropLast_concat_getLast ne
      rw [Option.some.inj e] at this
      exact this.symm
    rw [this, mem_app]
    have : mem [last] x = false := by show xor (!x.lt last) false = false; rw [h]; rfl
    rw [this]
    simp
  · rw [mem_app]
    have : mem [last] x = false := by show xor (!x.lt last) false = false; rw [h]; rfl
    rw [this]
    simp
theorem mem_others {cs : List Cut} {x : Cut} (h : x.lt first = false) (h2 : x.lt last = true) : mem (others cs) x = !mem cs x := by
  unfold others
  rw [noLast_mem h2, noFirst_mem h]
theorem in_ge {c : Cut} (h : c.In) : c.lt first = false := by
  unfold Cut.lt first
  have := h.n0
  have := h.d
  simp only
  split
  · simp
  · rw [decide_eq_false]; omega
theorem in_gt {c : Cut} (h : c.In) (ne : c ≠ first) : first.lt c = true := by
  cases z : first.lt c with
  | true => rfl
  | false => exact absurd (Cut.tot h.toV first_inC.toV (in_ge h) z) ne
theorem in_lt {c : Cut} (h : c.In) (ne : c ≠ last) : c.lt last = true := by
  cases z : c.lt last with
  | true => rfl
  | false => exact absurd (Cut.tot h.toV last_in.toV z h.le) ne
structure Pre (cs : List Cut) : Prop where
  v : ∀ c ∈ cs, c.In
  a : Asc cs
theorem Pre.noFirst {cs : List Cut} (h : Pre cs) : Pre (noFirst cs) := by
  unfold Mt.noFirst
  split
  · rename_i c r
    have h2 := List.pairwise_cons.mp h.a
    split
    · exact ⟨fun e m => h.v e (List.mem_cons_of_mem _ m), h2.2⟩
    · rename_i ne
      refine ⟨fun e m => ?_, List.pairwise_cons.mpr ⟨fun e m => ?_, h.a⟩⟩
      · rcases List.mem_cons.mp m with rfl | m
        · exact first_inC
        · exact h.v e m
      · have f1 := in_gt (h.v c List.mem_cons_self) ne
        rcases List.mem_cons.mp m with rfl | m2
        · exact f1
        · exact Cut.trans first_inC.toV (h.v c List.mem_cons_self).toV (h.v e m).toV f1 (h2.1 e m2)
  · exact ⟨fun e m => by rw [List.mem_singleton.mp m]; exact first_inC, List.pairwise_singleton ..⟩
theorem getLast_last {cs : List Cut} (e : cs.getLast? = some last) : cs = cs.dropLast ++ [last] := by
  have ne : cs ≠ [] := by intro z; rw [z] at e; cases e
  rw [List.getLast?_eq_some_getLast ne] at e
  have := List.dropLast_concat_getLast ne
  rw [Option.some.inj e] at this
  exact this.symm
theorem Pre.noLast {cs : List Cut} (h : Pre cs) : Pre (noLast cs) := by
  unfold Mt.noLast
  split
  · exact ⟨fun e m => h.v e ((List.dropLast_sublist cs).subset m), List.Pairwise.sublist (List.dropLast_sublist cs) h.a⟩
  · rename_i ne
    refine ⟨fun e m => ?_, List.pairwise_append.mpr ⟨h.a, List.pairwise_singleton .., fun a ma b mb => ?_⟩⟩
    · rcases List.mem_append.mp m with m | m
      · exact h.v e m
      · rw [List.mem_singleton.mp m]; exact last_in
    · rw [List.mem_singleton.mp mb]
      refine in_lt (h.v a ma) fun z => ?_
      subst z
      -- the last one is the greatest
      have ne2 : cs ≠ [] := by intro z; rw [z] at ma; cases ma
      have l := List.dropLast_concat_getLast ne2
      rw [List.getLast?_eq_some_getLast ne2] at ne
      have asc := h.a
      rw [← l] at asc ma
      rcases List.mem_append.mp ma with m | m
      · have := (List.pairwise_append.mp asc).2.2 last m _ (List.mem_singleton.mpr rfl)
        rw [(h.v _ (List.getLast_mem ne2)).le] at this
        cases this
      · exact ne (by rw [← List.mem_singleton.mp m])
theorem odd_noFirst {cs : List Cut} : odd (noFirst cs).length = !odd cs.length := by
  unfold noFirst
  split
  · split <;> simp [odd]
  · simp [odd]
theorem odd_noLast {cs : List Cut} : odd (noLast cs).length = !odd cs.length := by
  unfold noLast
  split
  · rename_i e
    have l := getLast_last e
    have : cs.length = cs.dropLast.length + 1 := by
      have := congrArg List.length l
      rwa [List.length_append] at this
    rw [this]; simp [odd]
  · simp [odd]
theorem Lt.others {cs : List Cut} (h : Lt cs) : Lt (others cs) := by
  have p : Pre (Mt.others cs) := (Pre.noFirst ⟨h.v, h.a⟩).noLast
  exact ⟨p.v, p.a, by unfold Mt.others; rw [odd_noLast, odd_noFirst, h.e]; rfl⟩
/-- of a step whether it belongs: one is just ahead of it -/
def at' (p q : Int) : Cut := ⟨p, q, false⟩
structure Stp (p q : Int) : Prop where
  p0 : 0 ≤ p
  pq : p < q
  co : Int.gcd p q = 1
theorem Stp.In {p q : Int} (h : Stp p q) : (at' p q).In := ⟨⟨by have := h.p0; have := h.pq; show 0 < q; omega, h.co⟩, h.p0, by
  show Cut.lt last (at' p q) = false
  unfold Cut.lt last at'
  have := h.pq
  simp only
  split
  · rfl
  · rw [decide_eq_false]; omega⟩
theorem Stp.lt {p q : Int} (h : Stp p q) : (at' p q).lt last = true := by
  unfold Cut.lt last at'
  have := h.pq
  have := h.p0
  simp only
  rw [if_neg (by omega), decide_eq_true]; omega
theorem Stp.ge {p q : Int} (h : Stp p q) : (at' p q).lt first = false := in_ge h.In
end Mt
set_option Elab.async false
set_option maxRecDepth 100000
set_option maxHeartbeats 2000000
set_option linter.all false
/-! the lot of the steps that fit, where this changes at some fractions only -/
namespace Mt
/-- the next cut, if what fits changes there -/
def cstep (acc : List Cut) (e : Cut × Bool) : List Cut := if e.2 != odd acc.length then acc ++ [e.1] else acc
def ends (acc : List Cut) : List Cut := if odd acc.length = true then acc ++ [last] else acc
def lw (es : List (Cut × Bool)) : List Cut := ends (es.foldl cstep [])
theorem odd_snoc {α : Type} (l : List α) (x : α) : odd (l ++ [x]).length = !odd l.length := by rw [List.length_append]; rfl
theorem cstep_sub : ∀ (es : List (Cut × Bool)) (acc pre : List Cut), acc.Sublist pre → (es.foldl cstep acc).Sublist (pre ++ es.map (·.1))
  | [], acc, pre, h => by simpa using h
  | e :: es, acc, pre, h => by
    have k : (cstep acc e).Sublist (pre ++ [e.1]) := by
      unfold cstep
      split
      · exact h.append (List.Sublist.refl _)
      · exact h.trans (List.sublist_append_left ..)
    have ih := cstep_sub es (cstep acc e) (pre ++ [e.1]) k
    rw [List.append_assoc] at ih
    exact ih
theorem lw_lt {es : List (Cut × Bool)} (hv : ∀ e ∈ es, e.1.In) (ha : Asc (es.map (·.1) ++ [last])) : Lt (lw es) := by
  have sub := cstep_sub es [] [] (List.Sublist.refl _)
  rw [List.nil_append] at sub
  have v1 : ∀ c ∈ es.foldl cstep [], c.In := fun c m => by
    obtain ⟨e, me, rfl⟩ := List.mem_map.mp (sub.subset m)
    exact hv e me
  unfold lw ends
  split
  · rename_i ho
    refine ⟨fun c m => ?_, List.Pairwise.sublist (sub.append (List.Sublist.refl _)) ha, by rw [odd_snoc, ho]; rfl⟩
    rcases List.mem_append.mp m with m | m
    · exact v1 c m
    · rw [List.mem_singleton.mp m]; exact last_in
  · rename_i ho
    exact ⟨v1, List.Pairwise.sublist (sub.trans (List.sublist_append_left ..)) ha, by simpa using ho⟩
theorem lw_none {es : List (Cut × Bool)} (h : ∀ e ∈ es, e.2 = false) : lw es = [] := by
  have : ∀ es : List (Cut × Bool), (∀ e ∈ es, e.2 = false) → es.foldl cstep [] = [] := by
    intro es
    induction es with
    | nil => intro _; rfl
    | cons e es ih =>
      intro h
      have z : cstep [] e = [] := by unfold cstep; rw [h e List.mem_cons_self]; rfl
      show es.foldl cstep (cstep [] e) = []
      rw [z]
      exact ih fun x m => h x (List.mem_cons_of_mem _ m)
  unfold lw
  rw [this es h]; rfl
/-- lowest terms -/
def lowQ (a b : Int) : Int × Int := (a / ((Nat.gcd a.natAbs b.natAbs : Nat) : Int), b / ((Nat.gcd a.natAbs b.natAbs : Nat) : Int))
def med (p q : Int × Int) : Int × Int := lowQ (p.1 + q.1) (p.2 + q.2)
theorem lowQ_ex {a b : Int} (h : 0 < b) : ∃ g : Int, 0 < g ∧ a = (lowQ a b).1 * g ∧ b = (lowQ a b).2 * g ∧ 0 < (lowQ a b).2 ∧ Int.gcd (lowQ a b).1 (lowQ a b).2 = 1 := by
  have g0 : 0 < Nat.gcd a.natAbs b.natAbs := Nat.gcd_pos_of_pos_right _ (by omega)
  have d1 : ((Nat.gcd a.natAbs b.natAbs : Nat) : Int) ∣ a := Int.ofNat_dvd_left.mpr (Nat.gcd_dvd_left _ _)
  have d2 : ((Nat.gcd a.natAbs b.natAbs : Nat) : Int) ∣ b := Int.ofNat_dvd_left.mpr (Nat.gcd_dvd_right _ _)
  refine ⟨((Nat.gcd a.natAbs b.natAbs : Nat) : Int), by omega, (Int.ediv_mul_cancel d1).symm, (Int.ediv_mul_cancel d2).symm, Int.ediv_pos_of_pos_of_dvd h (by omega) d2, ?_⟩
  exact Int.gcd_ediv_gcd_ediv_gcd (show 0 < Int.gcd a b from g0)
/-- less -/
def Lss (p q : Int × Int) : Prop := p.1 * q.2 < q.1 * p.2
/-- a fraction from 0 to 1 -/
structure Frc (p : Int × Int) : Prop where
  n0 : 0 ≤ p.1
  le : p.1 ≤ p.2
  d0 : 0 < p.2
  co : Int.gcd p.1 p.2 = 1
/-- fractions ascending from 0 to 1 -/
structure Pts (ps : List (Int × Int)) : Prop where
  hd : ps.head? = some (0, 1)
  ls : ps.getLast? = some (1, 1)
  v : ∀ p ∈ ps, Frc p
  asc : ps.Pairwise Lss
theorem Frc.In {p : Int × Int} (h : Frc p) (hl : p.1 < p.2) (b : Bool) : (⟨p.1, p.2, b⟩ : Cut).In := by
  refine ⟨⟨h.d0, h.co⟩, h.n0, ?_⟩
  unfold Cut.lt last
  simp only
  split
  · rename_i e; omega
  · exact decide_eq_false (by omega)
theorem med_stp {p q : Int × Int} (hp : Frc p) (hq : Frc q) (l : Lss p q) : Stp (med p q).1 (med p q).2 ∧ (med p q).1.natAbs ≤ p.1.natAbs + q.1.natAbs ∧ (med p q).2.natAbs ≤ p.2.natAbs + q.2.natAbs := by
  have d0 := hp.d0; have e0 := hq.d0; have n0 := hp.n0; have m0 := hq.n0; have le := hp.le; have me := hq.le
  obtain ⟨g, g0, e1, e2, b0, co⟩ := lowQ_ex (a := p.1 + q.1) (b := p.2 + q.2) (by omega)
  have l1 : p.1 < p.2 := by
    have l' : p.1 * q.2 < q.1 * p.2 := l
    rcases Int.lt_or_eq_of_le le with h | h
    · exact h
    · rw [h] at l'
      have : q.1 * p.2 ≤ q.2 * p.2 := Int.mul_le_mul_of_nonneg_right me (by omega)
      have c : p.2 * q.2 = q.2 * p.2 := Int.mul_comm ..
      omega
  have x : (lowQ (p.1 + q.1) (p.2 + q.2)).1 = (med p q).1 := rfl
  have y : (lowQ (p.1 + q.1) (p.2 + q.2)).2 = (med p q).2 := rfl
  rw [x] at e1 co; rw [y] at e2 b0 co
  have a0 : 0 ≤ (med p q).1 := by
    rcases Int.lt_or_le (med p q).1 0 with h | h
    · have : (med p q).1 * g < 0 := Int.mul_neg_of_neg_of_pos h g0
      omega
    · exact h
  refine ⟨⟨a0, ?_, co⟩, ?_, ?_⟩
  · have : (med p q).1 * g < (med p q).2 * g := by omega
    exact Int.lt_of_mul_lt_mul_right this (by omega)
  · have : (med p q).1 * 1 ≤ (med p q).1 * g := Int.mul_le_mul_of_nonneg_left (by omega) a0
    omega
  · have : (med p q).2 * 1 ≤ (med p q).2 * g := Int.mul_le_mul_of_nonneg_left (by omega) (by omega)
    omega
/-- at each point and between it and the next one: whether steps fit there -/
def evs (f : Int → Int → Bool) : List (Int × Int) → List (Cut × Bool)
  | p :: q :: r => (⟨p.1, p.2, false⟩, f p.1 p.2) :: (⟨p.1, p.2, true⟩, f (med p q).1 (med p q).2) :: evs f (q :: r)
  | _ => []
theorem lss_lt {p q : Int × Int} (l : Lss p q) (b c : Bool) : (⟨p.1, p.2, b⟩ : Cut).lt ⟨q.1, q.2, c⟩ = true := by
  have l' : p.1 * q.2 < q.1 * p.2 := l
  unfold Cut.lt
  simp only
  rw [if_neg (fun z => by rw [z.1, z.2] at l'; omega)]
  exact decide_eq_true l'
theorem evs_all {f : Int → Int → Bool} : ∀ {ps : List (Int × Int)}, (∀ p ∈ ps, Frc p) → ps.Pairwise Lss → ps.getLast? = some (1, 1) →
    (∀ e ∈ evs f ps, e.1.In) ∧ (∀ e ∈ evs f ps, ∃ x y, Stp x y ∧ e.2 = f x y) ∧ Asc ((evs f ps).map (·.1) ++ [last]) ∧ ∀ c ∈ (evs f ps).map (·.1) ++ [last], ∃ p ∈ ps, c.n = p.1 ∧ c.d = p.2
  | [], _, _, h => nomatch h
  | [p], _, _, h => by
    have e : p = (1, 1) := Option.some.inj h
    subst e
    refine ⟨(fun e m => nomatch m), (fun e m => nomatch m), List.pairwise_singleton .., fun c m => ⟨_, List.mem_cons_self, ?_, ?_⟩⟩ <;> rw [List.mem_singleton.mp m] <;> rfl
  | p :: q :: r, hv, ha, hl => by
    have ha2 := List.pairwise_cons.mp ha
    obtain ⟨i1, i2, i3, i4⟩ := evs_all (f := f) (ps := q :: r) (fun x m => hv x (List.mem_cons_of_mem _ m)) ha2.2 (by rw [← hl]; rfl)
    have fp := hv p List.mem_cons_self
    have fq := hv q (List.mem_cons_of_mem _ List.mem_cons_self)
    have l := ha2.1 q List.mem_cons_self
    have m := (med_stp fp fq l).1
    have lt : p.1 < p.2 := by
      have l' : p.1 * q.2 < q.1 * p.2 := l
      have le := fp.le; have me := fq.le; have d0 := fp.d0
      rcases Int.lt_or_eq_of_le le with h | h
      · exact h
      · rw [h] at l'
        have : q.1 * p.2 ≤ q.2 * p.2 := Int.mul_le_mul_of_nonneg_right me (by omega)
        have c : p.2 * q.2 = q.2 * p.2 := Int.mul_comm ..
        omega
    have ahead : ∀ c ∈ (evs f (q :: r)).map (·.1) ++ [last], ∀ b, (⟨p.1, p.2, b⟩ : Cut).lt c = true := fun c mc b => by
      obtain ⟨x, mx, e1, e2⟩ := i4 c mc
      have := lss_lt (ha2.1 x mx) b c.b
      have ec : c = ⟨x.1, x.2, c.b⟩ := by cases c; simp only at e1 e2; rw [e1, e2]
      rw [ec]; exact this
    refine ⟨fun e me => ?_, fun e me => ?_, ?_, fun c mc => ?_⟩
    · rcases List.mem_cons.mp me with rfl | me
      · exact fp.In lt false
      · rcases List.mem_cons.mp me with rfl | me
        · exact fp.In lt true
        · exact i1 e me
    · rcases List.mem_cons.mp me with rfl | me
      · exact ⟨p.1, p.2, ⟨fp.n0, lt, fp.co⟩, rfl⟩
      · rcases List.mem_cons.mp me with rfl | me
        · exact ⟨_, _, m, rfl⟩
        · exact i2 e me
    · refine List.pairwise_cons.mpr ⟨fun c mc => ?_, List.pairwise_cons.mpr ⟨fun c mc => ahead c mc true, i3⟩⟩
      rcases List.mem_cons.mp mc with rfl | mc
      · unfold Cut.lt; simp
      · exact ahead c mc false
    · rcases List.mem_cons.mp mc with rfl | mc
      · exact ⟨p, List.mem_cons_self, rfl, rfl⟩
      · rcases List.mem_cons.mp mc with rfl | mc
        · exact ⟨p, List.mem_cons_self, rfl, rfl⟩
        · obtain ⟨x, mx, z⟩ := i4 c mc
          exact ⟨x, List.mem_cons_of_mem _ mx, z⟩
theorem lot_lt {f : Int → Int → Bool} {ps : List (Int × Int)} (h : Pts ps) : Lt (lw (evs f ps)) := by
  obtain ⟨a, _, b, _⟩ := evs_all (f := f) h.v h.asc h.ls
  exact lw_lt a b
theorem lot_some {f : Int → Int → Bool} {ps : List (Int × Int)} (h : Pts ps) (ne : lw (evs f ps) ≠ []) : ∃ x y, Stp x y ∧ f x y = true := by
  obtain ⟨_, a, _, _⟩ := evs_all (f := f) h.v h.asc h.ls
  by_cases z : ∀ e ∈ evs f ps, e.2 = false
  · exact absurd (lw_none z) ne
  · have ⟨e, me⟩ := Classical.not_forall.mp z
    have ⟨m, ne⟩ := Classical.not_imp.mp me
    obtain ⟨x, y, s, eq⟩ := a e m
    exact ⟨x, y, s, by rw [← eq]; simpa using ne⟩
/-- the fractions of which one of these multiples is an integer -/
def lcmA (ns : List Nat) : Nat := ns.foldl Nat.lcm 1
def tops (c : Nat) (ns : List Nat) : List Int := ns.flatMap fun k => (List.range k).map fun (j : Nat) => ((c / k : Nat) : Int) * (j : Int)
def wpts (c : Nat) (ns : List Nat) : List (Int × Int) := (sortU (0 :: (c : Int) :: tops c ns)).map fun t => lowQ t c
theorem lcm_fold : ∀ (ns : List Nat) (c : Nat), c ∣ ns.foldl Nat.lcm c ∧ (∀ k ∈ ns, k ∣ ns.foldl Nat.lcm c) ∧ ∀ m, c ∣ m → (∀ k ∈ ns, k ∣ m) → ns.foldl Nat.lcm c ∣ m
  | [], c => ⟨Nat.dvd_refl _, (fun k m => nomatch m), fun m h _ => h⟩
  | n :: ns, c => by
    obtain ⟨a, b, d⟩ := lcm_fold ns (Nat.lcm c n)
    refine ⟨Nat.dvd_trans (Nat.dvd_lcm_left _ _) a, fun k m => ?_, fun m h k => d m (Nat.lcm_dvd h (k n List.mem_cons_self)) fun q mq => k q (List.mem_cons_of_mem _ mq)⟩
    rcases List.mem_cons.mp m with rfl | m
    · exact Nat.dvd_trans (Nat.dvd_lcm_right _ _) a
    · exact b k m
theorem tops_mem {c : Nat} {ns : List Nat} (c0 : 0 < c) (hd : ∀ k ∈ ns, k ∣ c) {t : Int} (h : t ∈ tops c ns) : 0 ≤ t ∧ t < c := by
  obtain ⟨k, mk, h⟩ := List.mem_flatMap.mp h
  obtain ⟨j, mj, rfl⟩ := List.mem_map.mp h
  have lj := List.mem_range.mp mj
  have e : c / k * k = c := Nat.div_mul_cancel (hd k mk)
  refine ⟨Int.mul_nonneg (Int.natCast_nonneg _) (Int.natCast_nonneg _), ?_⟩
  have ck : 0 < c / k ∨ c / k = 0 := (Nat.eq_zero_or_pos _).symm
  rcases ck with ck | ck
  · have : c / k * j < c / k * k := Nat.mul_lt_mul_of_pos_left lj ck
    rw [e] at this
    exact_mod_cast this
  · rw [ck, Nat.zero_mul] at e
    omega
theorem lowQ_lss {a b c : Int} (c0 : 0 < c) (h : a < b) : Lss (lowQ a c) (lowQ b c) := by
  obtain ⟨g, g0, e1, e2, b0, _⟩ := lowQ_ex (a := a) c0
  obtain ⟨g', g0', e1', e2', b0', _⟩ := lowQ_ex (a := b) c0
  show (lowQ a c).1 * (lowQ b c).2 < (lowQ b c).1 * (lowQ a c).2
  have k : a * c < b * c := Int.mul_lt_mul_of_pos_right h c0
  generalize (lowQ a c).1 = x at *
  generalize (lowQ a c).2 = y at *
  generalize (lowQ b c).1 = u at *
  generalize (lowQ b c).2 = v at *
  have q1 : x * g * (v * g') < u * g' * (y * g) := by
    have : x * g * (v * g') = a * c := by rw [← e1, ← e2']
    have z : u * g' * (y * g) = b * c := by rw [← e1', ← e2]
    omega
  have q2 : x * v * (g * g') < u * y * (g * g') := by
    have : x * g * (v * g') = x * v * (g * g') := by rw [Int.mul_assoc, Int.mul_assoc, Int.mul_left_comm g]
    have z : u * g' * (y * g) = u * y * (g * g') := by rw [Int.mul_assoc, Int.mul_assoc, Int.mul_left_comm g', Int.mul_comm g' g]
    omega
  exact Int.lt_of_mul_lt_mul_right q2 (Int.le_of_lt (Int.mul_pos g0 g0'))
theorem sorted_ends {l : List Int} {c : Int} (pw : l.Pairwise (· < ·)) (h0 : 0 ∈ l) (hc : c ∈ l) (hb : ∀ t ∈ l, 0 ≤ t ∧ t ≤ c) : l.head? = some 0 ∧ l.getLast? = some c := by
  constructor
  · cases l with
    | nil => nomatch h0
    | cons a l =>
      rcases List.mem_cons.mp h0 with e | m
      · rw [← e]; rfl
      · have := (List.pairwise_cons.mp pw).1 0 m
        have := (hb a List.mem_cons_self).1
        omega
  · have ne : l ≠ [] := by intro z; rw [z] at h0; nomatch h0
    rw [List.getLast?_eq_some_getLast ne]
    congr 1
    have e := List.dropLast_concat_getLast ne
    rw [← e] at hc pw
    rcases List.mem_append.mp hc with m | m
    · have := (List.pairwise_append.mp pw).2.2 c m _ (List.mem_singleton.mpr rfl)
      have := (hb _ (List.getLast_mem ne)).2
      omega
    · exact (List.mem_singleton.mp m).symm
theorem wpts_pts {c : Nat} {ns : List Nat} (c0 : 0 < c) (hd : ∀ k ∈ ns, k ∣ c) : Pts (wpts c ns) := by
  have pw := sortU_pw (0 :: (c : Int) :: tops c ns)
  have mem : ∀ t, t ∈ sortU (0 :: (c : Int) :: tops c ns) ↔ t ∈ (0 :: (c : Int) :: tops c ns) := fun t => sortU_mem
  have hb : ∀ t ∈ sortU (0 :: (c : Int) :: tops c ns), 0 ≤ t ∧ t ≤ (c : Int) := fun t m => by
    rcases List.mem_cons.mp ((mem t).mp m) with rfl | m
    · omega
    · rcases List.mem_cons.mp m with rfl | m
      · omega
      · have := tops_mem c0 hd m; omega
  obtain ⟨h1, h2⟩ := sorted_ends pw ((mem 0).mpr List.mem_cons_self) ((mem c).mpr (List.mem_cons_of_mem _ List.mem_cons_self)) hb
  have ci : 0 < (c : Int) := by omega
  unfold wpts
  refine ⟨?_, ?_, fun p m => ?_, ?_⟩
  · rw [List.head?_map, h1]
    show some (lowQ 0 c) = _
    unfold lowQ
    rw [show Nat.gcd (0 : Int).natAbs (c : Int).natAbs = c by simp]
    rw [Int.zero_ediv, Int.ediv_self (by omega)]
  · rw [List.getLast?_map, h2]
    show some (lowQ c c) = _
    unfold lowQ
    rw [show Nat.gcd (c : Int).natAbs (c : Int).natAbs = c by simp]
    rw [Int.ediv_self (by omega)]
  · obtain ⟨t, mt, rfl⟩ := List.mem_map.mp m
    obtain ⟨t0, t1⟩ := hb t mt
    obtain ⟨g, g0, e1, e2, b0, co⟩ := lowQ_ex (a := t) ci
    refine ⟨?_, ?_, b0, co⟩
    · rcases Int.lt_or_le (lowQ t c).1 0 with h | h
      · have := Int.mul_neg_of_neg_of_pos h g0; omega
      · exact h
    · have : (lowQ t c).1 * g ≤ (lowQ t c).2 * g := by omega
      exact Int.le_of_mul_le_mul_right this g0
  · rw [List.pairwise_map]
    exact pw.imp fun h => lowQ_lss ci h
end Mt
set_option Elab.async false
set_option linter.all false
set_option maxRecDepth 100000
set_option maxHeartbeats 4000000
namespace Gn
open PySem PySem.Spec PyProof.Rows L2
/-! set(l) of up to a thousand ints, and how many unlike ones there are -/
def rSetN (K : PySem.W.Frag) (w : World) : List V → Hp → VK → Prop := fun xs H Q => ∃ (l : Addr) (ns : List Int), xs = [.ref l] ∧ SqL K H l (ns.map V.int) ∧ ns.length ≤ 1000 ∧ ∀ p (ks : List Int), H p = none → ks.Nodup → ks.length ≤ ns.length → (∀ k, k ∈ ks ↔ k ∈ ns) → Q (.ref p) (upd H p (SetO w p (fun j => decide (j ∈ ns)) ks.length))
theorem cr_setN {X : Cx} (hc : X.calm = true) : CallR X (.type "set") (rSetN X.K X.w) := by
  intro pins s σ H xs us Q I r h
  obtain ⟨l, ns, rfl, hl, hf, q⟩ := h
  rw [Vals.ref1 r]
  obtain ⟨its, rv, pl, hz⟩ := I.list hl
  refine set_of_ints ns (I.ok.hd hc) pl.isList (by simpa using intsAre_of rv) (by unfold scanBound; omega) fun s2 hs => ?_
  obtain ⟨h', tk, c, rfl, hS, hcn, k⟩ := hs
  obtain ⟨o, es, ep, t, ho, hx, hd, g, nd, hm, hb, hft, hn, hr⟩ := id hS
  have len : (es.toList.map keyOf).length = c := by rw [List.length_map, Array.length_toList]; exact hn
  have z := q s.heap.objs.size (es.toList.map keyOf) (I.hok.fresh (Nat.le_refl _)) nd (by rw [len]; exact hcn) fun j => by rw [← hm j, decide_eq_true_eq]
  rw [len] at z
  exact ⟨.ref s.heap.objs.size, _, I.laid (t' := tk) k (Nat.le_refl _) (setO_new hS), rfl, z⟩
end Gn
set_option Elab.async false
set_option linter.all false
set_option maxRecDepth 100000
set_option maxHeartbeats 4000000
/-! for i, x in enumerate(a tuple); xs.extend(a tuple) -/
namespace Gn
open PySem PySem.Spec PyProof.Rows L2
abbrev enNew (a : Addr) : Obj := { cls := .type "enumerate", data := .fields #[.none, .bool false, .ref a, rawInt 0, .none, .none] }
theorem enum_meets1 {v : Value} {o : Obj} {F : Heap → Prop} (B : Begins v o F) : Meets (Builtin.«enumerate.__new__» ⟨[.type "enumerate", v], []⟩) (fun _ R s => F s.heap ∧
    R (.ok (.ret (.ref (s.heap.push o).objs.size))) { s with heap := (s.heap.push o).push (enNew s.heap.objs.size) }) := by
  refine .of_wp fun P w A R s h => ?_
  obtain ⟨h0, gs, dr, tk, sys⟩ := s
  have isSub := sub_enumerate
  have it : ∀ {A' : Around} {E Q : Value → Shared → Prop}, Q (.ref h0.objs.size) ⟨h0.push o, gs, dr, tk, sys⟩ → wpAny (model P w) A' (pyIter v) Q E ⟨h0, gs, dr, tk, sys⟩ := fun k => B.iter P w _ _ ⟨h0, gs, dr, tk, sys⟩ _ h.1 k
  replace h := h.2
  wp_walk using it
  refine wpAny_stack_any fun frames => wpAny_pure ?_
  split
  · rename_i cl _ _ _ _ _
    cases (cl == Value.type "enumerate") <;> (wp_walk using it; exact ⟨_, rfl, h⟩)
  · wp_walk using it
    exact ⟨_, rfl, h⟩
section
variable {P : Program} {w : World} {A : Around} {E : Value → Shared → Prop} {s : Shared}
theorem enum_made {v : Value} {o : Obj} {Fh : Heap → Prop} {Q : Value → Shared → Prop} (B : Begins v o Fh) (hF : Fh s.heap)
    (k : ∀ h', IsEnum h' (s.heap.objs.size + 1) s.heap.objs.size 0 .none → h'.get? s.heap.objs.size = some o → (∀ b u, s.heap.get? b = some u → h'.get? b = some u) → Q (.ref (s.heap.objs.size + 1)) { s with heap := h' }) :
    wpAny (model P w) A (call (.type "enumerate") [v]) Q E s := by
  refine callType_new PySem.F.called_enumerate (by decide) (PySem.F.typeCall_enumerate_1 _) (PySem.F.newCall_enumerate_1 _) (fun obj => PySem.F.args_object_init_2 obj _) PySem.F.entry_enumerate_new (enum_meets1 B) ⟨hF, ?_⟩
  have sz : (s.heap.push o).objs.size = s.heap.objs.size + 1 := Heap.size_push ..
  have at1 := Heap.get?_push_size (s.heap.push o) (o := enNew s.heap.objs.size) rfl
  rw [sz] at at1
  show _ ∧ _
  rw [sz]
  exact ⟨⟨_, at1, rfl⟩, k _ at1 (Heap.get?_push_of_some _ (Heap.get?_push_size _ B.free)) fun b u e => Heap.get?_push_of_some _ (Heap.get?_push_of_some _ e)⟩
end
/-- the tuple's items in new pairs with their places -/
def ItE (K : PySem.W.Frag) (a : Addr) : It :=
  ⟨fun i H => ∃ xs x, SqT K H a xs ∧ xs[i]? = some x, fun i H v G => ∃ r x, v = .ref r ∧ H r = none ∧ G = upd H r (.tup [.int (i : Nat), x]) ∧ ∀ xs, SqT K H a xs → xs[i]? = some x, fun i H => ∃ xs : List V, SqT K H a xs ∧ xs.length ≤ i⟩
theorem turn_en {P : Program} {w : World} {K : PySem.W.Frag} {es : List Expr} {kk : Nat} {tp : Pos} (a e it : Addr) (hea : e ≠ a) (hai : a ≠ it) :
    Turn P w K (.Tuple es kk tp) (ItE K a) [e, it] e (fun i h => (∃ old, IsEnum h e it ((i : Nat) : Int) old) ∧ h.IsTupleIter it a i ∧ e ≠ it) where
  mem := List.mem_cons_self
  obj := fun i h st b hb => by
    obtain ⟨⟨old, he⟩, ⟨o, ho, _, hd⟩, _⟩ := st
    simp only [List.mem_cons, List.not_mem_nil, or_false] at hb
    rcases hb with rfl | rfl
    · exact ⟨_, he, fun v z => nomatch z⟩
    · exact ⟨o, ho, fun v z => by rw [hd] at z; cases z⟩
  keep := fun i h h' st k => by
    obtain ⟨⟨old, he⟩, hi, ne⟩ := st
    exact ⟨⟨old, k e List.mem_cons_self _ he⟩, hi.at fun o z => k it (List.mem_cons_of_mem _ List.mem_cons_self) o z, ne⟩
  item := by
    intro X eP ew eK hc i pins s σ H E I off st go
    subst eP ew eK
    obtain ⟨⟨old, he⟩, hi, ne⟩ := st
    obtain ⟨xs, x, hs, hx⟩ := go
    obtain ⟨its, rv, tp, hz⟩ := I.tuple hs
    obtain ⟨u, hu, ru⟩ := rv.get hx
    have elt : e < s.heap.objs.size := Heap.lt_size he
    have ilt : it < s.heap.objs.size := by obtain ⟨_, z, _⟩ := hi; exact Heap.lt_size z
    have lt : i < its.toArray.size := by rw [List.size_toArray]; exact (List.getElem?_eq_some_iff.mp hu).1
    have dr : Draws X.prog X.w X.A.in1 it [it, a] its.toArray.size (fun i v => its.toArray[i]? = some v) (fun i h => h.IsTupleIter it a i ∧ h.IsTuple a its.toArray) := Draws.tuple (show X.A.in1.handled = none from I.ok.hd hc) it a hai its.toArray
    refine wpAny_pyNext_enum_itemD dr he ⟨hi, tp⟩ lt ne (by simp only [List.mem_cons, List.not_mem_nil, or_false, not_or]; exact ⟨ne, hea⟩) fun y h1 tk hy out st1 new sz k => ?_
    have ey : y = u := by
      have z : its.toArray[i]? = some u := by simpa using hu
      rw [z] at hy
      exact (Option.some.inj hy).symm
    subst ey
    refine ⟨_, rfl, wpAny_letOwnedTupleGo_enum (s := { s with heap := h1, toks := tk + 1 }) out fun h2 he2 sb => ?_⟩
    have new2 : h2.get? s.heap.objs.size = some { cls := .type "tuple", data := .seq #[.int i tk, y] } := (sb.2 _ (Nat.ne_of_gt elt)).trans new
    have ok : ObjOk X.prog X.w (upd H s.heap.objs.size (.tup [.int (i : Nat), x])) h2 s.heap.objs.size (.tup [.int (i : Nat), x]) :=
      ⟨by show 2 ≤ sizeLine; decide, [.int i tk, y], .cons ⟨_, rfl⟩ (.cons ru .nil), ⟨_, new2, rfl, _, rfl⟩⟩
    have I2 : Inv X pins σ (upd H s.heap.objs.size (.tup [.int (i : Nat), x])) { s with heap := h2, toks := tk + 1 } :=
      I.turnedNew (ch := [e, it]) (fun b ob hb z => (sb.2 b (fun q => hb (by simp [q]))).trans (k b ob (fun q => hb (by simp [q])) (fun q => hb (by simp [q])) z)) off (Nat.le_refl _) ok
    refine ⟨.ref s.heap.objs.size, _, I2, rfl, ⟨_, x, rfl, I.hok.fresh (Nat.le_refl _), rfl, fun ys hy => by rw [I.tuple_inj hy hs]; exact hx⟩, ⟨⟨y, ?_⟩, st1.1.at fun o z => (sb.2 it (Ne.symm ne)).trans z, ne⟩, fun b hb => ?_⟩
    · rw [show ((i + 1 : Nat) : Int) = (i : Int) + 1 by omega]
      exact he2
    · have lt : b < s.heap.objs.size := by
        simp only [List.mem_cons, List.not_mem_nil, or_false] at hb
        rcases hb with rfl | rfl <;> assumption
      rw [upd_ne (Nat.ne_of_lt lt)]
      exact (off b hb).1
  done := by
    intro X eP ew eK hc i pins s σ H E I off st stop
    subst eP ew eK
    obtain ⟨⟨old, he⟩, hi, ne⟩ := st
    obtain ⟨xs, hs, hx⟩ := stop
    obtain ⟨its, rv, tp, hz⟩ := I.tuple hs
    obtain ⟨f0, f1, f2, f3, f4, f5⟩ := off it (List.mem_cons_of_mem _ List.mem_cons_self)
    have ln := rv.length
    have hT : s.TypeIs (.ref e) "enumerate" := ⟨_, he, rfl⟩
    unfold pyNext
    refine wpAny_bind (wpAny_attempt (wpAny_callSpecial?_slot (name := Str.ofString "__next__") hT PySem.F.slot_enumerate_next (wpAny_call_entry PySem.F.slot_enumerate_next hT PySem.F.entry_enumerate_next ?_ (PySem.F.args_enumerate_next_1 _))))
    show wpAny _ _ (field (.ref e) 2 >>= _) _ _ _
    refine wpAny_bind (wpAny_field he rfl (x := .ref it) rfl (wpAny_bind (PySem.wpAny_nextOf_tuple_end (I.ok.hd hc) hi tp (by simp; omega) fun h' x eb hx' => ?_)))
    obtain ⟨o, ho, hcl⟩ := hx'
    exact wpAny_bind (wpAny_isInstance (T := "StopIteration") (b := true) ⟨o, ho, hcl⟩ isSubtype_stop (wpAny_pure ⟨rfl, I.turned (t' := s.toks) (fun b ob hb z => eb b ob hb z) f0 f1 f3 f4 f5⟩))
  self := fun A i s Q E st h => by
    obtain ⟨⟨_, he⟩, _⟩ := st
    exact wpAny_pyIter_enum he h
def iEnumT (K : PySem.W.Frag) (ta : TA) : TI := fun σ H R => ta σ H fun vs G => ∃ a xs, vs = [.ref a] ∧ SqT K G a xs ∧ R (ItE K a) G
theorem pi_enumT {X : Cx} {e : Expr} {ta : TA} {p pos tp : Pos} {es : List Expr} {kk : Nat} (hg : Gl X "enumerate") (hm : X.mg "enumerate" = none) (ha : PA X [e] ta) (hs : starEach [e] X.env = [(false, eval e X.env)] := by rfl) :
    PI X (.Tuple es kk tp) (.Call (.Name "enumerate" p) [e] [] pos) (iEnumT X.K ta) := by
  constructor
  intro pins s σ H R I h
  refine Call_ (ld_blt I hg hm boot_enumerate (PyProof.Rows.callWith_type1 (thn (ha.run pos pins s σ H _ I h) fun us s1 ⟨vs, H1, I1, r1, q1⟩ => ?_) hs rfl))
  obtain ⟨a, xs, rfl, hq, q⟩ := q1
  rw [Vals.ref1 r1]
  obtain ⟨its, rv, tp, hz⟩ := I1.tuple hq
  have alt : a < s1.heap.objs.size := by obtain ⟨o, z, _⟩ := tp; exact Heap.lt_size z
  refine enum_made (begins_tuple a its.toArray) tp fun h' he hit k => wpAny_pyIter_enum he ?_
  have I2 : Inv X pins σ H1 { s1 with heap := h' } := I1.kept (t' := s1.toks) k
  refine ⟨s1.heap.objs.size + 1, [s1.heap.objs.size + 1, s1.heap.objs.size], _, _, H1, rfl, I2, turn_en a (s1.heap.objs.size + 1) s1.heap.objs.size (Nat.ne_of_gt (Nat.lt_succ_of_lt alt)) (Nat.ne_of_lt alt), ⟨⟨.none, he⟩, ⟨_, hit, rfl, rfl⟩, Nat.succ_ne_self _⟩, fun b hb => ?_, q⟩
  have le : s1.heap.objs.size ≤ b := by
    simp only [List.mem_cons, List.not_mem_nil, or_false] at hb
    rcases hb with rfl | rfl
    · exact Nat.le_succ _
    · exact Nat.le_refl _
  exact I1.fpOk le (I1.hok.fresh le)
/-- the loop over it -/
theorem for_en {K : PySem.W.Frag} {a : Addr} {xs : List V} {g : TG} {tb : TS} {D : Ends} {σ : L2.St} {H : Hp} (Pv : Nat → L2.St → Hp → Prop) (h0 : Pv 0 σ H) (hq : ∀ i σ H, Pv i σ H → SqT K H a xs)
    (hs : ∀ (i : Nat) (x : V) (r : Addr) (σ : L2.St) (H : Hp), xs[i]? = some x → Pv i σ H → H r = none → g (.ref r) σ (upd H r (.tup [.int (i : Nat), x])) fun σ2 H2 => tb { D with nx := Pv (i + 1), ct := Pv (i + 1), bk := D.nx } σ2 H2) (hd : ∀ σ H, Pv xs.length σ H → D.nx σ H) :
    ∃ W : Nat → Nat → L2.St → Hp → Prop, (∃ m, W 0 m σ H) ∧ ∀ i m σ H, W i m σ H →
      ((ItE K a).stop i H ∧ D.nx σ H) ∨ ((ItE K a).go i H ∧ ∃ N : L2.St → Hp → Prop, (∀ σ' H', N σ' H' → ∃ m', m' < m ∧ W (i + 1) m' σ' H') ∧ ∀ v H', (ItE K a).yld i H v H' → g v σ H' fun σ2 H2 => tb { D with nx := N, ct := N, bk := D.nx } σ2 H2) := by
  refine ⟨fun i m σ H => m = xs.length - i ∧ i ≤ xs.length ∧ Pv i σ H, ⟨_, rfl, Nat.zero_le _, h0⟩, ?_⟩
  rintro i m σ H ⟨rfl, hi, p⟩
  have qx := hq i σ H p
  by_cases hlt : i < xs.length
  · have hx : xs[i]? = some xs[i] := List.getElem?_eq_getElem hlt
    refine .inr ⟨⟨xs, _, qx, hx⟩, Pv (i + 1), fun σ' H' p' => ⟨xs.length - (i + 1), by omega, rfl, hlt, p'⟩, fun v H' y => ?_⟩
    obtain ⟨r, x, rfl, hr, rfl, f1⟩ := y
    exact hs i x r σ H (f1 xs qx) p hr
  · have e : i = xs.length := by omega
    subst e
    exact .inl ⟨⟨xs, qx, Nat.le_refl _⟩, hd σ H p⟩
/-- xs.extend(t) -/
theorem ext_meets (l : Addr) (items : Array Value) (n : Nat) (b : Addr) (jt : Array Value) (n2 : Nat) (dct : Option Addr) (sl : Array (Option Value)) (hs0 : ¬(!items.isEmpty && Builtin.List.listTooLong (items.size + jt.size)) = true) (hs1 : items.size ≤ sizeLine) (hs2 : items.size + jt.size ≤ sizeLine + 1) :
    Meets (Builtin.«list.extend» ⟨[.ref l, .ref b], []⟩) (fun _ R s => s.heap.get? l = some { cls := .type "list", data := .seq items n } ∧ s.heap.get? b = some { cls := .type "tuple", dict := dct, data := .seq jt n2, slots := sl } ∧
      R (.ok (.ret Value.none)) { s with heap := s.heap.update l (Obj.mapSeq fun x => x ++ jt), toks := s.toks }) := by
  refine .of_wp fun P w A R s h => ?_
  obtain ⟨hp, g, d, tk, os⟩ := s
  obtain ⟨hl, hb, k⟩ := h
  have f1 := AutoSeq1.sub_tuple_tuple
  have f2 := AutoSeq1.sub_list_list
  have f3 := AutoSeq1.sub_tuple_list
  have f4 := AutoSeq1.sub_list_tuple
  have z : (items ++ jt).size ≤ sizeLine + 1 := by rw [Array.size_append]; exact hs2
  wp_walk using (wpAny_updateSeq hl rfl (hz := hs1) (_hz' := z)), AutoSeq1.wpAny_loadPart' hl, AutoSeq1.wpAny_loadPart' hb
  exact ⟨_, rfl, k⟩
def rExtT (K : PySem.W.Frag) : V → List V → Hp → VK → Prop := fun x vs H Q => ∃ l b xs zs, x = .ref l ∧ vs = [.ref b] ∧ H l = some (.lst xs) ∧ SqT K H b zs ∧ xs.length + zs.length ≤ sizeLine ∧ Q .non (upd H l (.lst (xs ++ zs)))
theorem mt_extT {X : Cx} : MtM X "list.extend" (rExtT X.K) := by
  intro pins s σ H x vs v us Q I rx rv h
  obtain ⟨l, b, xs, zs, rfl, rfl, hl, hb, hz, q⟩ := h
  cases rx
  obtain ⟨u, rfl, ru⟩ := rv.one
  cases ru
  obtain ⟨z, its, n, r, len, e⟩ := I.lstM hl
  obtain ⟨jts, rj, tp, _⟩ := I.tuple hb
  obtain ⟨⟨oc, od, odt, osl⟩, e2, ec, n2, ed⟩ := tp
  obtain rfl : oc = .type "tuple" := ec
  obtain rfl : odt = .seq jts.toArray n2 := ed
  have lj := rj.length
  have sz : its.toArray.size + jts.toArray.size ≤ sizeLine := by rw [List.size_toArray, List.size_toArray]; omega
  have long : ¬ (!its.toArray.isEmpty && Builtin.List.listTooLong (its.toArray.size + jts.toArray.size)) = true := by
    rw [notLongL sz, Bool.and_false]
    exact Bool.false_ne_true
  refine call_meets PySem.F.slot_list_extend ⟨_, e, rfl⟩ PySem.F.entry_list_extend (PySem.F.args_list_extend_2 _ _) (ext_meets l its.toArray n b jts.toArray n2 od osl long (by rw [List.size_toArray]; omega) (by omega)) ⟨e, e2, ?_⟩
  refine ⟨.non, _, I.lset (its' := its ++ jts) hl e (by simp) (r.append rj) ?_, rfl, q⟩
  rw [List.length_append]
  omega
end Gn
set_option Elab.async false
set_option linter.all false
set_option maxRecDepth 100000
set_option maxHeartbeats 4000000
/-! xs[::2], xs[1::2] of a list; math.lcm -/
namespace Gn
open PySem PySem.Spec PyProof.Rows L2
/-- each second one -/
def evens {α : Type} : List α → List α
  | [] => []
  | [a] => [a]
  | a :: _ :: r => a :: evens r
theorem evens_map {α β : Type} (f : α → β) : ∀ l : List α, evens (l.map f) = (evens l).map f
  | [] => rfl
  | [_] => rfl
  | a :: b :: r => congrArg (f a :: ·) (evens_map f r)
theorem evens_pick {α : Type} : ∀ l : List α, ((List.range ((l.length + 1) / 2)).map fun (k : Nat) => (0 + 2 * (k : Int)).toNat).filterMap (fun i => l[i]?) = evens l
  | [] => by simp [evens]
  | [a] => by simp [evens]
  | a :: b :: r => by
    have ih := evens_pick r
    have e : (r.length + 1 + 1 + 1) / 2 = (r.length + 1) / 2 + 1 := by omega
    show ((List.range ((r.length + 1 + 1 + 1) / 2)).map _).filterMap _ = a :: evens r
    rw [e, List.range_succ_eq_map, List.map_cons, List.map_map]
    show a :: List.filterMap _ (List.map _ _) = _
    congr 1
    rw [← ih, List.filterMap_map, List.filterMap_map]
    refine congrArg (fun f => List.filterMap f _) (funext fun k => ?_)
    show (a :: b :: r)[(0 + 2 * ((k + 1 : Nat) : Int)).toNat]? = r[(0 + 2 * (k : Int)).toNat]?
    rw [show (0 + 2 * ((k + 1 : Nat) : Int)).toNat = (0 + 2 * (k : Int)).toNat + 1 + 1 by omega]
    rfl
theorem evens_len {α : Type} : ∀ l : List α, (evens l).length ≤ l.length
  | [] => Nat.le_refl _
  | [_] => Nat.le_refl _
  | a :: b :: r => by have := evens_len r; show (evens r).length + 1 ≤ r.length + 1 + 1; omega
theorem pick_0 (xs : Array Value) : slicePick xs none none (some 2) = (evens xs.toList).toArray := by
  unfold slicePick
  have e : sliceBounds none none (some 2) xs.size = (0, (xs.size : Int), 2) := rfl
  rw [e]
  congr 1
  rw [← evens_pick]
  show List.filterMap _ (List.map _ (List.range (if (0 : Int) < (xs.size : Int) then ((xs.size : Int) - 0 + 2 - 1) / 2 else 0).toNat)) = _
  have c : (if (0 : Int) < (xs.size : Int) then ((xs.size : Int) - 0 + 2 - 1) / 2 else 0).toNat = (xs.toList.length + 1) / 2 := by
    rw [Array.length_toList]; split <;> omega
  rw [c]
  refine congrArg (fun f => List.filterMap f _) (funext fun i => ?_)
  exact (Array.getElem?_toList).symm
theorem pick_1 (xs : Array Value) (hx : 1 ≤ xs.size) : slicePick xs (some 1) none (some 2) = (evens (xs.toList.drop 1)).toArray := by
  unfold slicePick
  have e : sliceBounds (some 1) none (some 2) xs.size = (1, (xs.size : Int), 2) := by
    show ((if (2 : Int) > 0 then max 0 (min (if (1 : Int) < 0 then 1 + (xs.size : Int) else 1) (xs.size : Int)) else _), _, _) = _
    rw [if_pos (by decide), if_neg (by decide)]
    have : max 0 (min 1 (xs.size : Int)) = 1 := by omega
    rw [this]; rfl
  rw [e]
  congr 1
  rw [← evens_pick]
  show List.filterMap _ (List.map _ (List.range (if (1 : Int) < (xs.size : Int) then ((xs.size : Int) - 1 + 2 - 1) / 2 else 0).toNat)) = _
  have c : (if (1 : Int) < (xs.size : Int) then ((xs.size : Int) - 1 + 2 - 1) / 2 else 0).toNat = ((xs.toList.drop 1).length + 1) / 2 := by
    rw [List.length_drop, Array.length_toList]; split <;> omega
  rw [c, List.filterMap_map, List.filterMap_map]
  refine congrArg (fun f => List.filterMap f _) (funext fun k => ?_)
  show xs[(1 + 2 * (k : Int)).toNat]? = (xs.toList.drop 1)[(0 + 2 * (k : Int)).toNat]?
  rw [List.getElem?_drop, Array.getElem?_toList]
  congr 1
  omega
theorem pick_1e (xs : Array Value) (hx : xs.size = 0) : slicePick xs (some 1) none (some 2) = (evens (xs.toList.drop 1)).toArray := by
  have e : xs = #[] := Array.eq_empty_of_size_eq_zero hx
  subst e; rfl
section
variable {X : Cx}
theorem vals_evens : ∀ {xs : List V} {us : List Value}, Vals xs us → Vals (evens xs) (evens us)
  | [], [], _ => .nil
  | [_], [_], h => h
  | _ :: _ :: _, _ :: _ :: _, .cons a (.cons _ c) => .cons a (vals_evens c)
  | [], _ :: _, h => nomatch h
  | _ :: _, [], h => nomatch h
  | [_], _ :: _ :: _, .cons _ h => nomatch h
  | _ :: _ :: _, [_], .cons _ h => nomatch h
def tEv (K : PySem.W.Frag) (off : Nat) (te : TE) : TE := fun σ H Q => te σ H fun x H1 => ∃ a xs, x = .ref a ∧ SqL K H1 a xs ∧ ∀ p, H1 p = none → Q (.ref p) (upd H1 p (.lst (evens (xs.drop off))))
theorem ev_core {lo : Option Expr} {tl : TO} {l : Option Int} (hl : PO X lo tl) {e : Expr} {te : TE} {k1 : Nat} {p1 p3 pos : Pos} (he : PE X e te) (hw : ∀ σ H (R : Option Int → Hp → Prop), R l H → tl σ H R) (off : Nat) (pk : ∀ xs : Array Value, slicePick xs l none (some 2) = (evens (xs.toList.drop off)).toArray) :
    PE X (.Subscript e (.Slice lo none (some (.Constant (.int 2) k1 p1)) p3) pos) (tEv X.K off te) := by
  refine ⟨fun pins s σ H Q I h => ?_⟩
  refine Subscript_ (thn (he.run pins s σ H _ I h) fun v s1 ⟨x, H1, I1, r1, q1⟩ => ?_)
  obtain ⟨a, xs, ex, hx, q⟩ := q1
  subst ex
  cases r1
  have hst : PO X (some (.Constant (.int 2) k1 p1)) (tPart (tC (.int 2))) := po_some pe_int
  refine wpAny_Slice (thn (hl.run pins s1 σ H1 (fun o H2 => o = l ∧ H2 = H1) I1 (hw _ _ _ ⟨rfl, rfl⟩)) fun vl s2 ⟨l', H2, I2, pl, el, e2⟩ => ?_)
  subst el e2
  refine thn (po_none.run pins s2 σ H2 (fun o H3 => o = none ∧ H3 = H2) I2 ⟨rfl, rfl⟩) fun vu s3 ⟨u, H3, I3, pu, eu, e3⟩ => ?_
  subst eu e3
  refine thn (hst.run pins s3 σ H3 (fun o H4 => o = some 2 ∧ H4 = H3) I3 ⟨2, rfl, rfl, rfl⟩) fun vs s4 ⟨o, H4, I4, ps, eo, e4⟩ => ?_
  subst eo e4
  have I5 : Inv X pins σ H4 { s4 with heap := s4.heap.push { cls := .type "slice", data := .fields #[vl, vu, vs] } } := I4.kept (t' := s4.toks) fun b ob q => Heap.get?_push_of_some _ q
  obtain ⟨its, r, ht, hz⟩ := I5.list hx
  have hlen := r.length
  show wpAny (model X.prog X.w) X.A (subscriptTail e (.Slice lo none (some (.Constant (.int 2) k1 p1)) p3) (.ref a) (.ref s4.heap.objs.size)) (EP X pins σ Q) X.xe { s4 with heap := s4.heap.push { cls := .type "slice", data := .fields #[vl, vu, vs] } }
  refine tail_any (ops := [.ref a, .ref s4.heap.objs.size]) ht.isList.typeIs (slot_list_getitem.lookup) ?_ (by with_unfolding_all rfl)
  refine wpAny_getItem_list_slice ht.isList (Heap.IsSliceOf.new _ vl vu vs) pl pu ps (by simp) ?_ (by rw [List.size_toArray]; omega)
  rw [pk]
  refine ⟨.ref _, _, I5.laid (t' := s4.toks) (o := .lst (evens (xs.drop off))) (fun b ob q => Heap.get?_push_of_some _ q) (Nat.le_refl _) ?_, rfl, q _ (I5.hok.fresh (Nat.le_refl _))⟩
  exact ⟨Nat.le_trans (evens_len _) (Nat.le_trans (by rw [List.length_drop]; omega) hz), _, 0, vals_evens (Vals.drop off r), Heap.get?_push_size _ rfl⟩
/-- xs[::2] -/
theorem pe_ev0 {e : Expr} {te : TE} {k1 : Nat} {p1 p3 pos : Pos} (he : PE X e te) : PE X (.Subscript e (.Slice none none (some (.Constant (.int 2) k1 p1)) p3) pos) (tEv X.K 0 te) :=
  ev_core (tl := tNoPart) (l := none) po_none he (fun _ _ _ h => h) 0 fun xs => pick_0 xs
/-- xs[1::2] -/
theorem pe_ev1 {e : Expr} {te : TE} {k0 k1 : Nat} {p0 p1 p3 pos : Pos} (he : PE X e te) : PE X (.Subscript e (.Slice (some (.Constant (.int 1) k0 p0)) none (some (.Constant (.int 2) k1 p1)) p3) pos) (tEv X.K 1 te) :=
  ev_core (tl := tPart (tC (.int 1))) (l := some 1) (po_some pe_int) he (fun _ _ _ h => ⟨1, rfl, h⟩) 1 fun xs => by
    by_cases z : xs.size = 0
    · exact pick_1e xs z
    · exact pick_1 xs (by omega)
/-- math.lcm of two -/
def rLcm : List V → Hp → VK → Prop := fun vs H Q => ∃ a b : Nat, vs = [.int a, .int b] ∧ a < 2 ^ 64 ∧ b < 2 ^ 64 ∧ Q (.int ((Nat.lcm a b : Nat) : Int)) H
theorem cr_lcm : CallR X (.builtin "math.lcm") rLcm := by
  intro pins s σ H vs us Q I r h
  obtain ⟨a, b, rfl, la, lb, q⟩ := h
  obtain ⟨t, u, rfl⟩ := Vals.int2 r
  have e : ((((Nat.lcm 1 (a : Int).natAbs).lcm (b : Int).natAbs : Nat) : Int)) = ((Nat.lcm a b : Nat) : Int) := by
    rw [PySem.W.mc_lcm_one, Int.natAbs_natCast, Int.natAbs_natCast]
  refine PySem.W.mg_lcm_v (by rw [Int.natAbs_natCast]; exact la) (by rw [Int.natAbs_natCast]; exact lb) e ?_ ⟨.int _, H, I.tok _, ⟨_, rfl⟩, q⟩
  rw [Int.natAbs_natCast]
  have l1 := PySem.W.mc_lcm_le a b
  have l2 : a * b < 2 ^ 64 * 2 ^ 64 := Nat.mul_lt_mul'' la lb
  have l3 : a.lcm b < 2 ^ 128 := Nat.lt_of_le_of_lt l1 (Nat.lt_of_lt_of_le l2 (by decide))
  have : (a.lcm b).log2 < 128 := by
    by_cases z : a.lcm b = 0
    · rw [z]; decide
    · exact (Nat.log2_lt z).mpr l3
  exact Nat.lt_of_lt_of_le this (by decide)
end
end Gn
set_option Elab.async false
set_option linter.all false
set_option maxRecDepth 100000
set_option maxHeartbeats 8000000
/-! {e for a in xs for b in ys if t}: a set of ints -/
namespace Gn
open PySem PySem.Spec PyProof.Rows L2
abbrev SC (el t0 i0 t1 i1 c1 : Expr) (sc : Scope) (pos : Pos) : Expr := .SetComp el [⟨t0, i0, [], 0⟩, ⟨t1, i1, [c1], 0⟩] sc pos
section
variable {P : Program} {w : World} {A : Around} {R : Result → Shared → Prop} {s : Shared} {el t0 i0 t1 i1 c1 : Expr} {sc : Scope} {pos : Pos} {it acc : Value} {env : Env}
/-- what is raised is noted first -/
abbrev Nb (P : Program) (w : World) (A : Around) (env : Env) (R : Result → Shared → Prop) : Value → Shared → Prop := notedBy (model P w) A env fun x t => R (.error x) t
theorem sc_turn0 : compTurn (SC el t0 i0 t1 i1 c1 sc pos) 0 it acc env = (do
      standAt i0.pos
      match ← pyNext it with
      | none => pure (.done .next)
      | some x =>
        letOwnedTupleGo t0 it x
        assign t0 env x
        let y ← eval i1 env
        standAt i1.pos
        let y ← foldedSetIterable i1 env y
        let _ ← runOwn (.compStart (SC el t0 i0 t1 i1 c1 sc pos) 1 (← holding [y] (pyIter y)) acc env) env
        again (.compLoop (SC el t0 i0 t1 i1 c1 sc pos) 0 it acc env)) := by rfl
theorem sc_turn1 : compTurn (SC el t0 i0 t1 i1 c1 sc pos) 1 it acc env = (do
      standAt i1.pos
      match ← pyNext it with
      | none => pure (.done .next)
      | some x =>
        letOwnedTupleGo t1 it x
        assign t1 env x
        let mut go := true
        for c in [c1] do
          if go then go ← isTrue c env (eval c env)
        if go then
          (do let y ← eval el env; standAt el.pos; let _ ← call (.builtin "set.add") [acc, y])
        again (.compLoop (SC el t0 i0 t1 i1 c1 sc pos) 1 it acc env)) := by rfl
theorem sc_loop0 (fs : ∀ x, foldedSetIterable i1 env x = pure x) (J : Nat → Shared → Prop)
    (step : ∀ n t, J n t → wpAny (model P w) A (pyNext it) (fun r t1' => match r with
      | none => R (.ok .next) t1'
      | some x => wpAny (model P w) A (letOwnedTupleGo t0 it x) (fun _ t2 => wpAny (model P w) A (assign t0 env x) (fun _ t3 =>
          wpAny (model P w) A (eval i1 env) (fun y t4 => wpAny (model P w) A (pyIter y) (fun jt t5 =>
            codeAny (model P w) A (.compStart (SC el t0 i0 t1 i1 c1 sc pos) 1 jt acc env) (fun r t6 => (∃ f, r = .ok f) ∧ ∃ m, m < n ∧ J m t6) t5) (Nb P w A env R) t4) (Nb P w A env R) t3) (Nb P w A env R) t2) (Nb P w A env R) t1') (Nb P w A env R) t)
    (n : Nat) (h : J n s) : codeAny (model P w) A (.compLoop (SC el t0 i0 t1 i1 c1 sc pos) 0 it acc env) R s := by
  refine codeAny_loop rfl J (fun n t hJ => ?_) n h
  show wpAny _ A ((compTurn (SC el t0 i0 t1 i1 c1 sc pos) 0 it acc env).onRaise (fun x => do noteFrame x env; theTreesLotGoes x)) _ _ t
  refine wpAny_noted ?_
  rw [sc_turn0]
  refine wpAny_bind (wpAny_standAt (wpAny_bind (wpAny_mono (step n t hJ) (fun r t1' k1 => ?_) fun _ _ z => z)))
  cases r with
  | none => exact wpAny_pure k1
  | some x =>
    refine wpAny_bind (wpAny_mono k1 (fun _ t2 k2 => wpAny_bind (wpAny_mono k2 (fun _ t3 k3 => wpAny_bind (wpAny_mono k3 (fun y t4 k4 => ?_) fun _ _ z => z)) fun _ _ z => z)) fun _ _ z => z)
    refine wpAny_bind (wpAny_standAt (wpAny_bind (wpAny_of_eq (fs y) (wpAny_bind (wpAny_holding (wpAny_mono k4 (fun jt t5 k5 => ?_) fun _ _ z => z))))))
    refine wpAny_bind (wpAny_runOwn ?_)
    rw [Around.mark_none]
    refine codeAny_mono k5 fun r t6 hr => ?_
    obtain ⟨⟨f, rfl⟩, hr⟩ := hr
    exact wpAny_pure ⟨rfl, hr⟩
theorem sc_loop1 (J : Nat → Shared → Prop)
    (step : ∀ n t, J n t → wpAny (model P w) A (pyNext it) (fun r t1' => match r with
      | none => R (.ok .next) t1'
      | some x => wpAny (model P w) A (letOwnedTupleGo t1 it x) (fun _ t2 => wpAny (model P w) A (assign t1 env x) (fun _ t3 =>
          wpAny (model P w) A (forIn [c1] true fun c r => if r = true then do let go ← isTrue c env (eval c env); pure (ForInStep.yield go) else pure (ForInStep.yield r)) (fun go t4 =>
            if go = true then wpAny (model P w) A (eval el env) (fun y t5 => wpAny (model P w) A (call (.builtin "set.add") [acc, y]) (fun _ t6 => ∃ m, m < n ∧ J m t6) (Nb P w A env R) t5) (Nb P w A env R) t4
            else ∃ m, m < n ∧ J m t4) (Nb P w A env R) t3) (Nb P w A env R) t2) (Nb P w A env R) t1') (Nb P w A env R) t)
    (n : Nat) (h : J n s) : codeAny (model P w) A (.compLoop (SC el t0 i0 t1 i1 c1 sc pos) 1 it acc env) R s := by
  refine codeAny_loop rfl J (fun n t hJ => ?_) n h
  show wpAny _ A ((compTurn (SC el t0 i0 t1 i1 c1 sc pos) 1 it acc env).onRaise (fun x => do noteFrame x env; theTreesLotGoes x)) _ _ t
  refine wpAny_noted ?_
  rw [sc_turn1]
  refine wpAny_bind (wpAny_standAt (wpAny_bind (wpAny_mono (step n t hJ) (fun r t1' k1 => ?_) fun _ _ z => z)))
  cases r with
  | none => exact wpAny_pure k1
  | some x =>
    refine wpAny_bind (wpAny_mono k1 (fun _ t2 k2 => wpAny_bind (wpAny_mono k2 (fun _ t3 k3 => wpAny_bind (wpAny_mono k3 (fun go t4 k4 => ?_) fun _ _ z => z)) fun _ _ z => z)) fun _ _ z => z)
    cases go with
    | false => exact wpAny_pure ⟨rfl, k4⟩
    | true =>
      exact wpAny_bind (wpAny_bind (wpAny_mono k4 (fun y t5 k5 => wpAny_bind (wpAny_standAt (wpAny_bind (wpAny_mono k5 (fun _ t6 k6 => wpAny_pure (wpAny_pure ⟨rfl, k6⟩)) fun _ _ z => z)))) fun _ _ z => z))
/-- the second source's walk begins -/
theorem sc_start1 (h0 : codeAny (model P w) A (.compLoop (SC el t0 i0 t1 i1 c1 sc pos) 1 it acc env) R s)
    (h : wpAny (model P w) A (pyIter it) (fun jt t => codeAny (model P w) A (.compLoop (SC el t0 i0 t1 i1 c1 sc pos) 1 jt acc env) R t) (Nb P w A env R) s) :
    codeAny (model P w) A (.compStart (SC el t0 i0 t1 i1 c1 sc pos) 1 it acc env) R s := by
  refine codeAny_of_tree ?_
  show wpAny _ _ ((compStart (SC el t0 i0 t1 i1 c1 sc pos) 1 it acc env).onRaise (fun x => do noteFrame x env; standAt theWindowsPlace)) _ _ s
  refine wpAny_notedAt ?_
  unfold compStart
  show wpAny _ _ (ask >>= _) _ _ s
  refine wpAny_bind (wpAny_askSetting (wpAny_ite ?_))
  split
  · exact wpAny_pure (And.intro rfl h0)
  · refine wpAny_bind (wpAny_rule ?_)
    show wpAny _ _ (standAt i1.pos >>= _) _ _ s
    exact wpAny_bind (wpAny_standAt (wpAny_bind (wpAny_mono h (fun jt t k => wpAny_pure (And.intro rfl k)) fun _ _ z => z)))
end
/-- what stands in the block -/
structure Blk (Y : Cx) (t0 t1 i1 c1 el : Expr) (g : TG) (wi : TI) (g1 : TG) (tc : TT) (te : TE) : Prop where
  g : PG Y t0 g
  i : PI Y t1 i1 wi
  g1 : PG Y t1 g1
  c : PTs Y [c1] tc
  e : PE Y el te
/-- k goes down -/
abbrev Dn (k : Nat) (F : Nat → Prop) : Prop := ∃ k', k' < k ∧ F k'
/-- one int more in the set at D -/
def More (w : World) (D : Addr) (y : V) (G : Hp) (F : Hp → Prop) : Prop := ∃ (z : Int) (S : Int → Bool) (n : Nat), y = .int z ∧ G D = some (SetO w D S n) ∧ n + 1 < scanBound ∧ F (upd G D (SetO w D (fun j => S j || decide (j = z)) (if S z = true then n else n + 1)))
def tSc2 (w : World) (wi : TI) (g : TG) (wi1 : TI) (g1 : TG) (tc : TT) (te : TE) (vs vs1 : List Nat) : TE := fun σ H Q => wi σ H fun J G => ∀ D, G D = none → ∃ W : Nat → Nat → Hp → Prop, (∃ m, W 0 m (upd G D (SetO w D (fun _ => false) 0))) ∧ ∀ i m H1, W i m H1 →
  (J.stop i H1 ∧ Q (.ref D) H1) ∨ (J.go i H1 ∧ ∀ x H2, J.yld i H1 x H2 → g x (wipe σ vs) H2 fun τ H3 => wipe τ vs = wipe σ vs ∧ wi1 τ H3 fun J1 H4 => ∃ W1 : Nat → Nat → Hp → Prop, (∃ k, W1 0 k H4) ∧ ∀ j k H5, W1 j k H5 →
    (J1.stop j H5 ∧ Dn m fun m' => W (i + 1) m' H5) ∨ (J1.go j H5 ∧ ∀ x1 H6, J1.yld j H5 x1 H6 → g1 x1 (wipe τ vs1) H6 fun υ H7 => wipe υ vs1 = wipe τ vs1 ∧ tc υ H7 fun b H8 =>
      if b = true then te υ H8 fun y H9 => More w D y H9 fun G' => Dn k fun k' => W1 (j + 1) k' G' else Dn k fun k' => W1 (j + 1) k' H8))
/-- the walk's own objects, no slot knows them -/
theorem fp_back {X Y : Cx} {pins : List (Addr × Obj)} {fp : List Addr} {h h' : Heap} {τ : L2.St} {G : Hp} {t : Shared} (I : Inv Y (pins ++ pinsAt fp h) τ G t) (b : Addr) (hb : b ∈ fp) {o : Obj} (e : h.get? b = some o) : t.heap.get? b = some o ∧ G b = none := by
  have z := I.pin (b, o) (List.mem_append_right _ (List.mem_append_right _ (mem_pinsAt hb e)))
  exact ⟨z.1, z.2.1⟩
section
variable {X : Cx}
/-- set.add of an int -/
theorem add_int {pins : List (Addr × Obj)} {σ : L2.St} {H : Hp} {s : Shared} {E : Value → Shared → Prop} {D : Addr} {y : V} {u : Value} {F : Hp → Prop} {Q : Value → Shared → Prop} (I : Inv X pins σ H s) (r : RelV y u) (M : More X.w D y H F)
    (k : ∀ t G, Inv X pins σ G t → F G → Q .none t) : wpAny (model X.prog X.w) X.A (call (.builtin "set.add") [.ref D, u]) Q E s := by
  obtain ⟨z, S, n, rfl, hD, room, f⟩ := M
  obtain ⟨tk, rfl⟩ := r
  refine setR_add (setO_get I hD) room fun h' sb new => ?_
  have live : ∃ u, h'.get? D = some u := by
    obtain ⟨o, _, _, _, ho, _⟩ := id new
    exact ⟨o, ho⟩
  exact k _ _ (I.write (e := D) (t' := s.toks + 1) (by rw [hD]; trivial) (.inl rfl) (fun b u hb hu => (sb.2 b hb).trans hu) live (setO_new new)) f
theorem pe_sc2 {el t0 i0 t1 i1 c1 : Expr} {sc : Scope} {own : List (Str × Nat)} {vs1 : List Nat} {pos : Pos} {wi wi1 : TI} {g g1 : TG} {tc : TT} {te : TE} (calm : X.calm = true) (nd : X.N.Nodup) (src : PI X t0 i0 wi) (ok : BlkOk X.N X.env.scope sc own) (sub : ∀ i ∈ vs1, i ∈ own.map (·.2))
    (blk : ∀ (s : Shared) (H : Hp) (C : Addr) (cl : List (Str × Addr)) (fp : List Addr), Blk (X.blk s H sc (compEnvC sc cl C X.env) fp) t0 t1 i1 c1 el g wi1 g1 tc te)
    (f0 : ∀ x, foldedSetIterable i0 X.env x = pure x := by intro _; rfl) (f1 : ∀ env x, foldedSetIterable i1 env x = pure x := by intro _ _; rfl) :
    PE X (SC el t0 i0 t1 i1 c1 sc pos) (tSc2 X.w wi g wi1 g1 tc te (own.map (·.2)) vs1) := by
  constructor
  intro pins s σ H Q I want
  rw [PpSet.eval_SetComp]
  have free : ∀ y ∈ sc.names, y.2 = .free → ∃ c, X.env.cells.lookup y.1 = some c := fun y m e => by
    rcases ok.free y m e with z | z
    · exact I.ok.has _ (.inl z)
    · exact I.ok.has _ (.inr z)
  refine wpAny_comprehension_free (use := none) rfl f0 (closure_ok free) ok.kind (fun y m e => by rw [ok.uniq y m, e]) (thn (src.run pins s σ H _ I want) fun xv s1 hx => thn hx fun jv s2 h2 => ?_)
  obtain ⟨it, fp, tn, J, H2, rfl, I2, T, st2, off2, q⟩ := h2
  refine PpSet.newSet_ok (newEnv_comp ?_)
  obtain ⟨D, eD⟩ : ∃ D, D = s2.heap.objs.size := ⟨_, rfl⟩
  rw [← eD]
  have nD : H2 D = none := I2.hok.fresh (Nat.le_of_eq eD.symm)
  obtain ⟨W, ⟨m0, w0⟩, turn⟩ := q D nD
  obtain ⟨s3, es3⟩ : ∃ t : Shared, t = { s2 with heap := s2.heap.push { cls := .type "set", dict := none, data := .set #[] 0 (.fresh 0 0 (!X.w.params.followText "set-order")) } } := ⟨_, rfl⟩
  obtain ⟨G, eG⟩ : ∃ G : Hp, G = upd H2 D (SetO X.w D (fun _ => false) 0) := ⟨_, rfl⟩
  rw [← eG] at w0
  have hp3 : s3.heap = s2.heap.push { cls := .type "set", dict := none, data := .set #[] 0 (.fresh 0 0 (!X.w.params.followText "set-order")) } := by rw [es3]
  have I3 : Inv X pins σ G s3 := by
    rw [es3, eG]
    refine I2.laid (t' := s2.toks) (fun b o e => Heap.get?_push_of_some _ e) (Nat.le_of_eq eD.symm) ?_
    rw [eD]
    exact setO_new (setR_fresh X.w)
  have low : ∀ b ∈ fp, b < s2.heap.objs.size := fun b m => by
    obtain ⟨o, e, _⟩ := T.obj _ _ st2 b m
    exact Heap.lt_size e
  have off3 : ∀ b ∈ fp, FpOk X pins G b ∧ b < s3.heap.objs.size := fun b m => by
    have l := low b m
    refine ⟨⟨?_, (off2 b m).2⟩, by rw [hp3, Heap.size_push]; exact Nat.lt_succ_of_lt l⟩
    rw [eG, upd_ne (by rw [eD]; exact Nat.ne_of_lt l)]
    exact (off2 b m).1
  have st3 : tn 0 s3.heap := T.keep _ _ _ st2 fun b _ o e => by rw [hp3]; exact Heap.get?_push_of_some _ e
  have I4 := block_start I3 ok nd off3
  have bk := blk s3 G s3.heap.objs.size (cellsFrom (s3.heap.objs.size + 1) sc.names (cloFrom X.env.cells sc.names [])) fp
  obtain ⟨ce, ec⟩ : ∃ e : Env, e = compEnvC sc (cellsFrom (s3.heap.objs.size + 1) sc.names (cloFrom X.env.cells sc.names [])) s3.heap.objs.size X.env := ⟨_, rfl⟩
  have lc : ce.locals = s3.heap.objs.size := by rw [ec]; rfl
  obtain ⟨s4, es4⟩ : ∃ t : Shared, t = { s3 with heap := pushCells (s3.heap.push { cls := .type "dict", data := .dict #[] }) sc.names } := ⟨_, rfl⟩
  rw [← ec] at I4 bk
  rw [← es4] at I4
  have main : codeAny (model X.prog X.w) X.A (.compStart (SC el t0 i0 t1 i1 c1 sc pos) 0 (.ref it) (.ref D) ce) (compPost (model X.prog X.w) X.A X.xe none (EP X pins σ Q) (.ref D) s3.heap.objs.size) s4 := by
    have st4 : tn 0 s4.heap := T.keep _ _ _ st3 fun b _ o e => by rw [es4]; exact pushCells_keeps _ _ _ _ (Heap.get?_push_of_some _ e)
    have no4 : ∀ b ∈ fp, G b = none := fun b m => (off3 b m).1.1
    have fit : ∀ {τ : L2.St} {G' : Hp} {t : Shared}, Inv (X.blk s3 G sc ce fp) [] τ G' t → (∀ b ∈ fp, G' b = none) → ∀ b ∈ fp, FpOk (X.blk s3 G sc ce fp) [] G' b := fun {τ G' t} K no b m =>
      ⟨no b m, (K.ok.exf b m).1, K.ok.exfs b m, .inl m, fun x c e => (K.ok.exf b m).2 x c e, fun p hp => absurd (show p ∈ ([] : List (Addr × Obj)) ++ [] from hp) (by simp)⟩
    have loop : codeAny (model X.prog X.w) X.A (.compLoop (SC el t0 i0 t1 i1 c1 sc pos) 0 (.ref it) (.ref D) ce) (compPost (model X.prog X.w) X.A X.xe none (EP X pins σ Q) (.ref D) s3.heap.objs.size) s4 := by
      refine sc_loop0 (f1 ce) (fun n t => ∃ i G', Inv (X.blk s3 G sc ce fp) [] (wipe σ (own.map (·.2))) G' t ∧ tn i t.heap ∧ (∀ b ∈ fp, G' b = none) ∧ W i n G') ?_ m0 ⟨0, G, I4, st4, no4, w0⟩
      rintro n t5 ⟨i, G5, I5, st5, no5, w5⟩
      rcases turn i n G5 w5 with ⟨stop, fin⟩ | ⟨go, step⟩
      · refine thnF (T.done (X.blk s3 G sc ce fp) rfl rfl rfl calm i [] t5 _ G5 (fun _ _ => False) I5 (fit I5 no5) st5 stop) fun r t6 ⟨hr, I6⟩ => ?_
        subst hr
        have I7 : Inv X pins σ G5 t6 := I3.call' (ch := fp) I6.os I6.base I6.hok I6.bare fun b m => ⟨(off3 b m).1.2.2.2.1, (off3 b m).1.2.1, (off3 b m).1.2.2.2.2.1, (off3 b m).1.2.2.2.2.2⟩
        have nC : G5 s3.heap.objs.size = none := by
          have z : G5 ce.locals = none := I6.free
          rwa [lc] at z
        obtain ⟨mm, hn, _⟩ := I6.loc
        have hn : t6.heap.Ns ce.locals mm := hn
        rw [lc] at hn
        obtain ⟨a0, a1, a2, a3, a4, a5⟩ := I3.fpOk (Nat.le_refl _) nC
        exact ⟨mm, hn, fun h'' sb => ⟨.ref D, G5, I7.turned (t' := t6.toks) (fun b o hb e => (sb.2 b hb).trans e) a0 a1 a3 a4 a5, rfl, fin⟩⟩
      · refine thnF (T.item (X.blk s3 G sc ce fp) rfl rfl rfl calm i [] t5 _ G5 (fun _ _ => False) I5 (fit I5 no5) st5 go) fun r t6 ⟨u, hr, h6⟩ => ?_
        subst hr
        refine thnF h6 fun _ t7 ⟨x, G7, I7, r7, y7, st7, no7⟩ => ?_
        refine thnF (bk.g.run _ t7 _ G7 x u _ (I7.pinned (fit I7 no7) (T.obj _ _ st7)) r7 (step x G7 y7)) fun _ t8 ⟨τ, G8, I8, hw, q8⟩ => ?_
        have len8 : (wipe σ (own.map (·.2))).length = τ.length := by rw [← hw, wipe_length]
        refine thnF (bk.i.run _ t8 τ G8 _ I8 q8) fun xv t9 hx => thnF hx fun jv t10 h10 => ?_
        obtain ⟨jt, fq, tm, J1, G10, rfl, I10, U, su10, off10, W1, ⟨k0, v0⟩, turn1⟩ := h10
        have fit1 : ∀ {G' : Hp}, (∀ b ∈ fq, G' b = none) → ∀ b ∈ fq, FpOk (X.blk s3 G sc ce fp) ([] ++ pinsAt fp t7.heap) G' b := fun no b m => ⟨no b m, (off10 b m).2⟩
        have know : ∀ (j : Nat) v, (wipe σ (own.map (·.2)))[j]? = some (some v) → (wipe τ vs1)[j]? = some (some v) := fun j v e => by
          rw [← hw] at e
          obtain ⟨e1, e2⟩ := wipe_some e
          rw [wipe_out fun z => e2 (sub j z)]
          exact e1
        have inner : codeAny (model X.prog X.w) X.A (.compLoop (SC el t0 i0 t1 i1 c1 sc pos) 1 (.ref jt) (.ref D) ce)
            (fun r t => (∃ f, r = .ok f) ∧ ∃ m, m < n ∧ ∃ i G', Inv (X.blk s3 G sc ce fp) [] (wipe σ (own.map (·.2))) G' t ∧ tn i t.heap ∧ (∀ b ∈ fp, G' b = none) ∧ W i m G') t10 := by
          refine sc_loop1 (fun k t => ∃ j G', Inv (X.blk s3 G sc ce fp) ([] ++ pinsAt fp t7.heap) (wipe τ vs1) G' t ∧ tm j t.heap ∧ (∀ b ∈ fq, G' b = none) ∧ W1 j k G') ?_ k0 ⟨0, G10, I10.weak (wipe_length _ _) (fun j v e => (wipe_some e).1), su10, fun b m => (off10 b m).1, v0⟩
          rintro k t11 ⟨j, G11, I11, su11, no11, v11⟩
          rcases turn1 j k G11 v11 with ⟨stop1, m', lt, w'⟩ | ⟨go1, step1⟩
          · refine thnF (U.done (X.blk s3 G sc ce fp) rfl rfl rfl calm j _ t11 (wipe τ vs1) G11 (fun _ _ => False) I11 (fit1 no11) su11 stop1) fun r t12 ⟨hr, I12⟩ => ?_
            subst hr
            refine ⟨⟨_, rfl⟩, m', lt, i + 1, G11, (I12.unpinned (pins := [])).weak (len8.trans (wipe_length τ vs1).symm) know, T.keep _ _ _ st7 fun b m o e => (fp_back (X := X) (h' := t7.heap) I12 b m e).1, fun b m => ?_, w'⟩
            obtain ⟨o, e, _⟩ := T.obj _ _ st7 b m
            exact (fp_back (X := X) (h' := t7.heap) I12 b m e).2
          · refine thnF (U.item (X.blk s3 G sc ce fp) rfl rfl rfl calm j _ t11 (wipe τ vs1) G11 (fun _ _ => False) I11 (fit1 no11) su11 go1) fun r t12 ⟨u1, hr, h12⟩ => ?_
            subst hr
            refine thnF h12 fun _ t13 ⟨x1, G13, I13, r13, y13, su13, no13⟩ => ?_
            refine thnF (bk.g1.run _ t13 (wipe τ vs1) G13 x1 u1 _ (I13.pinned (fit1 no13) (U.obj _ _ su13)) r13 (step1 x1 G13 y13)) fun _ t14 ⟨υ, G14, I14, hv, q14⟩ => ?_
            refine thnF (bk.c.run _ t14 υ G14 _ I14 q14) fun b t15 ⟨G15, I15, q15⟩ => ?_
            have next : ∀ {t : Shared} {G' : Hp}, Inv (X.blk s3 G sc ce fp) (([] ++ pinsAt fp t7.heap) ++ pinsAt fq t13.heap) υ G' t → (Dn k fun k' => W1 (j + 1) k' G') →
                ∃ m, m < k ∧ ∃ j G', Inv (X.blk s3 G sc ce fp) ([] ++ pinsAt fp t7.heap) (wipe τ vs1) G' t ∧ tm j t.heap ∧ (∀ b ∈ fq, G' b = none) ∧ W1 j m G' := fun {t G'} K ⟨k', lt, w'⟩ => by
              refine ⟨k', lt, j + 1, G', K.unpinned.weak (by rw [← hv, wipe_length]) (fun j v e => by rw [← hv] at e; exact (wipe_some e).1), U.keep _ _ _ su13 fun b m o e => (fp_back (X := X) (h' := t7.heap) K b m e).1, fun b m => ?_, w'⟩
              obtain ⟨o, e, _⟩ := U.obj _ _ su13 b m
              exact (fp_back (X := X) (h' := t7.heap) K b m e).2
            cases b with
            | false =>
              simp only [Bool.false_eq_true, if_false] at q15 ⊢
              exact next I15 q15
            | true =>
              simp only [if_true] at q15 ⊢
              refine thnF (bk.e.run _ t15 υ G15 _ I15 q15) fun z t16 ⟨yv, G16, I16, r16, more⟩ => ?_
              exact add_int (X := X.blk s3 G sc ce fp) I16 r16 more fun t17 G17 I17 dn => next I17 dn
        exact sc_start1 inner (U.self X.A 0 _ _ _ su10 inner)
    exact PpSet.codeAny_compStart_set loop (T.self X.A 0 _ _ _ st4 loop)
  rw [ec, es4, es3] at main
  exact main
end
end Gn
set_option Elab.async false
set_option linter.all false
set_option maxRecDepth 100000
set_option maxHeartbeats 8000000
/-! x(e, lambda p: bo), the def x calling what it got with one argument -/
namespace Gn
open PySem PySem.Spec PyProof.Rows L2
/-- one parameter, no other name of its own -/
structure LamP (sc lam : Scope) (p : Str) : Prop where
  kind : lam.kind = .function
  co : lam.isCoroutine = false
  gen : lam.isGenerator = false
  par : lam.names.lookup p = some .local
  own : ∀ y ∈ lam.names, (y.2 = .local → y.1 = p) ∧ y.2 ≠ .cell
  free : ∀ y ∈ lam.names, y.2 = .free → sc.names.lookup y.1 = some .cell ∨ sc.names.lookup y.1 = some .free
def lamPB (sc lam : Scope) (p : Str) : Bool :=
  decide (lam.kind = .function) && (!lam.isCoroutine && (!lam.isGenerator && (decide (lam.names.lookup p = some .local) &&
    lam.names.all fun y => (!decide (y.2 = .local) || decide (y.1 = p)) && (!decide (y.2 = .cell) && (!decide (y.2 = .free) || (decide (sc.names.lookup y.1 = some .cell) || decide (sc.names.lookup y.1 = some .free)))))))
theorem lamP_by {sc lam : Scope} {p : Str} (h : lamPB sc lam p = true) : LamP sc lam p := by
  unfold lamPB at h
  simp only [Bool.and_eq_true, Bool.or_eq_true, Bool.not_eq_true', decide_eq_true_eq, decide_eq_false_iff_not, List.all_eq_true] at h
  obtain ⟨a, b, c, d, e⟩ := h
  exact ⟨a, b, c, d, fun y m => ⟨fun z => (e y m).1.resolve_left fun k => k z, (e y m).2.1⟩, fun y m z => (e y m).2.2.resolve_left fun k => k z⟩
theorem LamP.has {X : Cx} {lam : Scope} {p : Str} (L : LamP X.env.scope lam p) (ok : X.Ok) : ∀ y ∈ lam.names, y.2 = .free → ∃ c, X.env.cells.lookup y.1 = some c := fun y m e =>
  (L.free y m e).elim (fun z => ok.has _ (.inl z)) fun z => ok.has _ (.inr z)
/-- the lambda's body, entered at s -/
abbrev lamQ (X : Cx) (A : Around) (outer : List Env) (s : Shared) (H : Hp) (lam : Scope) (p : Str) (f c : Addr) : Cx :=
  { LamX.lamCx X A outer s H (fun _ _ _ => False) lam f c with N := X.N ++ [p], xe := fun _ _ => False }
section
variable {X : Cx} {pins : List (Addr × Obj)} {σ : L2.St} {H : Hp} {s : Shared}
theorem lamQ_start {A : Around} {outer : List Env} {lam : Scope} {p : Str} {f c : Addr} {G : Hp} {t : Shared} {h1 : Heap} {tk : Nat} {v : V} {u : Value} (I : Inv X pins σ H s) (L : LamP X.env.scope lam p) (np : p ∉ X.N) (e0 : Env0 X.prog X.w X.K X.mg X.base A outer t G) (cool : A.handled = none)
    (un : Un (frs X.stack) [] H G s.heap t.heap) (ns : h1.Ns t.heap.objs.size fun y => ([(p, u)] : List (Str × Value)).reverse.lookup y) (r : RelV v u) (kp : ∀ b o, t.heap.get? b = some o → h1.get? b = some o) :
    Inv (lamQ X A outer t G lam p f c) [] (σ ++ [some v]) G { t with heap := h1, toks := tk } := by
  have free := L.has I.ok
  have back : ∀ {y d}, (cloFrom X.env.cells lam.names []).lookup y = some d → X.env.cells.lookup y = some d := fun {y d} e => by
    rcases cloFrom_mem (PySem.mem_of_lookup e) with m | ⟨m, ed⟩
    · cases m
    · obtain ⟨d1, h⟩ := free _ m rfl
      have h : X.env.cells.lookup y = some d1 := h
      rw [h] at ed
      have ed : d = d1 := ed
      rw [ed]; exact h
  have there : ∀ {y}, lam.names.lookup y = some .free → ∃ d, (cloFrom X.env.cells lam.names []).lookup y = some d := fun {y} e => mem_lookup (cloFrom_has (cells := X.env.cells) (acc := []) (PySem.mem_of_lookup e))
  have celled : ∀ {d : Addr} {x : Option Value}, H d = none → s.heap.IsCell d x → h1.IsCell d x := fun {d x} n ⟨o, ho, hd⟩ => by
    obtain ⟨sl, z⟩ := un.any ho n (by simp)
    exact ⟨_, kp _ _ z, hd⟩
  have nex : ∀ b : Addr, b ∉ (lamQ X A outer t G lam p f c).ex := fun b z => absurd (show b ∈ ([] : List Addr) from z) (by simp)
  refine ⟨⟨e0.mod, L.kind, rfl, rfl, Nat.le_refl _, fun y z d e1 e2 => I.ok.inj y z d (back e1) (back e2), fun y hy => ?_, fun y d z _ => (by cases (show false = true from z)), fun _ => cool, Around.frames_deeper e0.frames, .inr ⟨rfl, rfl⟩, fun b z => absurd z (nex b), e0.bs, e0.bsz, fun b _ _ => nex b,
      fun b z => absurd z (nex b), e0.funs, e0.frf⟩,
    rfl, e0.bare, Un.kept kp, ⟨_, ns, fun i y x e1 e2 e3 => ?_⟩, fun y d e => ?_, e0.hok.fresh (Nat.le_refl _), fun y d e => ?_, fun q hq => absurd (show q ∈ ([] : List (Addr × Obj)) ++ [] from hq) (by simp), e0.hok.kept kp, ?_⟩
  · rcases (show lam.names.lookup y = some .cell ∨ lam.names.lookup y = some .free from hy) with z | z
    · exact absurd rfl (L.own _ (PySem.mem_of_lookup z)).2
    · exact there z
  · have e1 : (X.N ++ [p])[i]? = some y := e1
    have len := I.len
    rcases Nat.lt_or_ge i X.N.length with lt | ge
    · -- a name of the maker
      rw [List.getElem?_append_left lt] at e1
      rw [List.getElem?_append_left (by omega)] at e2
      rcases (show Vis lam y from e3) with k | k | k
      · have ey : y = p := (L.own _ (PySem.mem_of_lookup k)).1 rfl
        exact absurd (by rw [← ey]; exact List.mem_of_getElem? e1) np
      · exact absurd rfl (L.own _ (PySem.mem_of_lookup k)).2
      · obtain ⟨m, hn, look⟩ := I.loc
        have vis : Vis X.env.scope y := (L.free _ (PySem.mem_of_lookup k) rfl).elim (fun z => .inr (.inl z)) fun z => .inr (.inr z)
        obtain ⟨w', rr, q⟩ := look i y x e1 e2 vis
        obtain ⟨d2, h2⟩ := there k
        have d1 := back h2
        refine ⟨w', rr, .inr ⟨.inr k, d2, h2, ?_⟩⟩
        rcases q with ⟨k', _⟩ | ⟨_, d3, e', z⟩
        · have k' : X.env.scope.names.lookup y = some .local := k'
          rcases L.free _ (PySem.mem_of_lookup k) rfl with k2 | k2 <;> rw [show X.env.scope.names.lookup y = _ from k2] at k' <;> cases k'
        · rw [d1] at e'
          cases e'
          exact celled (I.freeC y _ d1) z
    · -- the parameter
      rw [List.getElem?_append_right ge] at e1
      rw [List.getElem?_append_right (by omega)] at e2
      have i0 : i = X.N.length := by
        obtain ⟨l, _⟩ := List.getElem?_eq_some_iff.mp e1
        simp only [List.length_singleton] at l
        omega
      subst i0
      rw [Nat.sub_self] at e1
      rw [len, Nat.sub_self] at e2
      have ey : y = p := (Option.some.inj (show some p = some y from e1)).symm
      have ex : x = v := (Option.some.inj (Option.some.inj (show some (some v) = some (some x) from e2))).symm
      subst ey ex
      refine ⟨u, r, .inl ⟨L.par, ?_⟩⟩
      show ([(y, u)] : List (Str × Value)).lookup y = some u
      simp [List.lookup]
  · obtain ⟨x, z⟩ := I.cell y d (back e)
    exact ⟨x, celled (I.freeC y d (back e)) z⟩
  · obtain ⟨x, o, ho, hd⟩ := I.cell y d (back e)
    exact un.free d o ho (I.freeC y d (back e)) (by simp)
  · show (σ ++ [some v]).length = (X.N ++ [p]).length
    rw [List.length_append, List.length_append, I.len]
    rfl
/-- the def that gets the lambda, entered at s -/
abbrev getY (X : Cx) (Ng : List Str) (x : Str) (sg : Scope) (g : Addr) (cdg : Value) (s : Shared) (H : Hp) : Cx := (cxOf CX0 X.prog X.w X.K X.mg X.base Ng x sg g cdg X.A X.stack s H E0).nox
/-- a(e), in that def -/
theorem pe_got {Ng : List Str} {x : Str} {sg lam : Scope} {g f c : Addr} {cdg pm ctv : Value} {pr : Arguments} {bo : Expr} {k i : Nat} {a p : Str} {tb : TE} {e : Expr} {te : TE} {p1 p2 : Pos}
    (I : Inv X pins σ H s) (L : LamP X.env.scope lam p) (np : p ∉ X.N) (gf : s.heap.get? f = some (PySem.W.kla_obj "<lambda>" (X.env.qual ++ "<lambda>") pr bo lam (cloFrom X.env.cells lam.names []) pm c ctv)) (nf : H f = none) (off : f ∉ frs X.stack)
    (bi : ∀ u : Value, bindArgs (PySem.W.kla_fn "<lambda>" (X.env.qual ++ "<lambda>") pr bo lam (cloFrom X.env.cells lam.names []) pm (.ref c) ctv) ⟨[u], []⟩ = pure [(p, u)])
    (hr : Room (k + 1) (X.A.deeper (envOfC x sg s.heap.objs.size g cdg))) (body : ∀ (A : Around) (outer : List Env) (t : Shared) (G : Hp), Room k (A.deeper (LamX.lamEnv X lam t.heap.objs.size f c)) → PE (lamQ X A outer t G lam p f c) bo tb)
    (at_ : Ng[i]? = some a) (vi : Vis sg a) (es : starEach [e] (getY X Ng x sg g cdg s H).env = [(false, eval e (getY X Ng x sg g cdg s H).env)]) (he : PE (getY X Ng x sg g cdg s H) e te) (nd : (a == ("__debug__" : Str)) = false := by decide) (nc : (a == ("__classdict__" : Str)) = false := by decide) :
    PE (getY X Ng x sg g cdg s H) (.Call (.Name a p1) [e] [] p2) (fun τ G Q => τ[i]? = some (some (.ref f)) ∧ te τ G fun v G1 => G1 c = some (LamX.CodeO c (X.env.qual ++ "<lambda>")) ∧ tb (σ ++ [some v]) G1 Q) := by
  constructor
  rintro pi t τ G Q J ⟨slot, arg⟩
  refine wpAny_Call_Name_kw (thn ((pe_var (pos := p1) (i := i) at_ vi nd nc).run pi t τ G (fun v G1 => v = .ref f ∧ G1 = G) J ⟨.ref f, slot, rfl, rfl⟩) fun uf t1 ⟨vf, Gf, J1, rf, ev, eG⟩ => ?_)
  subst ev eG
  obtain rfl : uf = Value.ref f := rf
  have stay : ∀ {τ' : L2.St} {G' : Hp} {t' : Shared}, Inv (getY X Ng x sg g cdg s H) pi τ' G' t' → t'.heap.get? f = some (PySem.W.kla_obj "<lambda>" (X.env.qual ++ "<lambda>") pr bo lam (cloFrom X.env.cells lam.names []) pm c ctv) := fun {τ' G' t'} K => by
    have un : Un (frs X.stack) [] H G' s.heap t'.heap := K.base
    exact un.keep f _ gf nf off (fun z => nomatch (show f ∈ ([] : List Addr) from z))
  refine PySem.W.callWith_F ⟨_, _, _, _, stay J1⟩ ?_ (he := es)
  rw [es]
  refine Calls.spliced_cons (thn (he.run pi t1 τ Gf _ J1 arg) fun u t2 ⟨v, G2, J2, r2, co, want⟩ => Calls.spliced_nil ⟨⟨_, _, _, _, stay J2⟩, ?_⟩)
  have g2 := stay J2
  have un : Un (frs X.stack) [] H G2 s.heap t2.heap := J2.base
  obtain ⟨⟨oc, vs, tn, goc, gd, gv⟩, _, _⟩ := J2.hok c _ co
  have run : codeAny (model X.prog X.w) (X.A.deeper (envOfC x sg s.heap.objs.size g cdg)) (.call (.ref f) ⟨[u], []⟩) (CR CX0 (envOfC x sg s.heap.objs.size g cdg :: X.stack) X.prog X.w G2 t2 Q E0) t2 := by
    refine PySem.W.kla_callFunE hr.depth g2 rfl L.co L.gen rfl ⟨c, oc, vs, tn, rfl, goc, gd, gv⟩ ?_
    rw [bi]
    refine wpAny_pure (wpAny_newFunctionEnv (fun y m => (L.own y m).2) (fun y m => ?_) (fun h1 ns sb => ⟨J2.nolimit.fresh _ sb, ?_⟩) L.kind)
    · rw [List.mem_singleton.mp m]; exact L.par
    change codeAny _ _ (.expr bo (LamX.lamEnv X lam t2.heap.objs.size f c)) _ _
    have start := lamQ_start (A := X.A.deeper (envOfC x sg s.heap.objs.size g cdg)) (outer := envOfC x sg s.heap.objs.size g cdg :: X.stack) (c := c) (f := f) (tk := t2.toks + ([(p, u)] : List (Str × Value)).length) I L np J2.env0 hr.hd un ns r2 fun b o e => sb.extBut b o (Nat.ne_of_lt (Heap.lt_size e)) (Heap.get?_push_of_some _ e)
    refine PySem.W.kla_codeExpr (wpAny_mono ((body _ _ t2 G2 (hr.deeper _)).run [] _ _ G2 Q start want) (fun z t3 ⟨y, G3, J3, ry, q⟩ => ?_) fun _ _ z => z.elim)
    exact ⟨y, G3, J3.os, J3.bare, J3.base, J3.hok, ry, q⟩
  refine wpAny_call (codeAny_mono run fun rr t3 z => ?_)
  cases rr with
  | error e => exact z.elim
  | ok fl => cases fl with
    | ret z' => exact J2.after z
    | next => exact z.elim
    | brk => exact z.elim
    | cont => exact z.elim
/-- what the def that gets a lambda does, tl telling what the lambda does -/
def GivesQ (X : Cx) (Ng : List Str) (x : Str) (sg : Scope) (g : Addr) (cdg : Value) (bg : List Stmt) (i : Nat) (a q : Str) (k : Nat) (sp : (V → Hp → VK → Prop) → V → Hp → VK → Prop) : Prop :=
  ∀ (f c : Addr) (s : Shared) (H : Hp) (v0 : V) (Q : VK) (tl : V → Hp → VK → Prop),
    (∀ (e : Expr) (te : TE) (p1 p2 : Pos), (∀ env, starEach [e] env = [(false, eval e env)]) → PE (getY X Ng x sg g cdg s H) e te →
      PE (getY X Ng x sg g cdg s H) (.Call (.Name a p1) [e] [] p2) (fun τ G Q => τ[i]? = some (some (.ref f)) ∧ te τ G fun v G1 => G1 c = some (LamX.CodeO c q) ∧ tl v G1 Q)) →
    H c = some (LamX.CodeO c q) → Room (k + 1) (X.A.deeper (envOfC x sg s.heap.objs.size g cdg)) → sp tl v0 H Q →
    ∃ t, PSs (getY X Ng x sg g cdg s H) bg t ∧ t { nx := fun _ G => Q .non G, rt := Q } (L2.start Ng [v0, .ref f]) H
def tLamQ (T : List (Addr × Str)) (sp : (V → Hp → VK → Prop) → V → Hp → VK → Prop) (ta tb : TE) : TE := fun σ H Q => ta σ H fun v0 G => LamX.Tabs T G ∧ ∀ G1, LamX.ExtN G G1 → LamX.Tabs T G1 → sp (fun v G2 Q' => tb (σ ++ [some v]) G2 Q') v0 G1 Q
/-- x(e, lambda p: bo) -/
theorem pe_lamQ {T : List (Addr × Str)} {sp : (V → Hp → VK → Prop) → V → Hp → VK → Prop} {x a0 a pn : Str} {g c P : Addr} {k : Nat} {st : Stmt} {fd : FuncData} {Ng : List Str} {pr : Arguments} {e bo : Expr} {lam : Scope} {ta tb : TE} {p lp pos : Pos}
    (hg : Gl X x) (hm : X.mg x = some (.ref g)) (F : Fun X.K x x st g fd) (kp : PySem.W.keepIn X.K (.ref g) = true) (hb : Binds X.K fd [a0, a] []) (Sg : FnScope Ng [a0, a] (defScope st)) (at_ : Ng[1]? = some a) (vi : Vis (defScope st) a)
    (hG : ∀ cdv, GivesQ X Ng x (defScope st) g cdv (defBody st) 1 a (X.env.qual ++ "<lambda>") k sp) (np : pn ∉ X.N)
    (TB : LamX.TabB X.base X.mg c P) (ec : X.env.code = .ref c) (mT : (P, X.env.qual ++ "<lambda>") ∈ T) (one : ∀ q ∈ T, q.1 = P → q.2 = X.env.qual ++ "<lambda>") (hr : Room (k + 2) X.A) (L : LamP X.env.scope lam pn) (df : defaultsOf pr X.env = ([], []))
    (bi : ∀ (q : Str) (cl : List (Str × Addr)) (pm cv ctv u : Value), bindArgs (PySem.W.kla_fn "<lambda>" q pr bo lam cl pm cv ctv) ⟨[u], []⟩ = pure [(pn, u)])
    (he : PE X e ta) (es : starEach [e, .Lambda pr bo lam lp] X.env = [(false, eval e X.env), (false, eval (.Lambda pr bo lam lp) X.env)])
    (body : ∀ (A : Around) (outer : List Env) (s : Shared) (H : Hp) (f c' : Addr), Room k (A.deeper (LamX.lamEnv X lam s.heap.objs.size f c')) → PE (lamQ X A outer s H lam pn f c') bo tb)
    (nx : (x == ("__debug__" : Str)) = false := by decide) (nd : (a == ("__debug__" : Str)) = false := by decide) (nc : (a == ("__classdict__" : Str)) = false := by decide) :
    PE X (.Call (.Name x p) [e, .Lambda pr bo lam lp] [] pos) (tLamQ T sp ta tb) := by
  obtain ⟨_, _, _, _, _, _, cdv, _, _, rfl, lk, hcd⟩ := F.ex
  constructor
  rintro pins s σ H Q I want
  refine wpAny_Call_Name_kw (ld_glob I hg hm (PySem.W.callWith_K (h₀ := X.base) I.ok.mod.kin kp ?_ es (by rfl)) nx)
  rw [es]
  refine Calls.spliced_cons (thn (he.run pins s σ H _ I want) fun u0 s0 ⟨v0, G0, I0, r0, tabs, want⟩ => Calls.spliced_cons (LamX.lam_make2 I0 TB ec mT one tabs df (L.has I0.ok) fun f c' pm ctv H1 s1 I1 eN T1 gf nf off co => Calls.spliced_nil ⟨I1.kIn, ?_⟩))
  have run : codeAny (model X.prog X.w) X.A (.call (.ref g) ⟨[u0, .ref f], []⟩) (CR CX0 X.stack X.prog X.w H1 s1 Q E0) s1 := by
    refine LamX.run_ofS (N := Ng) (ps := [a0, a]) (us := [u0, .ref f]) (vs := [v0, .ref f]) lk hcd Sg hr I1.env0 (hb s1 [u0, .ref f] I1.kIn rfl) (.cons r0 (.cons rfl .nil)) rfl fun hr' => ?_
    obtain ⟨t, ht, q⟩ := hG cdv f c' s1 H1 v0 Q (fun v G2 Q' => tb (σ ++ [some v]) G2 Q') (fun e te p1 p2 se pe => pe_got (i := 1) I1 L np gf nf off (bi _ _ _ _ _) hr' (fun A o s2 H2 hr2 => body A o s2 H2 f c' hr2) at_ vi (se _) pe nd nc) co hr' (want H1 eN T1)
    exact ⟨t, ht.nox, q⟩
  refine wpAny_call (codeAny_mono run fun rr s2 z => ?_)
  cases rr with
  | error e => exact (show False from z).elim
  | ok fl => cases fl with
    | ret u => exact I1.after z
    | next => exact z.elim
    | brk => exact z.elim
    | cont => exact z.elim
end
end Gn
set_option Elab.async false
set_option linter.all false
set_option maxRecDepth 100000
set_option maxHeartbeats 4000000
namespace Gn
open PySem PySem.Spec PyProof.Rows L2
/-- a test of two, the second one false where the first one is true -/
theorem andF {t q : TT} {σ : L2.St} {H : Hp} {R : Bool → Hp → Prop} (c : Bool) (h1 : ∀ S : Bool → Hp → Prop, S c H → t σ H S) (h2 : c = true → ∀ S : Bool → Hp → Prop, (∀ H', Same H H' → S false H') → q σ H S) (k : ∀ H', Same H H' → R false H') : tAnd t q σ H R := by
  refine h1 _ ?_
  cases c with
  | true => exact iteT (h2 rfl R k)
  | false => exact iteF (k H (Same.refl _))
/-- a value of two, each a truth -/
theorem andV_val {ta tb : TE} {σ : L2.St} {H : Hp} {Q : VK} (c b : Bool) (h1 : ∀ S : VK, S (.bl c) H → ta σ H S) (h2 : c = true → ∀ S : VK, S (.bl b) H → tb σ H S) (h3 : c = false → b = false) (k : Q (.bl b) H) : tAndV ta tb σ H Q := by
  refine h1 _ ⟨c, rfl, ?_⟩
  cases c with
  | true => exact iteT (h2 rfl Q k)
  | false => exact iteF (by rw [← h3 rfl]; exact k)
/-- a conditional expression whose ways change nothing -/
theorem if_any {tt : TT} {ta tb : TE} {σ : L2.St} {H : Hp} {Q : VK} (Φ : V → Prop) (c : Bool) (h : ∀ S : Bool → Hp → Prop, S c H → tt σ H S) (h1 : c = true → ∀ S : VK, (∀ v, Φ v → S v H) → ta σ H S) (h2 : c = false → ∀ S : VK, (∀ v, Φ v → S v H) → tb σ H S) (k : ∀ v, Φ v → Q v H) : tIf tt ta tb σ H Q := by
  refine h _ ?_
  cases c with
  | true => exact iteT (h1 rfl Q k)
  | false => exact iteF (h2 rfl Q k)
theorem nxI {a bk ct : L2.St → Hp → Prop} {rt : VK} {σ : L2.St} {H : Hp} (h : a σ H) : Ends.nx ⟨a, rt, bk, ct⟩ σ H := h
/-- an if whose test is false, new objects may be made -/
theorem seqIfF {c : TT} {t r : TS} {D : Ends} {σ : L2.St} {H : Hp} (h : ∀ R : Bool → Hp → Prop, (∀ H', Same H H' → R false H') → c σ H R) (k : ∀ H', Same H H' → r D σ H') : tSeq (tIfS c t tNext) r D σ H := h _ fun H' s => iteF (k H' s)
theorem lastIfF {c : TT} {t : TS} {D : Ends} {σ : L2.St} {H : Hp} (h : ∀ R : Bool → Hp → Prop, (∀ H', Same H H' → R false H') → c σ H R) (k : ∀ H', Same H H' → D.nx σ H') : tIfS c t tNext D σ H := h _ fun H' s => iteF (k H' s)
/-- a value given to a name -/
theorem seqSet {te : TE} {i : Nat} {r : TS} {D : Ends} {σ : L2.St} {H : Hp} (h : te σ H fun v H' => r D (σ.set i (some v)) H') : tSeq (tAsg te (gName i)) r D σ H := h
theorem nextI {D : Ends} {σ : L2.St} {H : Hp} (h : D.nx σ H) : tNext D σ H := h
end Gn
set_option Elab.async false
set_option linter.all false
set_option maxRecDepth 100000
set_option maxHeartbeats 4000000
/-! what a term makes, told by what holds of its value whatever is made behind it -/
namespace Gn
open PySem PySem.Spec PyProof.Rows L2
abbrev Fact := Hp → V → Prop
def Lasts (R : Fact) : Prop := ∀ H H' v, Same H H' → R H v → R H' v
def Fm (te : TE) (σ : L2.St) (H : Hp) (R : Fact) : Prop := ∀ H1, Same H H1 → ∀ Q : VK, (∀ v H2, Same H1 H2 → R H2 v → Q v H2) → te σ H1 Q
/-- facts of a row of values -/
def AllF : List Fact → Hp → List V → Prop
  | [], _, vs => vs = []
  | R :: Rs, H, v :: vs => R H v ∧ AllF Rs H vs
  | _ :: _, _, [] => False
def LastsAll (Rs : List Fact) : Prop := ∀ R ∈ Rs, Lasts R
def FmA (ta : TA) (σ : L2.St) (H : Hp) (Rs : List Fact) : Prop := ∀ H1, Same H H1 → ∀ Q : List V → Hp → Prop, (∀ vs H2, Same H1 H2 → AllF Rs H2 vs → Q vs H2) → ta σ H1 Q
theorem AllF.lasts : ∀ {Rs : List Fact} {H H' : Hp} {vs : List V}, LastsAll Rs → Same H H' → AllF Rs H vs → AllF Rs H' vs
  | [], _, _, _, _, _, h => h
  | R :: Rs, H, H', v :: vs, m, e, ⟨h, hs⟩ => ⟨m R (List.mem_cons_self ..) H H' v e h, AllF.lasts (fun q z => m q (List.mem_cons_of_mem _ z)) e hs⟩
  | _ :: _, _, _, [], _, _, h => h
theorem AllF.len : ∀ {Rs : List Fact} {H : Hp} {vs : List V}, AllF Rs H vs → vs.length = Rs.length
  | [], _, vs, h => by
    rw [show vs = [] from h]
    rfl
  | R :: Rs, H, v :: vs, ⟨_, hs⟩ => by rw [List.length_cons, hs.len, List.length_cons]
  | _ :: _, _, [], h => h.elim
theorem AllF.app : ∀ {Rs Ss : List Fact} {H : Hp} {vs us : List V}, AllF Rs H vs → AllF Ss H us → AllF (Rs ++ Ss) H (vs ++ us)
  | [], _, _, vs, us, h, g => by
    rw [show vs = [] from h]
    exact g
  | R :: Rs, _, _, v :: vs, us, ⟨h, hs⟩, g => ⟨h, hs.app g⟩
  | _ :: _, _, _, [], _, h, _ => h.elim
theorem AllF.at : ∀ {Rs : List Fact} {H : Hp} {vs : List V} {i : Nat}, AllF Rs H vs → ∀ R, Rs[i]? = some R → ∃ v, vs[i]? = some v ∧ R H v
  | [], _, _, i, _, R, e => by cases e
  | R :: Rs, _, v :: vs, 0, ⟨h, _⟩, R', e => by
    cases e
    exact ⟨v, rfl, h⟩
  | R :: Rs, _, v :: vs, i + 1, ⟨_, hs⟩, R', e => hs.at (i := i) R' e
  | _ :: _, _, [], _, h, _, _ => h.elim
theorem lastsAll_nil : LastsAll [] := fun _ z => nomatch z
theorem lastsAll_cons {R : Fact} {Rs : List Fact} (h : Lasts R) (hs : LastsAll Rs) : LastsAll (R :: Rs) := fun q z => by
  rcases List.mem_cons.mp z with z | z
  · rw [z]
    exact h
  · exact hs q z
theorem lastsAll_app {Rs Ss : List Fact} (h : LastsAll Rs) (g : LastsAll Ss) : LastsAll (Rs ++ Ss) := fun q z => (List.mem_append.mp z).elim (h q) (g q)
section
variable {K : PySem.W.Frag} {σ : L2.St} {H : Hp} {te tb : TE} {ta : TA} {R S : Fact} {Rs Ss : List Fact}
/-- it is this value -/
def isV (v : V) : Fact := fun _ u => u = v
theorem lasts_is {v : V} : Lasts (isV v) := fun _ _ _ _ h => h
theorem fm_c {v : V} : Fm (tC v) σ H (isV v) := fun H1 _ Q q => q v H1 (Same.refl _) rfl
theorem fm_var {i : Nat} {v : V} (h : σ[i]? = some (some v)) : Fm (tVar i) σ H (isV v) := fun H1 _ Q q => ⟨v, h, q v H1 (Same.refl _) rfl⟩
theorem fmA_nil : FmA tNil σ H [] := fun H1 _ Q q => q [] H1 (Same.refl _) rfl
theorem fmA_cons (m : Lasts R) (h : Fm te σ H R) (hs : FmA ta σ H Rs) : FmA (tCons te ta) σ H (R :: Rs) := fun H1 e Q q =>
  h H1 e _ fun v H2 e2 r => hs H2 (e.trans e2) _ fun vs H3 e3 rs => q (v :: vs) H3 (e2.trans e3) ⟨m _ _ _ e3 r, rs⟩
/-- a list of these -/
def isL (Rs : List Fact) : Fact := fun H u => ∃ p vs, u = .ref p ∧ H p = some (.lst vs) ∧ AllF Rs H vs
theorem lasts_L (m : LastsAll Rs) : Lasts (isL Rs) := fun H H' v e ⟨p, vs, q, h, hs⟩ => ⟨p, vs, q, e _ _ h, hs.lasts m e⟩
theorem fm_lst (m : LastsAll Rs) (hl : Rs.length ≤ 1000) (hs : FmA ta σ H Rs) : Fm (tLst ta) σ H (isL Rs) := fun H1 e Q q => hs H1 e _ fun vs H2 e2 rs =>
  ⟨by rw [rs.len, sizeLine_eq]; omega, fun p hp => q _ _ (e2.trans (same_put hp)) ⟨p, vs, rfl, upd_same, rs.lasts m (same_put hp)⟩⟩
theorem fm_cat (m : LastsAll Rs) (n : LastsAll Ss) (hl : Rs.length + Ss.length ≤ 1000) (h : Fm te σ H (isL Rs)) (g : Fm tb σ H (isL Ss)) : Fm (tOp rCat te tb) σ H (isL (Rs ++ Ss)) := fun H1 e Q q =>
  h H1 e _ fun u H2 e2 ⟨p, vs, eu, hp, rs⟩ => g H2 (e.trans e2) _ fun y H3 e3 ⟨p', us, ey, hp', ss⟩ => by
    subst eu ey
    have l1 := rs.len
    have l2 := ss.len
    refine ⟨p, p', vs, us, rfl, rfl, e3 _ _ hp, hp', by rw [l1, l2, sizeLine_eq]; omega, fun r hr => ?_⟩
    exact q _ _ ((e2.trans e3).trans (same_put hr)) ⟨r, vs ++ us, rfl, upd_same, ((rs.lasts m e3).app ss).lasts (lastsAll_app m n) (same_put hr)⟩
/-- an exception of the class at C -/
def isE (C : Addr) (fs : List (Str × V)) : Fact := fun H u => ∃ a, u = .ref a ∧ Kept H a C fs
theorem lasts_E {C : Addr} {fs : List (Str × V)} : Lasts (isE C fs) := fun H H' v e ⟨a, q, h⟩ => ⟨a, q, h.same e⟩
theorem same_all {v : List V} {H : Hp} : AllF (v.map isV) H v := by
  induction v with
  | nil => rfl
  | cons x r ih => exact ⟨rfl, ih⟩
theorem allF_is : ∀ {xs vs : List V} {H : Hp}, AllF (xs.map isV) H vs → vs = xs
  | [], _, _, h => h
  | x :: xs, v :: vs, H, ⟨h, hs⟩ => by rw [show v = x from h, allF_is hs]
  | _ :: _, [], _, h => h.elim
theorem fm_mk {C : Addr} {fl : List Str} {xs : List V} (h : FmA ta σ H (xs.map isV)) (hl : xs.length = fl.length) : Fm (tMk C fl ta) σ H (isE C (fl.zip xs).reverse) := fun H1 e Q q =>
  h H1 e _ fun vs H2 e2 rs => by
    have z := allF_is rs
    subst z
    exact ⟨hl, fun a H3 e3 k => q _ _ (e2.trans e3) ⟨a, rfl, k⟩⟩
theorem fm_mkK {C : Addr} {fl : List Str} {xs : List V} {gV : List V → List V} {n : Nat} (h : FmA ta σ H (xs.map isV)) (hl : xs.length = n) : Fm (tMkK C fl gV n ta) σ H (isE C (fl.zip (gV xs)).reverse) := fun H1 e Q q =>
  h H1 e _ fun vs H2 e2 rs => by
    have z := allF_is rs
    subst z
    exact ⟨hl, fun a H3 e3 k => q _ _ (e2.trans e3) ⟨a, rfl, k⟩⟩
end
end Gn
set_option Elab.async false
set_option linter.all false
set_option maxRecDepth 100000
set_option maxHeartbeats 4000000
/-! arguments of any kind: what isinstance, the checks' questions, tell of them -/
namespace Gn
open PySem PySem.Spec PyProof.Rows L2
mutual
/-- a value that holds d, its lists, tuples and empty dicts being made by the law itself -/
inductive An (K : PySem.W.Frag) (H : Hp) : V → PyData → Prop
  | non : An K H .non .none
  | bl (b : Bool) : An K H (.bl b) (.bool b)
  | int (i : Int) : An K H (.int i) (.int i)
  | str (x : Str) : An K H (.str x) (.str x)
  | lst {a : Addr} {xs : List V} {ds : List PyData} (h : H a = some (.lst xs)) (ne : a ≠ sysModules) (t : AnAll K H xs ds) : An K H (.ref a) (.list ds)
  | tup {a : Addr} {xs : List V} {ds : List PyData} (h : H a = some (.tup xs)) (t : AnAll K H xs ds) : An K H (.ref a) (.tuple ds)
  | dct {a : Addr} (h : H a = some (.dK [])) : An K H (.ref a) (.dict [])
inductive AnAll (K : PySem.W.Frag) (H : Hp) : List V → List PyData → Prop
  | nil : AnAll K H [] []
  | cons {v : V} {vs : List V} {d : PyData} {ds : List PyData} (h : An K H v d) (t : AnAll K H vs ds) : AnAll K H (v :: vs) (d :: ds)
end
theorem tyx_sqt {K : PySem.W.Frag} {H : Hp} {a : Addr} {xs : List V} (h : SqT K H a xs) : TyX K H (.ref a) (.type "tuple") := by
  rcases h with (h | ⟨o, h⟩) | ⟨o, its, n, h, hc, _⟩
  · exact .base (.tup h)
  · exact .fTuple h
  · exact .kTuple h hc
theorem tyx_sql {K : PySem.W.Frag} {H : Hp} {a : Addr} {xs : List V} (h : SqL K H a xs) : TyX K H (.ref a) (.type "list") := by
  rcases h with (h | ⟨o, h⟩) | ⟨o, its, n, h, hc, _⟩
  · exact .base (.lst h)
  · exact .base (.frz h)
  · exact .kList h hc
/-- the name of its type -/
def tyn : PyData → String
  | .none => "NoneType"
  | .bool _ => "bool"
  | .int _ => "int"
  | .str _ => "str"
  | .list _ => "list"
  | .tuple _ => "tuple"
  | .dict _ => "dict"
theorem An.ty {K : PySem.W.Frag} {H : Hp} {v : V} {d : PyData} (h : An K H v d) : TyX K H v (.type (tyn d)) := by
  cases h with
  | dct h => exact .base (.dK h)
  | non => exact .base .non
  | bl b => exact .base (.bl b)
  | int i => exact .base (.int i)
  | str x => exact .base (.str x)
  | lst a _ _ => exact .base (.lst a)
  | tup a _ => exact .base (.tup a)
def isIntB (d : PyData) : Bool := match d with | .int _ => true | .bool _ => true | _ => false
def isBoolB (d : PyData) : Bool := match d with | .bool _ => true | _ => false
def isTupB (d : PyData) : Bool := match d with | .tuple _ => true | _ => false
theorem kit_int {d : PyData} : kitB (tyn d) "int" = some (isIntB d) := by cases d <;> (simp only [tyn, isIntB]; decide +kernel)
theorem kit_bool {d : PyData} : kitB (tyn d) "bool" = some (isBoolB d) := by cases d <;> (simp only [tyn, isBoolB]; decide +kernel)
theorem kit_tup {d : PyData} : kitB (tyn d) "tuple" = some (isTupB d) := by cases d <;> (simp only [tyn, isTupB]; decide +kernel)
/-- an integer, as the program asks it -/
def isInt (d : PyData) : Bool := match d with | .int _ => true | _ => false
def isFr (d : PyData) : Bool := match d with | .tuple [.int t, .int b] => decide (1 ≤ b) && decide (Int.gcd t b = 1) | _ => false
def isSt (d : PyData) : Bool := match d with | .tuple [.int t, .int b] => isFr d && (decide (0 ≤ t) && decide (t < b)) | _ => false
def isPt (d : PyData) : Bool := match d with | .tuple [.int t, .int b] => isFr d && (decide (0 ≤ t) && decide (t ≤ b)) | _ => false
def isNum (d : PyData) (a b : Int) : Bool := match d with | .int i => decide (a ≤ i ∧ i ≤ b) | _ => false
theorem An.isI {K : PySem.W.Frag} {H : Hp} {v : V} {d : PyData} (h : An K H v d) (e : isInt d = true) : ∃ i, v = .int i ∧ d = .int i := by
  cases h with
  | int i => exact ⟨i, rfl, rfl⟩
  | _ => cases e
theorem An.isT {K : PySem.W.Frag} {H : Hp} {v : V} {d : PyData} (h : An K H v d) (e : isTupB d = true) : ∃ a xs ds, v = .ref a ∧ d = .tuple ds ∧ H a = some (.tup xs) ∧ AnAll K H xs ds := by
  cases h with
  | tup a b => exact ⟨_, _, _, rfl, rfl, a, b⟩
  | _ => cases e
theorem dpAll_len {K : PySem.W.Frag} {H : Hp} : ∀ {xs : List V} {ds : List PyData}, AnAll K H xs ds → xs.length = ds.length
  | _, _, .nil => rfl
  | _, _, .cons _ t => congrArg (· + 1) (dpAll_len t)
theorem dpAll_two {K : PySem.W.Frag} {H : Hp} {xs : List V} {ds : List PyData} (h : AnAll K H xs ds) (e : xs.length = 2) : ∃ x y p q, xs = [x, y] ∧ ds = [p, q] ∧ An K H x p ∧ An K H y q := by
  match xs, ds, h, e with
  | [x, y], [p, q], .cons a (.cons b .nil), _ => exact ⟨x, y, p, q, rfl, rfl, a, b⟩
theorem isFr_no {p q : PyData} (h : isInt p = false ∨ isInt q = false) : isFr (.tuple [p, q]) = false := by
  rcases h with h | h
  · cases p with
    | int i => cases h
    | _ => rfl
  · cases q with
    | int i => cases h
    | _ => cases p <;> rfl
theorem isFr_len {ds : List PyData} (h : ds.length ≠ 2) : isFr (.tuple ds) = false := by
  unfold isFr
  split
  · rename_i e
    cases e
    exact absurd rfl h
  · rfl
theorem isFr_ty {d : PyData} (h : isTupB d = false) : isFr d = false := by cases d <;> first | rfl | cases h
theorem isSt_fr {d : PyData} (h : isFr d = false) : isSt d = false := by
  unfold isSt
  split
  · rw [h]; rfl
  · rfl
theorem isPt_fr {d : PyData} (h : isFr d = false) : isPt d = false := by
  unfold isPt
  split
  · rw [h]; rfl
  · rfl
theorem isFr_of {d : PyData} (h : isFr d = true) : ∃ t b, d = .tuple [.int t, .int b] ∧ 1 ≤ b ∧ Int.gcd t b = 1 := by
  unfold isFr at h
  split at h
  · rename_i t b
    simp only [Bool.and_eq_true, decide_eq_true_eq] at h
    exact ⟨t, b, rfl, h.1, h.2⟩
  · cases h
mutual
theorem An.same {K : PySem.W.Frag} {H H' : Hp} (e : Same H H') : ∀ {v : V} {d : PyData}, An K H v d → An K H' v d
  | _, _, .non => .non
  | _, _, .bl b => .bl b
  | _, _, .int i => .int i
  | _, _, .str x => .str x
  | _, _, .lst h n t => .lst (e _ _ h) n (AnAll.same e t)
  | _, _, .tup h t => .tup (e _ _ h) (AnAll.same e t)
  | _, _, .dct h => .dct (e _ _ h)
theorem AnAll.same {K : PySem.W.Frag} {H H' : Hp} (e : Same H H') : ∀ {vs : List V} {ds : List PyData}, AnAll K H vs ds → AnAll K H' vs ds
  | _, _, .nil => .nil
  | _, _, .cons h t => .cons (An.same e h) (AnAll.same e t)
end
/-- no dict in it -/
def flat : PyData → Bool
  | .dict _ => false
  | .list ds => flats ds
  | .tuple ds => flats ds
  | _ => true
where flats : List PyData → Bool
  | [] => true
  | d :: ds => flat d && flats ds
mutual
theorem An.dp {K : PySem.W.Frag} {H : Hp} : ∀ {v : V} {d : PyData}, An K H v d → flat d = true → Dp K H v d
  | _, _, .non, _ => .non
  | _, _, .bl b, _ => .bl b
  | _, _, .int i, _ => .int i
  | _, _, .str x, _ => .str x
  | _, _, .lst h _ t, f => .lst (.inl (.inl h)) (AnAll.dp t (by simpa only [flat] using f))
  | _, _, .tup h t, f => .tup (.inl (.inl h)) (AnAll.dp t (by simpa only [flat] using f))
  | _, _, .dct h, f => by simp only [flat] at f; cases f
theorem AnAll.dp {K : PySem.W.Frag} {H : Hp} : ∀ {vs : List V} {ds : List PyData}, AnAll K H vs ds → flat.flats ds = true → DpAll K H vs ds
  | _, _, .nil, _ => .nil
  | _, _, .cons h t, f => by
    simp only [flat.flats, Bool.and_eq_true] at f
    exact .cons (An.dp h f.1) (AnAll.dp t f.2)
end
end Gn
set_option Elab.async false
set_option linter.all false
set_option maxRecDepth 100000
set_option maxHeartbeats 8000000
set_option exponentiation.threshold 4000
namespace My
open PySem PySem.Spec PyProof.Rows L2 Gn Mt
abbrev s_is_fraction : Stmt := top 14
theorem sc_is_fraction : FnScope ["given", "top", "bottom"] ["given"] (defScope s_is_fraction) := ⟨rfl, rfl, rfl, by decide +kernel, rfl, by decide +kernel, by decide +kernel⟩
abbrev s_is_part : Stmt := top 15
theorem sc_is_part : FnScope ["given"] ["given"] (defScope s_is_part) := ⟨rfl, rfl, rfl, by decide +kernel, rfl, by decide +kernel, by decide +kernel⟩
abbrev s_is_less : Stmt := top 16
theorem sc_is_less : FnScope ["one", "other"] ["one", "other"] (defScope s_is_less) := ⟨rfl, rfl, rfl, by decide +kernel, rfl, by decide +kernel, by decide +kernel⟩
abbrev s_mediant : Stmt := top 23
theorem sc_mediant : FnScope ["low", "high"] ["low", "high"] (defScope s_mediant) := ⟨rfl, rfl, rfl, by decide +kernel, rfl, by decide +kernel, by decide +kernel⟩
abbrev s__cuts_at : Stmt := top 40
theorem sc__cuts_at : FnScope ["piece", "low", "high", "first", "last"] ["piece"] (defScope s__cuts_at) := ⟨rfl, rfl, rfl, by decide +kernel, rfl, by decide +kernel, by decide +kernel⟩
abbrev s__is_ahead : Stmt := top 41
theorem sc__is_ahead : FnScope ["cut", "other"] ["cut", "other"] (defScope s__is_ahead) := ⟨rfl, rfl, rfl, by decide +kernel, rfl, by decide +kernel, by decide +kernel⟩
/-! fractions, cuts and pieces as data -/
def frD (p : Int × Int) : PyData := .tuple [.int p.1, .int p.2]
def bI (b : Bool) : Int := if b = true then 1 else 0
def cutD (c : Cut) : PyData := .tuple [frD (c.n, c.d), .int (bI c.b)]
def pcD (c e : Cut) : PyData := .tuple [frD (c.n, c.d), frD (e.n, e.d), .bool (!c.b), .bool e.b]
def pcsD : List Cut → List PyData
  | c :: e :: r => pcD c e :: pcsD r
  | _ => []
/-- not too long -/
def Lit (p : Int × Int) : Prop := p.1.natAbs < 2 ^ 1000 ∧ p.2.natAbs < 2 ^ 1000
section
variable {K : PySem.W.Frag} {H : Hp} {v : V}
theorem fr_inv {p : Int × Int} (h : Dp K H v (frD p)) : ∃ a, v = .ref a ∧ SqT K H a [.int p.1, .int p.2] := by
  cases h with
  | tup a b =>
    cases b with
    | cons x r => cases r with
      | cons y r => cases r; cases x; cases y; exact ⟨_, rfl, a⟩
theorem fr_mk {a : Addr} {x y : Int} (h : SqT K H a [.int x, .int y]) : Dp K H (.ref a) (frD (x, y)) := .tup h (.cons (.int _) (.cons (.int _) .nil))
theorem cut_inv {c : Cut} (h : Dp K H v (cutD c)) : ∃ a l, v = .ref a ∧ SqT K H a [l, .int (bI c.b)] ∧ Dp K H l (frD (c.n, c.d)) := by
  cases h with
  | tup a b =>
    cases b with
    | cons x r => cases r with
      | cons y r => cases r; cases y; exact ⟨_, _, rfl, a, x⟩
theorem cut_mk {a : Addr} {l : V} {c : Cut} (h : SqT K H a [l, .int (bI c.b)]) (d : Dp K H l (frD (c.n, c.d))) : Dp K H (.ref a) (cutD c) := .tup h (.cons d (.cons (.int _) .nil))
theorem pc_inv {c e : Cut} (h : Dp K H v (pcD c e)) : ∃ a l g, v = .ref a ∧ SqT K H a [l, g, .bl (!c.b), .bl e.b] ∧ Dp K H l (frD (c.n, c.d)) ∧ Dp K H g (frD (e.n, e.d)) := by
  cases h with
  | tup a b =>
    cases b with
    | cons x r => cases r with
      | cons y r => cases r with
        | cons z r => cases r with
          | cons u r => cases r; cases z; cases u; exact ⟨_, _, _, rfl, a, x, y⟩
theorem pc_mk {a : Addr} {l g : V} {c e : Cut} (h : SqT K H a [l, g, .bl (!c.b), .bl e.b]) (d : Dp K H l (frD (c.n, c.d))) (d' : Dp K H g (frD (e.n, e.d))) : Dp K H (.ref a) (pcD c e) := .tup h (.cons d (.cons d' (.cons (.bl _) (.cons (.bl _) .nil))))
theorem fr_shaped (p : Int × Int) : SeqAt.shaped (frD p) = true := by rfl
theorem fr_eqv (p q : Int × Int) : PyData.eqv (frD p) (frD q) = decide (p.1 = q.1 ∧ p.2 = q.2) := pair_eqv
end
def spLess (K : PySem.W.Frag) : Sp := fun vs H Q _ => ∃ (u v : V) (p q : Int × Int), vs = [u, v] ∧ Dp K H u (frD p) ∧ Dp K H v (frD q) ∧ Lit p ∧ Lit q ∧ Q (.bl (decide (p.1 * q.2 < q.1 * p.2))) H
def spPart (K : PySem.W.Frag) : Sp := fun vs H Q _ => ∃ (u : V) (p : Int × Int), vs = [u] ∧ Dp K H u (frD p) ∧ Frc p ∧ Q (.bl true) H
def spAhead (K : PySem.W.Frag) : Sp := fun vs H Q _ => ∃ (u v : V) (c e : Cut), vs = [u, v] ∧ Dp K H u (cutD c) ∧ Dp K H v (cutD e) ∧ Lit (c.n, c.d) ∧ Lit (e.n, e.d) ∧ Q (.bl (c.lt e)) H
def spCuts (K : PySem.W.Frag) : Sp := fun vs H Q _ => ∃ (u : V) (c e : Cut), vs = [u] ∧ Dp K H u (pcD c e) ∧
  ∀ r x y H', Same H H' → H r = none → H' r = some (.tup [x, y]) → Dp K H' x (cutD c) → Dp K H' y (cutD e) → Q (.ref r) H'
def spMed (K : PySem.W.Frag) : Sp := fun vs H Q _ => ∃ (u v : V) (p q : Int × Int), vs = [u, v] ∧ Dp K H u (frD p) ∧ Dp K H v (frD q) ∧ 0 ≤ p.1 + q.1 ∧ 0 < p.2 + q.2 ∧ (p.2 + q.2).natAbs < 2 ^ 100 ∧
  ∀ r H', Same H H' → Dp K H' (.ref r) (frD (med p q)) → Q (.ref r) H'
section
variable {P : Program} {w : World} {K : PySem.W.Frag} {mg : Str → Option Value} {base : Heap}
theorem ok_less {f : Addr} {fd : FuncData} (F : Fun K "is_less" "is_less" s_is_less f fd) : FnOk P w K mg base CX0 1 f fd ["one", "other"] (spLess K) := by
  refine F.ok sc_is_less (fun vs H Q E h => ?_) (fun cdv A outer s H vs Q E hr h => ?_)
  · obtain ⟨u, v, p, q, rfl, _⟩ := h
    rfl
  · obtain ⟨u, v, p, q, rfl, h1, h2, l1, l2, k⟩ := h
    refine ⟨_, pss_one (ps_ret (pe_cmpR op_lt (pe_op op_mulW (pe_ix ix_tup (pv 0) pe_int (fun _ _ => rfl)) (pe_ix ix_tup (pv 1) pe_int (fun _ _ => rfl))) (pe_op op_mulW (pe_ix ix_tup (pv 1) pe_int (fun _ _ => rfl)) (pe_ix ix_tup (pv 0) pe_int (fun _ _ => rfl))) (nomark _))), ?_⟩
    obtain ⟨a, rfl, ha⟩ := fr_inv h1
    obtain ⟨b, rfl, hb⟩ := fr_inv h2
    refine ⟨_, rfl, a, _, 0, .int p.1, rfl, rfl, ha, at_of (j := 0) rfl rfl, _, rfl, b, _, 1, .int q.2, rfl, rfl, hb, at_of (j := 1) rfl rfl, _, _, rfl, rfl, wide_mul l1.1 l2.2 (by decide) (by decide) (by decide), ?_⟩
    exact ⟨_, rfl, b, _, 0, .int q.1, rfl, rfl, hb, at_of (j := 0) rfl rfl, _, rfl, a, _, 1, .int p.2, rfl, rfl, ha, at_of (j := 1) rfl rfl, _, _, rfl, rfl, wide_mul l2.1 l1.2 (by decide) (by decide) (by decide), _, _, rfl, rfl, k⟩
theorem ok_frac {f fI : Addr} {fd fdI : FuncData} (F : Fun K "is_fraction" "is_fraction" s_is_fraction f fd) (B : Bc mg) (D : Df K mg "is_integer" sIsInt ["given"] fI fdI) : FnOk P w K mg base CX0 2 f fd ["given"] (spPart K) := by
  have GI : FnOk P w K mg base CX0 1 fI fdI ["given"] spIsInt := ok_isInt D.F B
  refine F.ok sc_is_fraction (fun vs H Q E h => ?_) (fun cdv A outer s H vs Q E hr h => ?_)
  · obtain ⟨u, p, rfl, _⟩ := h
    rfl
  · obtain ⟨u, p, rfl, hp, fp, k⟩ := h
    obtain ⟨t, rfl, hT⟩ := fr_inv hp
    refine ⟨_, pss_cons (ps_if (PW.pt (pw_or (pt_not (pt_val (pe_callB (call_isi) (by rfl) B.isi (by decide +kernel) (pa_cons (pv 0) (pa_cons (pe_bltn (v := .ty "tuple") (by rfl) B.tuple (by decide +kernel) rfl) pa_nil))))) (pw_or1 (pt_cmpR op_ne (pe_callB (call_len_seq) (by rfl) B.len (by decide +kernel) (pa_cons (pv 0) pa_nil)) pe_int (nomark _))))) (pss_one (ps_ret pe_bl)) pss_nil) (pss_cons (ps_asg (pv 0) (pg_tup (by rfl) (pgs_cons (pg_name (i := 1) sc_is_fraction.nd rfl (.inl rfl)) (pgs_cons (pg_name (i := 2) sc_is_fraction.nd rfl (.inl rfl)) pgs_nil)))) (pss_cons (ps_if (PW.pt (pw_or (pt_not (pt_val (pe_call GI hr (by rfl) D.g D.F.kp D.b .nil pass0 (pa_cons (pv 1) pa_nil)))) (pw_or1 (pt_not (pt_val (pe_call GI hr (by rfl) D.g D.F.kp D.b .nil pass0 (pa_cons (pv 2) pa_nil))))))) (pss_one (ps_ret pe_bl)) pss_nil) (pss_one (ps_ret (pe_and (pe_cmpR op_ge (pv 2) pe_int (nomark _)) (pe_one (pe_cmpR op_eq (pe_callBfun cr_gcd (by rfl) B.gcd (pa_cons (pv 1) (pa_cons (pv 2) pa_nil))) pe_int (nomark _)))))))), ?_⟩
    refine ⟨_, rfl, .ref t, .ty "tuple", _, _, true, rfl, .ty "tuple", tyx_sqt hT, kit_ty (by decide +kernel), true, rfl, iteF ?_⟩
    refine ⟨_, rfl, t, _, rfl, .inr hT, rfl, _, rfl, iteF ?_⟩
    refine ⟨_, rfl, t, _, rfl, hT, rfl, _, _, rfl, _, _, rfl, rfl, ?_⟩
    refine ⟨_, rfl, p.1, rfl, true, rfl, iteF ⟨_, rfl, p.2, rfl, true, rfl, iteF ?_⟩⟩
    have d0 := fp.d0
    refine ⟨_, rfl, _, _, rfl, rfl, _, rfl, ?_⟩
    rw [decide_eq_true (show (1 : Int) ≤ p.2 by omega)]
    refine iteT ⟨_, rfl, _, rfl, p.1, p.2, rfl, ?_⟩
    have co : Nat.gcd p.1.natAbs p.2.natAbs = 1 := fp.co
    rw [co]
    exact ⟨rfl, k⟩
theorem ok_part {f fI fR : Addr} {fd fdI fdR : FuncData} (F : Fun K "is_part" "is_part" s_is_part f fd) (B : Bc mg) (D : Df K mg "is_integer" sIsInt ["given"] fI fdI) (R : Df K mg "is_fraction" s_is_fraction ["given"] fR fdR) : FnOk P w K mg base CX0 3 f fd ["given"] (spPart K) := by
  have GR : FnOk P w K mg base CX0 2 fR fdR ["given"] (spPart K) := ok_frac R.F B D
  refine F.ok sc_is_part (fun vs H Q E h => ?_) (fun cdv A outer s H vs Q E hr h => ?_)
  · obtain ⟨u, p, rfl, _⟩ := h
    rfl
  · obtain ⟨u, p, rfl, hp, fp, k⟩ := h
    have hp0 := hp
    obtain ⟨t, rfl, hT⟩ := fr_inv hp
    refine ⟨_, pss_one (ps_ret (pe_and (pe_call GR hr (by rfl) R.g R.F.kp R.b .nil pass0 (pa_cons (pv 0) pa_nil)) (pe_one (pe_chain op_le op_le pe_int (pe_ix ix_tup (pv 0) pe_int (fun _ _ => rfl)) (pe_ix ix_tup (pv 0) pe_int (fun _ _ => rfl)))))), ?_⟩
    refine ⟨_, rfl, _, p, rfl, hp0, fp, true, rfl, iteT ?_⟩
    refine ⟨_, rfl, t, _, 0, .int p.1, rfl, rfl, hT, at_of (j := 0) rfl rfl, _, _, rfl, rfl, _, rfl, ?_⟩
    rw [decide_eq_true fp.n0]
    refine iteT ⟨_, rfl, t, _, 1, .int p.2, rfl, rfl, hT, at_of (j := 1) rfl rfl, _, _, rfl, rfl, ?_⟩
    show Q (.bl (decide (p.1 ≤ p.2))) H
    rw [decide_eq_true fp.le]
    exact k
theorem ok_med {f fL : Addr} {fd fdL : FuncData} (F : Fun K "mediant" "mediant" s_mediant f fd) (B : Bc mg) (L : Df K mg "lowest" sLowest ["top", "bottom"] fL fdL) : FnOk P w K mg base CX0 2 f fd ["low", "high"] (spMed K) := by
  have GL : FnOk P w K mg base CX0 1 fL fdL ["top", "bottom"] spLow := ok_lowest L.F B
  refine F.ok sc_mediant (fun vs H Q E h => ?_) (fun cdv A outer s H vs Q E hr h => ?_)
  · obtain ⟨u, v, p, q, rfl, _⟩ := h
    rfl
  · obtain ⟨u, v, p, q, rfl, h1, h2, n0, d0, db, k⟩ := h
    obtain ⟨a, rfl, ha⟩ := fr_inv h1
    obtain ⟨b, rfl, hb⟩ := fr_inv h2
    refine ⟨_, pss_one (ps_ret (pe_call GL hr (by rfl) L.g L.F.kp L.b .nil pass0 (pa_cons (pe_op op_add (pe_ix ix_tup (pv 0) pe_int (fun _ _ => rfl)) (pe_ix ix_tup (pv 1) pe_int (fun _ _ => rfl))) (pa_cons (pe_op op_add (pe_ix ix_tup (pv 0) pe_int (fun _ _ => rfl)) (pe_ix ix_tup (pv 1) pe_int (fun _ _ => rfl))) pa_nil)))), ?_⟩
    refine ⟨_, rfl, a, _, 0, .int p.1, rfl, rfl, ha, at_of (j := 0) rfl rfl, _, rfl, b, _, 0, .int q.1, rfl, rfl, hb, at_of (j := 0) rfl rfl, _, _, rfl, rfl, ?_⟩
    refine ⟨_, rfl, a, _, 1, .int p.2, rfl, rfl, ha, at_of (j := 1) rfl rfl, _, rfl, b, _, 1, .int q.2, rfl, rfl, hb, at_of (j := 1) rfl rfl, _, _, rfl, rfl, _, _, rfl, n0, d0, db, fun r nr => ?_⟩
    exact k r _ (same_put nr) (fr_mk (SqT.of upd_same))
theorem ok_ahead {f fL : Addr} {fd fdL : FuncData} (F : Fun K "_is_ahead" "_is_ahead" s__is_ahead f fd) (L : Df K mg "is_less" s_is_less ["one", "other"] fL fdL) : FnOk P w K mg base CX0 2 f fd ["cut", "other"] (spAhead K) := by
  have GL : FnOk P w K mg base CX0 1 fL fdL ["one", "other"] (spLess K) := ok_less L.F
  refine F.ok sc__is_ahead (fun vs H Q E h => ?_) (fun cdv A outer s H vs Q E hr h => ?_)
  · obtain ⟨u, v, p, q, rfl, _⟩ := h
    rfl
  · obtain ⟨u, v, c, e, rfl, h1, h2, l1, l2, k⟩ := h
    have hu := hr.units
    obtain ⟨a, x, rfl, ha, dx⟩ := cut_inv h1
    obtain ⟨b, y, rfl, hb, dy⟩ := cut_inv h2
    refine ⟨_, pss_cons (ps_if (pt_cmpR (op_eqD hu) (pe_ix ix_tup (pv 0) pe_int (fun _ _ => rfl)) (pe_ix ix_tup (pv 1) pe_int (fun _ _ => rfl)) (nomark _)) (pss_one (ps_ret (pe_cmpR op_lt (pe_ix ix_tup (pv 0) pe_int (fun _ _ => rfl)) (pe_ix ix_tup (pv 1) pe_int (fun _ _ => rfl)) (nomark _)))) pss_nil) (pss_one (ps_ret (pe_call GL hr (by rfl) L.g L.F.kp L.b .nil pass0 (pa_cons (pe_ix ix_tup (pv 0) pe_int (fun _ _ => rfl)) (pa_cons (pe_ix ix_tup (pv 1) pe_int (fun _ _ => rfl)) pa_nil))))), ?_⟩
    refine ⟨_, rfl, a, _, 0, x, rfl, rfl, ha, at_of (j := 0) rfl rfl, _, rfl, b, _, 0, y, rfl, rfl, hb, at_of (j := 0) rfl rfl, _, _, dx, dy, fr_shaped _, fr_shaped _, _, rfl, ?_⟩
    rw [fr_eqv]
    unfold Cut.lt at k
    refine ite2 (fun z => ?_) (fun z => ?_)
    · have z := of_decide_eq_true z
      rw [if_pos z] at k
      refine ⟨_, rfl, a, _, 1, .int (bI c.b), rfl, rfl, ha, at_of (j := 1) rfl rfl, _, rfl, b, _, 1, .int (bI e.b), rfl, rfl, hb, at_of (j := 1) rfl rfl, _, _, rfl, rfl, ?_⟩
      have : decide (bI c.b < bI e.b) = (!c.b && e.b) := by cases c.b <;> cases e.b <;> decide
      show Q (.bl (decide (bI c.b < bI e.b))) H
      rw [this]
      exact k
    · have z : ¬ (c.n = e.n ∧ c.d = e.d) := fun q => z (decide_eq_true q)
      rw [if_neg z] at k
      exact ⟨_, rfl, a, _, 0, x, rfl, rfl, ha, at_of (j := 0) rfl rfl, _, rfl, b, _, 0, y, rfl, rfl, hb, at_of (j := 0) rfl rfl, _, _, _, _, rfl, dx, dy, l1, l2, k⟩
theorem ok_cuts {f : Addr} {fd : FuncData} (F : Fun K "_cuts_at" "_cuts_at" s__cuts_at f fd) : FnOk P w K mg base CX0 1 f fd ["piece"] (spCuts K) := by
  refine F.ok sc__cuts_at (fun vs H Q E h => ?_) (fun cdv A outer s H vs Q E hr h => ?_)
  · obtain ⟨u, c, e, rfl, _⟩ := h
    rfl
  · obtain ⟨u, c, e, rfl, h1, k⟩ := h
    obtain ⟨a, x, y, rfl, ha, dx, dy⟩ := pc_inv h1
    refine ⟨_, pss_cons (ps_asg (pv 0) (pg_tup (by rfl) (pgs_cons (pg_name (i := 1) sc__cuts_at.nd rfl (.inl rfl)) (pgs_cons (pg_name (i := 2) sc__cuts_at.nd rfl (.inl rfl)) (pgs_cons (pg_name (i := 3) sc__cuts_at.nd rfl (.inl rfl)) (pgs_cons (pg_name (i := 4) sc__cuts_at.nd rfl (.inl rfl)) pgs_nil)))))) (pss_one (ps_ret (pe_tup (pa_cons (pe_tup (pa_cons (pv 1) (pa_cons (pe_ifExp (pt_val (pv 3)) pe_int pe_int) pa_nil))) (pa_cons (pe_tup (pa_cons (pv 2) (pa_cons (pe_ifExp (pt_val (pv 4)) pe_int pe_int) pa_nil))) pa_nil))))), ?_⟩
    refine ⟨_, rfl, a, _, rfl, ha, rfl, _, _, rfl, _, _, rfl, _, _, rfl, _, _, rfl, rfl, ?_⟩
    refine ⟨_, rfl, ?_⟩
    refine if_any (fun v => v = .int (bI c.b)) (!c.b) (fun S s => ⟨_, rfl, _, rfl, s⟩) (fun z S s => s _ (by cases h : c.b with | true => rw [h] at z; cases z | false => rfl)) (fun z S s => s _ (by cases h : c.b with | false => rw [h] at z; cases z | true => rfl)) (fun v hv => ?_)
    subst hv
    refine ⟨(by show 2 ≤ sizeLine; decide), fun r1 n1 => ⟨_, rfl, ?_⟩⟩
    have s1 := same_put (o := HO.tup [x, .int (bI c.b)]) n1
    have g1 : upd H r1 (HO.tup [x, .int (bI c.b)]) r1 = some (.tup [x, .int (bI c.b)]) := upd_same
    generalize upd H r1 (HO.tup [x, .int (bI c.b)]) = H1 at *
    refine if_any (fun v => v = .int (bI e.b)) e.b (fun S s => ⟨_, rfl, _, rfl, s⟩) (fun z S s => s _ (by rw [z]; rfl)) (fun z S s => s _ (by rw [z]; rfl)) (fun v hv => ?_)
    subst hv
    refine ⟨(by show 2 ≤ sizeLine; decide), fun r2 n2 => ⟨(by show 2 ≤ sizeLine; decide), fun r n => ?_⟩⟩
    have s2 := same_put (o := HO.tup [y, .int (bI e.b)]) n2
    have g2 : upd H1 r2 (HO.tup [y, .int (bI e.b)]) r2 = some (.tup [y, .int (bI e.b)]) := upd_same
    generalize upd H1 r2 (HO.tup [y, .int (bI e.b)]) = H2 at *
    have s3 := same_put (o := HO.tup [.ref r1, .ref r2]) n
    have S := (s1.trans s2).trans s3
    exact k r _ _ _ S ((s1.trans s2).free n) upd_same (cut_mk (SqT.of (s3 _ _ (s2 _ _ g1))) (dp_same S _ _ dx)) (cut_mk (SqT.of (s3 _ _ g2)) (dp_same S _ _ dy))
end
end My
set_option Elab.async false
set_option linter.all false
set_option maxRecDepth 100000
set_option maxHeartbeats 4000000
/-! data that a list's growing leaves as it is -/
namespace Gn
open PySem PySem.Spec PyProof.Rows L2
theorem small1e4 {n : Nat} (h : n ≤ 10000) : n < sizeLine := Nat.lt_of_le_of_lt h (by decide)
mutual
/-- no list in it, no dict -/
def noL : PyData → Bool
  | .list _ => false
  | .dict _ => false
  | .tuple ds => noLs ds
  | _ => true
def noLs : List PyData → Bool
  | [] => true
  | d :: ds => noL d && noLs ds
end
theorem noLs_iff : ∀ {ds : List PyData}, noLs ds = true ↔ ∀ d ∈ ds, noL d = true
  | [] => ⟨(fun _ d m => nomatch m), fun _ => by unfold noLs; rfl⟩
  | d :: ds => by
    unfold noLs
    rw [Bool.and_eq_true, noLs_iff]
    exact ⟨fun h x m => (List.mem_cons.mp m).elim (fun e => e ▸ h.1) (h.2 x), fun h => ⟨h d List.mem_cons_self, fun x m => h x (List.mem_cons_of_mem _ m)⟩⟩
/-- all but lists last -/
def ButL (H H' : Hp) : Prop := ∀ b o, (∀ ys, o ≠ HO.lst ys) → H b = some o → H' b = some o
theorem ButL.sq {K : PySem.W.Frag} {H H' : Hp} {a : Addr} {xs : List V} (k : ButL H H') (h : SqT K H a xs) : SqT K H' a xs := by
  rcases h with (h | ⟨o, h⟩) | h
  · exact .inl (.inl (k _ _ (fun ys z => by cases z) h))
  · exact .inl (.inr ⟨o, k _ _ (fun ys z => by cases z) h⟩)
  · exact .inr h
mutual
theorem dp_butL {K : PySem.W.Frag} {H H' : Hp} (k : ButL H H') : ∀ (d : PyData) (v : V), noL d = true → Dp K H v d → Dp K H' v d
  | .none, _, _, h => by cases h; exact .non
  | .bool b, _, _, h => by cases h; exact .bl b
  | .int i, _, _, h => by cases h; exact .int i
  | .str x, _, _, h => by cases h; exact .str x
  | .list ds, _, n, _ => by unfold noL at n; cases n
  | .tuple ds, _, n, h => by cases h with | tup a b => exact .tup (k.sq a) (dps_butL k ds _ (by unfold noL at n; exact n) b)
  | .dict _, _, n, _ => by unfold noL at n; cases n
theorem dps_butL {K : PySem.W.Frag} {H H' : Hp} (k : ButL H H') : ∀ (ds : List PyData) (vs : List V), noLs ds = true → DpAll K H vs ds → DpAll K H' vs ds
  | [], _, _, h => by cases h; exact .nil
  | d :: ds, _, n, h => by
    unfold noLs at n
    rw [Bool.and_eq_true] at n
    cases h with | cons a b => exact .cons (dp_butL k d _ n.1 a) (dps_butL k ds _ n.2 b)
end
theorem butL_upd {H : Hp} {D : Addr} {ys zs : List V} (h : H D = some (.lst ys)) : ButL H (upd H D (.lst zs)) := fun b o n e => by
  have ne : b ≠ D := fun z => by rw [z, h] at e; exact n ys (Option.some.inj e).symm
  rw [upd_ne ne]; exact e
theorem dp_upd {K : PySem.W.Frag} {H : Hp} {D : Addr} {ys zs : List V} {v : V} {d : PyData} (h : H D = some (.lst ys)) (n : noL d = true) (x : Dp K H v d) : Dp K (upd H D (.lst zs)) v d := dp_butL (butL_upd h) d v n x
theorem dps_upd {K : PySem.W.Frag} {H : Hp} {D : Addr} {ys zs vs : List V} {ds : List PyData} (h : H D = some (.lst ys)) (n : noLs ds = true) (x : DpAll K H vs ds) : DpAll K (upd H D (.lst zs)) vs ds := dps_butL (butL_upd h) ds vs n x
end Gn
set_option Elab.async false
set_option linter.all false
set_option maxRecDepth 100000
set_option maxHeartbeats 8000000
set_option exponentiation.threshold 4000
namespace My
open PySem PySem.Spec PyProof.Rows L2 Gn Mt
abbrev s__first_wrong : Stmt := top 38
theorem sc__first_wrong : FnScope ["pieces", "at", "piece"] ["pieces"] (defScope s__first_wrong) := ⟨rfl, rfl, rfl, by decide +kernel, rfl, by decide +kernel, by decide +kernel⟩
abbrev s__is_piece : Stmt := top 39
theorem sc__is_piece : FnScope ["given", "low", "high", "first", "last", "begin", "end"] ["given"] (defScope s__is_piece) := ⟨rfl, rfl, rfl, by decide +kernel, rfl, by decide +kernel, by decide +kernel⟩
abbrev s__lot_with : Stmt := top 43
theorem sc__lot_with : FnScope ["cuts", "pieces", "begin", "end"] ["cuts"] (defScope s__lot_with) := ⟨rfl, rfl, rfl, by decide +kernel, rfl, by decide +kernel, by decide +kernel⟩
/-! lots: what their pieces have to be, the class, its making -/
abbrev s_linit : Stmt := inClass (top 30) 0
abbrev s_lpieces : Stmt := inClass (top 30) 2
theorem sc_linit : FnScope ["self", "pieces", "wrong"] ["self", "pieces"] (defScope s_linit) := ⟨rfl, rfl, rfl, by decide +kernel, rfl, by decide +kernel, by decide +kernel⟩
theorem sc_lpieces : FnScope ["self"] ["self"] (defScope s_lpieces) := ⟨rfl, rfl, rfl, by decide +kernel, rfl, by decide +kernel, by decide +kernel⟩
/-- a lot's cuts, none too long -/
structure LtL (cs : List Cut) : Prop extends Lt cs where
  lit : ∀ c ∈ cs, Lit (c.n, c.d)
/-- a lot stands at v -/
def LotAt (K : PySem.W.Frag) (C : Addr) (H : Hp) (v : V) (cs : List Cut) : Prop := ∃ x dx a, v = .ref x ∧ H x = some (.ins C dx [("_pieces", .ref a)]) ∧ Dp K H (.ref a) (.tuple (pcsD cs))
theorem LotAt.same {K : PySem.W.Frag} {C : Addr} {H H' : Hp} {v : V} {cs : List Cut} (h : LotAt K C H v cs) (s : Same H H') : LotAt K C H' v cs := by
  obtain ⟨x, dx, a, e, h1, h2⟩ := h
  exact ⟨x, dx, a, e, s _ _ h1, dp_same s _ _ h2⟩
section
variable {K : PySem.W.Frag} {H : Hp}
theorem dps_get : ∀ {xs : List V} {ds : List PyData}, DpAll K H xs ds → ∀ {i : Nat} {x : V}, xs[i]? = some x → ∃ d, ds[i]? = some d ∧ Dp K H x d
  | _, _, .nil, i, x, h => by simp at h
  | _, _, .cons a b, 0, x, h => by cases h; exact ⟨_, rfl, a⟩
  | _, _, .cons a b, i + 1, x, h => dps_get b h
theorem dps_at : ∀ {xs : List V} {ds : List PyData}, DpAll K H xs ds → ∀ {i : Nat} {d : PyData}, ds[i]? = some d → ∃ x, xs[i]? = some x ∧ Dp K H x d
  | _, _, .nil, i, x, h => by simp at h
  | _, _, .cons a b, 0, x, h => by cases h; exact ⟨_, rfl, a⟩
  | _, _, .cons a b, i + 1, x, h => dps_at b h
theorem dps_len : ∀ {xs : List V} {ds : List PyData}, DpAll K H xs ds → xs.length = ds.length
  | _, _, .nil => rfl
  | _, _, .cons _ b => congrArg Nat.succ (dps_len b)
theorem dps_snoc : ∀ {xs : List V} {ds : List PyData} {x : V} {d : PyData}, DpAll K H xs ds → Dp K H x d → DpAll K H (xs ++ [x]) (ds ++ [d])
  | _, _, _, _, .nil, h => .cons h .nil
  | _, _, _, _, .cons a b, h => .cons a (dps_snoc b h)
theorem tup_inv {v : V} {ds : List PyData} (h : Dp K H v (.tuple ds)) : ∃ a xs, v = .ref a ∧ SqT K H a xs ∧ DpAll K H xs ds := by
  cases h with
  | tup a b => exact ⟨_, _, rfl, a, b⟩
theorem lst_inv {v : V} {ds : List PyData} (h : Dp K H v (.list ds)) : ∃ a xs, v = .ref a ∧ SqL K H a xs ∧ DpAll K H xs ds := by
  cases h with
  | lst a b => exact ⟨_, _, rfl, a, b⟩
end
theorem pcs_get : ∀ {cs : List Cut} {i : Nat} {d : PyData}, (pcsD cs)[i]? = some d → ∃ c e, cs[2 * i]? = some c ∧ cs[2 * i + 1]? = some e ∧ d = pcD c e
  | c :: e :: r, 0, d, h => ⟨c, e, rfl, rfl, (Option.some.inj h).symm⟩
  | c :: e :: r, i + 1, d, h => by
    obtain ⟨a, b, h1, h2, h3⟩ := pcs_get (cs := r) (i := i) h
    refine ⟨a, b, ?_, ?_, h3⟩
    · rw [show 2 * (i + 1) = 2 * i + 1 + 1 by omega]; exact h1
    · rw [show 2 * (i + 1) + 1 = 2 * i + 1 + 1 + 1 by omega]; exact h2
  | [], i, d, h => by simp [pcsD] at h
  | [c], i, d, h => by simp [pcsD] at h
theorem pcs_noL : ∀ {cs : List Cut} {d : PyData}, d ∈ pcsD cs → noL d = true
  | c :: e :: r, d, h => by
    rcases List.mem_cons.mp h with rfl | h
    · rfl
    · exact pcs_noL (cs := r) h
  | [], _, h => nomatch h
  | [_], _, h => nomatch h
theorem pcs_len : ∀ {cs : List Cut}, odd cs.length = false → 2 * (pcsD cs).length = cs.length
  | [], _ => rfl
  | [c], h => by simp [odd] at h
  | c :: e :: r, h => by
    have := pcs_len (cs := r) (by simpa [odd] using h)
    show 2 * ((pcsD r).length + 1) = r.length + 1 + 1
    omega
theorem pcs_at {cs : List Cut} (h : odd cs.length = false) {i : Nat} (hi : i < (pcsD cs).length) : ∃ c e, cs[2 * i]? = some c ∧ cs[2 * i + 1]? = some e ∧ (pcsD cs)[i]? = some (pcD c e) := by
  obtain ⟨c, e, h1, h2, h3⟩ := pcs_get (List.getElem?_eq_getElem hi)
  exact ⟨c, e, h1, h2, by rw [← h3]; exact List.getElem?_eq_getElem hi⟩
theorem asc_at {cs : List Cut} (h : Asc cs) {i j : Nat} {c e : Cut} (hc : cs[i]? = some c) (he : cs[j]? = some e) (lt : i < j) : c.lt e = true := by
  obtain ⟨li, rfl⟩ := List.getElem?_eq_some_iff.mp hc
  obtain ⟨lj, rfl⟩ := List.getElem?_eq_some_iff.mp he
  exact List.pairwise_iff_getElem.mp h i j li lj lt
theorem evens_at {α : Type} : ∀ (l : List α) (i : Nat), (evens l)[i]? = l[2 * i]?
  | [], i => by simp [evens]
  | [a], 0 => rfl
  | [a], i + 1 => by simp [evens]
  | a :: b :: r, 0 => rfl
  | a :: b :: r, i + 1 => by
    rw [show 2 * (i + 1) = 2 * i + 1 + 1 by omega]
    exact evens_at r i
theorem evens_both {α : Type} : ∀ (l : List α), odd l.length = false → 2 * (evens l).length = l.length ∧ 2 * (evens (l.drop 1)).length = l.length
  | [], _ => ⟨rfl, rfl⟩
  | [a], h => by simp [odd] at h
  | [a, b], _ => ⟨rfl, rfl⟩
  | [a, b, c], h => by simp [odd] at h
  | a :: b :: c :: d :: r, h => by
    obtain ⟨h1, h2⟩ := evens_both (c :: d :: r) (by simpa [odd] using h)
    refine ⟨?_, ?_⟩
    · show 2 * ((evens (c :: d :: r)).length + 1) = (c :: d :: r).length + 1 + 1
      omega
    · show 2 * ((evens ((c :: d :: r).drop 1)).length + 1) = (c :: d :: r).length + 1 + 1
      omega
def spIsPc (K : PySem.W.Frag) : Sp := fun vs H Q _ => ∃ (u : V) (c e : Cut), vs = [u] ∧ Dp K H u (pcD c e) ∧ c.In ∧ e.In ∧ c.lt e = true ∧ Lit (c.n, c.d) ∧ Lit (e.n, e.d) ∧ ∀ H', Same H H' → Q (.bl true) H'
def spWrong (K : PySem.W.Frag) : Sp := fun vs H Q _ => ∃ (u : V) (cs : List Cut), vs = [u] ∧ Dp K H u (.tuple (pcsD cs)) ∧ LtL cs ∧ ∀ H', Same H H' → Q .non H'
/-- the class Lot of the text -/
structure LotC (P : Program) (w : World) (K : PySem.W.Frag) (mg : Str → Option Value) (C fI fP : Addr) (fdI fdP : FuncData) : Prop where
  cl : Cls K C
  nP : NoAttr K C "_pieces"
  mgC : mg "Lot" = some (.ref C)
  mkL : Mk K C fI
  FI : Fun K "__init__" "Lot.__init__" s_linit fI fdI
  bI : Binds K fdI ["self", "pieces"] []
  pp : ∃ p, PropOf K C "pieces" p fP
  FP : Fun K "pieces" "Lot.pieces" s_lpieces fP fdP
  bP : Binds K fdP ["self"] []
def spInit (K : PySem.W.Frag) (C : Addr) : Sp := fun vs H Q _ => ∃ (x dx a : Addr) (cs : List Cut), vs = [.ref x, .ref a] ∧ H x = some (.ins C dx []) ∧ Dp K H (.ref a) (.tuple (pcsD cs)) ∧ LtL cs ∧
  ∀ H', (∀ b o, b ≠ x → H b = some o → H' b = some o) → H' x = some (.ins C dx [("_pieces", .ref a)]) → Q .non H'
def spPieces (K : PySem.W.Frag) (C : Addr) : Sp := fun vs H Q _ => ∃ (v : V) (cs : List Cut), vs = [v] ∧ LotAt K C H v cs ∧ ∀ a, Dp K H (.ref a) (.tuple (pcsD cs)) → Q (.ref a) H
def spLotWith (K : PySem.W.Frag) (C : Addr) : Sp := fun vs H Q _ => ∃ (u : V) (cs : List Cut), vs = [u] ∧ Dp K H u (.list (cs.map cutD)) ∧ LtL cs ∧ cs.length ≤ 10000 ∧ ∀ v H', Same H H' → LotAt K C H' v cs → Q v H'
/-- the built-ins and constants that lots want -/
structure Bp (K : PySem.W.Frag) (mg : Str → Option Value) : Prop where
  c : Bc mg
  en : mg "enumerate" = none
  zip : mg "zip" = none
  lc : ∃ a, mg "_LAST_CUT" = some (.ref a) ∧ ∀ H, Dp K H (.ref a) (cutD last)
/-- the defs about pieces -/
structure Pd (K : PySem.W.Frag) (mg : Str → Option Value) where
  f_is_fraction : Addr × FuncData
  d_is_fraction : Df K mg "is_fraction" s_is_fraction ["given"] f_is_fraction.1 f_is_fraction.2
  f_is_part : Addr × FuncData
  d_is_part : Df K mg "is_part" s_is_part ["given"] f_is_part.1 f_is_part.2
  f_is_less : Addr × FuncData
  d_is_less : Df K mg "is_less" s_is_less ["one", "other"] f_is_less.1 f_is_less.2
  f_mediant : Addr × FuncData
  d_mediant : Df K mg "mediant" s_mediant ["low", "high"] f_mediant.1 f_mediant.2
  f__first_wrong : Addr × FuncData
  d__first_wrong : Df K mg "_first_wrong" s__first_wrong ["pieces"] f__first_wrong.1 f__first_wrong.2
  f__is_piece : Addr × FuncData
  d__is_piece : Df K mg "_is_piece" s__is_piece ["given"] f__is_piece.1 f__is_piece.2
  f__cuts_at : Addr × FuncData
  d__cuts_at : Df K mg "_cuts_at" s__cuts_at ["piece"] f__cuts_at.1 f__cuts_at.2
  f__is_ahead : Addr × FuncData
  d__is_ahead : Df K mg "_is_ahead" s__is_ahead ["cut", "other"] f__is_ahead.1 f__is_ahead.2
  f__lot_with : Addr × FuncData
  d__lot_with : Df K mg "_lot_with" s__lot_with ["cuts"] f__lot_with.1 f__lot_with.2
  f_int : Addr × FuncData
  d_int : Df K mg "is_integer" sIsInt ["given"] f_int.1 f_int.2
  f_low : Addr × FuncData
  d_low : Df K mg "lowest" sLowest ["top", "bottom"] f_low.1 f_low.2
section
variable {P : Program} {w : World} {K : PySem.W.Frag} {mg : Str → Option Value} {base : Heap}
theorem lit_last : Lit (last.n, last.d) := ⟨by decide, by decide⟩
theorem ok_isPc {f : Addr} {fd : FuncData} (F : Fun K "_is_piece" "_is_piece" s__is_piece f fd) (B : Bp K mg) (M : Pd K mg) : FnOk P w K mg base CX0 4 f fd ["given"] (spIsPc K) := by
  have GP : FnOk P w K mg base CX0 3 M.f_is_part.1 M.f_is_part.2 ["given"] (spPart K) := ok_part M.d_is_part.F B.c M.d_int M.d_is_fraction
  have GC : FnOk P w K mg base CX0 1 M.f__cuts_at.1 M.f__cuts_at.2 ["piece"] (spCuts K) := ok_cuts M.d__cuts_at.F
  have GA : FnOk P w K mg base CX0 2 M.f__is_ahead.1 M.f__is_ahead.2 ["cut", "other"] (spAhead K) := ok_ahead M.d__is_ahead.F M.d_is_less
  refine F.ok sc__is_piece (fun vs H Q E h => ?_) (fun cdv A outer s H vs Q E hr h => ?_)
  · obtain ⟨u, c, e, rfl, _⟩ := h
    rfl
  · obtain ⟨u, c, e, rfl, hu, ic, ie, lt, l1, l2, k⟩ := h
    have hu0 := hu
    obtain ⟨a, x, y, rfl, ha, dx, dy⟩ := pc_inv hu
    obtain ⟨al, hal, hlast⟩ := B.lc
    have hr1 : Room 1 _ := hr.mono (by decide)
    have hr2 : Room 2 _ := hr.mono (by decide)
    refine ⟨_, pss_cons (ps_if (PW.pt (pw_or (pt_not (pt_val (pe_callB (call_isi) (by rfl) B.c.isi (by decide +kernel) (pa_cons (pv 0) (pa_cons (pe_bltn (v := .ty "tuple") (by rfl) B.c.tuple (by decide +kernel) rfl) pa_nil))))) (pw_or1 (pt_cmpR op_ne (pe_callB (call_len_seq) (by rfl) B.c.len (by decide +kernel) (pa_cons (pv 0) pa_nil)) pe_int (nomark _))))) (pss_one (ps_ret pe_bl)) pss_nil) (pss_cons (ps_asg (pv 0) (pg_tup (by rfl) (pgs_cons (pg_name (i := 1) sc__is_piece.nd rfl (.inl rfl)) (pgs_cons (pg_name (i := 2) sc__is_piece.nd rfl (.inl rfl)) (pgs_cons (pg_name (i := 3) sc__is_piece.nd rfl (.inl rfl)) (pgs_cons (pg_name (i := 4) sc__is_piece.nd rfl (.inl rfl)) pgs_nil)))))) (pss_cons (ps_if (PW.pt (pw_or (pt_not (pt_val (pe_call GP hr (by rfl) M.d_is_part.g M.d_is_part.F.kp M.d_is_part.b .nil pass0 (pa_cons (pv 1) pa_nil)))) (pw_or (pt_not (pt_val (pe_call GP hr (by rfl) M.d_is_part.g M.d_is_part.F.kp M.d_is_part.b .nil pass0 (pa_cons (pv 2) pa_nil)))) (pw_or (pt_not (pt_val (pe_callB (call_isi) (by rfl) B.c.isi (by decide +kernel) (pa_cons (pv 3) (pa_cons (pe_bltn (v := .ty "bool") (by rfl) B.c.bool (by decide +kernel) rfl) pa_nil))))) (pw_or1 (pt_not (pt_val (pe_callB (call_isi) (by rfl) B.c.isi (by decide +kernel) (pa_cons (pv 4) (pa_cons (pe_bltn (v := .ty "bool") (by rfl) B.c.bool (by decide +kernel) rfl) pa_nil)))))))))) (pss_one (ps_ret pe_bl)) pss_nil) (pss_cons (ps_asg (pe_call GC hr1 (by rfl) M.d__cuts_at.g M.d__cuts_at.F.kp M.d__cuts_at.b .nil pass0 (pa_cons (pv 0) pa_nil)) (pg_tup (by rfl) (pgs_cons (pg_name (i := 5) sc__is_piece.nd rfl (.inl rfl)) (pgs_cons (pg_name (i := 6) sc__is_piece.nd rfl (.inl rfl)) pgs_nil)))) (pss_one (ps_ret (pe_and (pe_call GA hr2 (by rfl) M.d__is_ahead.g M.d__is_ahead.F.kp M.d__is_ahead.b .nil pass0 (pa_cons (pv 5) (pa_cons (pv 6) pa_nil))) (pe_one (pe_not (pe_call GA hr2 (by rfl) M.d__is_ahead.g M.d__is_ahead.F.kp M.d__is_ahead.b .nil pass0 (pa_cons (pe_glob (v := .ref al) rfl hal rfl) (pa_cons (pv 6) pa_nil))))))))))), ?_⟩
    refine ⟨_, rfl, .ref a, .ty "tuple", _, _, true, rfl, .ty "tuple", tyx_sqt ha, kit_ty (by decide +kernel), true, rfl, iteF ?_⟩
    refine ⟨_, rfl, a, _, rfl, .inr ha, rfl, _, rfl, iteF ?_⟩
    refine ⟨_, rfl, a, _, rfl, ha, rfl, _, _, rfl, _, _, rfl, _, _, rfl, _, _, rfl, rfl, ?_⟩
    refine ⟨_, rfl, x, (c.n, c.d), rfl, dx, ⟨ic.n0, ic.nd, ic.d, ic.co⟩, true, rfl, iteF ?_⟩
    refine ⟨_, rfl, y, (e.n, e.d), rfl, dy, ⟨ie.n0, ie.nd, ie.d, ie.co⟩, true, rfl, iteF ?_⟩
    refine ⟨_, rfl, .bl (!c.b), .ty "bool", _, _, true, rfl, .ty "bool", .base (.bl _), kit_ty (by decide +kernel), true, rfl, iteF ?_⟩
    refine ⟨_, rfl, .bl e.b, .ty "bool", _, _, true, rfl, .ty "bool", .base (.bl _), kit_ty (by decide +kernel), true, rfl, iteF ?_⟩
    refine ⟨_, rfl, _, c, e, rfl, hu0, fun r x' y' H1 s1 nr hr' dx' dy' => ?_⟩
    refine ⟨r, _, rfl, SqT.of hr', rfl, _, _, rfl, _, _, rfl, rfl, ?_⟩
    refine ⟨_, rfl, _, rfl, x', y', c, e, rfl, dx', dy', l1, l2, ?_⟩
    rw [lt]
    refine ⟨true, rfl, iteT ?_⟩
    refine ⟨_, rfl, .ref al, y', last, e, rfl, hlast _, dy', lit_last, l2, ?_⟩
    rw [ie.le]
    exact ⟨false, rfl, k H1 s1⟩
theorem ok_wrong {f : Addr} {fd : FuncData} (F : Fun K "_first_wrong" "_first_wrong" s__first_wrong f fd) (B : Bp K mg) (M : Pd K mg) : FnOk P w K mg base CX0 5 f fd ["pieces"] (spWrong K) := by
  have GP : FnOk P w K mg base CX0 4 M.f__is_piece.1 M.f__is_piece.2 ["given"] (spIsPc K) := ok_isPc M.d__is_piece.F B M
  have GC : FnOk P w K mg base CX0 1 M.f__cuts_at.1 M.f__cuts_at.2 ["piece"] (spCuts K) := ok_cuts M.d__cuts_at.F
  have GA : FnOk P w K mg base CX0 2 M.f__is_ahead.1 M.f__is_ahead.2 ["cut", "other"] (spAhead K) := ok_ahead M.d__is_ahead.F M.d_is_less
  refine F.ok sc__first_wrong (fun vs H Q E h => ?_) (fun cdv A outer s H vs Q E hr h => ?_)
  · obtain ⟨u, cs, rfl, _⟩ := h
    rfl
  · obtain ⟨u, cs, rfl, hu, L, k⟩ := h
    obtain ⟨a, xs, rfl, ha, hx⟩ := tup_inv hu
    have hr1 : Room 1 _ := hr.mono (by decide)
    have hr2 : Room 2 _ := hr.mono (by decide)
    refine ⟨_, pss_cons (ps_for PassesOwn.never rfl (pi_enumT (by rfl) B.en (pa_cons (pv 0) pa_nil)) (pg_tup (by rfl) (pgs_cons (pg_name (i := 1) sc__first_wrong.nd rfl (.inl rfl)) (pgs_cons (pg_name (i := 2) sc__first_wrong.nd rfl (.inl rfl)) pgs_nil))) (pss_cons (ps_if (pt_not (pt_val (pe_call GP hr (by rfl) M.d__is_piece.g M.d__is_piece.F.kp M.d__is_piece.b .nil pass0 (pa_cons (pv 2) pa_nil)))) (pss_one (ps_ret (pv 1))) pss_nil) (pss_one (ps_if (PW.pt (pw_and (pt_cmpR op_gt (pv 1) pe_int (nomark _)) (pw_and1 (pt_not (pt_val (pe_call GA hr2 (by rfl) M.d__is_ahead.g M.d__is_ahead.F.kp M.d__is_ahead.b .nil pass0 (pa_cons (pe_ix ix_tup (pe_call GC hr1 (by rfl) M.d__cuts_at.g M.d__cuts_at.F.kp M.d__cuts_at.b .nil pass0 (pa_cons (pe_ix ix_tup (pv 0) (pe_op op_sub (pv 1) pe_int) (fun _ _ => rfl)) pa_nil)) pe_int (fun _ _ => rfl)) (pa_cons (pe_ix ix_tup (pe_call GC hr1 (by rfl) M.d__cuts_at.g M.d__cuts_at.F.kp M.d__cuts_at.b .nil pass0 (pa_cons (pv 2) pa_nil)) pe_int (fun _ _ => rfl)) pa_nil)))))))) (pss_one (ps_ret (pv 1))) pss_nil)))) (pss_one (ps_ret pe_non)), ?_⟩
    refine ⟨_, rfl, a, xs, rfl, ha, for_en (K := K) (a := a) (xs := xs) (fun i σ H' => ∃ p q, σ = [some (.ref a), p, q] ∧ Same H H') ⟨none, none, rfl, Same.refl _⟩ (fun i σ H' ⟨_, _, _, s⟩ => sqT_same s ha) ?_ ?_⟩
    · rintro i x r σ H1 hi ⟨p, q, rfl, s1⟩ nr
      obtain ⟨d, hd, dx⟩ := dps_get (dps_same s1 _ _ hx) hi
      obtain ⟨c, e, hc, he, rfl⟩ := pcs_get hd
      have s2 := same_put (o := HO.tup [V.int (i : Nat), x]) nr
      have g2 : upd H1 r (HO.tup [V.int (i : Nat), x]) r = some (.tup [V.int (i : Nat), x]) := upd_same
      generalize upd H1 r (HO.tup [V.int (i : Nat), x]) = H2 at *
      have dx2 := dp_same s2 _ _ dx
      have lt := asc_at L.a hc he (by omega)
      have mc := List.mem_of_getElem? hc
      have me := List.mem_of_getElem? he
      refine ⟨r, _, rfl, SqT.of g2, rfl, _, _, rfl, _, _, rfl, rfl, ?_⟩
      refine ⟨_, rfl, x, c, e, rfl, dx2, L.v c mc, L.v e me, lt, L.lit c mc, L.lit e me, fun H3 s3 => ⟨true, rfl, iteF ?_⟩⟩
      have S3 := (s1.trans s2).trans s3
      refine nxI (lastIfF (fun R kR => andF (decide ((i : Int) > 0)) (fun S s => ⟨_, rfl, _, _, rfl, rfl, _, rfl, s⟩) (fun z S sS => ?_) kR) (fun H4 s4 => ⟨_, _, rfl, S3.trans s4⟩))
      have i0 : (i : Int) > 0 := of_decide_eq_true z
      have lx : i < xs.length := (List.getElem?_eq_some_iff.mp hi).1
      have hj : xs[i - 1]? = some xs[i - 1] := List.getElem?_eq_getElem (by omega)
      obtain ⟨d', hd', dx'⟩ := dps_get (dps_same S3 _ _ hx) hj
      obtain ⟨c', e', hc', he', rfl⟩ := pcs_get hd'
      have lt' := asc_at L.a he' hc (by omega)
      have me' := List.mem_of_getElem? he'
      refine ⟨_, rfl, _, rfl, _, _, rfl, rfl, a, xs, (i : Int) - 1, xs[i - 1], rfl, rfl, sqT_same S3 ha, at_of (j := i - 1) (by omega) hj, xs[i - 1], c', e', rfl, dx', fun r1 u1 v1 H5 s5 n5 g5 du dv => ?_⟩
      refine ⟨r1, _, 1, v1, rfl, rfl, SqT.of g5, at_of (j := 1) rfl rfl, _, rfl, x, c, e, rfl, dp_same (s3.trans s5) _ _ dx2, fun r2 u2 v2 H6 s6 n6 g6 du2 dv2 => ?_⟩
      refine ⟨r2, _, 0, u2, rfl, rfl, SqT.of g6, at_of (j := 0) rfl rfl, v1, u2, e', c, rfl, dp_same s6 _ _ dv, du2, L.lit e' me', L.lit c mc, ?_⟩
      rw [lt']
      exact ⟨true, rfl, sS _ (s5.trans s6)⟩
    · rintro σ H1 ⟨p, q, rfl, s1⟩
      exact k H1 s1
variable {C fI fP : Addr} {fdI fdP : FuncData}
theorem ok_linit (T : LotC P w K mg C fI fP fdI fdP) (B : Bp K mg) (M : Pd K mg) : FnOk P w K mg base CX0 6 fI fdI ["self", "pieces"] (spInit K C) := by
  have GW : FnOk P w K mg base CX0 5 M.f__first_wrong.1 M.f__first_wrong.2 ["pieces"] (spWrong K) := ok_wrong M.d__first_wrong.F B M
  refine T.FI.ok sc_linit (fun vs H Q E h => ?_) (fun cdv A outer s H vs Q E hr h => ?_)
  · obtain ⟨x, dx, a, cs, rfl, _⟩ := h
    rfl
  · obtain ⟨x, dx, a, cs, rfl, hx, ha, L, k⟩ := h
    have ha0 := ha
    obtain ⟨a', xs, e, hq, hxs⟩ := tup_inv ha
    cases e
    refine ⟨_, pss_cons (ps_if (pt_not (pt_val (pe_callB (call_isi) (by rfl) B.c.isi (by decide +kernel) (pa_cons (pv 1) (pa_cons (pe_bltn (v := .ty "tuple") (by rfl) B.c.tuple (by decide +kernel) rfl) pa_nil))))) (pss_one (ps_never)) pss_nil) (pss_cons (ps_set (i := 2) sc_linit.nd rfl (.inl rfl) (pe_call GW hr (by rfl) M.d__first_wrong.g M.d__first_wrong.F.kp M.d__first_wrong.b .nil pass0 (pa_cons (pv 1) pa_nil))) (pss_cons (ps_if (pt_cmpR op_notN (pv 2) pe_non (nomark _)) (pss_one (ps_never)) pss_nil) (pss_one (ps_fld (pv 0) (pv 1) rfl)))), ?_⟩
    refine ⟨_, rfl, .ref a, .ty "tuple", _, _, true, rfl, .ty "tuple", tyx_sqt hq, kit_ty (by decide +kernel), true, rfl, iteF ?_⟩
    refine ⟨_, rfl, .ref a, cs, rfl, ha0, L, fun H1 s1 => ?_⟩
    refine ⟨_, rfl, rfl, _, rfl, iteF ?_⟩
    refine ⟨_, rfl, _, rfl, x, C, dx, [], rfl, s1 _ _ hx, T.cl, T.nP, (by show 0 < 1000; decide), ?_⟩
    exact k _ (fun b o hb e => by rw [upd_ne hb]; exact s1 _ _ e) upd_same
theorem ok_lpieces (T : LotC P w K mg C fI fP fdI fdP) : FnOk P w K mg base CX0 1 fP fdP ["self"] (spPieces K C) := by
  refine T.FP.ok sc_lpieces (fun vs H Q E h => ?_) (fun cdv A outer s H vs Q E hr h => ?_)
  · obtain ⟨v, cs, rfl, _⟩ := h
    rfl
  · obtain ⟨v, cs, rfl, ⟨x, dx, a, rfl, hx, ha⟩, k⟩ := h
    refine ⟨_, pss_one (ps_ret (L2.pe_fld (pv 0) rfl)), ?_⟩
    exact ⟨_, rfl, x, C, dx, _, .ref a, rfl, hx, T.cl, T.nP, rfl, k a ha⟩
theorem ok_lotWith {f : Addr} {fd : FuncData} (F : Fun K "_lot_with" "_lot_with" s__lot_with f fd) (T : LotC P w K mg C fI fP fdI fdP) (B : Bp K mg) (M : Pd K mg) : FnOk P w K mg base CX0 8 f fd ["cuts"] (spLotWith K C) := by
  have GI : FnOk P w K mg base CX0 6 fI fdI ["self", "pieces"] (spInit K C) := ok_linit T B M
  refine F.ok sc__lot_with (fun vs H Q E h => ?_) (fun cdv A outer s H vs Q E hr h => ?_)
  · obtain ⟨u, cs, rfl, _⟩ := h
    rfl
  · obtain ⟨u, cs, rfl, hu, L, hl, k⟩ := h
    obtain ⟨l, xs, rfl, hq, hx⟩ := lst_inv hu
    have len := dps_len hx
    rw [List.length_map] at len
    have ev : odd xs.length = false := by rw [len]; exact L.e
    refine ⟨_, pss_cons (ps_set (i := 1) sc__lot_with.nd rfl (.inl rfl) (pe_lst pa_nil)) (pss_cons (ps_for PassesOwn.never rfl (pi_zip (by rfl) B.zip (pa_cons (pe_ev0 (pv 0)) (pa_cons (pe_ev1 (pv 0)) pa_nil))) (pg_tup (by rfl) (pgs_cons (pg_name (i := 2) sc__lot_with.nd rfl (.inl rfl)) (pgs_cons (pg_name (i := 3) sc__lot_with.nd rfl (.inl rfl)) pgs_nil))) (pss_one (ps_expr (pe_bm PySem.F.plainAttrs_list PySem.F.slot_list_append PySem.F.type_list_append mt_append (pv 1) (pa_cons (pe_tup (pa_cons (pe_ix ix_tup (pv 2) pe_int (fun _ _ => rfl)) (pa_cons (pe_ix ix_tup (pv 3) pe_int (fun _ _ => rfl)) (pa_cons (pe_cmpR op_eq (pe_ix ix_tup (pv 2) pe_int (fun _ _ => rfl)) pe_int (nomark _)) (pa_cons (pe_cmpR op_eq (pe_ix ix_tup (pv 3) pe_int (fun _ _ => rfl)) pe_int (nomark _)) pa_nil))))) pa_nil))))) (pss_one (ps_ret (pe_make T.mkL GI (hr.mono (by decide)) (by rfl) T.mgC T.bI .nil pass0 (pa_cons (pe_callTy cr_tupL (by rfl) B.c.tuple (by decide +kernel) (pa_cons (pv 1) pa_nil)) pa_nil))))), ?_⟩
    refine ⟨Nat.zero_le _, fun D nD => ?_⟩
    have s0 := same_put (o := HO.lst []) nD
    have gD : upd H D (HO.lst []) D = some (.lst []) := upd_same
    generalize upd H D (HO.lst []) = H0 at *
    refine ⟨_, rfl, l, xs, rfl, s0.seq hq, fun p np => ?_⟩
    have s1 := same_put (o := HO.lst (evens (xs.drop 0))) np
    have gp : upd H0 p (HO.lst (evens (xs.drop 0))) p = some (.lst (evens (xs.drop 0))) := upd_same
    generalize upd H0 p (HO.lst (evens (xs.drop 0))) = H1 at *
    refine ⟨_, rfl, l, xs, rfl, (s0.trans s1).seq hq, fun q nq => ?_⟩
    have s2 := same_put (o := HO.lst (evens (xs.drop 1))) nq
    have gq : upd H1 q (HO.lst (evens (xs.drop 1))) q = some (.lst (evens (xs.drop 1))) := upd_same
    generalize upd H1 q (HO.lst (evens (xs.drop 1))) = H2 at *
    have S := (s0.trans s1).trans s2
    have gp2 := s2 _ _ gp
    have gD2 := s2 _ _ (s1 _ _ gD)
    have npD : p ≠ D := fun z => by rw [z, gD] at np; cases np
    have nqD : q ≠ D := fun z => by rw [z, s1 _ _ gD] at nq; cases nq
    obtain ⟨e1, e2⟩ := evens_both xs ev
    rw [List.drop_zero] at gp2
    refine ⟨p, q, _, _, rfl, SqL.of gp2, SqL.of gq, RZ.for_zipL (K := K) (a := p) (b := q) (xs := evens xs) (ys := evens (xs.drop 1)) (by omega)
      (fun i σ H' => ∃ (ys : List V) (x y : Option V), σ = [some (.ref l), some (.ref D), x, y] ∧ H' D = some (.lst ys) ∧ DpAll K H' ys ((pcsD cs).take i) ∧ ∀ b o, b ≠ D → H2 b = some o → H' b = some o)
      ⟨[], none, none, rfl, gD2, .nil, fun b o _ e => e⟩ (fun i σ H' ⟨_, _, _, _, _, _, kp⟩ => ⟨SqL.of (kp _ _ npD gp2), SqL.of (kp _ _ nqD gq)⟩) ?_ ?_⟩
    · rintro i x y r σ H3 hi hj ⟨ys, u1, u2, rfl, hD, hys, kp⟩ nr
      rw [evens_at] at hi hj
      rw [List.getElem?_drop, Nat.add_comm] at hj
      have sH : Same H H3 := fun b o e => kp _ _ (ne_of_none e nD) (S _ _ e)
      obtain ⟨d1, hd1, dx⟩ := dps_get (dps_same sH _ _ hx) hi
      obtain ⟨d2, hd2, dy⟩ := dps_get (dps_same sH _ _ hx) hj
      rw [List.getElem?_map] at hd1 hd2
      obtain ⟨c, hc, rfl⟩ := Option.map_eq_some_iff.mp hd1
      obtain ⟨e, he, rfl⟩ := Option.map_eq_some_iff.mp hd2
      obtain ⟨a1, l1, rfl, h1, f1⟩ := cut_inv dx
      obtain ⟨a2, l2, rfl, h2, f2⟩ := cut_inv dy
      have s4 := same_put (o := HO.tup [V.ref a1, V.ref a2]) nr
      have g4 : upd H3 r (HO.tup [V.ref a1, V.ref a2]) r = some (.tup [V.ref a1, V.ref a2]) := upd_same
      have hD4 := s4 _ _ hD
      generalize upd H3 r (HO.tup [V.ref a1, V.ref a2]) = H4 at *
      have h1 := sqT_same s4 h1
      have h2 := sqT_same s4 h2
      refine ⟨r, _, rfl, SqT.of g4, rfl, _, _, rfl, _, _, rfl, rfl, ?_⟩
      refine ⟨_, rfl, .inl ⟨rfl, _, SqL.of hD4⟩, ?_⟩
      refine ⟨_, rfl, a1, _, 0, l1, rfl, rfl, h1, at_of (j := 0) rfl rfl, _, rfl, a2, _, 0, l2, rfl, rfl, h2, at_of (j := 0) rfl rfl, ?_⟩
      refine ⟨_, rfl, a1, _, 1, .int (bI c.b), rfl, rfl, h1, at_of (j := 1) rfl rfl, rfl, _, rfl, a2, _, 1, .int (bI e.b), rfl, rfl, h2, at_of (j := 1) rfl rfl, rfl, ?_⟩
      refine ⟨(by show 4 ≤ sizeLine; decide), fun t nt => ?_⟩
      have z1 : decide (V.int (bI c.b) = V.int 0) = !c.b := by cases c.b <;> decide
      have z2 : decide (V.int (bI e.b) = V.int 1) = e.b := by cases e.b <;> decide
      rw [z1, z2]
      have s5 := same_put (o := HO.tup [l1, l2, V.bl (!c.b), V.bl e.b]) nt
      have g5 : upd H4 t (HO.tup [l1, l2, V.bl (!c.b), V.bl e.b]) t = some (.tup [l1, l2, V.bl (!c.b), V.bl e.b]) := upd_same
      generalize upd H4 t (HO.tup [l1, l2, V.bl (!c.b), V.bl e.b]) = H5 at *
      have hD5 := s5 _ _ hD4
      have s45 := s4.trans s5
      have li : i < (pcsD cs).length := by
        have := pcs_len L.e
        have l1 := (List.getElem?_eq_some_iff.mp he).1
        omega
      obtain ⟨c', e', hc', he', hp⟩ := pcs_at L.e li
      have ec : c' = c := Option.some.inj (hc'.symm.trans hc)
      have ee : e' = e := Option.some.inj (he'.symm.trans (by rw [Nat.add_comm] at he; rw [Nat.add_comm]; exact he))
      subst ec ee
      refine ⟨D, ys, .ref t, rfl, rfl, hD5, ?_, ys ++ [.ref t], _, _, rfl, upd_same, ?_, fun b o hb e => ?_⟩
      · rw [dps_len hys, List.length_take]
        have := pcs_len L.e
        exact small1e4 (by omega)
      · rw [List.take_add_one, hp]
        exact dps_snoc (dps_upd hD5 (noLs_iff.mpr fun d m => pcs_noL (List.mem_of_mem_take m)) (dps_same s45 _ _ hys)) (dp_upd hD5 rfl (pc_mk (SqT.of g5) (dp_same s45 _ _ f1) (dp_same s45 _ _ f2)))
      · rw [upd_ne hb]
        exact s45 _ _ (kp _ _ hb e)
    · rintro σ H3 ⟨ys, u1, u2, rfl, hD, hys, kp⟩
      have sH : Same H H3 := fun b o e => kp _ _ (ne_of_none e nD) (S _ _ e)
      have tk : (pcsD cs).take (evens xs).length = pcsD cs := List.take_of_length_le (by have := pcs_len L.e; omega)
      rw [tk] at hys
      refine ⟨_, rfl, D, ys, rfl, SqL.of hD, fun t nt => ?_⟩
      have s4 := same_put (o := HO.tup ys) nt
      have g4 : upd H3 t (HO.tup ys) t = some (.tup ys) := upd_same
      generalize upd H3 t (HO.tup ys) = H4 at *
      intro x dx nx ndx ne
      have s5 : Same H4 (upd H4 dx (.own x)) := same_put ndx
      have s6 : Same (upd H4 dx (.own x)) (upd (upd H4 dx (.own x)) x (.ins C dx [])) := same_put (by rw [upd_ne ne.symm]; exact nx)
      have D6 : Dp K (upd (upd H4 dx (.own x)) x (.ins C dx [])) (.ref t) (.tuple (pcsD cs)) := .tup (SqT.of (s6 _ _ (s5 _ _ g4))) (dps_same ((s4.trans s5).trans s6) _ _ hys)
      refine ⟨x, dx, t, cs, rfl, upd_same, D6, L, fun H7 kp7 hx7 => ⟨rfl, ?_⟩⟩
      have s7 : Same H H7 := fun b o e => by
        have hb : b ≠ x := ne_of_none ((sH.trans s4) _ _ e) nx
        exact kp7 _ _ hb (((sH.trans s4).trans (s5.trans s6)) _ _ e)
      refine k _ H7 s7 ⟨x, dx, t, rfl, hx7, ?_⟩
      have s47 : Same H4 H7 := fun b o e => kp7 _ _ (ne_of_none e nx) ((s5.trans s6) _ _ e)
      exact .tup (SqT.of (s47 _ _ g4)) (dps_same (s4.trans s47) _ _ hys)
end
end My
set_option Elab.async false
set_option linter.all false
set_option maxRecDepth 100000
set_option maxHeartbeats 4000000
/-! two clauses walked -/
namespace Gn
open PySem PySem.Spec PyProof.Rows L2
section
variable {J J1 : It} {n n1 : Nat} {G G1 : Hp → Prop} {Y Y1 : Nat → Hp → V → Hp → Prop}
/-- the second clause's walk, a list being filled -/
def In1 (J1 : It) (g1 : TG) (tt1 : TT) (te : TE) (vs1 : List Nat) (D : Addr) (τ : L2.St) (F : Hp → Prop) (H0 : Hp) : Prop :=
  ∃ W1 : Nat → Nat → Hp → Prop, (∃ m, W1 0 m H0) ∧ ∀ j k H, W1 j k H → (J1.stop j H ∧ F H) ∨ (J1.go j H ∧ ∃ N1 : Hp → Prop, (∀ H', N1 H' → ∃ k', k' < k ∧ W1 (j + 1) k' H') ∧ ∀ x H', J1.yld j H x H' → g1 x (wipe τ vs1) H' fun υ H5 => wipe υ vs1 = wipe τ vs1 ∧ tt1 υ H5 fun b H6 =>
    if b = true then te υ H6 fun y H7 => ∃ acc, H7 D = some (.lst acc) ∧ acc.length < sizeLine ∧ N1 (upd H7 D (.lst (acc ++ [y]))) else N1 H6)
theorem in1 (w : Walk J1 n1 G1 Y1) {g1 : TG} {tt1 : TT} {te : TE} {vs1 : List Nat} {D : Addr} {τ : L2.St} {F : Hp → Prop} {H0 : Hp} (Pv : Nat → Hp → Prop) (h0 : Pv 0 H0) (hG : ∀ i H, i ≤ n1 → Pv i H → G1 H)
    (hs : ∀ i x H H', i < n1 → Pv i H → Y1 i H x H' → g1 x (wipe τ vs1) H' fun υ H2 => wipe υ vs1 = wipe τ vs1 ∧ tt1 υ H2 fun b H3 =>
      if b = true then te υ H3 fun y H4 => ∃ acc, H4 D = some (.lst acc) ∧ acc.length < sizeLine ∧ Pv (i + 1) (upd H4 D (.lst (acc ++ [y]))) else Pv (i + 1) H3) (hd : ∀ H, Pv n1 H → F H) : In1 J1 g1 tt1 te vs1 D τ F H0 := by
  refine ⟨fun i m H => m = n1 - i ∧ i ≤ n1 ∧ Pv i H, ⟨_, rfl, Nat.zero_le _, h0⟩, ?_⟩
  rintro i m H ⟨rfl, hi, p⟩
  have q := hG i H hi p
  by_cases lt : i < n1
  · exact .inr ⟨w.goes i H lt q, Pv (i + 1), fun H' p' => ⟨n1 - (i + 1), by omega, rfl, lt, p'⟩, fun x H' y => hs i x H H' lt p (w.yields i H x H' lt q y)⟩
  · obtain rfl : i = n1 := by omega
    exact .inl ⟨w.stops H q, hd H p⟩
theorem lc2_it (w : Walk J n G Y) {g : TG} {tt : TT} {wi1 : TI} {g1 : TG} {tt1 : TT} {te : TE} {vs vs1 : List Nat} {σ : L2.St} {H1 : Hp} {D : Addr} {Qd : Hp → Prop} (Pv : Nat → Hp → Prop) (h0 : Pv 0 (upd H1 D (.lst []))) (hG : ∀ i H, i ≤ n → Pv i H → G H)
    (hs : ∀ i x H H', i < n → Pv i H → Y i H x H' → g x (wipe σ vs) H' fun τ H2 => wipe τ vs = wipe σ vs ∧ tt τ H2 fun b H3 => if b = true then wi1 τ H3 fun J1 H4 => In1 J1 g1 tt1 te vs1 D τ (Pv (i + 1)) H4 else Pv (i + 1) H3) (hd : ∀ H, Pv n H → Qd H) :
    ∃ W : Nat → Nat → Hp → Prop, (∃ m, W 0 m (upd H1 D (.lst []))) ∧ ∀ i m H, W i m H →
      (J.stop i H ∧ Qd H) ∨ (J.go i H ∧ ∃ Nx : Hp → Prop, (∀ H', Nx H' → ∃ m', m' < m ∧ W (i + 1) m' H') ∧ ∀ x H', J.yld i H x H' → g x (wipe σ vs) H' fun σ2 H2 => wipe σ2 vs = wipe σ vs ∧ tt σ2 H2 fun b H3 => if b = true then wi1 σ2 H3 fun J1 H4 => In1 J1 g1 tt1 te vs1 D σ2 Nx H4 else Nx H3) := by
  refine ⟨fun i m H => m = n - i ∧ i ≤ n ∧ Pv i H, ⟨_, rfl, Nat.zero_le _, h0⟩, ?_⟩
  rintro i m H ⟨rfl, hi, p⟩
  have q := hG i H hi p
  by_cases lt : i < n
  · exact .inr ⟨w.goes i H lt q, Pv (i + 1), fun H' p' => ⟨n - (i + 1), by omega, rfl, lt, p'⟩, fun x H' y => hs i x H H' lt p (w.yields i H x H' lt q y)⟩
  · obtain rfl : i = n := by omega
    exact .inl ⟨w.stops H q, hd H p⟩
/-- the same for a set: the outer walk by a measure of the turns left -/
theorem sc2_it {w' : World} (w : Walk J n G Y) (w1 : ∀ i, i < n → Walk J1 n1 G1 Y1) {g : TG} {wi1 : TI} {g1 : TG} {tc : TT} {te : TE} {vs vs1 : List Nat} {σ : L2.St} {H1 : Hp} {D : Addr} {Qd : Hp → Prop} (Pv : Nat → Nat → Hp → Prop)
    (h0 : Pv 0 0 (upd H1 D (SetO w' D (fun _ => false) 0))) (hG : ∀ i H, i ≤ n → Pv i 0 H → G H) (hG1 : ∀ i j H, i < n → j ≤ n1 → Pv i j H → G1 H) (wrap : ∀ i H, i < n → Pv i n1 H → Pv (i + 1) 0 H)
    (hs : ∀ i x H H', i < n → Pv i 0 H → Y i H x H' → g x (wipe σ vs) H' fun τ H2 => wipe τ vs = wipe σ vs ∧ wi1 τ H2 fun J2 H4 => J2 = J1 ∧ Pv i 0 H4 ∧
      ∀ j x1 H5 H6, j < n1 → Pv i j H5 → Y1 j H5 x1 H6 → g1 x1 (wipe τ vs1) H6 fun υ H7 => wipe υ vs1 = wipe τ vs1 ∧ tc υ H7 fun b H8 => if b = true then te υ H8 fun y H9 => More w' D y H9 (Pv i (j + 1)) else Pv i (j + 1) H8) (hd : ∀ H, Pv n 0 H → Qd H)
    (mono : ∀ (τ : L2.St) (H : Hp) (R R' : It → Hp → Prop), (∀ J H, R J H → R' J H) → wi1 τ H R → wi1 τ H R') (mg : ∀ (x : V) (τ : L2.St) (H : Hp) (R R' : L2.St → Hp → Prop), (∀ τ H, R τ H → R' τ H) → g x τ H R → g x τ H R') (mg1 : ∀ (x : V) (τ : L2.St) (H : Hp) (R R' : L2.St → Hp → Prop), (∀ τ H, R τ H → R' τ H) → g1 x τ H R → g1 x τ H R')
    (mc : ∀ (τ : L2.St) (H : Hp) (R R' : Bool → Hp → Prop), (∀ b H, R b H → R' b H) → tc τ H R → tc τ H R') (me : ∀ (τ : L2.St) (H : Hp) (R R' : VK), (∀ v H, R v H → R' v H) → te τ H R → te τ H R') :
    ∃ W : Nat → Nat → Hp → Prop, (∃ m, W 0 m (upd H1 D (SetO w' D (fun _ => false) 0))) ∧ ∀ i m H1, W i m H1 →
      (J.stop i H1 ∧ Qd H1) ∨ (J.go i H1 ∧ ∀ x H2, J.yld i H1 x H2 → g x (wipe σ vs) H2 fun τ H3 => wipe τ vs = wipe σ vs ∧ wi1 τ H3 fun J1 H4 => ∃ W1 : Nat → Nat → Hp → Prop, (∃ k, W1 0 k H4) ∧ ∀ j k H5, W1 j k H5 →
        (J1.stop j H5 ∧ Dn m fun m' => W (i + 1) m' H5) ∨ (J1.go j H5 ∧ ∀ x1 H6, J1.yld j H5 x1 H6 → g1 x1 (wipe τ vs1) H6 fun υ H7 => wipe υ vs1 = wipe τ vs1 ∧ tc υ H7 fun b H8 =>
          if b = true then te υ H8 fun y H9 => More w' D y H9 fun G' => Dn k fun k' => W1 (j + 1) k' G' else Dn k fun k' => W1 (j + 1) k' H8)) := by
  refine ⟨fun i m H => m = n - i ∧ i ≤ n ∧ Pv i 0 H, ⟨_, rfl, Nat.zero_le _, h0⟩, ?_⟩
  rintro i m H ⟨rfl, hi, p⟩
  have q := hG i H hi p
  by_cases lt : i < n
  · refine .inr ⟨w.goes i H lt q, fun x H2 y => mg x _ _ _ _ (fun τ H3 ⟨e, h⟩ => ⟨e, mono τ H3 _ _ (fun J2 H4 ⟨eJ, p4, st⟩ => ?_) h⟩) (hs i x H H2 lt p (w.yields i H x H2 lt q y))⟩
    subst eJ
    refine ⟨fun j k H => k = n1 - j ∧ j ≤ n1 ∧ Pv i j H, ⟨_, rfl, Nat.zero_le _, p4⟩, ?_⟩
    rintro j k H5 ⟨rfl, hj, p5⟩
    have q5 := hG1 i j H5 lt hj p5
    have w1 := w1 i lt
    by_cases lt1 : j < n1
    · refine .inr ⟨w1.goes j H5 lt1 q5, fun x1 H6 y1 => mg1 x1 _ _ _ _ (fun υ H7 ⟨e, h⟩ => ⟨e, mc υ H7 _ _ (fun b H8 h => ?_) h⟩) (st j x1 H5 H6 lt1 p5 (w1.yields j H5 x1 H6 lt1 q5 y1))⟩
      have dn : ∀ {G'}, Pv i (j + 1) G' → Dn (n1 - j) fun k' => k' = n1 - (j + 1) ∧ j + 1 ≤ n1 ∧ Pv i (j + 1) G' := fun {G'} p => ⟨n1 - (j + 1), by omega, rfl, lt1, p⟩
      cases b with
      | false => exact dn h
      | true => exact me υ H8 _ _ (fun y H9 ⟨z, S, c, e1, e2, e3, e4⟩ => ⟨z, S, c, e1, e2, e3, dn e4⟩) h
    · obtain rfl : j = n1 := by omega
      exact .inl ⟨w1.stops H5 q5, n - (i + 1), by omega, rfl, lt, wrap i H5 lt p5⟩
  · obtain rfl : i = n := by omega
    exact .inl ⟨w.stops H q, hd H p⟩
end
/-- no test -/
theorem yesI {σ : L2.St} {H : Hp} {A B : Hp → Prop} (h : A H) : tYes σ H (fun b G => if b = true then A G else B G) := by
  show if true = true then A H else B H
  rw [if_pos rfl]; exact h
end Gn
set_option Elab.async false
set_option linter.all false
set_option maxRecDepth 100000
set_option maxHeartbeats 4000000
namespace Gn
open PySem PySem.Spec PyProof.Rows L2
/-! sorted(set of ints), as many as a set has here -/
section
variable {P : Program} {w : World} {A : Around} {E : Value → Shared → Prop} {s : Shared} {a : Addr}
/-- what comes of it -/
def Comes (s : Shared) (S : Int → Bool) (n : Nat) (Q : Value → Shared → Prop) : Prop :=
  ∀ (z : Shared) (at_ : Addr) (res : Array Value) (ep : Nat) (ks : List Int), (∀ b o, s.heap.get? b = some o → z.heap.get? b = some o) → z.gens = s.gens → z.os = s.os → s.heap.objs.size ≤ at_ →
    z.heap.get? at_ = some (seqObj "list" res ep) → IntsAre res.toList ks → ks.Pairwise (· < ·) → (∀ k, k ∈ ks ↔ S k = true) → ks.length = n → Q (.ref at_) z
theorem sorted_big {S : Int → Bool} {n : Nat} {Q : Value → Shared → Prop} (R : SetR w s.heap a S n) (quiet : A.handled = none) (h : Comes s S n Q) : wpAny (model P w) A (call (.builtin "sorted") [.ref a]) Q E s := by
  obtain ⟨ob, els, gen, tb, isO, isS, dat, good, uni, mem, few, fits, cnt, ris, ord⟩ := R
  apply Calls.call_function_entry kind_sorted plain_sorted entry_sorted (args_sorted1 _)
  unfold Builtin.«sorted»
  apply wpAny_bind (m := checkCount "sorted" 1 1 _)
  apply wpAny_pure
  refine wpAny_bind (collect_set (A := A.in1) quiet ⟨ob, isO, isS.1, dat⟩ fits few ris ord fun y vs old more ge oe perm => ?_)
  have many : vs.length = n := by
    rw [perm.length_eq, List.length_map, Array.length_toList]
    exact cnt
  have nums : IntsAre vs (vs.map Builtin.Re.reRawOf) := ints_of vs fun v hv => by
    obtain ⟨e, he, q⟩ := List.mem_map.mp (perm.mem_iff.mp hv)
    obtain ⟨k, tk, h1, _⟩ := good e he
    rw [← q]
    exact ⟨k, tk, h1⟩
  have same : (vs.map Builtin.Re.reRawOf).Perm (els.toList.map keyOf) := by
    have l := perm.map Builtin.Re.reRawOf
    rw [List.map_map] at l
    exact l
  have line : vs.length ≤ sizeLine := by
    rw [many, ← cnt, sizeLine_eq]
    have : scanBound = 4096 := rfl
    omega
  refine wpAny_bind (wpAny_newList ?_ line)
  have new : (y.heap.push (seqObj "list" vs.toArray 0)).get? y.heap.objs.size = some (seqObj "list" vs.toArray 0) := Heap.get?_push_size _ rfl
  refine wpAny_bind (wpAny_holding (wpAny_call_entry slot_list_sort ⟨_, new, rfl⟩ entry_list_sort (SrtO.list_sort_ord SrtO.swo_int new line (fun h2 => SrtO.ints_sortable nums h2) fun out hs hb => ⟨_, rfl, ?_⟩) (args_list_sort _)))
  obtain ⟨i1, i2, i3⟩ := SrtO.ints_out nums hs hb
  have i4 : (out.map SrtO.iv).Perm (els.toList.map keyOf) := i2.trans same
  obtain ⟨ep, hep⟩ := sortedHeap_at (vs := vs) (out := out.toArray) new
  refine wpAny_pure ⟨_, rfl, h _ y.heap.objs.size out.toArray ep (out.map SrtO.iv) (fun b o e => ?_) ge oe more hep (by simpa using i1) (lt_of_le_nodup _ i3 (i4.nodup_iff.mpr uni)) (fun k => by rw [i4.mem_iff, ← mem k]) ?_⟩
  · have e1 := old b o e
    have lt := Heap.lt_size e1
    show (sortedHeap (y.heap.push (seqObj "list" vs.toArray 0)) y.heap.objs.size vs out.toArray).get? b = some o
    rw [sortedHeap_old (Nat.ne_of_lt lt) (by rw [size_push']; exact Nat.le_succ_of_le lt)]
    exact Heap.get?_push_of_some _ e1
  · rw [i4.length_eq, List.length_map, Array.length_toList]
    exact cnt
end
/-- sorted(a set), any set of ints there is -/
def rSortedSetN (w : World) : List V → Hp → VK → Prop := fun vs H Q => ∃ (a : Addr) (S : Int → Bool) (n : Nat), vs = [V.ref a] ∧ H a = some (SetO w a S n) ∧
  ∀ (ks : List Int) (p : Addr), ks.Pairwise (· < ·) → (∀ k : Int, k ∈ ks ↔ S k = true) → ks.length = n → H p = none → Q (.ref p) (upd H p (.lst (ks.map V.int)))
theorem cr_sortedSetN {X : Cx} (hc : X.calm = true) : CallR X (.builtin "sorted") (rSortedSetN X.w) := by
  intro pins s σ H vs us Q I r h
  obtain ⟨a, S, n, rfl, ha, q⟩ := h
  rw [Vals.ref1 r]
  have R := setO_get I ha
  have small : n < scanBound := by
    obtain ⟨_, _, _, _, _, _, _, _, _, _, few, _, cnt, _⟩ := id R
    omega
  refine sorted_big R (I.ok.hd hc) fun z p res ep ks old ge oe more hp nums lt mem cnt => ?_
  have fitsL : (ks.map V.int).length ≤ sizeLine := by
    rw [List.length_map, cnt, sizeLine_eq]
    have : scanBound = 4096 := rfl
    omega
  have free : H p = none := I.hok.fresh more
  have J : Inv X pins σ (upd H p (.lst (ks.map V.int))) { s with heap := z.heap, gens := z.gens, drawn := z.drawn, toks := z.toks } :=
    I.call (ch := []) (Un.laid old more free) (I.hok.laid old more ⟨fitsL, res.toList, ep, vals_of_ints nums, hp⟩) (by rw [ge]; exact I.bare) (fun _ y => nomatch y)
  have same : z = { s with heap := z.heap, gens := z.gens, drawn := z.drawn, toks := z.toks } := by
    cases z; cases s; cases oe; rfl
  rw [same]
  exact ⟨.ref p, _, J, rfl, q ks p lt mem cnt free⟩
end Gn
set_option Elab.async false
set_option linter.all false
set_option maxRecDepth 100000
set_option maxHeartbeats 8000000
set_option exponentiation.threshold 4000
namespace My
open PySem PySem.Spec PyProof.Rows L2 Gn Mt
abbrev s_whole_points : Stmt := top 57
abbrev s__points : Stmt := top 58
/-! points, and the lot of the steps that fit -/
theorem sc_whole_points : FnScope ["numbers", "common", "number", "top"] ["numbers"] (defScope s_whole_points) := ⟨rfl, rfl, rfl, by decide +kernel, rfl, by decide +kernel, by decide +kernel⟩
theorem sc__points : FnScope ["tops", "bottom", "top"] ["tops", "bottom"] (defScope s__points) := ⟨rfl, rfl, rfl, by decide +kernel, rfl, by decide +kernel, by decide +kernel⟩
theorem tops_snoc (c : Nat) (ns : List Nat) (k : Nat) : tops c (ns ++ [k]) = tops c ns ++ (List.range k).map fun (j : Nat) => ((c / k : Nat) : Int) * (j : Int) := by
  unfold tops
  rw [List.flatMap_append]
  simp
theorem tops_len (c : Nat) : ∀ ns : List Nat, (tops c ns).length = ns.sum
  | [] => rfl
  | k :: ns => by
    show (((List.range k).map _) ++ tops c ns).length = k + ns.sum
    rw [List.length_append, List.length_map, List.length_range, tops_len c ns]
theorem sum_take {ns : List Nat} {i k : Nat} (h : ns[i]? = some k) : (ns.take i).sum + k ≤ ns.sum := by
  induction ns generalizing i with
  | nil => simp at h
  | cons a ns ih =>
    cases i with
    | zero => cases h; show 0 + k ≤ k + ns.sum; omega
    | succ i => have := ih h; show a + (ns.take i).sum + k ≤ a + ns.sum; omega
def spPoints (K : PySem.W.Frag) : Sp := fun vs H Q _ => ∃ (l : Addr) (c : Nat) (ts : List Int), vs = [.ref l, .int c] ∧ SqL K H l (ts.map V.int) ∧ ts.length ≤ 900 ∧ 0 < c ∧ c < 2 ^ 62 ∧ (∀ t ∈ ts, 0 ≤ t) ∧
  ∀ v H', Same H H' → Dp K H' v (.list ((sortU (0 :: (c : Int) :: ts)).map fun t => frD (lowQ t c))) → Q v H'
def spWhole (K : PySem.W.Frag) : Sp := fun vs H Q _ => ∃ (l : Addr) (ns : List Nat) (M : Nat), vs = [.ref l] ∧ SqL K H l (ns.map fun (k : Nat) => V.int (k : Int)) ∧ ns.sum ≤ 900 ∧ 0 < M ∧ M < 2 ^ 62 ∧ (∀ k ∈ ns, 0 < k ∧ k ∣ M) ∧
  ∀ v H', Same H H' → Dp K H' v (.list ((wpts (lcmA ns) ns).map frD)) → Q v H'
/-- the built-ins that points want -/
structure Bq (mg : Str → Option Value) : Prop where
  sorted : mg "sorted" = none
  set : mg "set" = none
  range : mg "range" = none
  lcm : mg "lcm" = some (.builtin "math.lcm")
section
variable {P : Program} {w : World} {K : PySem.W.Frag} {mg : Str → Option Value} {base : Heap}
theorem ok_points {f : Addr} {fd : FuncData} (F : Fun K "_points" "_points" s__points f fd) (B : Bc mg) (Bq : Bq mg) {fL : Addr} {fdL : FuncData} (L : Df K mg "lowest" sLowest ["top", "bottom"] fL fdL) : FnOk P w K mg base CX0 2 f fd ["tops", "bottom"] (spPoints K) := by
  have GL : FnOk P w K mg base CX0 1 fL fdL ["top", "bottom"] spLow := ok_lowest L.F B
  refine F.ok sc__points (fun vs H Q E h => ?_) (fun cdv A outer s H vs Q E hr h => ?_)
  · obtain ⟨l, c, ts, rfl, _⟩ := h
    rfl
  · obtain ⟨l, c, ts, rfl, hl, tl, c0, c1, t0, k⟩ := h
    refine ⟨_, pss_one (ps_ret (pe_lc (te := tCall spLow [] E0 (tCons (tVar 2) (tCons (tVar 1) tNil))) (own := [("top", 2)]) (g := gName 2) (tt := tYes) rfl sc__points.nd (pi_list (pe_callB (cr_sortedSetN rfl) (by rfl) Bq.sorted (by decide +kernel) (pa_cons (pe_callTy (cr_setN rfl) (by rfl) Bq.set (by decide +kernel) (pa_cons (pe_lst (pa_cons pe_int (pa_cons (pv 1) (StX.pa_star (pv 0) pa_nil)))) pa_nil)) pa_nil))) (blkOk_by (N := ["tops", "bottom", "top"]) (sc := defScope s__points) (by decide +kernel)) (fun _ _ _ _ _ => pg_name (i := 2) sc__points.nd rfl (.inl rfl)) (fun _ _ _ _ _ => pts_nil) (fun _ _ _ _ _ => (pe_call GL hr (by rfl) L.g L.F.kp L.b .nil pass0 (pa_cons (pv 2) (pa_cons (pv 1) pa_nil)))))), ?_⟩
    refine ⟨_, rfl, _, rfl, l, ts.map V.int, rfl, .inr hl, (by show (ts.map V.int ++ []).length + 1 + 1 ≤ sizeLine; rw [List.append_nil, List.length_map]; exact Nat.le_of_lt (small1000 (by omega))), fun q nq => ?_⟩
    have el : (V.int 0 :: V.int (c : Int) :: (ts.map V.int ++ [])) = (0 :: (c : Int) :: ts).map V.int := by rw [List.append_nil]; rfl
    rw [el]
    have s1 := same_put (o := HO.lst ((0 :: (c : Int) :: ts).map V.int)) nq
    have gq : upd H q (HO.lst ((0 :: (c : Int) :: ts).map V.int)) q = some (.lst ((0 :: (c : Int) :: ts).map V.int)) := upd_same
    generalize upd H q (HO.lst ((0 :: (c : Int) :: ts).map V.int)) = H1 at *
    refine ⟨q, _, rfl, SqL.of gq, (by show ts.length + 1 + 1 ≤ 1000; omega), fun p ks np kd kl km => ?_⟩
    have s2 := same_put (o := SetO w p (fun j => decide (j ∈ (0 :: (c : Int) :: ts))) ks.length) np
    have gp : upd H1 p (SetO w p (fun j => decide (j ∈ (0 :: (c : Int) :: ts))) ks.length) p = some (SetO w p (fun j => decide (j ∈ (0 :: (c : Int) :: ts))) ks.length) := upd_same
    refine ⟨p, _, _, rfl, gp, fun ys p2 yp ym yl n2 => ?_⟩
    obtain rfl : ys = sortU (0 :: (c : Int) :: ts) := strict_one yp (sortU_pw _) fun x => by rw [ym x, sortU_mem, decide_eq_true_eq]
    have s3 := same_put (o := HO.lst ((sortU (0 :: (c : Int) :: ts)).map V.int)) n2
    have g3 : upd (upd H1 p (SetO w p (fun j => decide (j ∈ (0 :: (c : Int) :: ts))) ks.length)) p2 (HO.lst ((sortU (0 :: (c : Int) :: ts)).map V.int)) p2 = some (.lst ((sortU (0 :: (c : Int) :: ts)).map V.int)) := upd_same
    refine ⟨p2, rfl, ⟨_, SqL.of g3⟩, fun D nD => ?_⟩
    obtain ⟨H3, eS⟩ : ∃ h, upd (upd H1 p (SetO w p (fun j => decide (j ∈ (0 :: (c : Int) :: ts))) ks.length)) p2 (HO.lst ((sortU (0 :: (c : Int) :: ts)).map V.int)) = h := ⟨_, rfl⟩
    have s13 : Same H H3 := fun b o e => (congrFun eS b).symm.trans (((s1.trans s2).trans s3) b o e)
    have nD3 : H3 D = none := (congrFun eS D).symm.trans nD
    rw [eS] at g3
    have s4 : Same H3 (upd (upd (upd H1 p (SetO w p (fun j => decide (j ∈ (0 :: (c : Int) :: ts))) ks.length)) p2 (HO.lst ((sortU (0 :: (c : Int) :: ts)).map V.int))) D (HO.lst [])) := fun b o e => same_put nD b o ((congrFun eS b).trans e)
    refine lc_list (K := K) (a := p2) (xs := (sortU (0 :: (c : Int) :: ts)).map V.int) (fun j H' => ∃ acc, H' D = some (.lst acc) ∧ DpAll K H' acc (((sortU (0 :: (c : Int) :: ts)).take j).map fun t => frD (lowQ t c)) ∧ Same H3 H') ⟨[], upd_same, .nil, s4⟩ (fun j H' _ ⟨_, _, _, e⟩ => SqL.of (e _ _ g3)) ?_ ?_
    · rintro j x H' hj ⟨acc, hD, ha, e⟩
      rw [List.getElem?_map] at hj
      obtain ⟨t, ht, rfl⟩ := Option.map_eq_some_iff.mp hj
      have tm : t ∈ (0 :: (c : Int) :: ts) := sortU_mem.mp (List.mem_of_getElem? ht)
      have t0' : 0 ≤ t := by
        rcases List.mem_cons.mp tm with rfl | m
        · omega
        · rcases List.mem_cons.mp m with rfl | m
          · omega
          · exact t0 t m
      refine ⟨rfl, _, rfl, _, rfl, t, (c : Int), rfl, t0', by omega, (by rw [Int.natAbs_natCast]; exact Nat.lt_trans c1 (by decide)), fun r nr => ?_⟩
      have s5 := same_put (o := HO.tup [V.int (lowQ t c).1, V.int (lowQ t c).2]) nr
      have g5 : upd H' r (HO.tup [V.int (lowQ t c).1, V.int (lowQ t c).2]) r = some (.tup [V.int (lowQ t c).1, V.int (lowQ t c).2]) := upd_same
      refine ⟨acc, s5 _ _ hD, ?_, acc ++ [.ref r], upd_same, ?_, fun b o z => ?_⟩
      · rw [dps_len ha, List.length_map, List.length_take]
        have := sortU_len (0 :: (c : Int) :: ts)
        exact small1000 (by have : (0 :: (c : Int) :: ts).length = ts.length + 2 := rfl; omega)
      · rw [List.take_add_one, ht, List.map_append]
        exact dps_snoc (dps_upd (s5 _ _ hD) (noLs_iff.mpr fun d m => by obtain ⟨t, _, rfl⟩ := List.mem_map.mp m; rfl) (dps_same s5 _ _ ha)) (dp_upd (s5 _ _ hD) rfl (fr_mk (x := (lowQ t c).1) (y := (lowQ t c).2) (SqT.of g5)))
      · rw [upd_ne (ne_of_none z nD3)]
        exact s5 _ _ (e _ _ z)
    · rintro H' ⟨acc, hD, ha, e⟩
      rw [List.length_map, List.take_length] at ha
      exact k _ H' (s13.trans e) (.lst (SqL.of hD) ha)
theorem ok_whole {f : Addr} {fd : FuncData} (F : Fun K "whole_points" "whole_points" s_whole_points f fd) (B : Bc mg) (Bq : Bq mg) {fL fP : Addr} {fdL fdP : FuncData} (L : Df K mg "lowest" sLowest ["top", "bottom"] fL fdL) (Pt : Df K mg "_points" s__points ["tops", "bottom"] fP fdP) : FnOk P w K mg base CX0 3 f fd ["numbers"] (spWhole K) := by
  have GP : FnOk P w K mg base CX0 2 fP fdP ["tops", "bottom"] (spPoints K) := ok_points Pt.F B Bq L
  refine F.ok sc_whole_points (fun vs H Q E h => ?_) (fun cdv A outer s H vs Q E hr h => ?_)
  · obtain ⟨l, ns, M, rfl, _⟩ := h
    rfl
  · obtain ⟨l, ns, M, rfl, hl, sm, M0, M1, hM, k⟩ := h
    have pre : ∀ (i : Nat), (ns.take i).foldl Nat.lcm 1 ∣ M := fun i => (lcm_fold (ns.take i) 1).2.2 M (Nat.one_dvd _) fun q m => (hM q (List.mem_of_mem_take m)).2
    have pos : ∀ (i : Nat), 0 < (ns.take i).foldl Nat.lcm 1 := fun i => Nat.pos_of_dvd_of_pos (pre i) M0
    have small : ∀ (i : Nat), (ns.take i).foldl Nat.lcm 1 < 2 ^ 62 := fun i => Nat.lt_of_le_of_lt (Nat.le_of_dvd M0 (pre i)) M1
    refine ⟨_, pss_cons (ps_set (i := 1) sc_whole_points.nd rfl (.inr rfl) pe_int) (pss_cons (ps_for PassesOwn.never rfl (pi_list (pv 0)) (pg_name (i := 2) sc_whole_points.nd rfl (.inl rfl)) (pss_one (ps_set (i := 1) sc_whole_points.nd rfl (.inr rfl) (pe_callBfun cr_lcm (by rfl) Bq.lcm (pa_cons (pv 1) (pa_cons (pv 2) pa_nil)))))) (pss_one (ps_ret (pe_call GP hr (by rfl) Pt.g Pt.F.kp Pt.b .nil pass0 (pa_cons (pe_lc2 (te := tOp (fun x y H Q => ∃ i j, x = V.int i ∧ y = V.int j ∧ (-(2 ^ 64) < i ∧ i < 2 ^ 64 ∨ -(2 ^ 64) < j ∧ j < 2 ^ 64) ∧ Q (.int (i * j)) H) (tOp (fun x y H Q => ∃ i j, x = V.int i ∧ y = V.int j ∧ CDivW i j ∧ Q (.int (i / j)) H) (tVar 1) (tVar 2)) (tVar 3)) (own := [("number", 2), ("top", 3)]) (vs1 := [3]) (g := gName 2) (tt := tYes) (g1 := gName 3) (tt1 := tYes) (wi1 := iRng1 (tCons (tVar 2) tNil)) rfl sc_whole_points.nd (pi_list (pv 0)) (blkOk_by (N := ["numbers", "common", "number", "top"]) (sc := defScope s_whole_points) (by decide +kernel)) (by decide) (fun _ _ _ _ _ => pg_name (i := 2) sc_whole_points.nd rfl (.inl rfl)) (fun _ _ _ _ _ => pts_nil) (fun _ _ _ _ _ => pi_range1 rfl Bq.range (pa_cons (pv 2) pa_nil)) (fun _ _ _ _ _ => pg_name (i := 3) sc_whole_points.nd rfl (.inl rfl)) (fun _ _ _ _ _ => pts_nil) (fun _ _ _ _ _ => (pe_op op_mul (pe_op op_fdivW (pv 1) (pv 2)) (pv 3)))) (pa_cons (pv 1) pa_nil)))))), ?_⟩
    refine ⟨_, rfl, l, rfl, ⟨_, hl⟩, for_list (K := K) (a := l) (xs := ns.map fun (k : Nat) => V.int (k : Int)) (fun i σ H' => ∃ m, σ = [some (.ref l), some (.int (((ns.take i).foldl Nat.lcm 1 : Nat) : Int)), m, none] ∧ Same H H') ⟨none, rfl, Same.refl _⟩ (fun i σ H' _ ⟨_, _, e⟩ => e.seq hl) ?_ ?_⟩
    · rintro i x σ H1 hi ⟨m, rfl, e⟩
      rw [List.getElem?_map] at hi
      obtain ⟨n, hn, rfl⟩ := Option.map_eq_some_iff.mp hi
      have mn := List.mem_of_getElem? hn
      refine ⟨_, rfl, _, rfl, _, _, rfl, Nat.lt_trans (small i) (by decide), Nat.lt_of_le_of_lt (Nat.le_of_dvd M0 (hM n mn).2) (Nat.lt_trans M1 (by decide)), ?_⟩
      have e1 : (ns.take (i + 1)).foldl Nat.lcm 1 = Nat.lcm ((ns.take i).foldl Nat.lcm 1) n := by rw [List.take_add_one, hn, List.foldl_append]; rfl
      refine ⟨some (.int (n : Int)), ?_, e⟩
      rw [e1]
      rfl
    rintro σ H1 ⟨m, rfl, e⟩
    rw [List.length_map, List.take_length]
    have c0 : 0 < lcmA ns := by have := pos ns.length; rwa [List.take_length] at this
    have c1 : lcmA ns < 2 ^ 62 := by have := small ns.length; rwa [List.take_length] at this
    refine nxI ?_
    have ec : ns.foldl Nat.lcm 1 = lcmA ns := rfl
    rw [ec]
    generalize hc : lcmA ns = c at *
    have dv : ∀ q ∈ ns, q ∣ c := fun q m => by rw [← hc]; exact (lcm_fold ns 1).2.1 q m
    have hl1 := e.seq hl
    refine ⟨_, rfl, l, rfl, ⟨_, hl1⟩, fun D nD => ?_⟩
    have s2 := same_put (o := HO.lst []) nD
    refine lc2_it (walk_list (K := K) (a := l) (xs := ns.map fun (k : Nat) => V.int (k : Int))) (fun i H' => H' D = some (.lst ((tops c (ns.take i)).map V.int)) ∧ Same H1 H') ⟨upd_same, s2⟩ (fun i H' _ ⟨_, e⟩ => e.seq hl1) ?_ ?_
    · rintro i x H2 H3 hi ⟨hD, e2⟩ ⟨rfl, hx⟩
      rw [List.getElem?_map] at hx
      obtain ⟨n, hn, rfl⟩ := Option.map_eq_some_iff.mp hx
      have mn := List.mem_of_getElem? hn
      have n0 := (hM n mn).1
      have nM : n < 2 ^ 62 := Nat.lt_of_le_of_lt (Nat.le_of_dvd M0 (hM n mn).2) M1
      have st := sum_take hn
      refine ⟨rfl, yesI ?_⟩
      refine ⟨_, rfl, (n : Int), rfl, by omega, by omega, in1 (walk_range (lo := 0) (n := (n : Int).toNat)) (fun j H' => H' D = some (.lst ((tops c (ns.take i) ++ (List.range j).map fun (j : Nat) => ((c / n : Nat) : Int) * (j : Int)).map V.int)) ∧ Same H1 H') ⟨by simpa using hD, e2⟩ (fun _ _ _ _ => trivial) ?_ ?_⟩
      · rintro j y H4 H5 hj ⟨hD4, e4⟩ ⟨rfl, rfl⟩
        have cn : ((c : Int) / (n : Int)) = ((c / n : Nat) : Int) := by simp
        have cl : c / n < 2 ^ 62 := Nat.lt_of_le_of_lt (Nat.div_le_self _ _) c1
        refine ⟨rfl, yesI ?_⟩
        refine ⟨_, rfl, _, rfl, _, _, rfl, rfl, wide_div (b := 100) (by omega) (by rw [Int.natAbs_natCast]; exact Nat.lt_trans nM (by decide)) (by decide) (by decide), _, rfl, _, _, rfl, rfl, .inl ?_, ?_⟩
        · rw [cn]
          exact ⟨Int.lt_of_lt_of_le (show -(2 ^ 64) < (0 : Int) by decide) (Int.natCast_nonneg _), Int.lt_trans (Int.ofNat_lt.mpr cl) (by decide)⟩
        rw [cn]
        refine ⟨_, hD4, ?_, ?_, fun b o z => ?_⟩
        · rw [List.length_map, List.length_append, List.length_map, List.length_range, tops_len]
          exact small1000 (by omega)
        · rw [upd_same, List.range_succ]
          simp only [List.map_append, List.map_cons, List.map_nil, List.append_assoc, Int.zero_add]
        · rw [upd_ne (ne_of_none z nD)]
          exact e4 _ _ z
      · rintro H4 ⟨hD4, e4⟩
        refine ⟨?_, e4⟩
        rw [hD4, List.take_add_one, hn]
        show _ = some (HO.lst ((tops c (ns.take i ++ [n])).map V.int))
        rw [tops_snoc]
        rfl
    · rintro H2 ⟨hD, e2⟩
      rw [List.length_map, List.take_length] at hD
      refine ⟨_, rfl, D, c, tops c ns, rfl, SqL.of hD, by rw [tops_len]; exact sm, c0, c1, fun t m => (tops_mem c0 dv m).1, fun v H3 s3 d => ?_⟩
      refine k v H3 ((e.trans e2).trans s3) ?_
      rw [← hc] at d
      rw [← hc]
      have : ((wpts (lcmA ns) ns).map frD) = (sortU (0 :: (lcmA ns : Int) :: tops (lcmA ns) ns)).map fun t => frD (lowQ t (lcmA ns)) := by unfold wpts; rw [List.map_map]; rfl
      rw [this]
      exact d
end
end My
set_option Elab.async false
set_option linter.all false
set_option maxRecDepth 100000
set_option maxHeartbeats 8000000
set_option exponentiation.threshold 4000
namespace My
open PySem PySem.Spec PyProof.Rows L2 Gn Mt
abbrev s_lot_where : Stmt := top 36
theorem sc_lot_where : FnScope ["points", "fits", "cuts", "low", "high", "cut", "step"] ["points", "fits"] (defScope s_lot_where) := ⟨rfl, rfl, rfl, by decide +kernel, rfl, by decide +kernel, by decide +kernel⟩
/-! the lot of the steps that fit, as the program seeks it -/
theorem cut_from1 (xs : List V) : cutV xs (some 1) none = xs.drop 1 := by
  unfold cutV
  cases xs with
  | nil => rfl
  | cons a r =>
    have e1 : HT.sIx (a :: r).length 0 (some 1) = 1 := by
      rw [show HT.sIx (a :: r).length 0 (some 1) = min 1 (a :: r).length from HT.sIx_nat _ 0 1, List.length_cons]; omega
    have e2 : HT.sIx (a :: r).length (a :: r).length none = (a :: r).length := HT.sIx_none ..
    rw [e1, e2]
    exact List.take_of_length_le (by rw [List.length_drop]; omega)
theorem odd_dec : ∀ n : Nat, decide (V.int ((n : Int) % 2) = V.int 1) = odd n
  | 0 => by decide
  | n + 1 => by
    have ih := odd_dec n
    show decide (V.int (((n + 1 : Nat) : Int) % 2) = V.int 1) = !odd n
    rw [← ih]
    have e : ∀ a b : Int, decide (V.int a = V.int b) = decide (a = b) := fun a b => by
      by_cases h : a = b
      · rw [decide_eq_true h, decide_eq_true (congrArg V.int h)]
      · rw [decide_eq_false h, decide_eq_false fun z => h (V.int.inj z)]
    rw [e, e]
    by_cases h : ((n : Int) % 2) = 1
    · rw [decide_eq_true h, decide_eq_false (by omega)]; rfl
    · rw [decide_eq_false h, decide_eq_true (by omega)]; rfl
theorem bl_ne (a b : Bool) : (!decide (V.bl a = V.bl b)) = (a != b) := by cases a <;> cases b <;> decide
theorem evs_len (f : Int → Int → Bool) : ∀ ps : List (Int × Int), (evs f ps).length = 2 * (ps.length - 1)
  | [] => rfl
  | [p] => rfl
  | p :: q :: r => by
    have := evs_len f (q :: r)
    show (evs f (q :: r)).length + 1 + 1 = 2 * ((q :: r).length + 1 - 1)
    have e : (q :: r).length = r.length + 1 := rfl
    omega
theorem evs_at (f : Int → Int → Bool) : ∀ {ps : List (Int × Int)} {i : Nat} {p q : Int × Int}, ps[i]? = some p → ps[i + 1]? = some q →
    (evs f ps)[2 * i]? = some (⟨p.1, p.2, false⟩, f p.1 p.2) ∧ (evs f ps)[2 * i + 1]? = some (⟨p.1, p.2, true⟩, f (med p q).1 (med p q).2)
  | [], i, p, q, h, _ => by simp at h
  | [a], i, p, q, _, h => by simp at h
  | a :: b :: r, 0, p, q, h1, h2 => by cases h1; cases h2; exact ⟨rfl, rfl⟩
  | a :: b :: r, i + 1, p, q, h1, h2 => by
    have ih := evs_at f (ps := b :: r) (i := i) h1 h2
    exact ⟨by rw [show 2 * (i + 1) = 2 * i + 1 + 1 by omega]; exact ih.1, by rw [show 2 * (i + 1) + 1 = 2 * i + 1 + 1 + 1 by omega]; exact ih.2⟩
theorem lw_in {es : List (Cut × Bool)} {c : Cut} (h : c ∈ lw es) : c ∈ es.map (·.1) ++ [last] := by
  have sub := cstep_sub es [] [] (List.Sublist.refl _)
  rw [List.nil_append] at sub
  unfold lw ends at h
  split at h
  · rcases List.mem_append.mp h with m | m
    · exact List.mem_append_left _ (sub.subset m)
    · exact List.mem_append_right _ m
  · exact List.mem_append_left _ (sub.subset h)
theorem lw_short (es : List (Cut × Bool)) : (lw es).length ≤ es.length + 1 := by
  have sub := (cstep_sub es [] [] (List.Sublist.refl _)).length_le
  rw [List.nil_append, List.length_map] at sub
  unfold lw ends
  split
  · rw [List.length_append]; show _ + 1 ≤ _; omega
  · omega
theorem cstep_t {acc : List Cut} {c : Cut} {b : Bool} (h : (b != odd acc.length) = true) : cstep acc (c, b) = acc ++ [c] := if_pos h
theorem cstep_f {acc : List Cut} {c : Cut} {b : Bool} (h : ¬ (b != odd acc.length) = true) : cstep acc (c, b) = acc := if_neg h
theorem cut_noL : ∀ {cs : List Cut}, noLs (cs.map cutD) = true := by
  intro cs
  refine noLs_iff.mpr fun d m => ?_
  obtain ⟨c, _, rfl⟩ := List.mem_map.mp m
  rfl
def spWhere (K : PySem.W.Frag) (C : Addr) (tl : V → Hp → VK → Prop) (v0 : V) (H : Hp) (Q : VK) : Prop := ∃ (ps : List (Int × Int)) (f : Int → Int → Bool), Dp K H v0 (.list (ps.map frD)) ∧ Pts ps ∧ (∀ p ∈ ps, p.1.natAbs < 2 ^ 62 ∧ p.2.natAbs < 2 ^ 62) ∧ ps.length ≤ 1000 ∧
  (∀ v x y G, Same H G → Dp K G v (frD (x, y)) → Stp x y → x.natAbs < 2 ^ 64 → y.natAbs < 2 ^ 64 → ∀ R : VK, (∀ G', Same G G' → R (.bl (f x y)) G') → tl v G R) ∧ ∀ v H', Same H H' → LotAt K C H' v (lw (evs f ps)) → Q v H'
section
variable {X : Cx} {C fI fP : Addr} {fdI fdP : FuncData}
theorem gives_where {g : Addr} {cdg : Value} {q : Str} {k : Nat} (hk : 7 ≤ k) (T : LotC X.prog X.w X.K X.mg C fI fP fdI fdP) (B : Bp X.K X.mg) (M : Pd X.K X.mg) :
    GivesQ X ["points", "fits", "cuts", "low", "high", "cut", "step"] "lot_where" (defScope s_lot_where) g cdg (defBody s_lot_where) 1 "fits" q k (spWhere X.K C) := by
  intro ff cc s H v0 Q tl act co hr want
  obtain ⟨ps, f, hp, P, lit, len, fit, fin⟩ := want
  have GM : FnOk X.prog X.w X.K X.mg X.base CX0 2 M.f_mediant.1 M.f_mediant.2 ["low", "high"] (spMed X.K) := ok_med M.d_mediant.F B.c M.d_low
  have GL : FnOk X.prog X.w X.K X.mg X.base CX0 8 M.f__lot_with.1 M.f__lot_with.2 ["cuts"] (spLotWith X.K C) := ok_lotWith M.d__lot_with.F T B M
  have hr2 : Room 2 _ := hr.mono (show 2 ≤ k + 1 by omega)
  have hr8 : Room 8 _ := hr.mono (show 8 ≤ k + 1 by omega)
  obtain ⟨al, hal, hlast⟩ := B.lc
  obtain ⟨l, xs, rfl, hq, hx⟩ := lst_inv hp
  have lx := dps_len hx
  rw [List.length_map] at lx
  obtain ⟨all1, all2, all3, all4⟩ := evs_all (f := f) P.v P.asc P.ls
  generalize hE : evs f ps = E at *
  have lE : E.length = 2 * (ps.length - 1) := by rw [← hE]; exact evs_len f ps
  have ps0 : 0 < ps.length := by
    cases h : ps with
    | nil => have := P.hd; rw [h] at this; cases this
    | cons a r => exact Nat.succ_pos _
  refine ⟨_, pss_cons (ps_set (i := 2) sc_lot_where.nd rfl (.inl rfl) (pe_lst pa_nil)) (pss_cons (ps_for PassesOwn.never rfl (pi_zip (by rfl) B.zip (pa_cons (pv 0) (pa_cons (pe_slice sl_list (pv 0) (po_some pe_int) po_none) pa_nil))) (pg_tup (by rfl) (pgs_cons (pg_name (i := 3) sc_lot_where.nd rfl (.inl rfl)) (pgs_cons (pg_name (i := 4) sc_lot_where.nd rfl (.inl rfl)) pgs_nil))) (pss_one (ps_for PassesOwn.never rfl (pi_tup (pe_tup (pa_cons (pe_tup (pa_cons (pe_tup (pa_cons (pv 3) (pa_cons pe_int pa_nil))) (pa_cons (pv 3) pa_nil))) (pa_cons (pe_tup (pa_cons (pe_tup (pa_cons (pv 3) (pa_cons pe_int pa_nil))) (pa_cons (pe_call GM hr2 (by rfl) M.d_mediant.g M.d_mediant.F.kp M.d_mediant.b .nil pass0 (pa_cons (pv 3) (pa_cons (pv 4) pa_nil))) pa_nil))) pa_nil)))) (pg_tup (by rfl) (pgs_cons (pg_name (i := 5) sc_lot_where.nd rfl (.inl rfl)) (pgs_cons (pg_name (i := 6) sc_lot_where.nd rfl (.inl rfl)) pgs_nil))) (pss_one (ps_if (pt_cmpR op_ne (act _ _ _ _ (fun _ => rfl) (pv 6)) (pe_cmpR op_eq (pe_op op_mod (pe_callB (call_len_seq) (by rfl) B.c.len (by decide +kernel) (pa_cons (pv 2) pa_nil)) pe_int) pe_int (nomark _)) (nomark _)) (pss_one (ps_expr (pe_bm PySem.F.plainAttrs_list PySem.F.slot_list_append PySem.F.type_list_append mt_append (pv 2) (pa_cons (pv 5) pa_nil)))) pss_nil))))) (pss_cons (ps_if (pt_cmpR op_eq (pe_op op_mod (pe_callB (call_len_seq) (by rfl) B.c.len (by decide +kernel) (pa_cons (pv 2) pa_nil)) pe_int) pe_int (nomark _)) (pss_one (ps_expr (pe_bm PySem.F.plainAttrs_list PySem.F.slot_list_append PySem.F.type_list_append mt_append (pv 2) (pa_cons (pe_glob (v := .ref al) rfl hal rfl) pa_nil)))) pss_nil) (pss_one (ps_ret (pe_call GL hr8 (by rfl) M.d__lot_with.g M.d__lot_with.F.kp M.d__lot_with.b .nil pass0 (pa_cons (pv 2) pa_nil)))))), ?_⟩
  refine ⟨Nat.zero_le _, fun D nD => ?_⟩
  have s0 := same_put (o := HO.lst []) nD
  have gD : upd H D (HO.lst []) D = some (.lst []) := upd_same
  generalize upd H D (HO.lst []) = H0 at *
  refine ⟨_, rfl, _, rfl, 1, rfl, l, xs, rfl, s0.seq hq, fun p1 np => ?_⟩
  rw [cut_from1]
  have s1 := same_put (o := HO.lst (xs.drop 1)) np
  have gp : upd H0 p1 (HO.lst (xs.drop 1)) p1 = some (.lst (xs.drop 1)) := upd_same
  generalize upd H0 p1 (HO.lst (xs.drop 1)) = H1 at *
  have S := s0.trans s1
  have gD1 := s1 _ _ gD
  have npD : p1 ≠ D := fun z => by rw [z, gD] at np; cases np
  have hq1 := S.seq hq
  have keepL : ∀ H' : Hp, (∀ b o, b ≠ D → H1 b = some o → H' b = some o) → SqL X.K H' l xs := fun H' kp => by
    rcases hq with (h | ⟨o, h⟩) | h
    · exact .inl (.inl (kp _ _ (ne_of_none h nD) (S _ _ h)))
    · exact .inl (.inr ⟨o, kp _ _ (ne_of_none h nD) (S _ _ h)⟩)
    · exact .inr h
  refine ⟨l, p1, xs, xs.drop 1, rfl, hq1, SqL.of gp, for_it (walk_zip (K := X.K) (a := l) (b := p1) (xs := xs) (ys := xs.drop 1) (n := ps.length - 1) (by rw [List.length_drop, lx]; omega))
    (fun i σ H' => ∃ (u1 u2 u3 u4 : Option V) (ys : List V), σ = [some (.ref l), some (.ref ff), some (.ref D), u1, u2, u3, u4] ∧ H' D = some (.lst ys) ∧ DpAll X.K H' ys (((E.take (2 * i)).foldl cstep []).map cutD) ∧ ∀ b o, b ≠ D → H1 b = some o → H' b = some o)
    ⟨none, none, none, none, [], rfl, gD1, .nil, fun b o _ e => e⟩ (fun i σ H' _ ⟨_, _, _, _, _, _, _, _, kp⟩ => ⟨keepL H' kp, SqL.of (kp _ _ npD gp)⟩) ?_ ?_⟩
  · rintro i x σ H2 H3 hi ⟨u1, u2, u3, u4, ys, rfl, hD, hys, kp⟩ ⟨r, a, b, rfl, nr, rfl, ha, hb⟩
    have sH : Same H H2 := fun b o e => kp _ _ (ne_of_none e nD) (S _ _ e)
    have ha : xs[i]? = some a := ha
    have hb : (xs.drop 1)[i]? = some b := hb
    rw [List.getElem?_drop, Nat.add_comm] at hb
    obtain ⟨d1, hd1, da⟩ := dps_get (dps_same sH _ _ hx) ha
    obtain ⟨d2, hd2, db⟩ := dps_get (dps_same sH _ _ hx) hb
    rw [List.getElem?_map] at hd1 hd2
    obtain ⟨p, hpi, rfl⟩ := Option.map_eq_some_iff.mp hd1
    obtain ⟨p', hpj, rfl⟩ := Option.map_eq_some_iff.mp hd2
    obtain ⟨ev0, ev1⟩ := evs_at f hpi hpj
    rw [hE] at ev0 ev1
    have fp := P.v p (List.mem_of_getElem? hpi)
    have fq := P.v p' (List.mem_of_getElem? hpj)
    have lp := lit p (List.mem_of_getElem? hpi)
    have lq := lit p' (List.mem_of_getElem? hpj)
    have lss : Lss p p' := by
      obtain ⟨l1, rfl⟩ := List.getElem?_eq_some_iff.mp hpi
      obtain ⟨l2, rfl⟩ := List.getElem?_eq_some_iff.mp hpj
      exact List.pairwise_iff_getElem.mp P.asc i (i + 1) l1 l2 (by omega)
    obtain ⟨mst, ml1, ml2⟩ := med_stp fp fq lss
    have pst : Stp p.1 p.2 := ⟨fp.n0, by
      have l' : p.1 * p'.2 < p'.1 * p.2 := lss
      have le := fp.le; have me := fq.le; have d0 := fp.d0
      rcases Int.lt_or_eq_of_le le with h | h
      · exact h
      · rw [h] at l'
        have : p'.1 * p.2 ≤ p'.2 * p.2 := Int.mul_le_mul_of_nonneg_right me (by omega)
        have c : p.2 * p'.2 = p'.2 * p.2 := Int.mul_comm ..
        omega, fp.co⟩
    have sr := same_put (o := HO.tup [a, b]) nr
    have gr : upd H2 r (HO.tup [a, b]) r = some (.tup [a, b]) := upd_same
    have hDr := sr _ _ hD
    generalize upd H2 r (HO.tup [a, b]) = H3 at *
    have da3 := dp_same sr _ _ da
    have db3 := dp_same sr _ _ db
    refine ⟨r, _, rfl, SqT.of gr, rfl, _, _, rfl, _, _, rfl, rfl, ?_⟩
    refine ⟨_, rfl, (by show 2 ≤ sizeLine; decide), fun r1 n1 => ⟨_, rfl, (by show 2 ≤ sizeLine; decide), fun r2 n2 => ?_⟩⟩
    have t1 := same_put (o := HO.tup [a, V.int 0]) n1
    have g1 : upd H3 r1 (HO.tup [a, V.int 0]) r1 = some (.tup [a, V.int 0]) := upd_same
    generalize upd H3 r1 (HO.tup [a, V.int 0]) = H4 at *
    have t2 := same_put (o := HO.tup [V.ref r1, a]) n2
    have g2 : upd H4 r2 (HO.tup [V.ref r1, a]) r2 = some (.tup [V.ref r1, a]) := upd_same
    generalize upd H4 r2 (HO.tup [V.ref r1, a]) = H5 at *
    refine ⟨_, rfl, (by show 2 ≤ sizeLine; decide), fun r3 n3 => ?_⟩
    have t3 := same_put (o := HO.tup [a, V.int 1]) n3
    have g3 : upd H5 r3 (HO.tup [a, V.int 1]) r3 = some (.tup [a, V.int 1]) := upd_same
    generalize upd H5 r3 (HO.tup [a, V.int 1]) = H6 at *
    have t36 := (t1.trans t2).trans t3
    have d0 := fp.d0; have e0 := fq.d0; have n0 := fp.n0; have m0 := fq.n0
    refine ⟨_, rfl, _, rfl, a, b, p, p', rfl, dp_same t36 _ _ da3, dp_same t36 _ _ db3, by omega, by omega, (by have := lp.2; have := lq.2; omega), fun m H7 t4 dm => ?_⟩
    refine ⟨(by show 2 ≤ sizeLine; decide), fun r4 n4 => ?_⟩
    have t5 := same_put (o := HO.tup [V.ref r3, V.ref m]) n4
    have g4 : upd H7 r4 (HO.tup [V.ref r3, V.ref m]) r4 = some (.tup [V.ref r3, V.ref m]) := upd_same
    generalize upd H7 r4 (HO.tup [V.ref r3, V.ref m]) = H8 at *
    refine ⟨(by show 2 ≤ sizeLine; decide), fun r5 n5 => ?_⟩
    have t6 := same_put (o := HO.tup [V.ref r2, V.ref r4]) n5
    have g5 : upd H8 r5 (HO.tup [V.ref r2, V.ref r4]) r5 = some (.tup [V.ref r2, V.ref r4]) := upd_same
    generalize upd H8 r5 (HO.tup [V.ref r2, V.ref r4]) = H9 at *
    have t39 : Same H3 H9 := ((t36.trans t4).trans t5).trans t6
    have hD9 := t39 _ _ hDr
    have item : ∀ (j : Nat) (z : V), [V.ref r2, V.ref r4][j]? = some z → ∃ (t a' : Addr) (st : V) (c : Cut) (y : Int × Int), z = .ref t ∧ SqT X.K H9 t [.ref a', st] ∧ Dp X.K H9 (.ref a') (cutD c) ∧ Dp X.K H9 st (frD y) ∧ E[2 * i + j]? = some (c, f y.1 y.2) ∧ Stp y.1 y.2 ∧ y.1.natAbs < 2 ^ 64 ∧ y.2.natAbs < 2 ^ 64 := by
      intro j z hz
      match j, hz with
      | 0, hz =>
        cases hz
        have q2 : Same H5 H9 := ((t3.trans t4).trans t5).trans t6
        have q1 : Same H4 H9 := t2.trans q2
        exact ⟨r2, r1, a, ⟨p.1, p.2, false⟩, p, rfl, SqT.of (q2 _ _ g2), cut_mk (SqT.of (q1 _ _ g1)) (dp_same t39 _ _ da3), dp_same t39 _ _ da3, ev0, pst, by have := lp.1; omega, by have := lp.2; omega⟩
      | 1, hz =>
        cases hz
        have q3 : Same H6 H9 := (t4.trans t5).trans t6
        exact ⟨r4, r3, .ref m, ⟨p.1, p.2, true⟩, med p p', rfl, SqT.of (t6 _ _ g4), cut_mk (SqT.of (q3 _ _ g3)) (dp_same t39 _ _ da3), dp_same (t5.trans t6) _ _ dm, ev1, mst, by have := lp.1; have := lq.1; omega, by have := lp.2; have := lq.2; omega⟩
      | j + 2, hz => simp at hz
    refine ⟨r5, rfl, ⟨_, SqT.of g5⟩, for_tup (K := X.K) (a := r5) (xs := [V.ref r2, V.ref r4])
      (fun j σ H' => ∃ (u3 u4 : Option V) (ys : List V), σ = [some (.ref l), some (.ref ff), some (.ref D), some a, some b, u3, u4] ∧ H' D = some (.lst ys) ∧ DpAll X.K H' ys (((E.take (2 * i + j)).foldl cstep []).map cutD) ∧ ∀ b o, b ≠ D → H9 b = some o → H' b = some o)
      ⟨u3, u4, ys, rfl, hD9, dps_same (sr.trans t39) _ _ hys, fun b o _ e => e⟩ (fun j σ H' _ ⟨_, _, _, _, _, _, kp⟩ => SqT.of (kp _ _ (fun z => by rw [z, hD9] at g5; cases g5) g5)) ?_ ?_⟩
    · rintro j z σ H10 hz ⟨w3, w4, zs, rfl, hD10, hzs, kp10⟩
      obtain ⟨t, a', st, c, y, rfl, h1, h2, h3, hev, stp, b1, b2⟩ := item j z hz
      have bl : ButL H9 H10 := fun b o n e => kp10 b o (fun z => by rw [z, hD9] at e; exact n _ (Option.some.inj e).symm) e
      have h1 := bl.sq h1
      have h2 := dp_butL bl _ _ rfl h2
      have h3 := dp_butL bl _ _ rfl h3
      have sH10 : Same H H10 := fun b o e => kp10 _ _ (ne_of_none e nD) (t39 _ _ (sr _ _ (sH _ _ e)))
      refine ⟨t, _, rfl, h1, rfl, _, _, rfl, _, _, rfl, rfl, ?_⟩
      refine ⟨rfl, _, rfl, sH10 _ _ co, fit st y.1 y.2 H10 sH10 h3 stp b1 b2 _ fun H11 s11 => ?_⟩
      have hD11 := s11 _ _ hD10
      have ac : ((E.take (2 * i + (j + 1))).foldl cstep []) = cstep ((E.take (2 * i + j)).foldl cstep []) (c, f y.1 y.2) := by
        rw [← Nat.add_assoc, List.take_add_one, hev, List.foldl_append]; rfl
      have lz := dps_len hzs
      rw [List.length_map] at lz
      refine ⟨_, rfl, D, zs, rfl, .inl (SqL.of hD11), _, _, rfl, rfl, (show (0 : Int) < 2 by decide), rfl, rfl, _, rfl, ?_⟩
      rw [odd_dec, bl_ne]
      refine ite2 (fun hc => ?_) (fun hc => ?_)
      · refine ⟨_, rfl, .inl ⟨rfl, _, SqL.of hD11⟩, _, rfl, D, zs, _, rfl, rfl, hD11, ?_, ?_⟩
        · rw [lz]
          have sub := (cstep_sub (E.take (2 * i + j)) [] [] (List.Sublist.refl _)).length_le
          rw [List.nil_append, List.length_map, List.length_take] at sub
          exact small1e4 (by omega)
        · refine ⟨_, _, zs ++ [.ref a'], rfl, upd_same, ?_, fun b o hb e => ?_⟩
          · rw [ac]
            have : cstep ((E.take (2 * i + j)).foldl cstep []) (c, f y.1 y.2) = (E.take (2 * i + j)).foldl cstep [] ++ [c] := by
              rw [lz] at hc
              exact cstep_t hc
            rw [this, List.map_append]
            exact dps_snoc (dps_upd hD11 cut_noL (dps_same s11 _ _ hzs)) (dp_upd hD11 rfl (dp_same s11 _ _ h2))
          · rw [upd_ne hb]
            exact s11 _ _ (kp10 _ _ hb e)
      · refine ⟨_, _, zs, rfl, hD11, ?_, fun b o hb e => s11 _ _ (kp10 _ _ hb e)⟩
        rw [ac]
        have : cstep ((E.take (2 * i + j)).foldl cstep []) (c, f y.1 y.2) = (E.take (2 * i + j)).foldl cstep [] := by
          rw [lz] at hc
          exact cstep_f hc
        rw [this]
        exact dps_same s11 _ _ hzs
    · rintro σ H10 ⟨w3, w4, zs, rfl, hD10, hzs, kp10⟩
      refine ⟨_, _, _, _, zs, rfl, hD10, hzs, fun b o hb e => ?_⟩
      exact kp10 _ _ hb (t39 _ _ (sr _ _ (kp _ _ hb e)))
  · rintro σ H2 ⟨u1, u2, u3, u4, ys, rfl, hD, hys, kp⟩
    have sH : Same H H2 := fun b o e => kp _ _ (ne_of_none e nD) (S _ _ e)
    have tk : E.take (2 * (ps.length - 1)) = E := List.take_of_length_le (by omega)
    rw [tk] at hys
    have ly := dps_len hys
    rw [List.length_map] at ly
    have sub := (cstep_sub E [] [] (List.Sublist.refl _)).length_le
    rw [List.nil_append, List.length_map] at sub
    have L : LtL (lw E) := ⟨lw_lt all1 all3, fun c m => by
      obtain ⟨p, mp, e1, e2⟩ := all4 c (lw_in m)
      rw [e1, e2]
      exact ⟨Nat.lt_trans (lit p mp).1 (by decide), Nat.lt_trans (lit p mp).2 (by decide)⟩⟩
    have sh := lw_short E
    refine nxI ⟨_, rfl, D, ys, rfl, .inl (SqL.of hD), _, _, rfl, rfl, (show (0 : Int) < 2 by decide), rfl, _, rfl, ?_⟩
    rw [odd_dec]
    have done : ∀ H3 ys', H3 D = some (.lst ys') → DpAll X.K H3 ys' ((lw E).map cutD) → Same H H3 → tRet (tCall (spLotWith X.K C) [] E0 (tCons (tVar 2) tNil)) { nx := fun _ G => Q .non G, rt := Q } [some (.ref l), some (.ref ff), some (.ref D), u1, u2, u3, u4] H3 := fun H3 ys' h d s3 =>
      ⟨_, rfl, .ref D, lw E, rfl, .lst (SqL.of h) d, L, by omega, fun v H4 s4 at_ => fin v H4 (s3.trans s4) at_⟩
    refine ite2 (fun hc => ?_) (fun hc => ?_)
    · refine ⟨_, rfl, .inl ⟨rfl, _, SqL.of hD⟩, D, ys, _, rfl, rfl, hD, small1e4 (by omega), ?_⟩
      refine done _ _ upd_same ?_ fun b o e => by rw [upd_ne (ne_of_none e nD)]; exact sH _ _ e
      have : lw E = E.foldl cstep [] ++ [last] := by
        unfold lw ends
        rw [ly] at hc
        rw [if_pos hc]
      rw [this, List.map_append]
      exact dps_snoc (dps_upd hD cut_noL hys) (hlast _)
    · refine done _ _ hD ?_ sH
      have : lw E = E.foldl cstep [] := by
        unfold lw ends
        rw [ly] at hc
        rw [if_neg hc]
      rw [this]
      exact hys
end
end My
set_option Elab.async false
set_option linter.all false
set_option maxRecDepth 100000
set_option maxHeartbeats 1000000
/-! both, either: the walk over the cuts of two lots -/
namespace Mt
/-- ahead of none -/
def bey : Cut := ⟨2, 1, false⟩
theorem bey_lt {c : Cut} (h : c.In) : c.lt bey = true ∧ bey.lt c = false ∧ c ≠ bey := by
  have n := h.nd
  have d := h.d
  have ne : ¬ (c.n = 2 ∧ c.d = 1) := by omega
  have ne2 : ¬ (2 = c.n ∧ 1 = c.d) := by omega
  refine ⟨?_, ?_, fun z => ?_⟩
  · unfold Cut.lt bey
    rw [if_neg ne]
    exact decide_eq_true (by show c.n * 1 < 2 * c.d; omega)
  · unfold Cut.lt bey
    rw [if_neg ne2]
    exact decide_eq_false (by show ¬ 2 * c.d < c.n * 1; omega)
  · rw [z] at ne
    exact ne ⟨rfl, rfl⟩
theorem mg_left (a : Cut) (as : List Cut) : mg (a :: as) [] = ⟨a, true, false⟩ :: mg as [] := by
  cases as with
  | nil => rw [mg, mg]; rfl
  | cons b r => rw [mg, mg]; rfl
theorem mg_right (b : Cut) (bs : List Cut) : mg [] (b :: bs) = ⟨b, false, true⟩ :: mg [] bs := by
  rw [mg, mg]
  rfl
/-- where the walk stands -/
theorem at_drop {as : List Cut} {i : Nat} {o : Cut} (hi : i ≤ as.length) (ho : (as ++ [bey])[i]? = some o) : (o = bey ∧ as.drop i = [] ∧ i = as.length) ∨ (o ∈ as ∧ i < as.length ∧ as.drop i = o :: as.drop (i + 1)) := by
  rcases Nat.lt_or_eq_of_le hi with h | h
  · right
    rw [List.getElem?_append_left h, List.getElem?_eq_getElem h] at ho
    cases ho
    exact ⟨List.getElem_mem h, h, (List.getElem_cons_drop h).symm⟩
  · left
    rw [h, List.getElem?_append_right (Nat.le_refl _), Nat.sub_self] at ho
    cases ho
    exact ⟨rfl, by rw [h, List.drop_length], h⟩
def bN (b : Bool) : Nat := if b = true then 1 else 0
/-- one step of the walk: c is the next cut, and of which it is -/
structure Stride (as bs : List Cut) (i j : Nat) (o m c : Cut) : Prop where
  ev : mg (as.drop i) (bs.drop j) = ⟨c, decide (o = c), decide (m = c)⟩ :: mg (as.drop (i + bN (decide (o = c)))) (bs.drop (j + bN (decide (m = c))))
  li : i + bN (decide (o = c)) ≤ as.length
  lj : j + bN (decide (m = c)) ≤ bs.length
  mem : c ∈ as ∨ c ∈ bs
  up : 0 < bN (decide (o = c)) + bN (decide (m = c))
theorem stride {as bs : List Cut} (va : ∀ c ∈ as, c.In) (vb : ∀ c ∈ bs, c.In) {i j : Nat} (hi : i ≤ as.length) (hj : j ≤ bs.length) {o m : Cut} (ho : (as ++ [bey])[i]? = some o) (hm : (bs ++ [bey])[j]? = some m) (ne : o ≠ bey ∨ m ≠ bey) :
    Stride as bs i j o m (if m.lt o = true then m else o) := by
  have t1 : ∀ x : Cut, bN (decide (x = x)) = 1 := fun x => by rw [decide_eq_true rfl]; rfl
  rcases at_drop hi ho with ⟨rfl, dA, iA⟩ | ⟨mA, lA, dA⟩
  · rcases at_drop hj hm with ⟨rfl, dB, jB⟩ | ⟨mB, lB, dB⟩
    · exact (ne.elim (fun h => h rfl) (fun h => h rfl)).elim
    · have z := bey_lt (vb m mB)
      rw [if_pos z.1]
      have d0 : decide (bey = m) = false := decide_eq_false fun y => z.2.2 y.symm
      have d1 : decide (m = m) = true := decide_eq_true rfl
      refine ⟨?_, ?_, ?_, .inr mB, ?_⟩
      · rw [d0, d1, dA, dB, mg_right]
        show _ = _ :: mg (as.drop i) (bs.drop (j + 1))
        rw [dA]
      · rw [d0]; exact hi
      · rw [d1]; exact lB
      · rw [d0, d1]; decide
  · rcases at_drop hj hm with ⟨rfl, dB, jB⟩ | ⟨mB, lB, dB⟩
    · have z := bey_lt (va o mA)
      rw [if_neg (by rw [z.2.1]; decide)]
      have d0 : decide (bey = o) = false := decide_eq_false fun y => z.2.2 y.symm
      have d1 : decide (o = o) = true := decide_eq_true rfl
      refine ⟨?_, ?_, ?_, .inl mA, ?_⟩
      · rw [d0, d1, dA, dB, mg_left]
        show _ = _ :: mg (as.drop (i + 1)) (bs.drop j)
        rw [dB]
      · rw [d1]; exact lA
      · rw [d0]; exact hj
      · rw [d0, d1]; decide
    · cases e : m.lt o with
      | true =>
        rw [if_pos rfl]
        have ne2 : ¬ o = m := fun y => by rw [y, Cut.irr] at e; cases e
        have d0 : decide (o = m) = false := decide_eq_false ne2
        have d1 : decide (m = m) = true := decide_eq_true rfl
        refine ⟨?_, ?_, ?_, .inr mB, ?_⟩
        · rw [d0, d1, dA, dB, mg, if_pos e]
          show _ = _ :: mg (as.drop i) (bs.drop (j + 1))
          rw [dA]
        · rw [d0]; exact hi
        · rw [d1]; exact lB
        · rw [d0, d1]; decide
      | false =>
        rw [if_neg (by decide)]
        have d1 : decide (o = o) = true := decide_eq_true rfl
        by_cases y : o = m
        · have d2 : decide (m = o) = true := decide_eq_true y.symm
          refine ⟨?_, ?_, ?_, .inl mA, ?_⟩
          · rw [d1, d2, dA, dB, mg, if_neg (by rw [e]; decide), if_pos y]
            rfl
          · rw [d1]; exact lA
          · rw [d2]; exact lB
          · rw [d1]; show 0 < 1 + _; omega
        · have d2 : decide (m = o) = false := decide_eq_false fun z => y z.symm
          refine ⟨?_, ?_, ?_, .inl mA, ?_⟩
          · rw [d1, d2, dA, dB, mg, if_neg (by rw [e]; decide), if_neg y]
            show _ = _ :: mg (as.drop (i + 1)) (bs.drop j)
            rw [dB]
          · rw [d1]; exact lA
          · rw [d2]; exact hj
          · rw [d1]; show 0 < 1 + _; omega
theorem stride_end {as bs : List Cut} (va : ∀ c ∈ as, c.In) (vb : ∀ c ∈ bs, c.In) {i j : Nat} (hi : i ≤ as.length) (hj : j ≤ bs.length) {o m : Cut} (ho : (as ++ [bey])[i]? = some o) (hm : (bs ++ [bey])[j]? = some m) (e1 : o = bey) (e2 : m = bey) : mg (as.drop i) (bs.drop j) = [] := by
  rcases at_drop hi ho with ⟨_, dA, _⟩ | ⟨mA, _⟩
  · rcases at_drop hj hm with ⟨_, dB, _⟩ | ⟨mB, _⟩
    · rw [dA, dB, mg]; rfl
    · exact ((bey_lt (vb m mB)).2.2 e2).elim
  · exact ((bey_lt (va o mA)).2.2 e1).elim
theorem odd_bN (i : Nat) (b : Bool) : odd (i + bN b) = xor (odd i) b := by
  cases b
  · show odd (i + 0) = _
    rw [Nat.add_zero]; cases odd i <;> rfl
  · show (!odd i) = _
    cases odd i <;> rfl
theorem odd_mod : ∀ n : Nat, ((n : Int) % 2) = if odd n = true then 1 else 0
  | 0 => rfl
  | n + 1 => by
    have ih := odd_mod n
    show (((n + 1 : Nat) : Int) % 2) = if (!odd n) = true then 1 else 0
    cases h : odd n
    · rw [h] at ih
      rw [if_pos (by rfl)]
      rw [if_neg (by decide)] at ih
      omega
    · rw [h] at ih
      rw [if_neg (by decide)]
      rw [if_pos rfl] at ih
      omega
theorem sum_and (i j : Nat) : decide ((i : Int) % 2 + (j : Int) % 2 ≥ 2) = (odd i && odd j) := by
  rw [odd_mod, odd_mod]
  cases odd i <;> cases odd j <;> decide
theorem sum_or (i j : Nat) : decide ((i : Int) % 2 + (j : Int) % 2 ≥ 1) = (odd i || odd j) := by
  rw [odd_mod, odd_mod]
  cases odd i <;> cases odd j <;> decide
/-- the walk's word: what is found so far and what is still to come -/
def Cov (f : Bool → Bool → Bool) (as bs : List Cut) (i j : Nat) (acc : List Cut) : Prop := acc ++ run f (odd i) (odd j) (mg (as.drop i) (bs.drop j)) = run f false false (mg as bs) ∧ odd acc.length = f (odd i) (odd j)
theorem cov0 {f : Bool → Bool → Bool} (h : f false false = false) (as bs : List Cut) : Cov f as bs 0 0 [] := ⟨rfl, h.symm⟩
theorem cov_step {f : Bool → Bool → Bool} {as bs : List Cut} {i j : Nat} {o m c : Cut} {acc : List Cut} (C : Cov f as bs i j acc) (S : Stride as bs i j o m c) :
    Cov f as bs (i + bN (decide (o = c))) (j + bN (decide (m = c))) (if (f (odd (i + bN (decide (o = c)))) (odd (j + bN (decide (m = c)))) != odd acc.length) = true then acc ++ [c] else acc) := by
  obtain ⟨e, l⟩ := C
  rw [S.ev] at e
  unfold Cov
  rw [odd_bN, odd_bN] at *
  rw [run] at e
  by_cases h : (f (xor (odd i) (decide (o = c))) (xor (odd j) (decide (m = c))) != f (odd i) (odd j)) = true
  · rw [if_pos h] at e
    rw [l, if_pos h]
    refine ⟨?_, ?_⟩
    · rw [← e]; simp
    · rw [List.length_append]
      show (!odd acc.length) = _
      rw [l]
      revert h
      cases f (odd i) (odd j) <;> cases f (xor (odd i) (decide (o = c))) (xor (odd j) (decide (m = c))) <;> simp
  · rw [if_neg h] at e
    rw [l, if_neg h]
    refine ⟨e, ?_⟩
    rw [l]
    revert h
    cases f (odd i) (odd j) <;> cases f (xor (odd i) (decide (o = c))) (xor (odd j) (decide (m = c))) <;> simp
theorem cov_end {f : Bool → Bool → Bool} {as bs : List Cut} {i j : Nat} {acc : List Cut} (C : Cov f as bs i j acc) (e : mg (as.drop i) (bs.drop j) = []) : acc = run f false false (mg as bs) := by
  have h := C.1
  rw [e, run, List.append_nil] at h
  exact h
end Mt
set_option Elab.async false
set_option linter.all false
set_option maxRecDepth 100000
set_option maxHeartbeats 8000000
set_option exponentiation.threshold 4000
namespace My
open PySem PySem.Spec PyProof.Rows L2 Gn Mt
abbrev s__cuts_of : Stmt := top 42
abbrev s__covered : Stmt := top 44
/-! both, either: the cuts of two lots walked along -/
theorem sc_cutsOf : FnScope ["pieces", "piece", "cut"] ["pieces"] (defScope s__cuts_of) := ⟨rfl, rfl, rfl, by decide +kernel, rfl, by decide +kernel, by decide +kernel⟩
theorem sc_cov : FnScope ["lot", "mate", "least", "ones", "mates", "cuts", "at", "beside", "cut"] ["lot", "mate", "least"] (defScope s__covered) := ⟨rfl, rfl, rfl, by decide +kernel, rfl, by decide +kernel, by decide +kernel⟩
theorem cut_eqv (c e : Cut) : PyData.eqv (cutD c) (cutD e) = decide (c = e) := by
  have h1 : PyData.eqv (cutD c) (cutD e) = (PyData.eqv (frD (c.n, c.d)) (frD (e.n, e.d)) && (PyData.eqv (.int (bI c.b)) (.int (bI e.b)) && true)) := by
    simp only [cutD, PyData.eqv, PyData.eqvAll]
  rw [h1, fr_eqv]
  obtain ⟨n, d, b⟩ := c
  obtain ⟨m, k, f⟩ := e
  have hb : PyData.eqv (.int (bI b)) (.int (bI f)) = decide (b = f) := by cases b <;> cases f <;> rfl
  rw [hb]
  simp only [Cut.mk.injEq]
  rw [Bool.eq_iff_iff]
  simp only [Bool.and_eq_true, decide_eq_true_eq, Bool.and_true]
  exact ⟨fun ⟨⟨a, b⟩, c⟩ => ⟨a, b, c⟩, fun ⟨a, b, c⟩ => ⟨⟨a, b⟩, c⟩⟩
theorem cut_shaped (c : Cut) : SeqAt.shaped (cutD c) = true := by rfl
theorem lit_bey : Lit (bey.n, bey.d) := ⟨by decide, by decide⟩
theorem seqK {t r : TS} {D : Ends} {σ : L2.St} {H : Hp} (Φ : L2.St → Hp → Prop) (h : ∀ D' : Ends, (∀ σ' H', Φ σ' H' → D'.nx σ' H') → t D' σ H) (k : ∀ σ' H', Φ σ' H' → r D σ' H') : tSeq t r D σ H := h _ k
def spCutsOf (K : PySem.W.Frag) : Sp := fun vs H Q _ => ∃ (u : V) (cs : List Cut), vs = [u] ∧ Dp K H u (.tuple (pcsD cs)) ∧ odd cs.length = false ∧ cs.length ≤ 4000 ∧ ∀ D xs H', Same H H' → H' D = some (.lst xs) → DpAll K H' xs (cs.map cutD) → Q (.ref D) H'
/-- how two lots are put together -/
def spCov (K : PySem.W.Frag) (C : Addr) : Sp := fun vs H Q _ => ∃ (u v : V) (as bs : List Cut) (f : Bool → Bool → Bool) (least : Int), vs = [u, v, .int least] ∧ LotAt K C H u as ∧ LotAt K C H v bs ∧ LtL as ∧ LtL bs ∧ as.length ≤ 4000 ∧ bs.length ≤ 4000 ∧ f false false = false ∧
  (∀ i j : Nat, decide ((i : Int) % 2 + (j : Int) % 2 ≥ least) = f (odd i) (odd j)) ∧ ∀ w H', Same H H' → LotAt K C H' w (run f false false (mg as bs)) → Q w H'
theorem small4 {n : Nat} (h : n ≤ 9000) : n < sizeLine := Nat.lt_of_le_of_lt h (by decide)
theorem run_ltl {f : Bool → Bool → Bool} (h0 : f false false = false) {as bs : List Cut} (ha : LtL as) (hb : LtL bs) : LtL (run f false false (mg as bs)) := ⟨lt_run h0 ha.toLt hb.toLt, fun c m => by
  obtain ⟨e, me, rfl⟩ := run_sub _ _ _ m
  exact (mg_mem as bs me).elim (ha.lit _) (hb.lit _)⟩
theorem mg_len : ∀ as bs : List Cut, (mg as bs).length ≤ as.length + bs.length
  | [], bs => by rw [mg, List.length_map]; omega
  | a :: as, [] => by rw [mg, List.length_map]; simp
  | a :: as, b :: bs => by
    rw [mg]
    split
    · have := mg_len (a :: as) bs
      simp only [List.length_cons] at this ⊢
      omega
    · split
      · have := mg_len as bs
        simp only [List.length_cons]
        omega
      · have := mg_len as (b :: bs)
        simp only [List.length_cons] at this ⊢
        omega
termination_by as bs => as.length + bs.length
theorem run_len' {f : Bool → Bool → Bool} : ∀ (es : List Ev) (p q : Bool), (Mt.run f p q es).length ≤ es.length
  | [], _, _ => Nat.le_refl _
  | ⟨c, i, j⟩ :: es, p, q => by
    rw [Mt.run]
    have := run_len' (f := f) es (xor p i) (xor q j)
    split
    · simp only [List.length_cons]; omega
    · simp only [List.length_cons]; omega
section
variable {P : Program} {w : World} {K : PySem.W.Frag} {mg' : Str → Option Value} {base : Heap} {C fI fP : Addr} {fdI fdP : FuncData}
theorem ok_cutsOf {f : Addr} {fd : FuncData} (F : Fun K "_cuts_of" "_cuts_of" s__cuts_of f fd) {fC : Addr} {fdC : FuncData} (Ct : Df K mg' "_cuts_at" s__cuts_at ["piece"] fC fdC) : FnOk P w K mg' base CX0 2 f fd ["pieces"] (spCutsOf K) := by
  have GC : FnOk P w K mg' base CX0 1 fC fdC ["piece"] (spCuts K) := ok_cuts Ct.F
  refine F.ok sc_cutsOf (fun vs H Q E h => ?_) (fun cdv A outer s H vs Q E hr h => ?_)
  · obtain ⟨u, cs, rfl, _⟩ := h
    rfl
  · obtain ⟨u, cs, rfl, hu, ev, few, k⟩ := h
    obtain ⟨a, xs, rfl, ha, hx⟩ := tup_inv hu
    have lx := dps_len hx
    have l2 := pcs_len ev
    refine ⟨_, pss_one (ps_ret (pe_lc2 (te := tVar 2) (own := [("piece", 1), ("cut", 2)]) (vs1 := [2]) (g := gName 1) (tt := tYes) (g1 := gName 2) (tt1 := tYes) (wi1 := iTup K (tCall (spCuts K) [] E0 (tCons (tVar 1) tNil))) rfl sc_cutsOf.nd (pi_tup (pv 0)) (blkOk_by (N := ["pieces", "piece", "cut"]) (sc := defScope s__cuts_of) (by decide +kernel)) (by decide) (fun _ _ _ _ _ => pg_name (i := 1) sc_cutsOf.nd rfl (.inl rfl)) (fun _ _ _ _ _ => pts_nil) (fun _ _ _ _ _ => pi_tup (pe_call GC hr (by rfl) Ct.g Ct.F.kp Ct.b .nil pass0 (pa_cons (pv 1) pa_nil))) (fun _ _ _ _ _ => pg_name (i := 2) sc_cutsOf.nd rfl (.inl rfl)) (fun _ _ _ _ _ => pts_nil) (fun _ _ _ _ _ => pv 2))), ?_⟩
    refine ⟨_, rfl, a, rfl, ⟨_, ha⟩, fun D nD => ?_⟩
    have s2 := same_put (o := HO.lst []) nD
    refine lc2_it (walk_tup (K := K) (a := a) (xs := xs)) (fun i H' => ∃ acc, H' D = some (.lst acc) ∧ DpAll K H' acc ((cs.take (2 * i)).map cutD) ∧ Same H H') ⟨[], upd_same, .nil, s2⟩ (fun i H' _ ⟨_, _, _, e⟩ => sqT_same e ha) ?_ ?_
    · rintro i x H2 H3 hi ⟨acc, hD, hacc, e2⟩ ⟨rfl, hxi⟩
      obtain ⟨d, hd, dx⟩ := dps_get (dps_same e2 _ _ hx) hxi
      obtain ⟨c, e, hc, he, rfl⟩ := pcs_get hd
      have lacc := dps_len hacc
      rw [List.length_map, List.length_take] at lacc
      refine ⟨rfl, yesI ?_⟩
      refine ⟨_, rfl, x, c, e, rfl, dx, fun r y z H4 s4 nr hr' dy dz => ⟨r, rfl, ⟨_, SqT.of hr'⟩, ?_⟩⟩
      have hD4 := s4 _ _ hD
      have dacc := dps_same s4 _ _ hacc
      have nrD : r ≠ D := fun q => by rw [q, hD] at nr; cases nr
      have tk1 : cs.take (2 * i + 1) = cs.take (2 * i) ++ [c] := by rw [List.take_add_one, hc]; rfl
      have tk2 : cs.take (2 * i + 2) = cs.take (2 * i) ++ [c] ++ [e] := by rw [List.take_add_one, he, tk1]; rfl
      refine in1 (walk_tup (K := K) (a := r) (xs := [y, z])) (fun j H' => ∃ acc, H' D = some (.lst acc) ∧ DpAll K H' acc ((cs.take (2 * i + j)).map cutD) ∧ (∀ b o, b ≠ D → H4 b = some o → H' b = some o)) ⟨acc, hD4, dacc, fun b o _ e => e⟩ (fun j H' _ ⟨_, _, _, kp⟩ => SqT.of (kp _ _ nrD hr')) ?_ ?_
      · rintro j q HX HY hj ⟨acc5, hD5, h5, kp⟩ ⟨rfl, hyj⟩
        have l5 := dps_len h5
        rw [List.length_map, List.length_take] at l5
        have bl : ButL H4 HY := fun b o n e => kp b o (fun z => by rw [z, hD4] at e; exact n _ (Option.some.inj e).symm) e
        have add : ∀ c' : Cut, Dp K HY q (cutD c') → (cs.take (2 * i + (j + 1))).map cutD = (cs.take (2 * i + j)).map cutD ++ [cutD c'] → ∃ acc, upd HY D (HO.lst (acc5 ++ [q])) D = some (HO.lst acc) ∧ DpAll K (upd HY D (HO.lst (acc5 ++ [q]))) acc ((cs.take (2 * i + (j + 1))).map cutD) ∧ (∀ b o, b ≠ D → H4 b = some o → upd HY D (HO.lst (acc5 ++ [q])) b = some o) := fun c' dq eq => by
          refine ⟨acc5 ++ [q], upd_same, ?_, fun b o n e => ?_⟩
          · rw [eq]
            exact dps_snoc (dps_upd hD5 cut_noL h5) (dp_upd hD5 rfl dq)
          · rw [upd_ne n]; exact kp _ _ n e
        refine ⟨rfl, yesI ⟨_, rfl, acc5, hD5, small4 (by omega), ?_⟩⟩
        match j, hyj, add with
        | 0, hyj, add =>
          cases hyj
          exact add c (dp_butL bl _ _ rfl dy) (by rw [Nat.zero_add, Nat.add_zero, tk1, List.map_append]; rfl)
        | 1, hyj, add =>
          cases hyj
          exact add e (dp_butL bl _ _ rfl dz) (by rw [show 2 * i + (1 + 1) = 2 * i + 2 from rfl, tk2, tk1, List.map_append]; rfl)
        | j + 2, hyj, _ => simp at hyj
      · rintro H5 ⟨acc5, hD5, h5, kp⟩
        exact ⟨acc5, hD5, h5, fun b o e => kp b o (ne_of_none e nD) (s4 _ _ (e2 _ _ e))⟩
    · rintro H2 ⟨acc, hD, hacc, e2⟩
      refine k D acc H2 e2 hD ?_
      have e : cs.take (2 * xs.length) = cs := List.take_of_length_le (by omega)
      rw [e] at hacc
      exact hacc
end
end My
set_option Elab.async false
set_option linter.all false
set_option maxRecDepth 100000
set_option maxHeartbeats 4000000
/-! what both ways of an if come to -/
namespace Gn
open PySem PySem.Spec PyProof.Rows L2
theorem ifJ {tt : TT} {ta tb : TE} {σ : L2.St} {H : Hp} {Q : VK} (b : Bool) (Φ : V → Hp → Prop) (h : ∀ S : Bool → Hp → Prop, S b H → tt σ H S) (h1 : b = true → ∀ S : VK, (∀ v H', Φ v H' → S v H') → ta σ H S) (h2 : b = false → ∀ S : VK, (∀ v H', Φ v H' → S v H') → tb σ H S) (k : ∀ v H', Φ v H' → Q v H') : tIf tt ta tb σ H Q := h _ (by
  cases b with
  | true => exact h1 rfl Q k
  | false => exact h2 rfl Q k)
theorem seqJ {c : TT} {t r : TS} {D : Ends} {σ : L2.St} {H : Hp} (b : Bool) (Φ : Hp → Prop) (h : ∀ S : Bool → Hp → Prop, S b H → c σ H S) (ht : b = true → ∀ D' : Ends, (∀ H', Φ H' → D'.nx σ H') → t D' σ H) (hf : b = false → Φ H) (k : ∀ H', Φ H' → r D σ H') : tSeq (tIfS c t tNext) r D σ H := h _ (by
  cases b with
  | true => exact ht rfl _ k
  | false => exact k _ (hf rfl))
end Gn
set_option Elab.async false
set_option linter.all false
set_option maxRecDepth 100000
set_option maxHeartbeats 8000000
set_option exponentiation.threshold 4000
namespace My
open PySem PySem.Spec PyProof.Rows L2 Gn Mt
/-- what the walk wants -/
structure Cvd (K : PySem.W.Frag) (mg : Str → Option Value) where
  f_co : Addr × FuncData
  co : Df K mg "_cuts_of" s__cuts_of ["pieces"] f_co.1 f_co.2
  f_cv : Addr × FuncData
  cv : Df K mg "_covered" s__covered ["lot", "mate", "least"] f_cv.1 f_cv.2
  by_ : ∃ a, mg "_BEYOND" = some (.ref a) ∧ ∀ H, Dp K H (.ref a) (cutD bey)
section
variable {P : Program} {w : World} {K : PySem.W.Frag} {mg' : Str → Option Value} {base : Heap} {C fI fP : Addr} {fdI fdP : FuncData}
theorem dps_app {H : Hp} : ∀ {xs ys : List V} {ds es : List PyData}, DpAll K H xs ds → DpAll K H ys es → DpAll K H (xs ++ ys) (ds ++ es)
  | _, _, _, _, .nil, h => h
  | _, _, _, _, .cons a t, h => .cons a (dps_app t h)
theorem neC {H : Hp} {x y : V} {c e : Cut} {Q : VK} (hx : Dp K H x (cutD c)) (hy : Dp K H y (cutD e)) (q : Q (.bl (!decide (c = e))) H) : rNeD K x y H Q := by
  refine ⟨_, _, hx, hy, cut_shaped c, cut_shaped e, ?_⟩
  rw [cut_eqv]
  exact q
theorem eqC {H : Hp} {x y : V} {c e : Cut} {Q : VK} (hx : Dp K H x (cutD c)) (hy : Dp K H y (cutD e)) (q : Q (.bl (decide (c = e))) H) : rEqD K x y H Q := by
  refine ⟨_, _, hx, hy, cut_shaped c, cut_shaped e, ?_⟩
  rw [cut_eqv]
  exact q
theorem bN_add (i : Nat) (b : Bool) : (if b = true then V.int ((i : Int) + 1) else V.int (i : Nat)) = V.int ((i + bN b : Nat) : Int) := by
  cases b
  · rfl
  · rfl
theorem orP {t q : TT} {σ : L2.St} {H : Hp} {R : Bool → Hp → Prop} (a b : Bool) (h1 : ∀ S : Bool → Hp → Prop, S a H → t σ H S) (h2 : ∀ S : Bool → Hp → Prop, S b H → q σ H S) (k : R (a || b) H) : tOr t q σ H R := h1 _ (by
  cases a with
  | true => exact k
  | false => exact h2 _ k)
theorem asgJ {tt : TT} {ta tb : TE} {g : V → L2.St → Hp → (L2.St → Hp → Prop) → Prop} {r : TS} {D : Ends} {σ : L2.St} {H : Hp} (b : Bool) (Φ : V → Hp → Prop) (h : ∀ S : Bool → Hp → Prop, S b H → tt σ H S) (h1 : b = true → ∀ S : VK, (∀ v H', Φ v H' → S v H') → ta σ H S) (h2 : b = false → ∀ S : VK, (∀ v H', Φ v H' → S v H') → tb σ H S) (k : ∀ v H', Φ v H' → g v σ H' (r D)) : tSeq (tAsg (tIf tt ta tb) g) r D σ H :=
  show tIf tt ta tb σ H _ from ifJ b Φ h h1 h2 k
theorem ok_covered (T : LotC P w K mg' C fI fP fdI fdP) (B : Bp K mg') (M : Pd K mg') (Y : Cvd K mg') : FnOk P w K mg' base CX0 9 Y.f_cv.1 Y.f_cv.2 ["lot", "mate", "least"] (spCov K C) := by
  have GP : FnOk P w K mg' base CX0 1 fP fdP ["self"] (spPieces K C) := ok_lpieces T
  have GC : FnOk P w K mg' base CX0 2 Y.f_co.1 Y.f_co.2 ["pieces"] (spCutsOf K) := ok_cutsOf Y.co.F M.d__cuts_at
  have GA : FnOk P w K mg' base CX0 2 M.f__is_ahead.1 M.f__is_ahead.2 ["cut", "other"] (spAhead K) := ok_ahead M.d__is_ahead.F M.d_is_less
  have GL : FnOk P w K mg' base CX0 8 M.f__lot_with.1 M.f__lot_with.2 ["cuts"] (spLotWith K C) := ok_lotWith M.d__lot_with.F T B M
  obtain ⟨ab, hab, hbey⟩ := Y.by_
  obtain ⟨pP, hpP⟩ := T.pp
  refine Y.cv.F.ok sc_cov (fun vs H Q E h => ?_) (fun cdv A outer s H vs Q E hr h => ?_)
  · obtain ⟨u, v, as, bs, f, least, rfl, _⟩ := h
    rfl
  · obtain ⟨u, v, as, bs, f, least, rfl, lotA, lotB, LA, LB, fa, fb, f0, fodd, k⟩ := h
    have hu := hr.units
    have hr2 : Room 2 _ := hr.mono (by decide)
    obtain ⟨x1, dx1, a1, rfl, hx1, hp1⟩ := id lotA
    obtain ⟨x2, dx2, a2, rfl, hx2, hp2⟩ := id lotB
    refine ⟨_, pss_cons (ps_par (i := 3) (j := 4) (by rfl) sc_cov.nd rfl rfl (by decide) rfl rfl (pa_cons (pe_lst (StX.pa_star (pe_call GC hr2 (by rfl) Y.co.g Y.co.F.kp Y.co.b .nil pass0 (pa_cons (pe_prop (pv 0) T.cl hpP GP hr2 T.bP .nil pass0 rfl) pa_nil)) (pa_cons (pe_glob (v := .ref ab) rfl hab rfl) pa_nil))) (pa_cons (pe_lst (StX.pa_star (pe_call GC hr2 (by rfl) Y.co.g Y.co.F.kp Y.co.b .nil pass0 (pa_cons (pe_prop (pv 1) T.cl hpP GP hr2 T.bP .nil pass0 rfl) pa_nil)) (pa_cons (pe_glob (v := .ref ab) rfl hab rfl) pa_nil))) pa_nil)) (by rfl)) (pss_cons (ps_set (i := 5) sc_cov.nd rfl (.inl rfl) (pe_lst pa_nil)) (pss_cons (ps_asg (pe_tup (pa_cons pe_int (pa_cons pe_int pa_nil))) (pg_tup (by rfl) (pgs_cons (pg_name (i := 6) sc_cov.nd rfl (.inl rfl)) (pgs_cons (pg_name (i := 7) sc_cov.nd rfl (.inl rfl)) pgs_nil)))) (pss_cons (ps_while PassesOwn.never (PW.pt (pw_or (pt_cmpR (op_neD hu) (pe_ix ix_list (pv 3) (pv 6) (fun _ _ => rfl)) (pe_glob (v := .ref ab) rfl hab rfl) (nomark _)) (pw_or1 (pt_cmpR (op_neD hu) (pe_ix ix_list (pv 4) (pv 7) (fun _ _ => rfl)) (pe_glob (v := .ref ab) rfl hab rfl) (nomark _))))) (pss_cons (ps_set (i := 8) sc_cov.nd rfl (.inl rfl) (pe_ifExp (pt_val (pe_call GA hr2 (by rfl) M.d__is_ahead.g M.d__is_ahead.F.kp M.d__is_ahead.b .nil pass0 (pa_cons (pe_ix ix_list (pv 4) (pv 7) (fun _ _ => rfl)) (pa_cons (pe_ix ix_list (pv 3) (pv 6) (fun _ _ => rfl)) pa_nil)))) (pe_ix ix_list (pv 4) (pv 7) (fun _ _ => rfl)) (pe_ix ix_list (pv 3) (pv 6) (fun _ _ => rfl)))) (pss_cons (ps_if (pt_cmpR (op_eqD hu) (pe_ix ix_list (pv 3) (pv 6) (fun _ _ => rfl)) (pv 8) (nomark _)) (pss_one (ps_aug (i := 6) sc_cov.nd rfl (.inl rfl) pe_int ip_add)) pss_nil) (pss_cons (ps_if (pt_cmpR (op_eqD hu) (pe_ix ix_list (pv 4) (pv 7) (fun _ _ => rfl)) (pv 8) (nomark _)) (pss_one (ps_aug (i := 7) sc_cov.nd rfl (.inl rfl) pe_int ip_add)) pss_nil) (pss_one (ps_if (pt_cmpR op_ne (pe_cmpR op_ge (pe_op op_add (pe_op op_mod (pv 6) pe_int) (pe_op op_mod (pv 7) pe_int)) (pv 2) (nomark _)) (pe_cmpR op_eq (pe_op op_mod (pe_callB (call_len_seq) (by rfl) B.c.len (by decide +kernel) (pa_cons (pv 5) pa_nil)) pe_int) pe_int (nomark _)) (nomark _)) (pss_one (ps_expr (pe_bm PySem.F.plainAttrs_list PySem.F.slot_list_append PySem.F.type_list_append mt_append (pv 5) (pa_cons (pv 8) pa_nil)))) pss_nil)))))) (pss_one (ps_ret (pe_call GL hr (by rfl) M.d__lot_with.g M.d__lot_with.F.kp M.d__lot_with.b .nil pass0 (pa_cons (pv 5) pa_nil))))))), ?_⟩
    -- both rows of cuts
    refine ⟨_, rfl, x1, dx1, _, rfl, hx1, .ref x1, as, rfl, lotA, fun p1 h1 => ?_⟩
    refine ⟨.ref p1, as, rfl, h1, LA.e, fa, fun D1 xs1 H1 s1 g1 c1 => ?_⟩
    have lxa := dps_len c1
    rw [List.length_map] at lxa
    refine ⟨D1, xs1, rfl, .inr (SqL.of g1), (by show (xs1 ++ _).length ≤ sizeLine; exact Nat.le_of_lt (small4 (by rw [List.length_append]; show xs1.length + 1 ≤ 9000; omega))), fun O1 nO1 => ?_⟩
    have s2 := same_put (o := HO.lst (xs1 ++ [V.ref ab])) nO1
    have gO1 : upd H1 O1 (HO.lst (xs1 ++ [V.ref ab])) O1 = some (.lst (xs1 ++ [V.ref ab])) := upd_same
    have dO1 : DpAll K (upd H1 O1 (HO.lst (xs1 ++ [V.ref ab]))) (xs1 ++ [V.ref ab]) ((as ++ [bey]).map cutD) := by
      rw [List.map_append]
      exact dps_app (dps_same s2 _ _ c1) (.cons (hbey _) .nil)
    generalize upd H1 O1 (HO.lst (xs1 ++ [V.ref ab])) = H2 at *
    have S2 := s1.trans s2
    refine ⟨_, rfl, x2, dx2, _, rfl, S2 _ _ hx2, .ref x2, bs, rfl, lotB.same S2, fun p2 h2 => ?_⟩
    refine ⟨.ref p2, bs, rfl, h2, LB.e, fb, fun D2 xs2 H3 s3 g3 c3 => ?_⟩
    have lxb := dps_len c3
    rw [List.length_map] at lxb
    refine ⟨D2, xs2, rfl, .inr (SqL.of g3), (by show (xs2 ++ _).length ≤ sizeLine; exact Nat.le_of_lt (small4 (by rw [List.length_append]; show xs2.length + 1 ≤ 9000; omega))), fun O2 nO2 => ?_⟩
    have s4 := same_put (o := HO.lst (xs2 ++ [V.ref ab])) nO2
    have gO2 : upd H3 O2 (HO.lst (xs2 ++ [V.ref ab])) O2 = some (.lst (xs2 ++ [V.ref ab])) := upd_same
    have dO2 : DpAll K (upd H3 O2 (HO.lst (xs2 ++ [V.ref ab]))) (xs2 ++ [V.ref ab]) ((bs ++ [bey]).map cutD) := by
      rw [List.map_append]
      exact dps_app (dps_same s4 _ _ c3) (.cons (hbey _) .nil)
    generalize upd H3 O2 (HO.lst (xs2 ++ [V.ref ab])) = H4 at *
    have S24 := s3.trans s4
    have gO1 := S24 _ _ gO1
    have dO1 := dps_same S24 _ _ dO1
    have S4 := S2.trans S24
    clear s1 s2 s3 s4 S2 S24 c1 c3 g1 g3 h1 h2 nO1
    refine ⟨_, _, rfl, ?_⟩
    refine nxI ⟨(by show 0 ≤ sizeLine; decide), fun D nD => ?_⟩
    have s5 := same_put (o := HO.lst []) nD
    have gD : upd H4 D (HO.lst []) D = some (.lst []) := upd_same
    have nO1D : O1 ≠ D := ne_of_none gO1 nD
    have nO2D : O2 ≠ D := ne_of_none gO2 nD
    have gO1 := s5 _ _ gO1
    have gO2 := s5 _ _ gO2
    have dO1 := dps_same s5 _ _ dO1
    have dO2 := dps_same s5 _ _ dO2
    have S5 := S4.trans s5
    have nDH : H D = none := S4.free nD
    generalize upd H4 D (HO.lst []) = H5 at *
    refine nxI ⟨(by show 2 ≤ sizeLine; decide), fun q0 n0 => ?_⟩
    have s6 := same_put (o := HO.tup [V.int 0, V.int 0]) n0
    have g0 : upd H5 q0 (HO.tup [V.int 0, V.int 0]) q0 = some (.tup [V.int 0, V.int 0]) := upd_same
    have gO1 := s6 _ _ gO1
    have gO2 := s6 _ _ gO2
    have gD := s6 _ _ gD
    have dO1 := dps_same s6 _ _ dO1
    have dO2 := dps_same s6 _ _ dO2
    have S6 := S5.trans s6
    generalize upd H5 q0 (HO.tup [V.int 0, V.int 0]) = H6 at *
    refine ⟨q0, _, rfl, SqT.of g0, rfl, _, _, rfl, _, _, rfl, rfl, ?_⟩
    refine nxI ?_
    clear s5 s6 S4 S5 nO2 nD n0 g0 lotA lotB
    have LN1 : (xs1 ++ [V.ref ab]).length = as.length + 1 := by rw [List.length_append, lxa]; rfl
    have LN2 : (xs2 ++ [V.ref ab]).length = bs.length + 1 := by rw [List.length_append, lxb]; rfl
    generalize xs1 ++ [V.ref ab] = X1 at *
    generalize xs2 ++ [V.ref ab] = X2 at *
    refine while_by (fun σ H' => ∃ (i j : Nat) (c8 : Option V) (acc : List Cut) (xs : List V), σ = [some (.ref x1), some (.ref x2), some (.int least), some (.ref O1), some (.ref O2), some (.ref D), some (.int (i : Nat)), some (.int (j : Nat)), c8] ∧ H' D = some (.lst xs) ∧ DpAll K H' xs (acc.map cutD) ∧ Cov f as bs i j acc ∧ i ≤ as.length ∧ j ≤ bs.length ∧ acc.length ≤ i + j ∧ ∀ b o, b ≠ D → H6 b = some o → H' b = some o)
      (fun (σ : L2.St) (_ : Hp) => match (σ[6]? : Option (Option V)), (σ[7]? : Option (Option V)) with | some (some (V.int i)), some (some (V.int j)) => (((as.length + bs.length + 1 : Nat) : Int) - i - j).toNat | _, _ => 0) ⟨0, 0, none, [], [], rfl, gD, .nil, cov0 f0 as bs, Nat.zero_le _, Nat.zero_le _, Nat.le_refl _, fun b o _ e => e⟩ ?_ ?_
    · rintro σ H7 ⟨i, j, c8, acc, xs, rfl, hD, hacc, C7, li, lj, la, kp⟩
      have bl : ButL H6 H7 := fun b o n e => kp b o (fun z => by rw [z, gD] at e; exact n _ (Option.some.inj e).symm) e
      have gO1 := kp _ _ nO1D gO1
      have gO2 := kp _ _ nO2D gO2
      have dO1 := dps_butL bl _ _ cut_noL dO1
      have dO2 := dps_butL bl _ _ cut_noL dO2
      obtain ⟨o, ho⟩ : ∃ o, (as ++ [bey])[i]? = some o := ⟨_, List.getElem?_eq_getElem (show i < (as ++ [bey]).length by rw [List.length_append]; show i < as.length + 1; omega)⟩
      obtain ⟨m, hm⟩ : ∃ m, (bs ++ [bey])[j]? = some m := ⟨_, List.getElem?_eq_getElem (show j < (bs ++ [bey]).length by rw [List.length_append]; show j < bs.length + 1; omega)⟩
      obtain ⟨vo, hvo, dvo⟩ := dps_at dO1 (i := i) (d := cutD o) (by rw [List.getElem?_map, ho]; rfl)
      obtain ⟨vm, hvm, dvm⟩ := dps_at dO2 (i := j) (d := cutD m) (by rw [List.getElem?_map, hm]; rfl)
      refine orP (!decide (o = bey)) (!decide (m = bey)) (fun S q => ⟨_, rfl, _, rfl, O1, _, (i : Int), vo, rfl, rfl, SqL.of gO1, at_of (j := i) rfl hvo, _, _, dvo, hbey _, cut_shaped o, cut_shaped bey, _, rfl, by rw [cut_eqv]; exact q⟩) (fun S q => ⟨_, rfl, _, rfl, O2, _, (j : Int), vm, rfl, rfl, SqL.of gO2, at_of (j := j) rfl hvm, _, _, dvm, hbey _, cut_shaped m, cut_shaped bey, _, rfl, by rw [cut_eqv]; exact q⟩) ?_
      by_cases ne : o ≠ bey ∨ m ≠ bey
      · have e1 : (!decide (o = bey) || !decide (m = bey)) = true := by
          rcases ne with h | h
          · rw [decide_eq_false h]; rfl
          · rw [decide_eq_false h, Bool.or_comm]; rfl
        rw [e1]
        refine iteT ?_
        have St := stride LA.v LB.v li lj ho hm ne
        obtain ⟨c, ec⟩ : ∃ c, (if m.lt o = true then m else o) = c := ⟨_, rfl⟩
        rw [ec] at St
        have lito : Lit (o.n, o.d) := by
          rcases at_drop li ho with ⟨h, _⟩ | ⟨h, _⟩
          · rw [h]; exact lit_bey
          · exact LA.lit o h
        have litm : Lit (m.n, m.d) := by
          rcases at_drop lj hm with ⟨h, _⟩ | ⟨h, _⟩
          · rw [h]; exact lit_bey
          · exact LB.lit m h
        refine asgJ (m.lt o) (fun v H' => H' = H7 ∧ Dp K H7 v (cutD c)) (fun S q => ⟨_, rfl, _, rfl, O2, _, (j : Int), vm, rfl, rfl, SqL.of gO2, at_of (j := j) rfl hvm, _, rfl, _, rfl, O1, _, (i : Int), vo, rfl, rfl, SqL.of gO1, at_of (j := i) rfl hvo, vm, vo, m, o, rfl, dvm, dvo, litm, lito, _, rfl, q⟩)
          (fun e S q => ⟨_, rfl, _, rfl, O2, _, (j : Int), vm, rfl, rfl, SqL.of gO2, at_of (j := j) rfl hvm, q _ _ ⟨rfl, by rw [← ec, if_pos e]; exact dvm⟩⟩)
          (fun e S q => ⟨_, rfl, _, rfl, O1, _, (i : Int), vo, rfl, rfl, SqL.of gO1, at_of (j := i) rfl hvo, q _ _ ⟨rfl, by rw [← ec, if_neg (by rw [e]; decide)]; exact dvo⟩⟩) (fun vc H' ⟨eH, dvc⟩ => ?_)
        subst eH
        -- one on in the first row
        refine seqK (fun σ' H'' => σ' = [some (.ref x1), some (.ref x2), some (.int least), some (.ref O1), some (.ref O2), some (.ref D), some (.int ((i + bN (decide (o = c)) : Nat) : Int)), some (.int (j : Nat)), some vc] ∧ H'' = H') (fun D' kD => ?_) ?_
        · refine ⟨_, rfl, _, rfl, O1, _, (i : Int), vo, rfl, rfl, SqL.of gO1, at_of (j := i) rfl hvo, _, rfl, _, _, dvo, dvc, cut_shaped o, cut_shaped c, _, rfl, ?_⟩
          rw [cut_eqv]
          cases eb : decide (o = c)
          · exact iteF (kD _ _ ⟨by rw [eb]; rfl, rfl⟩)
          · exact iteT ⟨_, rfl, _, _, rfl, rfl, kD _ _ ⟨by rw [eb]; rfl, rfl⟩⟩
        rintro σ' H'' ⟨rfl, eH⟩
        have eH := eH.symm
        subst eH
        -- one on in the other row
        refine seqK (fun σ' H'' => σ' = [some (.ref x1), some (.ref x2), some (.int least), some (.ref O1), some (.ref O2), some (.ref D), some (.int ((i + bN (decide (o = c)) : Nat) : Int)), some (.int ((j + bN (decide (m = c)) : Nat) : Int)), some vc] ∧ H'' = H') (fun D' kD => ?_) ?_
        · refine ⟨_, rfl, _, rfl, O2, _, (j : Int), vm, rfl, rfl, SqL.of gO2, at_of (j := j) rfl hvm, _, rfl, _, _, dvm, dvc, cut_shaped m, cut_shaped c, _, rfl, ?_⟩
          rw [cut_eqv]
          cases eb : decide (m = c)
          · exact iteF (kD _ _ ⟨by rw [eb]; rfl, rfl⟩)
          · exact iteT ⟨_, rfl, _, _, rfl, rfl, kD _ _ ⟨by rw [eb]; rfl, rfl⟩⟩
        rintro σ' H'' ⟨rfl, eH⟩
        have eH := eH.symm
        subst eH
        have C8 := cov_step C7 St
        have li := St.li
        have lj := St.lj
        have up := St.up
        generalize bN (decide (o = c)) = bi at *
        generalize bN (decide (m = c)) = bj at *
        have lx := dps_len hacc
        rw [List.length_map] at lx
        have bl7 : ∀ b o, b ≠ D → H6 b = some o → H' b = some o := kp
        refine ⟨_, rfl, _, _, rfl, rfl, (show (0 : Int) < 2 by decide), _, rfl, _, _, rfl, rfl, (show (0 : Int) < 2 by decide), _, _, rfl, rfl, _, rfl, _, _, rfl, rfl, ?_⟩
        refine ⟨_, rfl, D, xs, rfl, .inl (SqL.of hD), _, _, rfl, rfl, (show (0 : Int) < 2 by decide), rfl, rfl, _, rfl, ?_⟩
        rw [odd_dec, bl_ne, lx]
        have eg : decide (least ≤ (((i + bi : Nat) : Int) % 2 + ((j + bj : Nat) : Int) % 2)) = f (odd (i + bi)) (odd (j + bj)) := fodd (i + bi) (j + bj)
        rw [eg]
        cases hc : (f (odd (i + bi)) (odd (j + bj)) != odd acc.length) with
        | true =>
          rw [if_pos hc] at C8
          refine iteT ⟨_, rfl, .inl ⟨rfl, _, SqL.of hD⟩, _, rfl, D, xs, _, rfl, rfl, hD, small4 (by omega), ?_⟩
          refine ⟨⟨i + bi, j + bj, _, acc ++ [c], xs ++ [vc], rfl, upd_same, ?_, C8, li, lj, by rw [List.length_append]; show acc.length + 1 ≤ _; omega, fun b o n e => by rw [upd_ne n]; exact kp _ _ n e⟩, ?_⟩
          · rw [List.map_append]
            exact dps_snoc (dps_upd hD cut_noL hacc) (dp_upd hD rfl dvc)
          · show (((as.length + bs.length + 1 : Nat) : Int) - ((i + bi : Nat) : Int) - ((j + bj : Nat) : Int)).toNat < (((as.length + bs.length + 1 : Nat) : Int) - (i : Int) - (j : Int)).toNat
            omega
        | false =>
          rw [if_neg (by rw [hc]; decide)] at C8
          refine iteF ⟨⟨i + bi, j + bj, _, acc, xs, rfl, hD, hacc, C8, li, lj, by omega, kp⟩, ?_⟩
          show (((as.length + bs.length + 1 : Nat) : Int) - ((i + bi : Nat) : Int) - ((j + bj : Nat) : Int)).toNat < (((as.length + bs.length + 1 : Nat) : Int) - (i : Int) - (j : Int)).toNat
          omega
      · have e1 : o = bey := Classical.byContradiction fun h => ne (.inl h)
        have e2 : m = bey := Classical.byContradiction fun h => ne (.inr h)
        have fin := cov_end C7 (stride_end LA.v LB.v li lj ho hm e1 e2)
        rw [decide_eq_true e1, decide_eq_true e2]
        refine iteF (nxI ?_)
        have LR := run_ltl f0 LA LB
        rw [← fin] at LR k
        exact ⟨_, rfl, .ref D, acc, rfl, .lst (SqL.of hD) hacc, LR, by omega, fun v H8 s8 lot => k v H8 (fun b o e => s8 _ _ (kp b o (ne_of_none e nDH) (S6 _ _ e))) lot⟩
    · rintro σ H Q Q' hQ ⟨x, hx, i, hi, p, ys, n, y, e1, e2, e3, e4, d1, d2, p1, p2, q1, q2, b, eb, h⟩
      refine ⟨x, hx, i, hi, p, ys, n, y, e1, e2, e3, e4, d1, d2, p1, p2, q1, q2, b, eb, ?_⟩
      cases b with
      | true => exact hQ _ _ h
      | false =>
        obtain ⟨x, hx, i, hi, p, ys, n, y, e1, e2, e3, e4, d1, d2, p1, p2, q1, q2, b, eb, h⟩ := h
        exact ⟨x, hx, i, hi, p, ys, n, y, e1, e2, e3, e4, d1, d2, p1, p2, q1, q2, b, eb, hQ _ _ h⟩
end
end My
set_option Elab.async false
set_option linter.all false
set_option maxRecDepth 100000
set_option maxHeartbeats 8000000
set_option exponentiation.threshold 4000
namespace My
open PySem PySem.Spec PyProof.Rows L2 Gn Mt
abbrev s_fraction_text : Stmt := top 37
theorem sc_fraction_text : FnScope ["fraction", "top", "bottom"] ["fraction"] (defScope s_fraction_text) := ⟨rfl, rfl, rfl, by decide +kernel, rfl, by decide +kernel, by decide +kernel⟩
abbrev s__text_of : Stmt := top 45
theorem sc__text_of : FnScope ["pieces"] ["pieces"] (defScope s__text_of) := ⟨rfl, rfl, rfl, by decide +kernel, rfl, by decide +kernel, by decide +kernel⟩
abbrev s__word_of : Stmt := top 46
theorem sc__word_of : FnScope ["piece", "low", "high", "first", "last", "opening", "closing"] ["piece"] (defScope s__word_of) := ⟨rfl, rfl, rfl, by decide +kernel, rfl, by decide +kernel, by decide +kernel⟩
abbrev s__digits_of : Stmt := top 47
theorem sc__digits_of : FnScope ["number", "groups", "group"] ["number"] (defScope s__digits_of) := ⟨rfl, rfl, rfl, by decide +kernel, rfl, by decide +kernel, by decide +kernel⟩
theorem same_updQ {H H1 : Hp} {D : Addr} {o : HO} (s : Same H H1) (n : H D = none) : Same H (upd H1 D o) := fun b z e => by
  rw [upd_ne (ne_of_none e n)]
  exact s b z e
/-! texts of lots -/
theorem scTextX : FnScope ["pieces", "piece"] ["pieces"] (defScope s__text_of) := ⟨rfl, rfl, rfl, by decide +kernel, rfl, by decide +kernel, by decide +kernel⟩
def numT (i : Int) : Str := PySem.Str.ofString (toString i)
def frT (p : Int × Int) : Str := ((Str.empty ++ numT p.1) ++ ("/" : Str)) ++ numT p.2
def wordT (c e : Cut) : Str :=
  if c.n = e.n ∧ c.d = e.d then ((Str.empty ++ ("[" : Str)) ++ frT (c.n, c.d)) ++ ("]" : Str)
  else ((((Str.empty ++ (if (!c.b) = true then ("[" : Str) else ("(" : Str))) ++ frT (c.n, c.d)) ++ ("," : Str)) ++ frT (e.n, e.d)) ++ (if e.b = true then ("]" : Str) else (")" : Str))
def wordsT : List Cut → List Str
  | c :: e :: r => wordT c e :: wordsT r
  | _ => []
def textT (cs : List Cut) : Str := if pcsD cs = [] then ("none" : Str) else Txt.join (" " : Str) (wordsT cs)
theorem words_at : ∀ {cs : List Cut} {i : Nat} {c e : Cut}, cs[2 * i]? = some c → cs[2 * i + 1]? = some e → (wordsT cs)[i]? = some (wordT c e)
  | [], i, c, e, h, _ => by simp at h
  | [a], i, c, e, _, k => by
    have := (List.getElem?_eq_some_iff.mp k).1
    simp at this
  | a :: b :: r, i, c, e, h, k => by
    cases i with
    | zero => cases h; cases k; rfl
    | succ i =>
      rw [show 2 * (i + 1) = 2 * i + 1 + 1 by omega] at h
      rw [show 2 * (i + 1) + 1 = 2 * i + 1 + 1 + 1 by omega] at k
      exact words_at (cs := r) h k
theorem words_len : ∀ cs : List Cut, (wordsT cs).length = (pcsD cs).length
  | [] => rfl
  | [_] => rfl
  | _ :: _ :: r => by rw [wordsT, pcsD, List.length_cons, List.length_cons, words_len r]
def Smi (i : Int) : Prop := 0 ≤ i ∧ i < 2 ^ 62
theorem log_of {i : Int} (h : Smi i) : i.natAbs.log2 < 1920 := Nat.lt_of_lt_of_le (PySem.Flt.log2_lt_of (k := 62) (by decide) (by have := h.1; have := h.2; omega)) (by decide)
theorem numT_len {i : Int} (h : Smi i) : (numT i).length ≤ 1921 := int_text_len_1921 (log_of h)
theorem frT_len {p : Int × Int} (h1 : Smi p.1) (h2 : Smi p.2) : (frT p).length ≤ 3850 := by
  have a := numT_len h1
  have b := numT_len h2
  unfold frT
  rw [strLen_append, strLen_append, strLen_append]
  have e : Str.empty.length = 0 := rfl
  have f : ("/" : Str).length = 1 := by decide
  omega
theorem wordT_len {c e : Cut} (h1 : Smi c.n) (h2 : Smi c.d) (h3 : Smi e.n) (h4 : Smi e.d) : (wordT c e).length ≤ 8000 := by
  have a := frT_len (p := (c.n, c.d)) h1 h2
  have b := frT_len (p := (e.n, e.d)) h3 h4
  have e0 : Str.empty.length = 0 := rfl
  have e1 : ("[" : Str).length = 1 := by decide
  have e2 : ("]" : Str).length = 1 := by decide
  have e3 : ("(" : Str).length = 1 := by decide
  have e4 : (")" : Str).length = 1 := by decide
  have e5 : ("," : Str).length = 1 := by decide
  unfold wordT
  split
  · rw [strLen_append, strLen_append, strLen_append]; omega
  · rw [strLen_append, strLen_append, strLen_append, strLen_append, strLen_append]
    split <;> split <;> omega
theorem words_sum : ∀ {cs : List Cut}, (∀ c ∈ cs, Smi c.n ∧ Smi c.d) → ((wordsT cs).map (·.length)).sum ≤ (wordsT cs).length * 8000
  | [], _ => Nat.le_refl _
  | [_], _ => Nat.le_refl _
  | c :: e :: r, h => by
    have a := h c List.mem_cons_self
    have b := h e (List.mem_cons_of_mem _ List.mem_cons_self)
    have i := words_sum (cs := r) fun x m => h x (List.mem_cons_of_mem _ (List.mem_cons_of_mem _ m))
    have l := wordT_len a.1 a.2 b.1 b.2
    rw [wordsT, List.map_cons, List.sum_cons, List.length_cons]
    omega
def spDig : Sp := fun vs H Q _ => ∃ i : Int, vs = [.int i] ∧ Smi i ∧ ∀ H', Same H H' → Q (.str (numT i)) H'
def spFrT (K : PySem.W.Frag) : Sp := fun vs H Q _ => ∃ (u : V) (p : Int × Int), vs = [u] ∧ Dp K H u (frD p) ∧ Smi p.1 ∧ Smi p.2 ∧ ∀ H', Same H H' → Q (.str (frT p)) H'
def spWord (K : PySem.W.Frag) : Sp := fun vs H Q _ => ∃ (u : V) (c e : Cut), vs = [u] ∧ Dp K H u (pcD c e) ∧ Smi c.n ∧ Smi c.d ∧ Smi e.n ∧ Smi e.d ∧ ∀ H', Same H H' → Q (.str (wordT c e)) H'
def spText (K : PySem.W.Frag) : Sp := fun vs H Q _ => ∃ (u : V) (cs : List Cut), vs = [u] ∧ Dp K H u (.tuple (pcsD cs)) ∧ odd cs.length = false ∧ (∀ c ∈ cs, Smi c.n ∧ Smi c.d) ∧ (pcsD cs).length ≤ 1000 ∧ ∀ H', Same H H' → Q (.str (textT cs)) H'
structure Bt (mg : Str → Option Value) : Prop where
  str : mg "str" = none
  gr : ∃ g tk, mg "_GROUP" = some (.int g tk) ∧ 2 ^ 62 ≤ g
section
variable {P : Program} {w : World} {K : PySem.W.Frag} {mg : Str → Option Value} {base : Heap}
theorem ok_digits {f : Addr} {fd : FuncData} (F : Fun K "_digits_of" "_digits_of" s__digits_of f fd) (B : Bt mg) : FnOk P w K mg base CX0 1 f fd ["number"] spDig := by
  obtain ⟨g, tk, hg, g62⟩ := B.gr
  refine F.ok sc__digits_of (fun vs H Q E h => ?_) (fun cdv A outer s H vs Q E hr h => ?_)
  · obtain ⟨i, rfl, _⟩ := h
    rfl
  · obtain ⟨i, rfl, sm, k⟩ := h
    refine ⟨_, pss_cons (ps_set (i := 1) sc__digits_of.nd rfl (.inl rfl) (pe_lst pa_nil)) (pss_cons (ps_while PassesOwn.never (pt_cmpR op_ge (pv 0) (pe_glob (v := .int g) rfl hg ⟨tk, rfl⟩) (nomark _)) pss_never) (pss_cons (ps_expr (pe_bm PySem.F.plainAttrs_list PySem.F.slot_list_append PySem.F.type_list_append mt_append (pv 1) (pa_cons (pe_callTy call_str_int (by rfl) B.str (by decide +kernel) (pa_cons (pv 0) pa_nil)) pa_nil))) (pss_one (ps_ret (pe_join pe_str (pe_revL (pv 1))))))), ?_⟩
    refine ⟨Nat.zero_le _, fun D nD => nxI ?_⟩
    have s1 := same_put (o := HO.lst []) nD
    have g1 : upd H D (HO.lst []) D = some (.lst []) := upd_same
    generalize upd H D (HO.lst []) = H1 at *
    refine while_by (fun σ H' => σ = [some (.int i), some (.ref D), none] ∧ H' = H1) (fun _ _ => 0) ⟨rfl, rfl⟩ ?_ ?_
    · rintro σ H' ⟨rfl, rfl⟩
      have no : ¬ (g ≤ i) := by have := sm.2; omega
      refine ⟨_, rfl, _, _, rfl, rfl, _, rfl, ite2 (fun c => absurd (of_decide_eq_true c) no) (fun _ => nxI ?_)⟩
      refine ⟨_, rfl, .inl ⟨rfl, _, SqL.of g1⟩, _, rfl, i, rfl, log_of sm, D, _, _, rfl, rfl, g1, (by show 0 < sizeLine; decide), ?_⟩
      have h2 : Same H (upd H' D (.lst ([] ++ [V.str (numT i)]))) := same_updQ s1 nD
      refine ⟨⟨_, rfl⟩, _, rfl, D, _, rfl, SqL.of upd_same, fun p np => ?_⟩
      have s3 := same_put (o := HO.lst ([] ++ [V.str (numT i)] : List V).reverse) np
      refine ⟨_, p, [numT i], rfl, rfl, .inl (SqL.of upd_same), ?_, k _ (h2.trans s3)⟩
      have := numT_len sm
      show (numT i).length + 0 + 1 * Str.length _ ≤ _
      have e : ("" : Str).length = 0 := by decide
      omega
    · rintro σ H Q Q' hQ ⟨x, hx, i, j, e1, e2, b, e3, h⟩
      exact ⟨x, hx, i, j, e1, e2, b, e3, hQ _ _ h⟩
theorem ok_frText {f fD : Addr} {fd fdD : FuncData} (F : Fun K "fraction_text" "fraction_text" s_fraction_text f fd) (B : Bt mg) (Di : Df K mg "_digits_of" s__digits_of ["number"] fD fdD) : FnOk P w K mg base CX0 2 f fd ["fraction"] (spFrT K) := by
  have GD : FnOk P w K mg base CX0 1 fD fdD ["number"] spDig := ok_digits Di.F B
  refine F.ok sc_fraction_text (fun vs H Q E h => ?_) (fun cdv A outer s H vs Q E hr h => ?_)
  · obtain ⟨u, p, rfl, _⟩ := h
    rfl
  · obtain ⟨u, p, rfl, hp, s1, s2, k⟩ := h
    obtain ⟨a, rfl, ha⟩ := fr_inv hp
    refine ⟨_, pss_cons (ps_asg (pv 0) (pg_tup (by rfl) (pgs_cons (pg_name (i := 1) sc_fraction_text.nd rfl (.inl rfl)) (pgs_cons (pg_name (i := 2) sc_fraction_text.nd rfl (.inl rfl)) pgs_nil)))) (pss_one (ps_ret (pe_joined (.cons (pe_fmt (pe_call GD hr (by rfl) Di.g Di.F.kp Di.b .nil pass0 (pa_cons (pv 1) pa_nil))) (.cons pe_str (.cons (pe_fmt (pe_call GD hr (by rfl) Di.g Di.F.kp Di.b .nil pass0 (pa_cons (pv 2) pa_nil))) .nil)))))), ?_⟩
    have l1 := numT_len s1
    have l2 := numT_len s2
    have e0 : Str.empty.length = 0 := rfl
    have e1 : ("/" : Str).length = 1 := by decide
    have big : 4000 ≤ sizeLine := by decide
    refine ⟨_, rfl, a, _, rfl, ha, rfl, _, _, rfl, _, _, rfl, rfl, ?_⟩
    refine ⟨_, rfl, p.1, rfl, s1, fun H1 f1 => .inl ⟨_, rfl, Nat.le_trans (Nat.le_trans l1 (by decide)) big, _, rfl, by rw [strLen_append]; omega, _, rfl, by rw [strLen_append, strLen_append]; omega, ?_⟩⟩
    exact ⟨_, rfl, p.2, rfl, s2, fun H2 f2 => .inl ⟨_, rfl, Nat.le_trans (Nat.le_trans l2 (by decide)) big, _, rfl, by rw [strLen_append, strLen_append, strLen_append]; omega, k _ (f1.trans f2)⟩⟩
theorem ok_word {f fT fD : Addr} {fd fdT fdD : FuncData} (F : Fun K "_word_of" "_word_of" s__word_of f fd) (B : Bt mg) (Di : Df K mg "_digits_of" s__digits_of ["number"] fD fdD) (Ft : Df K mg "fraction_text" s_fraction_text ["fraction"] fT fdT) : FnOk P w K mg base CX0 3 f fd ["piece"] (spWord K) := by
  have GF : FnOk P w K mg base CX0 2 fT fdT ["fraction"] (spFrT K) := ok_frText Ft.F B Di
  refine F.ok sc__word_of (fun vs H Q E h => ?_) (fun cdv A outer s H vs Q E hr h => ?_)
  · obtain ⟨u, c, e, rfl, _⟩ := h
    rfl
  · obtain ⟨u, c, e, rfl, hp, s1, s2, s3, s4, k⟩ := h
    have hu := hr.units
    obtain ⟨a, x, y, rfl, ha, dx, dy⟩ := pc_inv hp
    refine ⟨_, pss_cons (ps_asg (pv 0) (pg_tup (by rfl) (pgs_cons (pg_name (i := 1) sc__word_of.nd rfl (.inl rfl)) (pgs_cons (pg_name (i := 2) sc__word_of.nd rfl (.inl rfl)) (pgs_cons (pg_name (i := 3) sc__word_of.nd rfl (.inl rfl)) (pgs_cons (pg_name (i := 4) sc__word_of.nd rfl (.inl rfl)) pgs_nil)))))) (pss_cons (ps_if (pt_cmpR (op_eqD hu) (pv 1) (pv 2) (nomark _)) (pss_one (ps_ret (pe_joined (.cons pe_str (.cons (pe_fmt (pe_call GF hr (by rfl) Ft.g Ft.F.kp Ft.b .nil pass0 (pa_cons (pv 1) pa_nil))) (.cons pe_str .nil)))))) pss_nil) (pss_cons (ps_par (i := 5) (j := 6) (by rfl) sc__word_of.nd rfl rfl (by decide) rfl rfl (pa_cons (pe_ifExp (pt_val (pv 3)) pe_str pe_str) (pa_cons (pe_ifExp (pt_val (pv 4)) pe_str pe_str) pa_nil)) (by rfl)) (pss_one (ps_ret (pe_joined (.cons (pe_fmt (pv 5)) (.cons (pe_fmt (pe_call GF hr (by rfl) Ft.g Ft.F.kp Ft.b .nil pass0 (pa_cons (pv 1) pa_nil))) (.cons pe_str (.cons (pe_fmt (pe_call GF hr (by rfl) Ft.g Ft.F.kp Ft.b .nil pass0 (pa_cons (pv 2) pa_nil))) (.cons (pe_fmt (pv 6)) .nil)))))))))), ?_⟩
    have l1 := frT_len (p := (c.n, c.d)) s1 s2
    have l2 := frT_len (p := (e.n, e.d)) s3 s4
    have e0 : Str.empty.length = 0 := rfl
    have e1 : ("[" : Str).length = 1 := by decide
    have e2 : ("]" : Str).length = 1 := by decide
    have e3 : ("(" : Str).length = 1 := by decide
    have e4 : (")" : Str).length = 1 := by decide
    have e5 : ("," : Str).length = 1 := by decide
    have big : 9000 ≤ sizeLine := by decide
    have up : ∀ {n : Nat}, n ≤ 9000 → n ≤ sizeLine := fun h => Nat.le_trans h big
    refine ⟨_, rfl, a, _, rfl, ha, rfl, _, _, rfl, _, _, rfl, _, _, rfl, _, _, rfl, rfl, ?_⟩
    refine ⟨_, rfl, _, rfl, frD (c.n, c.d), frD (e.n, e.d), dx, dy, fr_shaped _, fr_shaped _, _, rfl, ?_⟩
    rw [fr_eqv]
    refine ite2 (fun z => ?_) (fun z => ?_)
    · have q : c.n = e.n ∧ c.d = e.d := of_decide_eq_true z
      unfold wordT at k
      rw [if_pos q] at k
      refine ⟨_, rfl, up (by rw [strLen_append]; omega), _, rfl, x, (c.n, c.d), rfl, dx, s1, s2, fun H1 f1 => .inl ⟨_, rfl, up (by omega), _, rfl, up (by rw [strLen_append, strLen_append]; omega), _, rfl, up (by rw [strLen_append, strLen_append, strLen_append]; omega), k _ f1⟩⟩
    · have q : ¬ (c.n = e.n ∧ c.d = e.d) := fun y => z (decide_eq_true y)
      unfold wordT at k
      rw [if_neg q] at k
      obtain ⟨op, eo⟩ : ∃ op : Str, op = if (!c.b) = true then ("[" : Str) else ("(" : Str) := ⟨_, rfl⟩
      obtain ⟨cl, ec⟩ : ∃ cl : Str, cl = if e.b = true then ("]" : Str) else (")" : Str) := ⟨_, rfl⟩
      have lo : op.length ≤ 1 := by rw [eo]; split <;> omega
      have lc : cl.length ≤ 1 := by rw [ec]; split <;> omega
      rw [← eo, ← ec] at k
      refine nextI (nxI ?_)
      refine if_any (fun v => v = .str op) (!c.b) (fun S' s => ⟨_, rfl, _, rfl, s⟩) (fun z S' s => s _ (by rw [eo, z]; rfl)) (fun z S' s => s _ (by rw [eo, z]; rfl)) (fun v hv => ?_)
      subst hv
      refine if_any (fun v => v = .str cl) e.b (fun S' s => ⟨_, rfl, _, rfl, s⟩) (fun z S' s => s _ (by rw [ec, z]; rfl)) (fun z S' s => s _ (by rw [ec, z]; rfl)) (fun v hv => ?_)
      subst hv
      refine ⟨_, _, rfl, nxI ?_⟩
      refine ⟨_, rfl, .inl ⟨_, rfl, up (by omega), _, rfl, up (by rw [strLen_append]; omega), ?_⟩⟩
      refine ⟨_, rfl, x, (c.n, c.d), rfl, dx, s1, s2, fun H1 f1 => .inl ⟨_, rfl, up (by omega), _, rfl, up (by rw [strLen_append, strLen_append]; omega), _, rfl, up (by rw [strLen_append, strLen_append, strLen_append]; omega), ?_⟩⟩
      refine ⟨_, rfl, y, (e.n, e.d), rfl, dp_same f1 _ _ dy, s3, s4, fun H2 f2 => .inl ⟨_, rfl, up (by omega), _, rfl, up (by rw [strLen_append, strLen_append, strLen_append, strLen_append]; omega), ?_⟩⟩
      exact ⟨_, rfl, .inl ⟨_, rfl, up (by omega), _, rfl, up (by rw [strLen_append, strLen_append, strLen_append, strLen_append, strLen_append]; omega), k _ (f1.trans f2)⟩⟩
theorem ok_text {f fW fT fD : Addr} {fd fdW fdT fdD : FuncData} (F : Fun K "_text_of" "_text_of" s__text_of f fd) (B : Bt mg) (Di : Df K mg "_digits_of" s__digits_of ["number"] fD fdD) (Ft : Df K mg "fraction_text" s_fraction_text ["fraction"] fT fdT) (Wo : Df K mg "_word_of" s__word_of ["piece"] fW fdW) : FnOk P w K mg base CX0 4 f fd ["pieces"] (spText K) := by
  have GW : FnOk P w K mg base CX0 3 fW fdW ["piece"] (spWord K) := ok_word Wo.F B Di Ft
  refine F.ok scTextX (fun vs H Q E h => ?_) (fun cdv A outer s H vs Q E hr h => ?_)
  · obtain ⟨u, cs, rfl, _⟩ := h
    rfl
  · obtain ⟨u, cs, rfl, hu', od, sm, few, k⟩ := h
    obtain ⟨a, xs, rfl, ha, hx⟩ := tup_inv hu'
    have lx := dps_len hx
    refine ⟨_, pss_cons (ps_if (pt_not (pt_truth (pv 0) (by intro _; rfl))) (pss_one (ps_ret pe_str)) pss_nil) (pss_one (ps_ret (pe_join pe_str (pe_lc (te := tCall (spWord K) [] E0 (tCons (tVar 1) tNil)) (own := [("piece", 1)]) (g := gName 1) (tt := tYes) rfl scTextX.nd (pi_tup (pv 0)) (blkOk_by (N := ["pieces", "piece"]) (sc := defScope s__text_of) (by decide +kernel)) (fun _ _ _ _ _ => pg_name (i := 1) scTextX.nd rfl (.inl rfl)) (fun _ _ _ _ _ => pts_nil) (fun _ _ _ _ _ => (pe_call GW hr (by rfl) Wo.g Wo.F.kp Wo.b .nil pass0 (pa_cons (pv 1) pa_nil))))))), ?_⟩
    refine ⟨_, rfl, !xs.isEmpty, .inr (.inl ⟨_, ha, rfl⟩), ite2 (fun c1 => ?_) (fun c1 => ?_)⟩
    · have e : xs = [] := by cases xs with | nil => rfl | cons _ _ => cases c1
      subst e
      have e2 : pcsD cs = [] := List.length_eq_zero_iff.mp lx.symm
      unfold textT at k
      rw [if_pos e2] at k
      exact k _ (Same.refl _)
    · have ne : pcsD cs ≠ [] := fun z => by
        rw [z] at lx
        have : xs = [] := List.length_eq_zero_iff.mp lx
        subst this
        exact c1 rfl
      unfold textT at k
      rw [if_neg ne] at k
      have lw := words_len cs
      refine nextI (nxI ⟨⟨_, rfl⟩, _, rfl, a, rfl, ⟨_, ha⟩, fun D nD => ?_⟩)
      have s0 := same_put (o := HO.lst []) nD
      refine lc_tup (K := K) (a := a) (xs := xs) (fun i H' => H' D = some (.lst (((wordsT cs).take i).map V.str)) ∧ Same H H') ⟨upd_same, s0⟩ (fun i H' _ ⟨_, e⟩ => sqT_same e ha) ?_ ?_
      · rintro i x H1 hi ⟨hD, e1⟩
        have il := (List.getElem?_eq_some_iff.mp hi).1
        obtain ⟨d, hd, dx⟩ := dps_get (dps_same e1 _ _ hx) hi
        obtain ⟨c, e, hc, he, rfl⟩ := pcs_get hd
        have mc := sm c (List.mem_of_getElem? hc)
        have me := sm e (List.mem_of_getElem? he)
        refine ⟨rfl, _, rfl, x, c, e, rfl, dx, mc.1, mc.2, me.1, me.2, fun H2 s2 => ⟨_, s2 _ _ hD, small1000 (by rw [List.length_map, List.length_take]; omega), ?_, fun b o z => ?_⟩⟩
        · rw [upd_same, List.take_add_one, words_at hc he, List.map_append]; rfl
        · rw [upd_ne (ne_of_none z nD)]
          exact s2 _ _ (e1 _ _ z)
      rintro H1 ⟨hD, e1⟩
      rw [lx, ← lw, List.take_length] at hD
      refine ⟨_, D, wordsT cs, rfl, rfl, .inl (SqL.of hD), ?_, k _ e1⟩
      have bnd := words_sum (cs := cs) sm
      have e : (" " : Str).length = 1 := by decide
      show ((wordsT cs).map (·.length)).sum + (wordsT cs).length * (" " : Str).length ≤ _
      rw [e]
      omega
end
end My
set_option Elab.async false
set_option linter.all false
set_option maxRecDepth 100000
set_option maxHeartbeats 4000000
/-! x == y by an own __eq__, whatever it answers -/
namespace Gn
open PySem PySem.Spec PyProof.Rows L2
def rEqI (K : PySem.W.Frag) (C : Addr) (sp : Sp) : R2 := fun x y H Q => ∃ (a dx b : Addr) (fs : List (Str × V)), x = .ref a ∧ y = .ref b ∧ H a = some (.ins C dx fs) ∧
  ((∃ dy gs, H b = some (.ins C dy gs)) ∨ ((∃ ys, H b = some (.tup ys)) ∧ PySem.W.notFirst K C (.type "tuple") = true)) ∧ sp [x, y] H Q fun _ _ _ => False
theorem op_eqI {X : Cx} {CX : CXT} {n : Nat} {C f : Addr} {fd : FuncData} {ps : List Str} {sp : Sp} (F : FnOk X.prog X.w X.K X.mg X.base CX n f fd ps sp) (hs : PySem.W.findIn X.K (.ref C) "__eq__" = some (some (.ref f))) (hf : PySem.W.isFn X.K (.ref f) = true)
    (hb : Binds X.K fd ps []) (hr : Room n X.A) (hx : Passes CX X fun _ _ _ => False) : OpR X (compareOp .Eq) (rEqI X.K C sp) := by
  intro pins s σ H x y v u Q I rx ry h
  obtain ⟨a, dx, b, fs, rfl, rfl, ha, hy, q⟩ := h
  cases rx
  cases ry
  obtain ⟨mA, J, _⟩ := ins_get I.hok ha
  obtain ⟨od, J, _⟩ := J.look
  obtain ⟨m, hF⟩ := I.fr
  obtain ⟨tb, hl, nf⟩ : ∃ tb, PySem.W.Looks (model X.prog X.w) s.heap (typeOf (.ref b)) tb ∧ PySem.W.notFirst X.K C tb = true := by
    rcases hy with ⟨dy, gs, hb'⟩ | ⟨⟨ys, hb'⟩, nf⟩
    · obtain ⟨mB, J', _⟩ := ins_get I.hok hb'
      obtain ⟨od', J', _⟩ := J'.look
      exact ⟨.ref C, J'.type, by simp [PySem.W.notFirst]⟩
    · obtain ⟨_, _, _, o, h1, h2, _⟩ := (show ObjOk X.prog X.w H s.heap b (.tup ys) from I.hok b _ hb')
      exact ⟨.type "tuple", fun A Q E s k q => wpAny_typeOf_ref (k _ _ h1) (by rw [h2]; exact q), nf⟩
  show wpAny _ _ (richCompare .Eq _ _) _ _ _
  refine PySem.W.cmp_K (op := .Eq) (tb := tb) hr.units0 hF I.ok.mod.kin J hl nf hs hf ?_
  refine wpAny_mono (run_fn (us := [.ref a, .ref b]) (vs := [.ref a, .ref b]) F hr hb .nil hx I (.cons rfl (.cons rfl .nil)) (by simpa using q)) (fun w s' z => ?_) fun _ _ e => e
  obtain ⟨z', H', I', rz, qz⟩ := z
  exact SlX.cmpback rz ⟨z', H', I', rz, qz⟩
end Gn
set_option Elab.async false
set_option linter.all false
set_option maxRecDepth 100000
set_option maxHeartbeats 8000000
set_option exponentiation.threshold 4000
namespace My
open PySem PySem.Spec PyProof.Rows L2 Gn Mt
abbrev s_both : Stmt := top 32
abbrev s_either : Stmt := top 33
abbrev s_inside : Stmt := top 31
abbrev s_check_lot : Stmt := top 34
abbrev s_whole_lot : Stmt := top 35
/-! functions of lots: both, either, inside, all steps; text -/
theorem sc_both : FnScope ["lot", "mate"] ["lot", "mate"] (defScope s_both) := ⟨rfl, rfl, rfl, by decide +kernel, rfl, by decide +kernel, by decide +kernel⟩
theorem sc_either : FnScope ["lot", "mate"] ["lot", "mate"] (defScope s_either) := ⟨rfl, rfl, rfl, by decide +kernel, rfl, by decide +kernel, by decide +kernel⟩
theorem sc_inside : FnScope ["lot", "mate"] ["lot", "mate"] (defScope s_inside) := ⟨rfl, rfl, rfl, by decide +kernel, rfl, by decide +kernel, by decide +kernel⟩
theorem sc_check_lot : FnScope ["given"] ["given"] (defScope s_check_lot) := ⟨rfl, rfl, rfl, by decide +kernel, rfl, by decide +kernel, by decide +kernel⟩
theorem sc_whole_lot : FnScope [] [] (defScope s_whole_lot) := ⟨rfl, rfl, rfl, by decide +kernel, rfl, by decide +kernel, by decide +kernel⟩
abbrev s_ltext : Stmt := inClass (top 30) 3
theorem sc_ltext : FnScope ["self"] ["self"] (defScope s_ltext) := ⟨rfl, rfl, rfl, by decide +kernel, rfl, by decide +kernel, by decide +kernel⟩
theorem pc_eqv (c e c' e' : Cut) : PyData.eqv (pcD c e) (pcD c' e') = decide (c = c' ∧ e = e') := by
  have h1 : PyData.eqv (pcD c e) (pcD c' e') = (PyData.eqv (frD (c.n, c.d)) (frD (c'.n, c'.d)) && (PyData.eqv (frD (e.n, e.d)) (frD (e'.n, e'.d)) && (PyData.eqv (.bool (!c.b)) (.bool (!c'.b)) && (PyData.eqv (.bool e.b) (.bool e'.b) && true)))) := by
    simp only [pcD, PyData.eqv, PyData.eqvAll]
  rw [h1, fr_eqv, fr_eqv]
  obtain ⟨n, d, b⟩ := c
  obtain ⟨n', d', b'⟩ := c'
  obtain ⟨m, k, f⟩ := e
  obtain ⟨m', k', f'⟩ := e'
  have hb : ∀ x y : Bool, PyData.eqv (.bool x) (.bool y) = decide (x = y) := by decide
  rw [hb, hb]
  simp only [Cut.mk.injEq]
  rw [Bool.eq_iff_iff]
  simp only [Bool.and_eq_true, decide_eq_true_eq, Bool.and_true]
  constructor
  · rintro ⟨⟨h1, h2⟩, ⟨h3, h4⟩, h5, h6⟩
    exact ⟨⟨h1, h2, by cases b <;> cases b' <;> first | rfl | cases h5⟩, h3, h4, h6⟩
  · rintro ⟨⟨h1, h2, h5⟩, h3, h4, h6⟩
    exact ⟨⟨h1, h2⟩, ⟨h3, h4⟩, by rw [h5], h6⟩
theorem pcs_eqv : ∀ {cs es : List Cut}, odd cs.length = false → odd es.length = false → PyData.eqv (.tuple (pcsD cs)) (.tuple (pcsD es)) = decide (cs = es)
  | [], [], _, _ => by simp [pcsD, PyData.eqv, PyData.eqvAll]
  | [c], _, o, _ => by simp [odd] at o
  | _, [c], _, o => by simp [odd] at o
  | [], c :: e :: r, _, _ => by simp [pcsD, PyData.eqv, PyData.eqvAll]
  | c :: e :: r, [], _, _ => by simp [pcsD, PyData.eqv, PyData.eqvAll]
  | c :: e :: r, c' :: e' :: r', o, o' => by
    have ih := pcs_eqv (cs := r) (es := r') (by simpa [odd] using o) (by simpa [odd] using o')
    have h1 : PyData.eqv (.tuple (pcsD (c :: e :: r))) (.tuple (pcsD (c' :: e' :: r'))) = (PyData.eqv (pcD c e) (pcD c' e') && PyData.eqv (.tuple (pcsD r)) (.tuple (pcsD r'))) := by
      simp only [pcsD, PyData.eqv, PyData.eqvAll]
    rw [h1, pc_eqv, ih, ← Bool.decide_and]
    rw [decide_eq_decide]
    simp only [List.cons.injEq]
    exact ⟨fun ⟨⟨a, b⟩, c⟩ => ⟨a, b, c⟩, fun ⟨a, b, c⟩ => ⟨⟨a, b⟩, c⟩⟩
theorem pcs_lay : ∀ cs : List Cut, PyData.canLayAll0 (pcsD cs) = true ∧ PyData.depthAll (pcsD cs) ≤ 2
  | [] => ⟨rfl, Nat.zero_le _⟩
  | [_] => ⟨rfl, Nat.zero_le _⟩
  | c :: e :: r => by
    obtain ⟨a, b⟩ := pcs_lay r
    have h1 : PyData.canLay0 (pcD c e) = true := by rfl
    have h2 : PyData.depth (pcD c e) = 2 := by rfl
    rw [pcsD]
    simp only [PyData.canLayAll0, PyData.depthAll, h1, h2, a]
    exact ⟨rfl, by omega⟩
theorem pcs_shaped (cs : List Cut) : SeqAt.shaped (.tuple (pcsD cs)) = true := by
  obtain ⟨a, b⟩ := pcs_lay cs
  unfold SeqAt.shaped
  simp only [PyData.canLay0, PyData.depth, a]
  simp
  omega
theorem pcs_eqnil {cs : List Cut} (o : odd cs.length = false) : PyData.eqv (.tuple (pcsD cs)) (.tuple []) = decide (cs = []) := pcs_eqv (es := []) o rfl
/-! == of lots -/
abbrev s_leq : Stmt := inClass (top 30) 5
theorem sc_leq : FnScope ["self", "other"] ["self", "other"] (defScope s_leq) := ⟨rfl, rfl, rfl, by decide +kernel, rfl, by decide +kernel, by decide +kernel⟩
/-- what isinstance(x, Lot) asks of the class -/
structure LotI (K : PySem.W.Frag) (C : Addr) : Prop where
  ca : PySem.W.findIn K (.ref C) "__class__" = some (some (.builtin "object.__class__"))
  cn : PySem.W.specialIn K (.builtin "object.__class__") "__get__" = some (some (.builtin "getset_descriptor.__get__"))
  ct : PySem.W.takesIn K (.builtin "object.__class__") = some true
  cm : PySem.W.mroIn K C (.type "object") = some true
  yes : PySem.W.kitOne K (.ref C) (.ref C) = some true
  no : PySem.W.kitOne K (.type "tuple") (.ref C) = some false
def spLEq (K : PySem.W.Frag) (C : Addr) : Sp := fun vs H Q _ => ∃ (u v : V) (cs : List Cut), vs = [u, v] ∧ LotAt K C H u cs ∧ odd cs.length = false ∧ ((∃ es, LotAt K C H v es ∧ odd es.length = false ∧ Q (.bl (decide (cs = es))) H) ∨ (∃ y ys, v = .ref y ∧ H y = some (.tup ys) ∧ Q (.bl false) H))
section
variable {P : Program} {w : World} {K : PySem.W.Frag} {mg : Str → Option Value} {base : Heap} {C fI fP : Addr} {fdI fdP : FuncData}
theorem ok_leq {f : Addr} {fd : FuncData} (F : Fun K "__eq__" "Lot.__eq__" s_leq f fd) (T : LotC P w K mg C fI fP fdI fdP) (LI : LotI K C) (B : Bc mg) : FnOk P w K mg base CX0 1 f fd ["self", "other"] (spLEq K C) := by
  refine F.ok sc_leq (fun vs H Q E h => ?_) (fun cdv A outer s H vs Q E hr h => ?_)
  · obtain ⟨u, v, cs, rfl, _⟩ := h
    rfl
  · obtain ⟨u, v, cs, rfl, ⟨x, dx, a, rfl, hx, hda⟩, o1, h⟩ := h
    have hu := hr.units
    refine ⟨_, pss_one (ps_ret (pe_and (pe_callB (call_isi) (by rfl) B.isi (by decide +kernel) (pa_cons (pv 1) (pa_cons (pe_glob (v := .ref C) rfl T.mgC rfl) pa_nil))) (pe_one (pe_cmpR (op_eqD hu) (L2.pe_fld (pv 0) rfl) (L2.pe_fld (pv 1) rfl) (nomark _))))), ?_⟩
    rcases h with ⟨es, ⟨y, dy, b, rfl, hy, hdb⟩, o2, q⟩ | ⟨y, ys, rfl, hy, q⟩
    · refine ⟨_, rfl, .ref y, .ref C, _, _, true, rfl, .own C, .base (.ins hy T.cl LI.ca LI.cn LI.ct LI.cm), LI.yes, _, rfl, iteT ?_⟩
      refine ⟨_, rfl, x, C, dx, _, .ref a, rfl, hx, T.cl, T.nP, rfl, _, rfl, y, C, dy, _, .ref b, rfl, hy, T.cl, T.nP, rfl, ?_⟩
      refine ⟨_, _, hda, hdb, pcs_shaped cs, pcs_shaped es, ?_⟩
      rw [pcs_eqv o1 o2]
      exact q
    · refine ⟨_, rfl, .ref y, .ref C, _, _, false, rfl, .own C, .base (.tup hy), LI.no, _, rfl, iteF q⟩
end
def spChkL (C : Addr) : Sp := fun vs H Q _ => ∃ (x dx : Addr) (fs : List (Str × V)), vs = [.ref x] ∧ H x = some (.ins C dx fs) ∧ Q .non H
def spBoth (K : PySem.W.Frag) (C : Addr) (f : Bool → Bool → Bool) : Sp := fun vs H Q _ => ∃ (u v : V) (as bs : List Cut), vs = [u, v] ∧ LotAt K C H u as ∧ LotAt K C H v bs ∧ LtL as ∧ LtL bs ∧ as.length ≤ 4000 ∧ bs.length ≤ 4000 ∧ ∀ w H', Same H H' → LotAt K C H' w (run f false false (mg as bs)) → Q w H'
def spInside (K : PySem.W.Frag) (C : Addr) : Sp := fun vs H Q _ => ∃ (u v : V) (as bs : List Cut), vs = [u, v] ∧ LotAt K C H u as ∧ LotAt K C H v bs ∧ LtL as ∧ LtL bs ∧ as.length ≤ 4000 ∧ bs.length ≤ 4000 ∧ ∀ H', Same H H' → Q (.bl (decide (both as bs = as))) H'
def spAll (K : PySem.W.Frag) (C : Addr) : Sp := fun vs H Q _ => vs = [] ∧ ∀ w H', Same H H' → LotAt K C H' w [first, last] → Q w H'
def spLText (K : PySem.W.Frag) (C : Addr) : Sp := fun vs H Q _ => ∃ (v : V) (ks : List Cut), vs = [v] ∧ LotAt K C H v ks ∧ odd ks.length = false ∧ (∀ c ∈ ks, Smi c.n ∧ Smi c.d) ∧ (pcsD ks).length ≤ 1000 ∧ ∀ H', Same H H' → Q (.str (textT ks)) H'
theorem all_ltl : LtL [first, last] := ⟨⟨fun c m => by
  simp only [List.mem_cons, List.mem_nil_iff, or_false] at m
  rcases m with rfl | rfl
  · exact first_inC
  · exact last_in, List.Pairwise.cons (fun c m => by rw [List.mem_singleton.mp m]; decide) (List.pairwise_singleton _ _), rfl⟩, fun c m => by
  simp only [List.mem_cons, List.mem_nil_iff, or_false] at m
  rcases m with rfl | rfl
  · exact ⟨by decide, by decide⟩
  · exact ⟨by decide, by decide⟩⟩
/-- what stands of lots -/
structure Lo (P : Program) (w : World) (K : PySem.W.Frag) (mg : Str → Option Value) (base : Heap) where
  C : Addr
  fI : Addr
  fP : Addr
  fE : Addr
  fT : Addr
  fdI : FuncData
  fdP : FuncData
  fdE : FuncData
  fdT : FuncData
  T : LotC P w K mg C fI fP fdI fdP
  LI : LotI K C
  B : Bp K mg
  M : Pd K mg
  Y : Cvd K mg
  FE : Fun K "__eq__" "Lot.__eq__" s_leq fE fdE
  bE : Binds K fdE ["self", "other"] []
  eS : PySem.W.findIn K (.ref C) "__eq__" = some (some (.ref fE))
  eF : PySem.W.isFn K (.ref fE) = true
  pt : ∃ p, PropOf K C "text" p fT
  FT : Fun K "text" "Lot.text" s_ltext fT fdT
  bT : Binds K fdT ["self"] []
  bt : Bt mg
  fc : ∃ a, mg "_FIRST_CUT" = some (.ref a) ∧ ∀ H, Dp K H (.ref a) (cutD first)
  f_bo : Addr × FuncData
  bo : Df K mg "both" s_both ["lot", "mate"] f_bo.1 f_bo.2
  f_ei : Addr × FuncData
  ei : Df K mg "either" s_either ["lot", "mate"] f_ei.1 f_ei.2
  f_in_ : Addr × FuncData
  in_ : Df K mg "inside" s_inside ["lot", "mate"] f_in_.1 f_in_.2
  f_cl : Addr × FuncData
  cl : Df K mg "check_lot" s_check_lot ["given"] f_cl.1 f_cl.2
  f_wl : Addr × FuncData
  wl : Df K mg "whole_lot" s_whole_lot [] f_wl.1 f_wl.2
  f_di : Addr × FuncData
  di : Df K mg "_digits_of" s__digits_of ["number"] f_di.1 f_di.2
  f_ft : Addr × FuncData
  ft : Df K mg "fraction_text" s_fraction_text ["fraction"] f_ft.1 f_ft.2
  f_wo : Addr × FuncData
  wo : Df K mg "_word_of" s__word_of ["piece"] f_wo.1 f_wo.2
  f_tx : Addr × FuncData
  tx : Df K mg "_text_of" s__text_of ["pieces"] f_tx.1 f_tx.2
section
variable {P : Program} {w : World} {K : PySem.W.Frag} {mg : Str → Option Value} {base : Heap}
theorem ok_chkL {C fI fP : Addr} {fdI fdP : FuncData} {f : Addr} {fd : FuncData} (F : Fun K "check_lot" "check_lot" s_check_lot f fd) (T : LotC P w K mg C fI fP fdI fdP) (LI : LotI K C) (B : Bc mg) : FnOk P w K mg base CX0 1 f fd ["given"] (spChkL C) := by
  refine F.ok sc_check_lot (fun vs H Q E h => ?_) (fun cdv A outer s H vs Q E hr h => ?_)
  · obtain ⟨x, dx, fs, rfl, _⟩ := h
    rfl
  · obtain ⟨x, dx, fs, rfl, hx, k⟩ := h
    refine ⟨_, pss_one (ps_if (pt_not (pt_val (pe_callB (call_isi) (by rfl) B.isi (by decide +kernel) (pa_cons (pv 0) (pa_cons (pe_glob (v := .ref C) rfl T.mgC rfl) pa_nil))))) (pss_one ps_never) pss_nil), ?_⟩
    exact ⟨_, rfl, .ref x, .ref C, _, _, true, rfl, .own C, .base (.ins hx T.cl LI.ca LI.cn LI.ct LI.cm), LI.yes, _, rfl, iteF k⟩
theorem ok_both (S : Lo P w K mg base) : FnOk P w K mg base CX0 10 S.f_bo.1 S.f_bo.2 ["lot", "mate"] (spBoth K S.C (fun p q => p && q)) := by
  have GC : FnOk P w K mg base CX0 1 S.f_cl.1 S.f_cl.2 ["given"] (spChkL S.C) := ok_chkL S.cl.F S.T S.LI S.B.c
  have GV : FnOk P w K mg base CX0 9 S.Y.f_cv.1 S.Y.f_cv.2 ["lot", "mate", "least"] (spCov K S.C) := ok_covered S.T S.B S.M S.Y
  refine S.bo.F.ok sc_both (fun vs H Q E h => ?_) (fun cdv A outer s H vs Q E hr h => ?_)
  · obtain ⟨u, v, as, bs, rfl, _⟩ := h
    rfl
  · obtain ⟨u, v, as, bs, rfl, lotA, lotB, LA, LB, fa, fb, k⟩ := h
    have hr1 : Room 1 _ := hr.mono (by decide)
    obtain ⟨x1, dx1, a1, rfl, hx1, hp1⟩ := id lotA
    obtain ⟨x2, dx2, a2, rfl, hx2, hp2⟩ := id lotB
    refine ⟨_, pss_cons (ps_expr (pe_call GC hr1 (by rfl) S.cl.g S.cl.F.kp S.cl.b .nil pass0 (pa_cons (pv 0) pa_nil))) (pss_cons (ps_expr (pe_call GC hr1 (by rfl) S.cl.g S.cl.F.kp S.cl.b .nil pass0 (pa_cons (pv 1) pa_nil))) (pss_one (ps_ret (pe_call GV hr (by rfl) S.Y.cv.g S.Y.cv.F.kp S.Y.cv.b .nil pass0 (pa_cons (pv 0) (pa_cons (pv 1) (pa_cons pe_int pa_nil))))))), ?_⟩
    refine ⟨_, rfl, x1, dx1, _, rfl, hx1, ?_⟩
    refine nxI ⟨_, rfl, x2, dx2, _, rfl, hx2, nxI ?_⟩
    exact ⟨_, rfl, _, rfl, .ref x1, .ref x2, as, bs, _, 2, rfl, lotA, lotB, LA, LB, fa, fb, rfl, sum_and, k⟩
theorem ok_either (S : Lo P w K mg base) : FnOk P w K mg base CX0 10 S.f_ei.1 S.f_ei.2 ["lot", "mate"] (spBoth K S.C (fun p q => p || q)) := by
  have GC : FnOk P w K mg base CX0 1 S.f_cl.1 S.f_cl.2 ["given"] (spChkL S.C) := ok_chkL S.cl.F S.T S.LI S.B.c
  have GV : FnOk P w K mg base CX0 9 S.Y.f_cv.1 S.Y.f_cv.2 ["lot", "mate", "least"] (spCov K S.C) := ok_covered S.T S.B S.M S.Y
  refine S.ei.F.ok sc_either (fun vs H Q E h => ?_) (fun cdv A outer s H vs Q E hr h => ?_)
  · obtain ⟨u, v, as, bs, rfl, _⟩ := h
    rfl
  · obtain ⟨u, v, as, bs, rfl, lotA, lotB, LA, LB, fa, fb, k⟩ := h
    have hr1 : Room 1 _ := hr.mono (by decide)
    obtain ⟨x1, dx1, a1, rfl, hx1, hp1⟩ := id lotA
    obtain ⟨x2, dx2, a2, rfl, hx2, hp2⟩ := id lotB
    refine ⟨_, pss_cons (ps_expr (pe_call GC hr1 (by rfl) S.cl.g S.cl.F.kp S.cl.b .nil pass0 (pa_cons (pv 0) pa_nil))) (pss_cons (ps_expr (pe_call GC hr1 (by rfl) S.cl.g S.cl.F.kp S.cl.b .nil pass0 (pa_cons (pv 1) pa_nil))) (pss_one (ps_ret (pe_call GV hr (by rfl) S.Y.cv.g S.Y.cv.F.kp S.Y.cv.b .nil pass0 (pa_cons (pv 0) (pa_cons (pv 1) (pa_cons pe_int pa_nil))))))), ?_⟩
    refine ⟨_, rfl, x1, dx1, _, rfl, hx1, ?_⟩
    refine nxI ⟨_, rfl, x2, dx2, _, rfl, hx2, nxI ?_⟩
    exact ⟨_, rfl, _, rfl, .ref x1, .ref x2, as, bs, _, 1, rfl, lotA, lotB, LA, LB, fa, fb, rfl, sum_or, k⟩
theorem ok_inside (S : Lo P w K mg base) : FnOk P w K mg base CX0 11 S.f_in_.1 S.f_in_.2 ["lot", "mate"] (spInside K S.C) := by
  have GC : FnOk P w K mg base CX0 1 S.f_cl.1 S.f_cl.2 ["given"] (spChkL S.C) := ok_chkL S.cl.F S.T S.LI S.B.c
  have GB : FnOk P w K mg base CX0 10 S.f_bo.1 S.f_bo.2 ["lot", "mate"] (spBoth K S.C (fun p q => p && q)) := ok_both S
  have GE : FnOk P w K mg base CX0 1 S.fE S.fdE ["self", "other"] (spLEq K S.C) := ok_leq S.FE S.T S.LI S.B.c
  refine S.in_.F.ok sc_inside (fun vs H Q E h => ?_) (fun cdv A outer s H vs Q E hr h => ?_)
  · obtain ⟨u, v, as, bs, rfl, _⟩ := h
    rfl
  · obtain ⟨u, v, as, bs, rfl, lotA, lotB, LA, LB, fa, fb, k⟩ := h
    have hr1 : Room 1 _ := hr.mono (by decide)
    obtain ⟨x1, dx1, a1, rfl, hx1, hp1⟩ := id lotA
    obtain ⟨x2, dx2, a2, rfl, hx2, hp2⟩ := id lotB
    refine ⟨_, pss_cons (ps_expr (pe_call GC hr1 (by rfl) S.cl.g S.cl.F.kp S.cl.b .nil pass0 (pa_cons (pv 0) pa_nil))) (pss_cons (ps_expr (pe_call GC hr1 (by rfl) S.cl.g S.cl.F.kp S.cl.b .nil pass0 (pa_cons (pv 1) pa_nil))) (pss_one (ps_ret (pe_cmpR (op_eqI GE S.eS S.eF S.bE hr1 pass0) (pe_call GB hr (by rfl) S.bo.g S.bo.F.kp S.bo.b .nil pass0 (pa_cons (pv 0) (pa_cons (pv 1) pa_nil))) (pv 0) (nomark _))))), ?_⟩
    refine ⟨_, rfl, x1, dx1, _, rfl, hx1, ?_⟩
    refine nxI ⟨_, rfl, x2, dx2, _, rfl, hx2, nxI ?_⟩
    refine ⟨_, rfl, _, rfl, .ref x1, .ref x2, as, bs, rfl, lotA, lotB, LA, LB, fa, fb, fun y H1 s1 lot1 => ?_⟩
    obtain ⟨x3, dx3, a3, rfl, hx3, hp3⟩ := id lot1
    refine ⟨_, rfl, x3, dx3, x1, _, rfl, rfl, hx3, .inl ⟨_, _, s1 _ _ hx1⟩, .ref x3, .ref x1, _, rfl, lot1, (lt_run rfl LA.toLt LB.toLt).e, .inl ⟨as, lotA.same s1, LA.e, k _ s1⟩⟩
theorem ok_whole_lot (S : Lo P w K mg base) : FnOk P w K mg base CX0 9 S.f_wl.1 S.f_wl.2 [] (spAll K S.C) := by
  have GL : FnOk P w K mg base CX0 8 S.M.f__lot_with.1 S.M.f__lot_with.2 ["cuts"] (spLotWith K S.C) := ok_lotWith S.M.d__lot_with.F S.T S.B S.M
  obtain ⟨al, hal, hlast⟩ := S.B.lc
  obtain ⟨af, haf, hfirst⟩ := S.fc
  refine S.wl.F.ok sc_whole_lot (fun vs H Q E h => ?_) (fun cdv A outer s H vs Q E hr h => ?_)
  · obtain ⟨rfl, _⟩ := h
    rfl
  · obtain ⟨rfl, k⟩ := h
    refine ⟨_, pss_one (ps_ret (pe_call GL hr (by rfl) S.M.d__lot_with.g S.M.d__lot_with.F.kp S.M.d__lot_with.b .nil pass0 (pa_cons (pe_lst (pa_cons (pe_glob (v := .ref af) rfl haf rfl) (pa_cons (pe_glob (v := .ref al) rfl hal rfl) pa_nil))) pa_nil))), ?_⟩
    refine ⟨(by show 2 ≤ sizeLine; decide), fun p np => ?_⟩
    have s1 := same_put (o := HO.lst [.ref af, .ref al]) np
    exact ⟨.ref p, [first, last], rfl, .lst (SqL.of upd_same) (.cons (hfirst _) (.cons (hlast _) .nil)), all_ltl, by decide, fun v H' s2 lot => k v H' (s1.trans s2) lot⟩
theorem ok_ltext (S : Lo P w K mg base) : FnOk P w K mg base CX0 5 S.fT S.fdT ["self"] (spLText K S.C) := by
  have GT : FnOk P w K mg base CX0 4 S.f_tx.1 S.f_tx.2 ["pieces"] (spText K) := ok_text S.tx.F S.bt S.di S.ft S.wo
  refine S.FT.ok sc_ltext (fun vs H Q E h => ?_) (fun cdv A outer s H vs Q E hr h => ?_)
  · obtain ⟨v, ks, rfl, _⟩ := h
    rfl
  · obtain ⟨v, ks, rfl, lot, o, sm, few, k⟩ := h
    have hr4 : Room 4 _ := hr.mono (by decide)
    obtain ⟨x, dx, a, rfl, hx, dp⟩ := lot
    refine ⟨_, pss_one (ps_ret (pe_call GT hr4 (by rfl) S.tx.g S.tx.F.kp S.tx.b .nil pass0 (pa_cons (L2.pe_fld (pv 0) rfl) pa_nil))), ?_⟩
    exact ⟨_, rfl, x, S.C, dx, _, .ref a, rfl, hx, S.T.cl, S.T.nP, rfl, .ref a, ks, rfl, dp, o, sm, few, k⟩
end
end My
set_option Elab.async false
set_option maxRecDepth 100000
set_option maxHeartbeats 1000000
set_option linter.all false
/-! which mark comes behind another one: places that are told by f, of the marks below n -/
namespace Mt
/-- places on a rim of length y: unlike ones for the first n marks -/
structure Rim (f : Int → Int) (y n : Int) : Prop where
  r : ∀ k, 0 ≤ f k ∧ f k < y
  s : ∀ i j, f (i - j) = f i - f j ∨ f (i - j) = f i - f j + y
  z : ∀ k, 0 < k → k < n → f k ≠ 0
/-- m is met first behind k -/
def Nx (f : Int → Int) (n k m : Int) : Prop := 0 ≤ m ∧ m < n ∧ m ≠ k ∧ ∀ j, 0 ≤ j → j < n → j ≠ k → f (m - k) ≤ f (j - k)
/-- m is met last behind k -/
def Pv (f : Int → Int) (n k m : Int) : Prop := 0 ≤ m ∧ m < n ∧ m ≠ k ∧ ∀ j, 0 ≤ j → j < n → j ≠ k → f (k - m) ≤ f (k - j)
def behind (n A B k : Int) : Int := if k < n - A then k + A else if B ≤ k then k - B else k + A - B
section
variable {f : Int → Int} {y n : Int}
theorem Rim.y0 (R : Rim f y n) : 0 < y := by
  have := R.r 0; omega
theorem Rim.f0 (R : Rim f y n) : f 0 = 0 := by
  have h := R.s 0 0
  have := R.r 0
  rw [Int.sub_self] at h
  omega
theorem Rim.neg (R : Rim f y n) {k : Int} (h : f k ≠ 0) : f (-k) = y - f k := by
  have h1 := R.s 0 k
  have h2 := R.r (-k)
  have h3 := R.r k
  have h4 := R.f0
  rw [Int.zero_sub] at h1
  omega
theorem Rim.nz (R : Rim f y n) {k : Int} (h : k ≠ 0) (h1 : -n < k) (h2 : k < n) : f k ≠ 0 := by
  rcases Int.lt_or_lt_of_ne h with c | c
  · intro e
    have h3 := R.z (-k) (by omega) (by omega)
    have h4 := R.neg h3
    rw [Int.neg_neg] at h4
    have := R.r (-k)
    omega
  · exact R.z k c h2
theorem Rim.one (R : Rim f y n) {i j : Int} (hi : 0 ≤ i) (hi' : i < n) (hj : 0 ≤ j) (hj' : j < n) (e : f i = f j) : i = j := by
  rcases Int.decEq i j with c | c
  · have h1 := R.nz (k := i - j) (by omega) (by omega) (by omega)
    have h2 := R.s i j
    have := R.r (i - j)
    omega
  · exact c
theorem Nx.one (R : Rim f y n) {k m m' : Int} (h : Nx f n k m) (h' : Nx f n k m') : m = m' := by
  obtain ⟨a, b, c, d⟩ := h
  obtain ⟨a', b', c', d'⟩ := h'
  have e1 := d m' a' b' c'
  have e2 := d' m a b c
  rcases Int.decEq m m' with q | q
  · have h1 := R.nz (k := m - m') (by omega) (by omega) (by omega)
    have h2 := R.s (m - k) (m' - k)
    rw [show m - k - (m' - k) = m - m' by omega] at h2
    have := R.r (m - m')
    omega
  · exact q
theorem Pv.one (R : Rim f y n) {k m m' : Int} (h : Pv f n k m) (h' : Pv f n k m') : m = m' := by
  obtain ⟨a, b, c, d⟩ := h
  obtain ⟨a', b', c', d'⟩ := h'
  have e1 := d m' a' b' c'
  have e2 := d' m a b c
  rcases Int.decEq m m' with q | q
  · have h1 := R.nz (k := m' - m) (by omega) (by omega) (by omega)
    have h2 := R.s (k - m) (k - m')
    rw [show k - m - (k - m') = m' - m by omega] at h2
    have := R.r (m' - m)
    omega
  · exact q
theorem Nx.back (R : Rim f y n) {k m : Int} (hk : 0 ≤ k) (hk' : k < n) (h : Nx f n k m) : Pv f n m k := by
  obtain ⟨a, b, c, d⟩ := h
  refine ⟨hk, hk', Ne.symm c, fun j j0 j1 j2 => ?_⟩
  rcases Int.decEq j k with q | q
  · have h1 := d j j0 j1 q
    have h2 := R.s (m - k) (m - j)
    rw [show m - k - (m - j) = j - k by omega] at h2
    have h3 := R.r (j - k)
    have h4 := R.r (m - j)
    have h5 := R.r (m - k)
    have h6 := R.nz (k := m - j) (by omega) (by omega) (by omega)
    omega
  · subst q; exact Int.le_refl _
/-- the three cases -/
theorem gap (R : Rim f y n) {A B k : Int} (A0 : 0 < A) (A1 : A < n) (B0 : 0 < B) (B1 : B < n) (hA : ∀ k, 0 < k → k < n → f A ≤ f k) (hB : ∀ k, 0 < k → k < n → f k ≤ f B) (k0 : 0 ≤ k) (k1 : k < n) : Nx f n k (behind n A B k) := by
  have a0 := R.z A A0 A1
  have b0 := R.z B B0 B1
  have ra := R.r A
  have rb := R.r B
  have nb := R.neg b0
  unfold behind
  split
  · rename_i c1
    refine ⟨by omega, by omega, by omega, fun j j0 j1 j2 => ?_⟩
    rw [show k + A - k = A by omega]
    rcases Int.lt_or_lt_of_ne j2 with c | c
    · have h1 := hA (A - (j - k)) (by omega) (by omega)
      have h2 := R.s A (j - k)
      have h3 := R.nz (k := j - k) (by omega) (by omega) (by omega)
      have h4 := R.r (j - k)
      have h5 := R.r (A - (j - k))
      omega
    · exact hA _ (by omega) (by omega)
  · rename_i c1
    split
    · rename_i c2
      refine ⟨by omega, by omega, by omega, fun j j0 j1 j2 => ?_⟩
      rw [show k - B - k = -B by omega, nb]
      rcases Int.lt_or_lt_of_ne j2 with c | c
      · have h1 := hB (k - j) (by omega) (by omega)
        have h2 := R.z (k - j) (by omega) (by omega)
        have h3 := R.neg h2
        rw [show -(k - j) = j - k by omega] at h3
        omega
      · have h1 := hB (B + (j - k)) (by omega) (by omega)
        have h2 := R.s (B + (j - k)) (j - k)
        rw [show B + (j - k) - (j - k) = B by omega] at h2
        have h3 := R.nz (k := j - k) (by omega) (by omega) (by omega)
        have h4 := R.r (j - k)
        have h5 := R.r (B + (j - k))
        omega
    · rename_i c2
      have ne : A ≠ B := fun e => by
        subst e
        have e1 : ∀ k, 0 < k → k < n → f k = f A := fun k h h' => by
          have := hA k h h'; have := hB k h h'; omega
        by_cases h : A = 1
        · omega
        · have h1 := e1 (A - 1) (by omega) (by omega)
          have := R.one (i := A - 1) (j := A) (by omega) (by omega) (by omega) (by omega) h1
          omega
      have lt : f A < f B := by
        have h1 := hA B B0 B1
        rcases Int.lt_or_eq_of_le h1 with h | h
        · exact h
        · exact absurd (R.one (by omega) A1 (by omega) B1 h) ne
      have hab := R.s A B
      have rab := R.r (A - B)
      refine ⟨by omega, by omega, by omega, fun j j0 j1 j2 => ?_⟩
      rw [show k + A - B - k = A - B by omega]
      rcases Int.lt_or_lt_of_ne j2 with c | c
      · have h1 := hB (k - j) (by omega) (by omega)
        have h2 := R.z (k - j) (by omega) (by omega)
        have h3 := R.neg h2
        rw [show -(k - j) = j - k by omega] at h3
        have h4 := hA (B - (k - j)) (by omega) (by omega)
        have h5 := R.s B (k - j)
        have h6 := R.r (k - j)
        have h7 := R.r (B - (k - j))
        omega
      · have h1 := hA (j - k) (by omega) (by omega)
        have h2 := hB (A - (j - k)) (by omega) (by omega)
        have h3 := R.s A (j - k)
        have h4 := R.z (A - (j - k)) (by omega) (by omega)
        have h5 := R.r (A - (j - k))
        omega
/-- and so the other way round -/
theorem gapB (R : Rim f y n) {A B k : Int} (A0 : 0 < A) (A1 : A < n) (B0 : 0 < B) (B1 : B < n) (hA : ∀ k, 0 < k → k < n → f A ≤ f k) (hB : ∀ k, 0 < k → k < n → f k ≤ f B) (k0 : 0 ≤ k) (k1 : k < n) : Pv f n k (behind n B A k) := by
  have R' : Rim (fun k => f (-k)) y n := ⟨fun k => R.r (-k), fun i j => by
    show f (-(i - j)) = f (-i) - f (-j) ∨ f (-(i - j)) = f (-i) - f (-j) + y
    rw [show -(i - j) = -i - -j by omega]
    exact R.s (-i) (-j), fun k h h' => R.nz (by omega) (by omega) (by omega)⟩
  have h := gap R' (A := B) (B := A) (k := k) B0 B1 A0 A1 (fun k h h' => by
    show f (-B) ≤ f (-k)
    rw [R.neg (R.z B B0 B1), R.neg (R.z k h h')]
    have := hB k h h'; omega) (fun k h h' => by
    show f (-k) ≤ f (-A)
    rw [R.neg (R.z A A0 A1), R.neg (R.z k h h')]
    have := hA k h h'; omega) k0 k1
  obtain ⟨a, b, c, d⟩ := h
  refine ⟨a, b, c, fun j j0 j1 j2 => ?_⟩
  have := d j j0 j1 j2
  rw [show k - behind n B A k = -(behind n B A k - k) by omega, show k - j = -(j - k) by omega]
  exact this
theorem min_sum (R : Rim f y n) {A B : Int} (A0 : 0 < A) (A1 : A < n) (B0 : 0 < B) (B1 : B < n) (hA : ∀ k, 0 < k → k < n → f A ≤ f k) (hB : ∀ k, 0 < k → k < n → f k ≤ f B) : n ≤ A + B := by
  rcases Int.lt_or_le (A + B) n with c | c
  · have h1 := hA (A + B) (by omega) c
    have h2 := hB (A + B) (by omega) c
    have h3 := R.s (A + B) B
    rw [show A + B - B = A by omega] at h3
    have h4 := R.z A A0 A1
    have h5 := R.z B B0 B1
    have h6 := R.r A
    have h7 := R.r B
    omega
  · exact c
end
/-! the places of a step -/
theorem rim_step {x y n : Int} (hy : 0 < y) (co : Nat.gcd x.natAbs y.natAbs = 1) (hn : n ≤ y) : Rim (fun k => x * k % y) y n := by
  refine ⟨fun k => ⟨Int.emod_nonneg _ (by omega), Int.emod_lt_of_pos _ hy⟩, fun i j => ?_, fun k h h' e => ?_⟩
  · have h1 : x * (i - j) % y = (x * i % y - x * j % y) % y := by
      rw [Int.mul_sub, Int.sub_emod]
    have a1 := Int.emod_nonneg (x * i) (show y ≠ 0 by omega)
    have a2 := Int.emod_lt_of_pos (x * i) hy
    have b1 := Int.emod_nonneg (x * j) (show y ≠ 0 by omega)
    have b2 := Int.emod_lt_of_pos (x * j) hy
    show x * (i - j) % y = x * i % y - x * j % y ∨ x * (i - j) % y = x * i % y - x * j % y + y
    rw [h1]
    rcases Int.lt_or_le (x * i % y) (x * j % y) with c | c
    · right
      rw [← Int.add_emod_right]
      exact Int.emod_eq_of_lt (by omega) (by omega)
    · left
      exact Int.emod_eq_of_lt (by omega) (by omega)
  · have d : y ∣ x * k := Int.dvd_of_emod_eq_zero e
    have d1 : y.natAbs ∣ x.natAbs * k.natAbs := by
      have := Int.natAbs_dvd_natAbs.mpr d
      rwa [Int.natAbs_mul] at this
    have d2 : y.natAbs ∣ k.natAbs := (Nat.Coprime.symm co).dvd_of_dvd_mul_left d1
    have := Nat.le_of_dvd (by omega) d2
    omega
/-- two marks beside 0 as they are looked for: low and high, how far they are, p and q the tops of the neighbours -/
structure Side (x y n low fl high fh p q : Int) : Prop where
  l0 : 0 < low
  l1 : low < n
  h0 : 0 < high
  h1 : high < n
  e1 : low * x - p * y = fl
  e2 : q * y - high * x = fh
  de : low * q - high * p = 1
  fl0 : 0 < fl
  fh0 : 0 < fh
theorem Side.val {x y n low fl high fh p q : Int} (S : Side x y n low fl high fh p q) : low * fh + high * fl = y := by
  have h1 := S.e1; have h2 := S.e2; have h3 := S.de
  grind
theorem mod_at {a p y r : Int} (e : a - p * y = r) (h0 : 0 ≤ r) (h1 : r < y) : a % y = r := by
  rw [show a = r + y * p by grind, Int.add_mul_emod_self_left]
  exact Int.emod_eq_of_lt h0 h1
theorem Side.fly {x y n low fl high fh p q : Int} (S : Side x y n low fl high fh p q) : fl < y ∧ fh < y := by
  have v := S.val
  have l0 := S.l0; have h0 := S.h0; have a := S.fl0; have b := S.fh0
  have h1 : 1 * fh ≤ low * fh := Int.mul_le_mul_of_nonneg_right (by omega) (by omega)
  have h2 : 1 * fl ≤ high * fl := Int.mul_le_mul_of_nonneg_right (by omega) (by omega)
  omega
theorem Side.atl {x y n low fl high fh p q : Int} (S : Side x y n low fl high fh p q) : x * low % y = fl :=
  mod_at (p := p) (by have := S.e1; grind) (by have := S.fl0; omega) S.fly.1
theorem Side.ath {x y n low fl high fh p q : Int} (S : Side x y n low fl high fh p q) : x * high % y = y - fh :=
  mod_at (p := q - 1) (by have := S.e2; grind) (by have := S.fly; omega) (by have := S.fh0; omega)
/-- nothing lies nearer below low + high -/
theorem Side.near {x y n low fl high fh p q : Int} (S : Side x y n low fl high fh p q) {k : Int} (k0 : 0 < k) (k1 : k < low + high) : fl ≤ x * k % y ∧ x * k % y ≤ y - fh := by
  have y0 : 0 < y := by have := S.fly; have := S.fl0; omega
  have e := Int.emod_add_mul_ediv (x * k) y
  have m0 := Int.emod_nonneg (x * k) (show y ≠ 0 by omega)
  have m1 := Int.emod_lt_of_pos (x * k) y0
  generalize x * k % y = g at *
  generalize x * k / y = r at *
  have l0 := S.l0; have h0 := S.h0; have a0 := S.fl0; have b0 := S.fh0
  constructor
  · obtain ⟨u, hu⟩ : ∃ u, u = k * q - r * high := ⟨_, rfl⟩
    obtain ⟨v, hv⟩ : ∃ v, v = r * low - k * p := ⟨_, rfl⟩
    have e1 := S.e1; have e2 := S.e2; have de := S.de
    have c1 : k = u * low + v * high := by grind
    have c2 : g = u * fl - v * fh := by grind
    have u1 : 0 < u := by
      rcases Int.lt_or_le 0 u with c | c
      · exact c
      · have z1 : u * fl ≤ 0 := Int.mul_nonpos_of_nonpos_of_nonneg c (by omega)
        have z2 : u * low ≤ 0 := Int.mul_nonpos_of_nonpos_of_nonneg c (by omega)
        rcases Int.lt_or_le 0 v with d | d
        · have := Int.mul_pos d b0; omega
        · have := Int.mul_nonpos_of_nonpos_of_nonneg d (show 0 ≤ high by omega); omega
    have v1 : v ≤ 0 := by
      rcases Int.lt_or_le 0 v with d | d
      · have z1 : 1 * low ≤ u * low := Int.mul_le_mul_of_nonneg_right (by omega) (by omega)
        have z2 : 1 * high ≤ v * high := Int.mul_le_mul_of_nonneg_right (by omega) (by omega)
        omega
      · exact d
    have z1 : 1 * fl ≤ u * fl := Int.mul_le_mul_of_nonneg_right (by omega) (by omega)
    have z2 := Int.mul_nonpos_of_nonpos_of_nonneg v1 (show 0 ≤ fh by omega)
    omega
  · obtain ⟨u, hu⟩ : ∃ u, u = k * q - (r + 1) * high := ⟨_, rfl⟩
    obtain ⟨v, hv⟩ : ∃ v, v = (r + 1) * low - k * p := ⟨_, rfl⟩
    have e1 := S.e1; have e2 := S.e2; have de := S.de
    have c1 : k = u * low + v * high := by grind
    have c2 : y - g = v * fh - u * fl := by grind
    have v1 : 0 < v := by
      rcases Int.lt_or_le 0 v with c | c
      · exact c
      · have z1 : v * fh ≤ 0 := Int.mul_nonpos_of_nonpos_of_nonneg c (by omega)
        have z2 : v * high ≤ 0 := Int.mul_nonpos_of_nonpos_of_nonneg c (by omega)
        rcases Int.lt_or_le 0 u with d | d
        · have := Int.mul_pos d a0; omega
        · have := Int.mul_nonpos_of_nonpos_of_nonneg d (show 0 ≤ low by omega); omega
    have u1 : u ≤ 0 := by
      rcases Int.lt_or_le 0 u with d | d
      · have z1 : 1 * low ≤ u * low := Int.mul_le_mul_of_nonneg_right (by omega) (by omega)
        have z2 : 1 * high ≤ v * high := Int.mul_le_mul_of_nonneg_right (by omega) (by omega)
        omega
      · exact d
    have z1 : 1 * fh ≤ v * fh := Int.mul_le_mul_of_nonneg_right (by omega) (by omega)
    have z2 := Int.mul_nonpos_of_nonpos_of_nonneg u1 (show 0 ≤ fl by omega)
    omega
theorem Side.start {x y n : Int} (x0 : 0 < x) (xy : x < y) (hn : 2 ≤ n) : Side x y n 1 x 1 (y - x) 0 1 :=
  ⟨by omega, by omega, by omega, by omega, by omega, by omega, by omega, x0, by omega⟩
/-- low is moved on -/
theorem Side.low {x y n low fl high fh p q t : Int} (S : Side x y n low fl high fh p q) (co : Nat.gcd x.natAbs y.natAbs = 1) (hn : n ≤ y) (t0 : 0 ≤ t) (t1 : t * fh ≤ fl) (t2 : t * high ≤ n - 1 - low) : Side x y n (low + t * high) (fl - t * fh) high fh (p + t * q) q := by
  have e1 := S.e1; have e2 := S.e2; have de := S.de
  have l0 := S.l0; have h0 := S.h0; have h1 := S.h1; have b0 := S.fh0
  have y0 : 0 < y := by have := S.fly; omega
  have z : 0 ≤ t * high := Int.mul_nonneg t0 (by omega)
  refine ⟨by omega, by omega, h0, h1, by grind, e2, by grind, ?_, b0⟩
  rcases Int.lt_or_eq_of_le t1 with c | c
  · omega
  · refine absurd ?_ ((rim_step y0 co hn).z (low + t * high) (by omega) (by omega))
    exact mod_at (p := p + t * q) (by grind) (by omega) y0
theorem Side.high {x y n low fl high fh p q t : Int} (S : Side x y n low fl high fh p q) (co : Nat.gcd x.natAbs y.natAbs = 1) (hn : n ≤ y) (t0 : 0 ≤ t) (t1 : t * fl ≤ fh) (t2 : t * low ≤ n - 1 - high) : Side x y n low fl (high + t * low) (fh - t * fl) p (q + t * p) := by
  have e1 := S.e1; have e2 := S.e2; have de := S.de
  have l0 := S.l0; have l1 := S.l1; have h0 := S.h0; have h1 := S.h1; have a0 := S.fl0
  have y0 : 0 < y := by have := S.fly; omega
  have z : 0 ≤ t * low := Int.mul_nonneg t0 (by omega)
  refine ⟨l0, l1, by omega, by omega, e1, by grind, by grind, a0, ?_⟩
  rcases Int.lt_or_eq_of_le t1 with c | c
  · omega
  · refine absurd ?_ ((rim_step y0 co hn).z (high + t * low) (by omega) (by omega))
    exact mod_at (p := q + t * p) (by grind) (by omega) y0
/-- how often: no more than fits, at least once where it fits -/
theorem times_ok {a b c d : Int} (b0 : 0 < b) (d0 : 0 < d) (a0 : 0 ≤ a) (c0 : 0 ≤ c) : 0 ≤ min (a / b) (c / d) ∧ min (a / b) (c / d) * b ≤ a ∧ min (a / b) (c / d) * d ≤ c ∧ (b ≤ a → d ≤ c → 1 ≤ min (a / b) (c / d)) := by
  have h1 : a / b * b ≤ a := Int.ediv_mul_le a (by omega)
  have h2 : c / d * d ≤ c := Int.ediv_mul_le c (by omega)
  have h3 : 0 ≤ a / b := Int.ediv_nonneg a0 (by omega)
  have h4 : 0 ≤ c / d := Int.ediv_nonneg c0 (by omega)
  have m1 : min (a / b) (c / d) ≤ a / b := Int.min_le_left _ _
  have m2 : min (a / b) (c / d) ≤ c / d := Int.min_le_right _ _
  have z1 := Int.mul_le_mul_of_nonneg_right m1 (show 0 ≤ b by omega)
  have z2 := Int.mul_le_mul_of_nonneg_right m2 (show 0 ≤ d by omega)
  refine ⟨by omega, by omega, by omega, fun u v => ?_⟩
  have w1 : 1 ≤ a / b := (Int.le_ediv_iff_mul_le b0).mpr (by omega)
  have w2 : 1 ≤ c / d := (Int.le_ediv_iff_mul_le d0).mpr (by omega)
  omega
/-- one turn of looking for them -/
theorem Side.turn {x y n low fl high fh p q : Int} (S : Side x y n low fl high fh p q) (co : Nat.gcd x.natAbs y.natAbs = 1) (hn : n ≤ y) (go : low + high < n) {t u : Int} (ht : t = min (fl / fh) ((n - 1 - low) / high))
    (hu : u = min (fh / (fl - t * fh)) ((n - 1 - high) / (low + t * high))) : (∃ p' q', Side x y n (low + t * high) (fl - t * fh) (high + u * (low + t * high)) (fh - u * (fl - t * fh)) p' q') ∧
    low ≤ low + t * high ∧ high ≤ high + u * (low + t * high) ∧ low + high < (low + t * high) + (high + u * (low + t * high)) := by
  have l0 := S.l0; have h0 := S.h0; have a0 := S.fl0; have b0 := S.fh0; have l1 := S.l1; have h1 := S.h1
  obtain ⟨w1, w2, w3, w4⟩ := times_ok (a := fl) (c := n - 1 - low) b0 h0 (by omega) (by omega)
  rw [← ht] at w1 w2 w3 w4
  have S1 := S.low co hn w1 w2 w3
  have a1 := S1.fl0; have l2 := S1.l0
  obtain ⟨v1, v2, v3, v4⟩ := times_ok (a := fh) (c := n - 1 - high) a1 l2 (by omega) (by omega)
  rw [← hu] at v1 v2 v3 v4
  have S2 := S1.high co hn v1 v2 v3
  have z1 : 0 ≤ t * high := Int.mul_nonneg w1 (by omega)
  have z2 : 0 ≤ u * (low + t * high) := Int.mul_nonneg v1 (by omega)
  refine ⟨⟨_, _, S2⟩, by omega, by omega, ?_⟩
  rcases Int.lt_or_le fl fh with c | c
  · rcases Int.lt_or_le 0 t with d | d
    · have := Int.mul_pos d h0; omega
    · have t0 : t = 0 := by omega
      subst t0
      rw [Int.zero_mul, Int.sub_zero] at v4
      rw [Int.zero_mul, Int.add_zero] at *
      have := v4 (by omega) (by omega)
      have := Int.mul_pos (show 0 < u by omega) l0
      omega
  · have := w4 c (by omega)
    have := Int.mul_pos (show 0 < t by omega) h0
    omega
/-- where it ends they are the nearest of all -/
theorem Side.found {x y n low fl high fh p q : Int} (S : Side x y n low fl high fh p q) (e : n ≤ low + high) : (∀ k, 0 < k → k < n → x * low % y ≤ x * k % y) ∧ ∀ k, 0 < k → k < n → x * k % y ≤ x * high % y := by
  rw [S.atl, S.ath]
  exact ⟨fun k k0 k1 => (S.near k0 (by omega)).1, fun k k0 k1 => (S.near k0 (by omega)).2⟩
theorem Side.gcd {x y n low fl high fh p q : Int} (S : Side x y n low fl high fh p q) : Nat.gcd low.natAbs high.natAbs = 1 := by
  have d1 : ((Nat.gcd low.natAbs high.natAbs : Nat) : Int) ∣ low := Int.ofNat_dvd_left.mpr (Nat.gcd_dvd_left _ _)
  have d2 : ((Nat.gcd low.natAbs high.natAbs : Nat) : Int) ∣ high := Int.ofNat_dvd_left.mpr (Nat.gcd_dvd_right _ _)
  have d3 := Int.dvd_sub (Int.dvd_mul_of_dvd_left d1 (b := low) (c := q)) (Int.dvd_mul_of_dvd_left d2 (b := high) (c := p))
  rw [S.de] at d3
  have := Int.natAbs_dvd_natAbs.mpr d3
  rw [Int.natAbs_natCast] at this
  exact Nat.dvd_one.mp this
/-- they exist -/
theorem side_ex {x y n : Int} (x0 : 0 < x) (xy : x < y) (co : Nat.gcd x.natAbs y.natAbs = 1) (hn : n ≤ y) (n2 : 2 ≤ n) : ∃ low fl high fh p q, Side x y n low fl high fh p q ∧ n ≤ low + high := by
  have go : ∀ (k : Nat) (low fl high fh p q : Int), Side x y n low fl high fh p q → (2 * n - low - high).toNat ≤ k → ∃ low fl high fh p q, Side x y n low fl high fh p q ∧ n ≤ low + high := by
    intro k
    induction k with
    | zero =>
      intro low fl high fh p q S h
      have := S.l1; have := S.h1; omega
    | succ k ih =>
      intro low fl high fh p q S h
      rcases Int.lt_or_le (low + high) n with c | c
      · obtain ⟨⟨p', q', S'⟩, a, b, d⟩ := S.turn co hn c rfl rfl
        exact ih _ _ _ _ _ _ S' (by omega)
      · exact ⟨_, _, _, _, _, _, S, c⟩
  exact go _ _ _ _ _ _ _ (Side.start x0 xy n2) (Nat.le_refl _)
end Mt
set_option Elab.async false
set_option maxRecDepth 100000
set_option maxHeartbeats 1000000
set_option linter.all false
/-! the order of unlike places as a row of marks -/
namespace Mt
/-- the marks as they are met -/
structure Row (f : Int → Int) (n : Nat) (l : List Int) : Prop where
  len : l.length = n
  mem : ∀ k, k ∈ l ↔ 0 ≤ k ∧ k < n
  up : (l.map f).Pairwise (· < ·)
  ord : ord f (iota n) = l.map fun k => [k]
theorem insU_lenE {v : Int} : ∀ {l : List Int}, v ∉ l → (insU v l).length = l.length + 1
  | [], _ => rfl
  | a :: l, h => by
    unfold insU
    split
    · rfl
    · split
      · rename_i e; exact absurd (by rw [e]; exact List.mem_cons_self) h
      · rw [List.length_cons, insU_lenE (fun z => h (List.mem_cons_of_mem _ z)), List.length_cons]
theorem sortU_lenE : ∀ {l : List Int}, l.Nodup → (sortU l).length = l.length
  | [], _ => rfl
  | a :: l, h => by
    obtain ⟨h1, h2⟩ := List.nodup_cons.mp h
    show (insU a (sortU l)).length = _
    rw [insU_lenE (fun z => h1 (sortU_mem.mp z)), sortU_lenE h2, List.length_cons]
theorem row_ex {f : Int → Int} {n : Nat} (inj : ∀ i j : Int, 0 ≤ i → i < n → 0 ≤ j → j < n → f i = f j → i = j) : ∃ l, Row f n l := by
  have one : ∀ v ∈ sortU ((iota n).map f), ∃ k, k ∈ iota n ∧ f k = v ∧ grp f (iota n) v = [k] := by
    intro v hv
    obtain ⟨k, hk, e⟩ := List.mem_map.mp (sortU_mem.mp hv)
    refine ⟨k, hk, e, ?_⟩
    obtain ⟨k0, k1⟩ := iota_mem.mp hk
    refine strict_one ((iota_pw n).filter _) (List.pairwise_singleton _ _) fun u => ?_
    unfold grp
    rw [List.mem_filter, List.mem_singleton]
    constructor
    · rintro ⟨a, b⟩
      obtain ⟨u0, u1⟩ := iota_mem.mp a
      exact inj u k u0 u1 k0 k1 (by rw [e]; simpa using b)
    · rintro rfl
      exact ⟨hk, by simpa using e⟩
  have nd : ((iota n).map f).Nodup := by
    unfold List.Nodup
    rw [List.pairwise_map]
    refine List.Pairwise.imp_of_mem ?_ (iota_pw n)
    intro a b ha hb h e
    obtain ⟨a0, a1⟩ := iota_mem.mp ha
    obtain ⟨b0, b1⟩ := iota_mem.mp hb
    have := inj a b a0 a1 b0 b1 e
    omega
  let h := fun v => (grp f (iota n) v).headD 0
  have hh : ∀ v ∈ sortU ((iota n).map f), f (h v) = v ∧ h v ∈ iota n ∧ grp f (iota n) v = [h v] := by
    intro v hv
    obtain ⟨k, a, b, c⟩ := one v hv
    have e : h v = k := by
      show (grp f (iota n) v).headD 0 = k
      rw [c]; rfl
    rw [e]; exact ⟨b, a, c⟩
  refine ⟨(sortU ((iota n).map f)).map h, ?_, fun k => ?_, ?_, ?_⟩
  · rw [List.length_map, sortU_lenE nd, List.length_map, iota_len]
  · rw [List.mem_map]
    constructor
    · rintro ⟨v, hv, rfl⟩
      exact iota_mem.mp (hh v hv).2.1
    · intro hk
      have hm : f k ∈ sortU ((iota n).map f) := sortU_mem.mpr (List.mem_map.mpr ⟨k, iota_mem.mpr hk, rfl⟩)
      refine ⟨f k, hm, ?_⟩
      obtain ⟨a, b, _⟩ := hh _ hm
      obtain ⟨b0, b1⟩ := iota_mem.mp b
      exact inj _ _ b0 b1 hk.1 hk.2 a
  · rw [List.map_map]
    have e : (sortU ((iota n).map f)).map (f ∘ h) = sortU ((iota n).map f) := by
      conv => rhs; rw [← List.map_id (sortU ((iota n).map f))]
      exact List.map_congr_left fun v hv => (hh v hv).1
    rw [e]
    exact sortU_pw _
  · unfold Mt.ord
    rw [List.map_map]
    exact List.map_congr_left fun v hv => (hh v hv).2.2
section
variable {f : Int → Int} {y : Int} {n : Nat} {l : List Int}
theorem Row.get (T : Row f n l) {i : Nat} (hi : i < n) : ∃ k, l[i]? = some k ∧ 0 ≤ k ∧ k < n := by
  have h : i < l.length := by rw [T.len]; exact hi
  refine ⟨l[i], List.getElem?_eq_getElem h, ?_⟩
  exact (T.mem _).mp (List.getElem_mem h)
theorem Row.at (T : Row f n l) {k : Int} (k0 : 0 ≤ k) (k1 : k < n) : ∃ i, i < n ∧ l[i]? = some k := by
  obtain ⟨i, hi, e⟩ := List.mem_iff_getElem.mp ((T.mem k).mpr ⟨k0, k1⟩)
  exact ⟨i, by rw [← T.len]; exact hi, by rw [List.getElem?_eq_getElem hi, e]⟩
theorem Row.lt (T : Row f n l) {i j : Nat} {u v : Int} (hi : l[i]? = some u) (hj : l[j]? = some v) (h : i < j) : f u < f v := by
  obtain ⟨h1, e1⟩ := List.getElem?_eq_some_iff.mp hi
  obtain ⟨h2, e2⟩ := List.getElem?_eq_some_iff.mp hj
  subst e1 e2
  have p := List.pairwise_iff_getElem.mp (List.pairwise_map.mp T.up)
  exact p i j h1 h2 h
theorem Row.le (T : Row f n l) {i j : Nat} {u v : Int} (hi : l[i]? = some u) (hj : l[j]? = some v) (h : i ≤ j) : f u ≤ f v := by
  rcases Nat.lt_or_eq_of_le h with c | c
  · exact Int.le_of_lt (T.lt hi hj c)
  · subst c; rw [hi] at hj; cases hj; exact Int.le_refl _
theorem Row.zero (T : Row f n l) (R : Rim f y n) (n0 : 0 < n) : l[0]? = some 0 := by
  obtain ⟨k, hk, k0, k1⟩ := T.get n0
  obtain ⟨i, hi, e⟩ := T.at (k := 0) (by omega) (by omega)
  have h := T.le hk e (Nat.zero_le i)
  have h0 := R.f0
  have h1 := R.r k
  have := R.one k0 k1 (Int.le_refl 0) (by omega) (by omega)
  rw [hk, this]
/-- the first and the last one -/
theorem Row.ends (T : Row f n l) (R : Rim f y n) (n2 : 2 ≤ n) {A B : Int} (hA : l[1]? = some A) (hB : l[n - 1]? = some B) : 0 < A ∧ A < n ∧ 0 < B ∧ B < n ∧ (∀ k : Int, 0 < k → k < n → f A ≤ f k) ∧ ∀ k : Int, 0 < k → k < n → f k ≤ f B := by
  have h0 := T.zero R (by omega)
  have z := R.f0
  have mA := (T.mem A).mp (List.mem_of_getElem? hA)
  have mB := (T.mem B).mp (List.mem_of_getElem? hB)
  have lA := T.lt h0 hA (by omega)
  have lB := T.lt h0 hB (by omega)
  refine ⟨?_, mA.2, ?_, mB.2, fun k k0 k1 => ?_, fun k k0 k1 => ?_⟩
  · rcases Int.lt_or_le 0 A with c | c
    · exact c
    · have : A = 0 := by omega
      rw [this] at lA; omega
  · rcases Int.lt_or_le 0 B with c | c
    · exact c
    · have : B = 0 := by omega
      rw [this] at lB; omega
  · obtain ⟨i, hi, e⟩ := T.at (k := k) (by omega) k1
    refine T.le hA e ?_
    rcases Nat.eq_zero_or_pos i with c | c
    · subst c; rw [h0] at e; cases e; omega
    · exact c
  · obtain ⟨i, hi, e⟩ := T.at (k := k) (by omega) k1
    exact T.le e hB (by omega)
/-- what follows in the row is met first -/
theorem Row.next (T : Row f n l) (R : Rim f y n) (n2 : 2 ≤ n) {j : Nat} (hj : j < n) {k m : Int} (hk : l[j]? = some k) (hm : l[(j + 1) % n]? = some m) : Nx f n k m := by
  have mk := (T.mem k).mp (List.mem_of_getElem? hk)
  have mm := (T.mem m).mp (List.mem_of_getElem? hm)
  have rk := R.r k
  have rm := R.r m
  rcases Nat.lt_or_ge (j + 1) n with c | c
  · rw [Nat.mod_eq_of_lt c] at hm
    have lt := T.lt hk hm (by omega)
    refine ⟨mm.1, mm.2, fun e => by rw [e] at lt; omega, fun i i0 i1 i2 => ?_⟩
    obtain ⟨a, ha, e⟩ := T.at i0 i1
    have s1 := R.s m k
    have r1 := R.r (m - k)
    have s2 := R.s i k
    have r2 := R.r (i - k)
    have ri := R.r i
    rcases Nat.lt_or_ge j a with d | d
    · have := T.le hm e (by omega)
      omega
    · have := T.le e hk d
      have : f i ≠ f k := fun z => i2 (R.one i0 i1 mk.1 mk.2 z)
      omega
  · have e1 : j + 1 = n := by omega
    rw [e1, Nat.mod_self] at hm
    rw [T.zero R (by omega)] at hm
    cases hm
    have h0 := T.zero R (by omega)
    have lt := T.lt h0 hk (by omega)
    have z := R.f0
    refine ⟨by omega, by omega, fun e => by rw [← e] at lt; omega, fun i i0 i1 i2 => ?_⟩
    obtain ⟨a, ha, e⟩ := T.at i0 i1
    have le := T.le e hk (by omega)
    have : f i ≠ f k := fun z => i2 (R.one i0 i1 mk.1 mk.2 z)
    have s1 := R.s 0 k
    have r1 := R.r (0 - k)
    have s2 := R.s i k
    have r2 := R.r (i - k)
    have ri := R.r i
    omega
end
end Mt
set_option Elab.async false
set_option maxRecDepth 100000
set_option maxHeartbeats 1000000
set_option linter.all false
/-! sums of whole parts; how many places lie below; the first mark between two tops -/
namespace Mt
/-- the sum of (a * k + b) / m for k below n -/
def fsum (m a b : Int) : Nat → Int
  | 0 => 0
  | n + 1 => fsum m a b n + (a * (n : Int) + b) / m
theorem div_at {a m q r : Int} (e : a = m * q + r) (h0 : 0 ≤ r) (h1 : r < m) : a / m = q := by
  rw [e, Int.add_comm, Int.add_mul_ediv_left _ _ (by omega), Int.ediv_eq_zero_of_lt h0 h1, Int.zero_add]
theorem fsum_congr {m a b a' b' : Int} {n : Nat} (h : ∀ k : Int, 0 ≤ k → k < n → (a * k + b) / m = (a' * k + b') / m) : fsum m a b n = fsum m a' b' n := by
  induction n with
  | zero => rfl
  | succ n ih =>
    show fsum m a b n + _ = fsum m a' b' n + _
    rw [ih fun k h0 h1 => h k h0 (by omega), h n (by omega) (by omega)]
/-- whole slopes and shifts come out -/
theorem tri (n : Nat) : ((n : Int) + 1) * n / 2 = (n : Int) * (n - 1) / 2 + n := by
  have h : ((n : Int) + 1) * n = n * (n - 1) + n * 2 := by grind
  rw [h, Int.add_mul_ediv_right _ _ (by decide)]
theorem fsum_whole {m a b : Int} (m0 : 0 < m) (n : Nat) : fsum m a b n = (n : Int) * (n - 1) / 2 * (a / m) + n * (b / m) + fsum m (a % m) (b % m) n := by
  induction n with
  | zero => simp [fsum]
  | succ n ih =>
    show fsum m a b n + (a * (n : Int) + b) / m = _ + (fsum m (a % m) (b % m) n + (a % m * (n : Int) + b % m) / m)
    rw [ih]
    have h : (a * (n : Int) + b) / m = (a % m * (n : Int) + b % m) / m + (a / m * n + b / m) := by
      have e1 := Int.emod_add_mul_ediv a m
      have e2 := Int.emod_add_mul_ediv b m
      rw [← Int.add_mul_ediv_right _ _ (show m ≠ 0 by omega)]
      congr 1
      grind
    rw [h]
    have t := tri n
    rw [show (((n + 1 : Nat) : Int)) * (((n + 1 : Nat) : Int) - 1) / 2 = ((n : Int) + 1) * n / 2 by congr 1; push_cast; grind, t]
    push_cast
    grind
theorem fsum_up {a m b : Int} (a0 : 0 < a) (n : Nat) : fsum a m (b + a) n = fsum a m b n + n := by
  induction n with
  | zero => rfl
  | succ n ih =>
    show fsum a m (b + a) n + (m * (n : Int) + (b + a)) / a = fsum a m b n + (m * (n : Int) + b) / a + ((n + 1 : Nat) : Int)
    rw [ih, show m * (n : Int) + (b + a) = m * (n : Int) + b + 1 * a by omega, Int.add_mul_ediv_right _ _ (by omega)]
    push_cast
    omega
theorem fsum_head {a m b : Int} (n : Nat) : fsum a m b (n + 1) = b / a + fsum a m (b + m) n := by
  induction n with
  | zero => show 0 + (m * ((0 : Nat) : Int) + b) / a = b / a + 0; simp
  | succ n ih =>
    show fsum a m b (n + 1) + (m * ((n + 1 : Nat) : Int) + b) / a = b / a + (fsum a m (b + m) n + (m * (n : Int) + (b + m)) / a)
    rw [ih, show m * ((n + 1 : Nat) : Int) + b = m * (n : Int) + (b + m) by push_cast; grind]
    omega
/-- counted by rows in the place of columns -/
theorem fsum_turn {m a b : Int} (a0 : 0 < a) (am : a < m) (b0 : 0 ≤ b) (bm : b < m) (n : Nat) : fsum m a b n = fsum a m ((a * n + b) % m) ((a * n + b) / m).toNat := by
  have m0 : 0 < m := by omega
  induction n with
  | zero =>
    have e : a * ((0 : Nat) : Int) + b = b := by simp
    rw [e, Int.ediv_eq_zero_of_lt b0 bm]
    rfl
  | succ n ih =>
    show fsum m a b n + (a * (n : Int) + b) / m = _
    rw [ih]
    have y0 : 0 ≤ a * (n : Int) + b := by
      have := Int.mul_nonneg (show 0 ≤ a by omega) (show (0 : Int) ≤ n by omega); omega
    have e := Int.emod_add_mul_ediv (a * (n : Int) + b) m
    have r0 := Int.emod_nonneg (a * (n : Int) + b) (show m ≠ 0 by omega)
    have r1 := Int.emod_lt_of_pos (a * (n : Int) + b) m0
    have q0 : 0 ≤ (a * (n : Int) + b) / m := Int.ediv_nonneg y0 (by omega)
    have e3 : a * ((n + 1 : Nat) : Int) + b = a * (n : Int) + b + a := by push_cast; grind
    rw [e3]
    generalize a * (n : Int) + b = y at *
    generalize hq : y / m = q at *
    generalize hr : y % m = r at *
    obtain ⟨k, rfl⟩ := Int.eq_ofNat_of_zero_le q0
    rcases Int.lt_or_le (r + a) m with c | c
    · have d1 : (y + a) / m = (k : Int) := div_at (r := r + a) (by omega) (by omega) c
      have d2 : (y + a) % m = r + a := by
        have := Int.emod_add_mul_ediv (y + a) m
        rw [d1] at this; omega
      rw [d1, d2, Int.toNat_natCast, fsum_up a0]
    · have d1 : (y + a) / m = (k : Int) + 1 := div_at (r := r + a - m) (by rw [Int.mul_add]; omega) (by omega) (by omega)
      have d2 : (y + a) % m = r + a - m := by
        have := Int.emod_add_mul_ediv (y + a) m
        rw [d1, Int.mul_add] at this; omega
      rw [d1, d2, Int.toNat_natCast, show ((k : Int) + 1).toNat = k + 1 by omega, fsum_head, Int.ediv_eq_zero_of_lt (by omega) (by omega), show r + a - m + m = r + a by omega, fsum_up a0]
      omega
theorem fsum_zero {m b : Int} (b0 : 0 ≤ b) (bm : b < m) (n : Nat) : fsum m 0 b n = 0 := by
  induction n with
  | zero => rfl
  | succ n ih =>
    show fsum m 0 b n + (0 * (n : Int) + b) / m = 0
    rw [ih, Int.zero_mul, Int.zero_add, Int.zero_add, Int.ediv_eq_zero_of_lt b0 bm]
/-- one turn of the program's loop -/
theorem fsum_step {m a b : Int} (m0 : 0 < m) (a0 : 0 ≤ a) (b0 : 0 ≤ b) (n : Nat) : fsum m a b n = (n : Int) * (n - 1) / 2 * (a / m) + n * (b / m) + (if a % m = 0 then 0 else fsum (a % m) m ((a % m * n + b % m) % m) ((a % m * n + b % m) / m).toNat) := by
  rw [fsum_whole m0 n]
  have r0 := Int.emod_nonneg a (show m ≠ 0 by omega)
  have r1 := Int.emod_lt_of_pos a m0
  have s0 := Int.emod_nonneg b (show m ≠ 0 by omega)
  have s1 := Int.emod_lt_of_pos b m0
  split
  · rename_i c
    rw [c, fsum_zero s0 s1]
  · rename_i c
    rw [fsum_turn (by omega) r1 s0 s1]
/-- how many of the first n marks have a top below t -/
def below (x y t : Int) : Nat → Int
  | 0 => 0
  | n + 1 => below x y t n + if x * (n : Int) % y < t then 1 else 0
theorem below_fsum {x y t : Int} (y0 : 0 < y) (t0 : 0 ≤ t) (t1 : t ≤ y) (n : Nat) : below x y t n = n + fsum y x 0 n - fsum y x (y - t) n := by
  induction n with
  | zero => rfl
  | succ n ih =>
    show below x y t n + _ = ((n + 1 : Nat) : Int) + (fsum y x 0 n + (x * (n : Int) + 0) / y) - (fsum y x (y - t) n + (x * (n : Int) + (y - t)) / y)
    rw [ih]
    have e := Int.emod_add_mul_ediv (x * (n : Int)) y
    have r0 := Int.emod_nonneg (x * (n : Int)) (show y ≠ 0 by omega)
    have r1 := Int.emod_lt_of_pos (x * (n : Int)) y0
    rw [Int.add_zero]
    generalize x * (n : Int) = z at *
    generalize hq : z / y = q at *
    generalize z % y = r at *
    split
    · rename_i c
      rw [div_at (a := z + (y - t)) (q := q) (r := r + (y - t)) (by omega) (by omega) (by omega)]
      push_cast; omega
    · rename_i c
      rw [div_at (a := z + (y - t)) (q := q + 1) (r := r - t) (by rw [Int.mul_add]; omega) (by omega) (by omega)]
      push_cast; omega
/-! the first mark whose top lies from a to b -/
def Hit (s w a b m : Int) : Prop := 0 ≤ m ∧ a ≤ s * m % w ∧ s * m % w ≤ b
def Fst (s w a b m : Int) : Prop := Hit s w a b m ∧ ∀ m', Hit s w a b m' → m ≤ m'
/-- no less than so many slopes -/
theorem ceil_le {a s k : Int} (s0 : 0 < s) : -(-a / s) ≤ k ↔ a ≤ s * k := by
  have h := Int.le_ediv_iff_mul_le (a := -k) (b := -a) s0
  rw [Int.neg_mul, Int.mul_comm k s] at h
  constructor
  · intro z
    have := h.mp (by omega)
    omega
  · intro z
    have := h.mpr (by omega)
    omega
theorem ceil_at {a s : Int} (s0 : 0 < s) : a ≤ s * -(-a / s) ∧ s * (-(-a / s) - 1) < a := by
  refine ⟨(ceil_le s0).mp (Int.le_refl _), ?_⟩
  rcases Int.lt_or_le (s * (-(-a / s) - 1)) a with c | c
  · exact c
  · have := (ceil_le s0).mpr c
    omega
theorem ceil_is {a s c : Int} (s0 : 0 < s) (h1 : a ≤ s * c) (h2 : s * (c - 1) < a) : -(-a / s) = c := by
  have k1 := (ceil_le s0).mpr h1
  rcases Int.lt_or_le (-(-a / s)) c with d | d
  · have := (ceil_le (a := a) (k := c - 1) s0).mp (by omega)
    omega
  · omega
theorem neg_mod {a s c d : Int} (e : a = s * c - d) (d0 : 0 ≤ d) (ds : d < s) : -a % s = d := by
  have h : -a = d + s * (-c) := by rw [e]; grind
  rw [h, Int.add_mul_emod_self_left]
  exact Int.emod_eq_of_lt d0 ds
theorem fst_zero {s w a b : Int} (w0 : 0 < w) (ha : a ≤ 0) (hb : 0 ≤ b) : Fst s w a b 0 := by
  refine ⟨⟨Int.le_refl 0, ?_, ?_⟩, fun m' h => h.1⟩
  · rw [Int.mul_zero, Int.zero_emod]; exact ha
  · rw [Int.mul_zero, Int.zero_emod]; exact hb
theorem fst_turn {s w a b : Int} (s0 : 0 < s) (sw : s < w) (a0 : 0 < a) (bw : b < w) (h : -(-a / s) * s ≤ b) : Fst s w a b (-(-a / s)) := by
  obtain ⟨h1, h2⟩ := ceil_at (a := a) s0
  have c0 : 0 < -(-a / s) := by
    rcases Int.lt_or_le 0 (-(-a / s)) with c | c
    · exact c
    · have := Int.mul_nonpos_of_nonneg_of_nonpos (show 0 ≤ s by omega) c
      omega
  generalize -(-a / s) = c at *
  have hc : s * c ≤ b := by rw [Int.mul_comm]; exact h
  refine ⟨⟨by omega, ?_, ?_⟩, fun m' ⟨m0, k1, k2⟩ => ?_⟩
  · rw [Int.emod_eq_of_lt (by omega) (by omega)]; exact h1
  · rw [Int.emod_eq_of_lt (by omega) (by omega)]; exact hc
  · rcases Int.lt_or_le m' c with d | d
    · have e1 : s * m' ≤ s * (c - 1) := Int.mul_le_mul_of_nonneg_left (by omega) (by omega)
      have e2 : 0 ≤ s * m' := Int.mul_nonneg (by omega) m0
      rw [Int.emod_eq_of_lt e2 (by omega)] at k1
      omega
    · exact d
/-- turned: the turn is looked for as a mark is -/
theorem fst_back {s w a b t : Int} (s0 : 0 < s) (sw : s < w) (a0 : 0 < a) (ab : a ≤ b) (bw : b < w) (h : b < -(-a / s) * s) (T : Fst (w % s) s (-b % s) (-a % s) t) : Fst s w a b (-(-(a + w * t) / s)) := by
  obtain ⟨h1, h2⟩ := ceil_at (a := a) s0
  generalize -(-a / s) = c at *
  have w0 : 0 < w := by omega
  have hc : b < s * c := by rw [Int.mul_comm]; exact h
  have ec : s * (c - 1) = s * c - s := by rw [Int.mul_sub, Int.mul_one]
  rw [neg_mod (a := a) (c := c) (d := s * c - a) (by omega) (by omega) (by omega), neg_mod (a := b) (c := c) (d := s * c - b) (by omega) (by omega) (by omega)] at T
  obtain ⟨⟨t0, k1, k2⟩, least⟩ := T
  have red : ∀ t, w % s * t % s = w * t % s := fun t => by rw [Int.mul_emod, Int.emod_emod, ← Int.mul_emod]
  rw [red] at k1 k2
  have e := Int.emod_add_mul_ediv (w * t) s
  generalize hv : w * t % s = v at *
  generalize w * t / s = q at *
  have em : -(-(a + w * t) / s) = c + q := ceil_is s0 (by rw [Int.mul_add]; omega) (by rw [Int.mul_sub, Int.mul_add, Int.mul_one]; omega)
  have wt0 : 0 ≤ w * t := Int.mul_nonneg (by omega) t0
  rw [em]
  have es : s * (c + q) % w = s * (c + q) - w * t := by
    have z : s * (c + q) = (s * (c + q) - w * t) + w * t := by omega
    rw [z, Int.add_mul_emod_self_left]
    rw [show s * (c + q) - w * t + w * t - w * t = s * (c + q) - w * t by omega]
    exact Int.emod_eq_of_lt (by rw [Int.mul_add]; omega) (by rw [Int.mul_add]; omega)
  refine ⟨⟨?_, ?_, ?_⟩, fun m' ⟨m0, g1, g2⟩ => ?_⟩
  · rcases Int.lt_or_le (c + q) 0 with d | d
    · have := Int.mul_nonpos_of_nonneg_of_nonpos (show 0 ≤ s by omega) (show c + q ≤ 0 by omega)
      rw [Int.mul_add] at this
      omega
    · exact d
  · rw [es, Int.mul_add]; omega
  · rw [es, Int.mul_add]; omega
  · have f := Int.emod_add_mul_ediv (s * m') w
    have sm0 : 0 ≤ s * m' := Int.mul_nonneg (by omega) m0
    have t'0 : 0 ≤ s * m' / w := Int.ediv_nonneg sm0 (by omega)
    generalize s * m' % w = r at *
    generalize s * m' / w = t' at *
    have er : w * t' % s = s * c - r := by
      have z : w * t' = (s * c - r) + s * (m' - c) := by rw [Int.mul_sub]; omega
      rw [z, Int.add_mul_emod_self_left]
      exact Int.emod_eq_of_lt (by omega) (by omega)
    have lt := least t' ⟨t'0, by rw [red, er]; omega, by rw [red, er]; omega⟩
    have wtt : w * t ≤ w * t' := Int.mul_le_mul_of_nonneg_left lt (by omega)
    rw [← em]
    refine (ceil_le s0).mpr ?_
    omega
end Mt
set_option linter.all false
set_option maxRecDepth 100000
namespace Mt
/-! ranks: how many places are less than that of a mark -/
theorem filt_up {f : Int → Int} : ∀ {l : List Int} {i : Nat} {k : Int}, (l.map f).Pairwise (· < ·) → l[i]? = some k → (l.filter fun m => decide (f m < f k)).length = i
  | [], i, k, _, h => by simp at h
  | a :: l, 0, k, P, h => by
    rw [List.getElem?_cons_zero] at h
    cases h
    have P' := List.pairwise_cons.mp P
    rw [List.filter_cons_of_neg (by simp), List.filter_eq_nil_iff.mpr]
    · rfl
    · intro b hb
      have := P'.1 (f b) (List.mem_map.mpr ⟨b, hb, rfl⟩)
      simp
      omega
  | a :: l, i + 1, k, P, h => by
    rw [List.getElem?_cons_succ] at h
    have P' := List.pairwise_cons.mp P
    have := P'.1 (f k) (List.mem_map.mpr ⟨k, List.mem_of_getElem? h, rfl⟩)
    rw [List.filter_cons_of_pos (by simpa using this), List.length_cons, filt_up P'.2 h]
theorem filt_more {f : Int → Int} {t : Int} : ∀ {l : List Int} {i : Nat} {k : Int}, (l.map f).Pairwise (· < ·) → l[i]? = some k → f k < t → i < (l.filter fun m => decide (f m < t)).length
  | [], i, k, _, h, _ => by simp at h
  | a :: l, 0, k, P, h, g => by
    rw [List.getElem?_cons_zero] at h
    cases h
    rw [List.filter_cons_of_pos (by simpa using g), List.length_cons]
    omega
  | a :: l, i + 1, k, P, h, g => by
    rw [List.getElem?_cons_succ] at h
    have P' := List.pairwise_cons.mp P
    have := P'.1 (f k) (List.mem_map.mpr ⟨k, List.mem_of_getElem? h, rfl⟩)
    rw [List.filter_cons_of_pos (by simp; omega), List.length_cons]
    have := filt_more P'.2 h g
    omega
theorem below_filt (x y t : Int) (n : Nat) : below x y t n = (((iota n).filter fun m => decide (x * m % y < t)).length : Int) := by
  induction n with
  | zero => rfl
  | succ n ih =>
    show below x y t n + _ = _
    rw [iota_succ, List.filter_append, List.length_append, ih]
    by_cases c : x * (n : Int) % y < t
    · rw [if_pos c, List.filter_cons_of_pos (by simpa using c)]; simp
    · rw [if_neg c, List.filter_cons_of_neg (by simpa using c)]; simp
theorem below_mono {x y s t : Int} (h : s ≤ t) (n : Nat) : below x y s n ≤ below x y t n := by
  induction n with
  | zero => exact Int.le_refl _
  | succ n ih =>
    show below x y s n + _ ≤ below x y t n + _
    split <;> split <;> omega
theorem below_le (x y t : Int) (n : Nat) : 0 ≤ below x y t n ∧ below x y t n ≤ n := by
  induction n with
  | zero => exact ⟨Int.le_refl _, Int.le_refl _⟩
  | succ n ih =>
    show 0 ≤ below x y t n + _ ∧ below x y t n + _ ≤ ((n + 1 : Nat) : Int)
    push_cast
    split <;> omega
section
variable {x y : Int} {n : Nat} {l : List Int}
theorem Row.nodup {f : Int → Int} (T : Row f n l) : l.Nodup := by
  have h := T.up
  rw [List.pairwise_map] at h
  exact h.imp fun {a b} c e => by rw [e] at c; omega
theorem Row.perm {f : Int → Int} (T : Row f n l) : l.Perm (iota n) :=
  (List.perm_ext_iff_of_nodup T.nodup ((iota_pw n).imp fun {a b} c e => by omega)).mpr fun k => by rw [T.mem, iota_mem]
theorem Row.below (T : Row (fun k => x * k % y) n l) {i : Nat} {k : Int} (h : l[i]? = some k) : Mt.below x y (x * k % y) n = i := by
  rw [below_filt, ← (T.perm.filter _).length_eq, filt_up (f := fun k => x * k % y) T.up h]
theorem Row.more (T : Row (fun k => x * k % y) n l) {i : Nat} {k t : Int} (h : l[i]? = some k) (g : x * k % y < t) : (i : Int) < Mt.below x y t n := by
  rw [below_filt, ← (T.perm.filter _).length_eq]
  have := filt_more (f := fun k => x * k % y) T.up h g
  omega
end
/-- a rank is that of one mark -/
theorem rank_one {x y : Int} {n : Nat} (R : Rim (fun k => x * k % y) y n) {j k : Int} (j0 : 0 ≤ j) (j1 : j < n) (k0 : 0 ≤ k) (k1 : k < n) (e : below x y (x * j % y) n = below x y (x * k % y) n) : j = k := by
  obtain ⟨l, T⟩ := row_ex (f := fun k => x * k % y) (n := n) fun i j a b c d e => R.one a b c d e
  obtain ⟨a, ha, ea⟩ := T.at j0 j1
  obtain ⟨b, hb, eb⟩ := T.at k0 k1
  rw [T.below ea, T.below eb] at e
  have : a = b := by omega
  subst this
  rw [ea] at eb
  exact Option.some.inj eb
/-- each rank has its mark -/
theorem rank_ex {x y : Int} {n : Nat} (R : Rim (fun k => x * k % y) y n) {r : Int} (r0 : 0 ≤ r) (r1 : r < n) : ∃ k : Int, 0 ≤ k ∧ k < n ∧ below x y (x * k % y) n = r ∧ ∀ t, (below x y t n ≤ r ↔ t ≤ x * k % y) := by
  obtain ⟨l, T⟩ := row_ex (f := fun k => x * k % y) (n := n) fun i j a b c d e => R.one a b c d e
  obtain ⟨k, hk, k0, k1⟩ := T.get (i := r.toNat) (by omega)
  refine ⟨k, k0, k1, by rw [T.below hk]; omega, fun t => ⟨fun h => ?_, fun h => ?_⟩⟩
  · rcases Int.lt_or_le (x * k % y) t with c | c
    · have := T.more hk c
      omega
    · exact c
  · have := below_mono (x := x) (y := y) h n
    rw [T.below hk] at this
    omega
/-- behind a mark comes the one with the next rank -/
theorem rank_next {x y : Int} {n : Nat} (R : Rim (fun k => x * k % y) y n) (n2 : 2 ≤ n) {k m : Int} (k0 : 0 ≤ k) (k1 : k < n) (h : Nx (fun k => x * k % y) n k m) : below x y (x * m % y) n = (below x y (x * k % y) n + 1) % n := by
  obtain ⟨l, T⟩ := row_ex (f := fun k => x * k % y) (n := n) fun i j a b c d e => R.one a b c d e
  obtain ⟨i, hi, ei⟩ := T.at k0 k1
  obtain ⟨m', hm, m0, m1⟩ := T.get (i := (i + 1) % n) (Nat.mod_lt _ (by omega))
  have e := Nx.one R h (T.next R n2 hi ei hm)
  rw [e, T.below hm, T.below ei]
  rw [Int.natCast_emod]; rfl
/-- all of a few marks stand in their own order -/
theorem below_plain {x y k : Int} (x0 : 0 < x) : ∀ n : Nat, x * n ≤ y → 0 ≤ k → below x y (x * k) n = min k n
  | 0, _, k0 => by show (0 : Int) = min k 0; omega
  | n + 1, h, k0 => by
    push_cast at h
    rw [Int.mul_add, Int.mul_one] at h
    show below x y (x * k) n + _ = min k ((n + 1 : Nat) : Int)
    rw [below_plain x0 n (by omega) k0, Int.emod_eq_of_lt (Int.mul_nonneg (by omega) (by omega)) (by omega)]
    have e : x * (n : Int) < x * k ↔ (n : Int) < k := ⟨fun c => Int.lt_of_mul_lt_mul_left c (by omega), fun c => Int.mul_lt_mul_of_pos_left c x0⟩
    push_cast
    split <;> rename_i c <;> rw [e] at c <;> omega
theorem nx_plain {y n k : Int} (R : Rim (fun k => 1 * k % y) y n) (k0 : 0 ≤ k) (k1 : k + 1 < n) (y2 : 2 ≤ y) : Nx (fun k => 1 * k % y) n k (k + 1) := by
  refine ⟨by omega, k1, by omega, fun j j0 j1 j2 => ?_⟩
  have z := R.nz (k := j - k) (by omega) (by omega) (by omega)
  have r := R.r (j - k)
  have e : (1 : Int) * (k + 1 - k) % y = 1 := by rw [show k + 1 - k = 1 by omega, Int.one_mul]; exact Int.emod_eq_of_lt (by decide) (by omega)
  show 1 * (k + 1 - k) % y ≤ 1 * (j - k) % y
  rw [e]
  have z' : 1 * (j - k) % y ≠ 0 := z
  have r' : 0 ≤ 1 * (j - k) % y := r.1
  omega
/-- no mark of the first ones lies between one and the next one -/
theorem nx_between {x y n k m s : Int} (k0 : 0 ≤ k) (k1 : k < min n y) (y0 : 0 < y) (h : Nx (fun k => x * k % y) (min n y) k m) (s0 : 0 ≤ s) (s1 : s < n) : ¬ (0 < x * (s - k) % y ∧ x * (s - k) % y < x * (m - k) % y) := by
  rintro ⟨a, b⟩
  have e : x * (s - k) % y = x * (s % y - k) % y := by
    have := Int.emod_add_mul_ediv s y
    rw [show s - k = (s % y - k) + y * (s / y) by omega, Int.mul_add, ← Int.mul_assoc, Int.mul_comm x y, Int.mul_assoc, Int.add_mul_emod_self_left]
  rw [e] at a b
  have h1 := Int.emod_lt_of_pos s y0
  have h2 := Int.emod_nonneg s (show y ≠ 0 by omega)
  have h3 : s % y ≤ s := by
    rcases Int.lt_or_le s y with c | c
    · rw [Int.emod_eq_of_lt s0 c]; exact Int.le_refl _
    · omega
  rcases Int.decEq (s % y) k with c | c
  · have := h.2.2.2 (s % y) h2 (by rw [Int.min_def]; split <;> omega) c
    have this' : x * (m - k) % y ≤ x * (s % y - k) % y := this
    omega
  · rw [c, Int.sub_self, Int.mul_zero, Int.zero_emod] at a
    omega
end Mt
set_option linter.all false
set_option maxRecDepth 100000
namespace Mt
/-! the order of any number of marks: the first ones at its places -/
theorem first_in {p : Int → Bool} {k : Int} {n : Nat} (k0 : 0 ≤ k) (k1 : k < n) (h : p k = true) (no : ∀ j, 0 ≤ j → j < k → p j = false) : ((iota n).filter p)[0]? = some k := by
  induction n with
  | zero => omega
  | succ n ih =>
    rw [iota_succ, List.filter_append]
    rcases Int.lt_or_le k n with c | c
    · have e := ih c
      rw [List.getElem?_append_left]
      · exact e
      · exact (List.getElem?_eq_some_iff.mp e).1
    · have e : k = n := by omega
      have z : (iota n).filter p = [] := List.filter_eq_nil_iff.mpr fun j hj => by
        obtain ⟨j0, j1⟩ := iota_mem.mp hj
        rw [no j j0 (by omega)]
        simp
      rw [z, ← e]
      simp [h]
/-- few unlike numbers below a bound -/
theorem nodup_few {ks : List Int} {m : Nat} (nd : ks.Nodup) (h : ∀ k ∈ ks, 0 ≤ k ∧ k < m) : ks.length ≤ m := by
  have p : ks.Perm ((iota m).filter fun k => decide (k ∈ ks)) :=
    (List.perm_ext_iff_of_nodup nd ((List.Pairwise.filter _ ((iota_pw m).imp fun {a b} c e => by omega)))).mpr fun k => by
      rw [List.mem_filter, iota_mem, decide_eq_true_eq]
      exact ⟨fun z => ⟨h k z, z⟩, fun z => z.2⟩
  rw [p.length_eq]
  exact Nat.le_trans (List.length_filter_le _ _) (by rw [iota_len]; exact Nat.le_refl _)
/-- which marks stand first at the places, of any number of marks -/
theorem heads {x y : Int} {n N : Nat} (y0 : 0 < y) (co : Nat.gcd x.natAbs y.natAbs = 1) (eN : (N : Int) = min (n : Int) y) : ∃ l, Row (fun k => x * k % y) N l ∧ ord (fun k => x * k % y) (iota n) = l.map (fun k => grp (fun k => x * k % y) (iota n) (x * k % y)) ∧
    ∀ k ∈ l, (grp (fun k => x * k % y) (iota n) (x * k % y))[0]? = some k := by
  have Nn : (N : Int) ≤ n := by rw [eN]; exact Int.min_le_left _ _
  have Ny : (N : Int) ≤ y := by rw [eN]; exact Int.min_le_right _ _
  have R := rim_step (n := (N : Int)) y0 co Ny
  obtain ⟨l, L⟩ := row_ex (f := fun k => x * k % y) (n := N) fun i j a b c d e => R.one a b c d e
  have red : ∀ k : Int, 0 ≤ k → k < n → 0 ≤ k % y ∧ k % y < N ∧ x * (k % y) % y = x * k % y := fun k k0 k1 => by
    refine ⟨Int.emod_nonneg _ (by omega), ?_, by rw [Int.mul_emod, Int.emod_emod, ← Int.mul_emod]⟩
    have h1 := Int.emod_lt_of_pos k y0
    have h2 : k % y ≤ k := by
      rcases Int.lt_or_le k y with c | c
      · rw [Int.emod_eq_of_lt k0 c]; exact Int.le_refl _
      · omega
    rw [eN, Int.min_def]; split <;> omega
  refine ⟨l, L, ?_, fun k hk => ?_⟩
  · have e : sortU ((iota n).map fun k => x * k % y) = l.map fun k => x * k % y := strict_one (sortU_pw _) L.up fun v => by
      rw [sortU_mem, List.mem_map, List.mem_map]
      constructor
      · rintro ⟨k, hk, rfl⟩
        obtain ⟨k0, k1⟩ := iota_mem.mp hk
        obtain ⟨h0, h1, h2⟩ := red k k0 k1
        exact ⟨k % y, (L.mem _).mpr ⟨h0, h1⟩, h2⟩
      · rintro ⟨k, hk, rfl⟩
        obtain ⟨k0, k1⟩ := (L.mem k).mp hk
        exact ⟨k, iota_mem.mpr ⟨k0, by omega⟩, rfl⟩
    unfold ord
    rw [e, List.map_map]
    rfl
  · obtain ⟨k0, k1⟩ := (L.mem k).mp hk
    refine first_in k0 (by omega) (by simp) fun j j0 j1 => ?_
    rw [beq_eq_false_iff_ne]
    intro e
    have := R.one j0 (by omega) k0 k1 e
    omega
/-- what stands ahead of a mark in the row of the first ones -/
theorem Row.prev {f : Int → Int} {y : Int} {n : Nat} {l : List Int} (T : Row f n l) (R : Rim f y n) (n2 : 2 ≤ n) {j : Nat} (hj : j < n) {k m : Int} (hk : l[j]? = some k) (hm : l[(j + (n - 1)) % n]? = some m) : Pv f n k m := by
  have lt : (j + (n - 1)) % n < n := Nat.mod_lt _ (by omega)
  have e : ((j + (n - 1)) % n + 1) % n = j := by
    rw [Nat.mod_add_mod, show j + (n - 1) + 1 = j + n by omega, Nat.add_mod_right, Nat.mod_eq_of_lt hj]
  have mm := (T.mem m).mp (List.mem_of_getElem? hm)
  exact (T.next R n2 lt hm (by rw [e]; exact hk)).back R mm.1 mm.2
end Mt
set_option Elab.async false
set_option maxRecDepth 100000
set_option maxHeartbeats 2000000
set_option linter.all false
/-! where a row of marks breaks the three cases -/
namespace Mt
def nxt (l : List Int) (k : Int) : Int := l.getD ((l.idxOf k + 1) % l.length) 0
def badB (l : List Int) (k : Int) : Bool := decide (nxt l k ≠ behind l.length (nxt l 0) (l.getLastD 0) k)
def brk (l : List Int) : Option Int := (iota l.length).find? (badB l)
/-- all of 0 .. n - 1, beginning with 0 -/
structure Perm0 (l : List Int) : Prop where
  nd : l.Nodup
  mem : ∀ k, k ∈ l ↔ 0 ≤ k ∧ k < l.length
  hd : l.head? = some 0
theorem idx_at {l : List Int} (nd : l.Nodup) {j : Nat} {k : Int} (h : l[j]? = some k) : l.idxOf k = j := by
  obtain ⟨lt, e⟩ := List.getElem?_eq_some_iff.mp h
  induction l generalizing j with
  | nil => simp at lt
  | cons a l ih =>
    obtain ⟨n1, n2⟩ := List.nodup_cons.mp nd
    cases j with
    | zero =>
      have e : a = k := e
      rw [e]; simp
    | succ j =>
      have lt' : j < l.length := by simpa using lt
      have e' : l[j] = k := e
      have ne : a ≠ k := fun z => n1 (by rw [z, ← e']; exact List.getElem_mem lt')
      have ih' := ih n2 (j := j) (by rw [List.getElem?_eq_getElem lt', e']) lt' e'
      rw [List.idxOf_cons, show (a == k) = false by simpa using ne, cond_false, ih']
theorem nxt_at {l : List Int} (nd : l.Nodup) {j : Nat} {k : Int} (h : l[j]? = some k) : nxt l k = l.getD ((j + 1) % l.length) 0 := by
  unfold nxt
  rw [idx_at nd h]
theorem Perm0.pos {l : List Int} (P : Perm0 l) : 0 < l.length := by
  cases l with
  | nil => have := P.hd; cases this
  | cons a l => exact Nat.succ_pos _
theorem Perm0.zero {l : List Int} (P : Perm0 l) : l[0]? = some 0 := by
  have := P.hd
  rwa [List.head?_eq_getElem?] at this
theorem getD_lt {l : List Int} {j : Nat} (h : j < l.length) : l.getD j 0 = l[j] := by
  rw [List.getD_eq_getElem?_getD, List.getElem?_eq_getElem h]; rfl
theorem last_lt {l : List Int} (h : 0 < l.length) : l.getLastD 0 = l[l.length - 1] := by
  cases l with
  | nil => simp at h
  | cons a l => rw [List.getLastD_eq_getLast?, List.getLast?_eq_getElem?, List.getElem?_eq_getElem (by omega)]; rfl
theorem brk_first {l : List Int} {i : Nat} (hi : i < l.length) (ok : ∀ j : Nat, j < i → badB l j = false) (bad : badB l i = true) : brk l = some (i : Int) := by
  unfold brk iota
  rw [List.find?_map]
  have : (List.range l.length).find? (badB l ∘ Int.ofNat) = some i := by
    rw [List.find?_range_eq_some]
    exact ⟨bad, List.mem_range.mpr hi, fun j hj => by have := ok j hj; simp only [Function.comp]; show (!badB l (j : Int)) = true; rw [this]; rfl⟩
  rw [this]; rfl
theorem brk_none {l : List Int} (ok : ∀ j : Nat, j < l.length → badB l j = false) : brk l = none := by
  unfold brk
  rw [List.find?_eq_none]
  intro k m
  obtain ⟨k0, k1⟩ := iota_mem.mp m
  obtain ⟨n, rfl⟩ := Int.eq_ofNat_of_zero_le k0
  rw [ok n (by omega)]
  simp
theorem Row.perm0 {f : Int → Int} {n : Nat} {l : List Int} {y : Int} (T : Row f n l) (R : Rim f y n) (n0 : 0 < n) : Perm0 l :=
  ⟨T.nodup, fun k => by rw [T.mem, T.len], by rw [List.head?_eq_getElem?]; exact T.zero R n0⟩
theorem Row.whole {f : Int → Int} {n : Nat} {l : List Int} {y : Int} (T : Row f n l) (R : Rim f y n) (n0 : 0 < n) : brk l = none := by
  have nd := T.nodup
  have ln := T.len
  refine brk_none fun k hk => ?_
  rw [ln] at hk
  obtain ⟨j, hj, hjk⟩ := T.at (k := (k : Int)) (by omega) (by omega)
  have z0 := T.zero R n0
  unfold badB
  rw [decide_eq_false_iff_not, Classical.not_not, nxt_at nd hjk, nxt_at nd z0, ln]
  by_cases n1 : n = 1
  · subst n1
    have j0 : j = 0 := by omega
    have k0 : k = 0 := by omega
    subst j0 k0
    have el : l = [0] := by
      cases l with
      | nil => simp at ln
      | cons a r =>
        cases r with
        | nil => cases z0; rfl
        | cons b r => simp at ln
    rw [el]
    decide
  · have n2 : 2 ≤ n := by omega
    have e1 : (0 + 1) % n = 1 := Nat.mod_eq_of_lt (by omega)
    rw [e1]
    have h1 : l[1]? = some l[1] := List.getElem?_eq_getElem (by omega)
    have hB : l[n - 1]? = some (l[n - 1]'(by omega)) := List.getElem?_eq_getElem (by omega)
    obtain ⟨A0, A1, B0, B1, hA, hBB⟩ := T.ends R n2 h1 hB
    have g := gap R A0 A1 B0 B1 hA hBB (k := (k : Int)) (by omega) (by omega)
    have lt : (j + 1) % n < l.length := by rw [ln]; exact Nat.mod_lt _ n0
    have nx := T.next R n2 hj hjk (m := l[(j + 1) % n]) (List.getElem?_eq_getElem lt)
    have e := nx.one R g
    rw [getD_lt lt, getD_lt (show 1 < l.length by omega), last_lt (by omega)]
    have el : l[l.length - 1]'(by omega) = l[n - 1]'(by omega) := by congr 1; omega
    rw [el]
    exact e
/-- ascending by f above a -/
def up (f : Int → Int) : Int → List Int → Bool
  | _, [] => true
  | a, k :: l => if f k ≤ a then false else up f (f k) l
theorem up_pw {f : Int → Int} : ∀ {l : List Int} {a : Int}, up f a l = true → (l.map f).Pairwise (· < ·) ∧ ∀ k ∈ l, a < f k
  | [], _, _ => ⟨List.Pairwise.nil, fun k m => nomatch m⟩
  | k :: l, a, h => by
    unfold up at h
    split at h
    · cases h
    · rename_i c
      obtain ⟨i1, i2⟩ := up_pw h
      refine ⟨List.pairwise_cons.mpr ⟨fun v m => ?_, i1⟩, fun q m => ?_⟩
      · obtain ⟨q, mq, rfl⟩ := List.mem_map.mp m
        exact i2 q mq
      · rcases List.mem_cons.mp m with rfl | m
        · omega
        · have := i2 q m; omega
theorem up_row {x y : Int} {l : List Int} (P : Perm0 l) (s : Stp x y) (h : up (fun k => x * k % y) (-1) l = true) : brk l = none := by
  obtain ⟨pw, _⟩ := up_pw h
  have y0 : 0 < y := by have := s.p0; have := s.pq; omega
  have mnd : (l.map fun k => x * k % y).Nodup := pw.imp fun z e => by omega
  have small : ∀ v ∈ l.map fun k => x * k % y, 0 ≤ v ∧ v < (y.toNat : Nat) := fun v m => by
    obtain ⟨k, _, rfl⟩ := List.mem_map.mp m
    have h1 := Int.emod_nonneg (x * k) (show y ≠ 0 by omega)
    have h2 := Int.emod_lt_of_pos (x * k) y0
    show 0 ≤ x * k % y ∧ x * k % y < _
    omega
  have few := nodup_few mnd small
  rw [List.length_map] at few
  have R : Rim (fun k => x * k % y) y l.length := rim_step y0 (show Nat.gcd x.natAbs y.natAbs = 1 from s.co) (by omega)
  have inj : ∀ {i j : Int}, i ∈ l → j ∈ l → x * i % y = x * j % y → i = j := fun {i j} mi mj e => map_inj mnd mi mj e
  have T : Row (fun k => x * k % y) l.length l := ⟨rfl, P.mem, pw, by
    unfold ord
    have e1 : sortU ((iota l.length).map fun k => x * k % y) = l.map fun k => x * k % y := strict_one (sortU_pw _) pw fun v => by
      rw [sortU_mem, List.mem_map, List.mem_map]
      constructor
      · rintro ⟨k, m, e⟩; exact ⟨k, (P.mem k).mpr (iota_mem.mp m), e⟩
      · rintro ⟨k, m, e⟩; exact ⟨k, iota_mem.mpr ((P.mem k).mp m), e⟩
    rw [e1, List.map_map]
    refine List.map_congr_left fun k m => ?_
    show grp _ _ (x * k % y) = [k]
    unfold grp
    have pwl : ((iota l.length).filter fun j => (x * j % y == x * k % y)).Pairwise (· < ·) := (iota_pw _).filter _
    refine strict_one pwl (List.pairwise_singleton ..) fun v => ?_
    rw [List.mem_filter, List.mem_singleton, beq_iff_eq]
    constructor
    · rintro ⟨mv, e⟩; exact inj ((P.mem v).mpr (iota_mem.mp mv)) m e
    · rintro rfl; exact ⟨iota_mem.mpr ((P.mem v).mp m), rfl⟩⟩
  exact T.whole R P.pos
end Mt
set_option Elab.async false
set_option maxRecDepth 100000
set_option maxHeartbeats 2000000
set_option linter.all false
/-! the lot over points: which steps it holds -/
namespace Mt
theorem fold_out {x : Cut} : ∀ (es : List (Cut × Bool)) (acc : List Cut), (∀ e ∈ es, x.lt e.1 = true) → mem (es.foldl cstep acc) x = mem acc x
  | [], _, _ => rfl
  | e :: es, acc, h => by
    have h0 := h e List.mem_cons_self
    show mem (es.foldl cstep (cstep acc e)) x = _
    rw [fold_out es _ fun c m => h c (List.mem_cons_of_mem _ m)]
    unfold cstep
    split
    · rw [mem_app]
      show xor _ (xor (!x.lt e.1) false) = _
      rw [h0]; simp
    · rfl
theorem mem_in {x : Cut} : ∀ {acc : List Cut}, (∀ c ∈ acc, x.lt c = false) → mem acc x = odd acc.length
  | [], _ => rfl
  | c :: acc, h => by
    show xor (!x.lt c) (mem acc x) = !odd acc.length
    rw [h c List.mem_cons_self, mem_in fun e m => h e (List.mem_cons_of_mem _ m)]
    simp
theorem cstep_odd (acc : List Cut) (e : Cut × Bool) : odd (cstep acc e).length = e.2 := by
  unfold cstep
  split
  · rename_i h
    rw [odd_snoc]
    cases h1 : e.2 <;> cases h2 : odd acc.length <;> simp_all
  · rename_i h
    cases h1 : e.2 <;> cases h2 : odd acc.length <;> simp_all
theorem cstep_in {x : Cut} {acc : List Cut} {e : Cut × Bool} (h : ∀ c ∈ acc, x.lt c = false) (he : x.lt e.1 = false) : ∀ c ∈ cstep acc e, x.lt c = false := fun c m => by
  unfold cstep at m
  split at m
  · rcases List.mem_append.mp m with m | m
    · exact h c m
    · rw [List.mem_singleton.mp m]; exact he
  · exact h c m
theorem ends_out {x : Cut} {acc : List Cut} (h : x.lt last = true) : mem (ends acc) x = mem acc x := by
  unfold ends
  split
  · rw [mem_app]
    show xor _ (xor (!x.lt last) false) = _
    rw [h]; simp
  · rfl
/-- between two points next to each other it is as at their mediant -/
def Steady (f : Int → Int → Bool) : List (Int × Int) → Prop
  | a :: b :: r => (∀ p q, Stp p q → Lss a (p, q) → Lss (p, q) b → f p q = f (med a b).1 (med a b).2) ∧ Steady f (b :: r)
  | _ => True
theorem lss_or {a b : Int × Int} (fa : Frc a) (fb : Frc b) : Lss a b ∨ a = b ∨ Lss b a := by
  rcases Int.lt_trichotomy (a.1 * b.2) (b.1 * a.2) with h | h | h
  · exact .inl h
  · have := Cut.cross fa.d0 fb.d0 fa.co fb.co h
    exact .inr (.inl (Prod.ext this.1 this.2))
  · exact .inr (.inr h)
theorem lss_trans {a b c : Int × Int} (fa : Frc a) (fb : Frc b) (fc : Frc c) (h : Lss a b) (k : Lss b c) : Lss a c := Cut.mul_lt3 fa.d0 fb.d0 fc.d0 h k
theorem lss_irr {a : Int × Int} : ¬ Lss a a := fun h => by unfold Lss at h; omega
theorem Stp.frc {p q : Int} (s : Stp p q) : Frc (p, q) := ⟨s.p0, Int.le_of_lt s.pq, by have := s.p0; have := s.pq; show 0 < q; omega, s.co⟩
theorem at_lt {p q : Int} {a : Int × Int} {b : Bool} (h : Lss (p, q) a) : (at' p q).lt ⟨a.1, a.2, b⟩ = true := lss_lt h false b
theorem at_ge {p q : Int} {a : Int × Int} {b : Bool} (h : Lss a (p, q)) : (at' p q).lt ⟨a.1, a.2, b⟩ = false := by
  have h' : a.1 * q < p * a.2 := h
  unfold at' Cut.lt
  simp only
  rw [if_neg (fun z => by rw [z.1, z.2] at h'; omega), decide_eq_false]
  omega
theorem lot_fold {f : Int → Int → Bool} {p q : Int} (s : Stp p q) : ∀ {r : List (Int × Int)} {a : Int × Int} {acc : List Cut}, (∀ x ∈ a :: r, Frc x) → (a :: r).Pairwise Lss → (a :: r).getLast? = some (1, 1) → Steady f (a :: r) → ¬ Lss (p, q) a → (∀ c ∈ acc, (at' p q).lt c = false) →
    mem (ends ((evs f (a :: r)).foldl cstep acc)) (at' p q) = f p q
  | [], a, acc, v, _, l, _, n, _ => by
    have e : a = (1, 1) := Option.some.inj l
    subst e
    exact absurd (show p * 1 < 1 * q by have := s.pq; omega) n
  | b :: r, a, acc, v, pw, l, st, n, h => by
    have fa := v a List.mem_cons_self
    have fb := v b (List.mem_cons_of_mem _ List.mem_cons_self)
    have pw2 := List.pairwise_cons.mp pw
    have v2 : ∀ x ∈ b :: r, Frc x := fun x m => v x (List.mem_cons_of_mem _ m)
    have l2 : (b :: r).getLast? = some (1, 1) := by rw [← l]; rfl
    have e1ge : (at' p q).lt ⟨a.1, a.2, false⟩ = false := by
      rcases lss_or fa s.frc with k | k | k
      · exact at_ge k
      · rw [k]; exact Cut.irr _
      · exact absurd k n
    have up : Lss (p, q) b → ∀ e ∈ evs f (b :: r), (at' p q).lt e.1 = true := fun hb e me => by
      obtain ⟨_, _, _, i4⟩ := evs_all (f := f) v2 pw2.2 l2
      obtain ⟨x, mx, e1, e2⟩ := i4 e.1 (List.mem_append_left _ (List.mem_map_of_mem me))
      have ec : e.1 = ⟨x.1, x.2, e.1.b⟩ := by
        cases h : e.1 with | mk n d b => rw [h] at e1 e2; simp only at e1 e2; rw [e1, e2]
      rw [ec]
      rcases List.mem_cons.mp mx with rfl | mx
      · exact at_lt hb
      · exact at_lt (lss_trans s.frc fb (v2 x (List.mem_cons_of_mem _ mx)) hb ((List.pairwise_cons.mp pw2.2).1 x mx))
    have h1 := cstep_in (e := (⟨a.1, a.2, false⟩, f a.1 a.2)) h e1ge
    show mem (ends ((evs f (b :: r)).foldl cstep (cstep (cstep acc (⟨a.1, a.2, false⟩, f a.1 a.2)) (⟨a.1, a.2, true⟩, f (med a b).1 (med a b).2)))) (at' p q) = f p q
    rcases lss_or fa s.frc with k | k | k
    · have h2 := cstep_in (e := (⟨a.1, a.2, true⟩, f (med a b).1 (med a b).2)) h1 (at_ge k)
      by_cases hb : Lss (p, q) b
      · rw [ends_out s.lt, fold_out _ _ (up hb), mem_in h2, cstep_odd]
        exact (st.1 p q s k hb).symm
      · exact lot_fold s v2 pw2.2 l2 st.2 hb h2
    · have hb : Lss (p, q) b := by rw [← k]; exact pw2.1 b List.mem_cons_self
      have lt2 : (at' p q).lt ⟨a.1, a.2, true⟩ = true := by
        rw [k]
        unfold at' Cut.lt
        simp
      rw [ends_out s.lt, fold_out _ _ (up hb)]
      have e3 := fold_out (x := at' p q) [(⟨a.1, a.2, true⟩, f (med a b).1 (med a b).2)] (cstep acc (⟨a.1, a.2, false⟩, f a.1 a.2)) (fun e m => by rw [List.mem_singleton.mp m]; exact lt2)
      rw [show (cstep (cstep acc (⟨a.1, a.2, false⟩, f a.1 a.2)) (⟨a.1, a.2, true⟩, f (med a b).1 (med a b).2)) = [((⟨a.1, a.2, true⟩ : Cut), f (med a b).1 (med a b).2)].foldl cstep (cstep acc (⟨a.1, a.2, false⟩, f a.1 a.2)) from rfl, e3, mem_in h1, cstep_odd, k]
    · exact absurd k n
/-- the lot over points holds a step just if it fits -/
theorem mem_lot {f : Int → Int → Bool} {ps : List (Int × Int)} (h : Pts ps) (st : Steady f ps) {p q : Int} (s : Stp p q) : mem (lw (evs f ps)) (at' p q) = f p q := by
  cases ps with
  | nil => exact absurd h.hd (by simp)
  | cons a r =>
    have e : a = (0, 1) := Option.some.inj h.hd
    exact lot_fold s h.v h.asc h.ls st (fun z => by rw [e] at z; have z' : p * 1 < 0 * q := z; have := s.p0; omega) (fun c m => nomatch m)
end Mt
set_option Elab.async false
set_option maxRecDepth 100000
set_option maxHeartbeats 2000000
set_option linter.all false
/-! between two neighbouring points marks are met alike -/
namespace Mt
/-- whole turns of d by p/q are reached as those by u/v -/
def Turns (p q u v d : Int) : Prop := ∀ m : Int, m * q ≤ p * d ↔ m * v ≤ u * d
theorem Turns.fl {p q u v d : Int} (q0 : 0 < q) (v0 : 0 < v) (h : Turns p q u v d) : p * d / q = u * d / v := by
  have h1 : p * d / q ≤ u * d / v := (Int.le_ediv_iff_mul_le v0).mpr ((h _).mp ((Int.le_ediv_iff_mul_le q0).mp (Int.le_refl _)))
  have h2 : u * d / v ≤ p * d / q := (Int.le_ediv_iff_mul_le q0).mpr ((h _).mpr ((Int.le_ediv_iff_mul_le v0).mp (Int.le_refl _)))
  omega
theorem rest_le {p q d e : Int} : p * d % q ≤ p * e % q ↔ (p * e / q - p * d / q) * q ≤ p * (e - d) := by
  have a := Int.emod_def (p * d) q
  have b := Int.emod_def (p * e) q
  rw [Int.sub_mul, Int.mul_sub, a, b, Int.mul_comm (p * e / q), Int.mul_comm (p * d / q)]
  omega
theorem Turns.le {p q u v d e : Int} (q0 : 0 < q) (v0 : 0 < v) (hd : Turns p q u v d) (he : Turns p q u v e) (h : Turns p q u v (e - d)) : p * d % q ≤ p * e % q ↔ u * d % v ≤ u * e % v := by
  rw [rest_le, rest_le, hd.fl q0 v0, he.fl q0 v0]
  exact h _
theorem Turns.zero {p q u v : Int} (q0 : 0 < q) (v0 : 0 < v) : Turns p q u v 0 := fun m => by
  rw [Int.mul_zero, Int.mul_zero]
  constructor <;> intro h
  · have : m ≤ 0 := by
      rcases Int.lt_or_le 0 m with k | k
      · have := Int.mul_pos k q0; omega
      · exact k
    exact Int.mul_nonpos_of_nonpos_of_nonneg this (Int.le_of_lt v0)
  · have : m ≤ 0 := by
      rcases Int.lt_or_le 0 m with k | k
      · have := Int.mul_pos k v0; omega
      · exact k
    exact Int.mul_nonpos_of_nonpos_of_nonneg this (Int.le_of_lt q0)
/-- both fractions lie between t / c and t' / c, next to each other among multiples of 1 / k -/
structure Btw (c t t' p q : Int) : Prop where
  q0 : 0 < q
  lo : t * q < p * c
  hi : p * c < t' * q
  p0 : 0 ≤ p
  pq : p < q
theorem Btw.side {c t t' p q : Int} {k : Nat} (B : Btw c t t' p q) (c0 : 0 < c) (k0 : 0 < k) (j : Int) (hj : j * (k : Int) = c) (gap : ∀ m : Int, 0 ≤ m → m < k → m * j ≤ t ∨ t' ≤ m * j) (m : Int) :
    (m * q < (k : Int) * p ↔ (m < 0 ∨ (m < k ∧ m * j ≤ t))) ∧ m * q ≠ (k : Int) * p := by
  have kp : 0 ≤ (k : Int) * p := Int.mul_nonneg (by omega) B.p0
  rcases Int.lt_or_le m 0 with h | h
  · have : m * q < 0 := Int.mul_neg_of_neg_of_pos h B.q0
    exact ⟨⟨fun _ => .inl h, fun _ => by omega⟩, by omega⟩
  · rcases Int.lt_or_le m k with h2 | h2
    · have mc : m * j * (k : Int) = m * c := by rw [Int.mul_assoc, hj]
      rcases gap m h h2 with g | g
      · have e1 : m * j * k ≤ t * k := Int.mul_le_mul_of_nonneg_right g (by omega)
        have e2 : t * k * q < k * p * c := by
          have := Int.mul_lt_mul_of_pos_right B.lo (show 0 < (k : Int) by omega)
          have a : t * q * k = t * k * q := by rw [Int.mul_assoc, Int.mul_comm q, ← Int.mul_assoc]
          have b : p * c * k = k * p * c := by rw [Int.mul_comm (p * c), ← Int.mul_assoc]
          omega
        have e3 : m * c * q ≤ t * k * q := by rw [← mc]; exact Int.mul_le_mul_of_nonneg_right e1 (Int.le_of_lt B.q0)
        have e4 : m * q * c < k * p * c := by
          have a : m * c * q = m * q * c := by rw [Int.mul_assoc, Int.mul_comm c, ← Int.mul_assoc]
          omega
        have lt := Int.lt_of_mul_lt_mul_right e4 (Int.le_of_lt c0)
        exact ⟨⟨fun _ => .inr ⟨h2, g⟩, fun _ => lt⟩, by omega⟩
      · have e1 : t' * k ≤ m * j * k := Int.mul_le_mul_of_nonneg_right g (by omega)
        have e2 : k * p * c < t' * k * q := by
          have := Int.mul_lt_mul_of_pos_right B.hi (show 0 < (k : Int) by omega)
          have a : t' * q * k = t' * k * q := by rw [Int.mul_assoc, Int.mul_comm q, ← Int.mul_assoc]
          have b : p * c * k = k * p * c := by rw [Int.mul_comm (p * c), ← Int.mul_assoc]
          omega
        have e3 : t' * k * q ≤ m * c * q := by rw [← mc]; exact Int.mul_le_mul_of_nonneg_right e1 (Int.le_of_lt B.q0)
        have e4 : k * p * c < m * q * c := by
          have a : m * c * q = m * q * c := by rw [Int.mul_assoc, Int.mul_comm c, ← Int.mul_assoc]
          omega
        have lt := Int.lt_of_mul_lt_mul_right e4 (Int.le_of_lt c0)
        have no : ¬ m * j ≤ t := fun z => by
          have e5 : m * j * k ≤ t * k := Int.mul_le_mul_of_nonneg_right z (by omega)
          have e6 : t * k * q < k * p * c := by
            have := Int.mul_lt_mul_of_pos_right B.lo (show 0 < (k : Int) by omega)
            have a : t * q * k = t * k * q := by rw [Int.mul_assoc, Int.mul_comm q, ← Int.mul_assoc]
            have b : p * c * k = k * p * c := by rw [Int.mul_comm (p * c), ← Int.mul_assoc]
            omega
          have e7 : m * c * q ≤ t * k * q := by rw [← mc]; exact Int.mul_le_mul_of_nonneg_right e5 (Int.le_of_lt B.q0)
          have a : m * c * q = m * q * c := by rw [Int.mul_assoc, Int.mul_comm c, ← Int.mul_assoc]
          omega
        exact ⟨⟨fun z => by omega, fun z => by rcases z with z | z <;> omega⟩, by omega⟩
    · have e1 : (k : Int) * p < k * q := Int.mul_lt_mul_of_pos_left B.pq (by omega)
      have e2 : (k : Int) * q ≤ m * q := Int.mul_le_mul_of_nonneg_right h2 (Int.le_of_lt B.q0)
      exact ⟨⟨fun z => by omega, fun z => by omega⟩, by omega⟩
theorem Btw.turns {c t t' p q u v : Int} {k : Nat} (B : Btw c t t' p q) (C : Btw c t t' u v) (c0 : 0 < c) (k0 : 0 < k) (j : Int) (hj : j * (k : Int) = c) (gap : ∀ m : Int, 0 ≤ m → m < k → m * j ≤ t ∨ t' ≤ m * j) {d : Int} (hd : d.natAbs = k) : Turns p q u v d := fun m => by
  rcases Int.natAbs_eq d with e | e
  · rw [hd] at e
    subst e
    have a := B.side c0 k0 j hj gap m
    have b := C.side c0 k0 j hj gap m
    rw [Int.mul_comm p, Int.mul_comm u]
    constructor <;> intro h
    · have := b.1.mpr (a.1.mp (by have := a.2; omega)); omega
    · have := a.1.mpr (b.1.mp (by have := b.2; omega)); omega
  · rw [hd] at e
    subst e
    have a := B.side c0 k0 j hj gap (-m)
    have b := C.side c0 k0 j hj gap (-m)
    rw [Int.mul_neg, Int.mul_neg, Int.mul_comm p, Int.mul_comm u]
    rw [Int.neg_mul] at a b
    constructor <;> intro h
    · by_cases z : -(m * v) < k * u
      · have := a.1.mpr (b.1.mp z); omega
      · omega
    · by_cases z : -(m * q) < k * p
      · have := b.1.mpr (a.1.mp z); omega
      · omega
end Mt
namespace My
open Mt
/-- in which order its marks are met, by f -/
def met (f : Int → Int) : Int → List (List Int) → Bool
  | _, [] => true
  | a, g :: gs => match g with
    | [] => true
    | m :: ms => if f m ≤ a ∨ (m :: ms).any (fun k => decide (f k ≠ f m)) = true then false else met f (f m) gs
def isMet (gs : List (List Int)) (x y : Int) : Bool := met (fun k => (x * (k - gs.flatten.headD 0)).fmod y) (-1) gs
theorem met_alike {f g : Int → Int} : ∀ {gs : List (List Int)} {a b : Int}, (∀ x ∈ gs.flatten, ∀ y ∈ gs.flatten, f x ≤ f y ↔ g x ≤ g y) → (∀ x ∈ gs.flatten, f x ≤ a ↔ g x ≤ b) → met f a gs = met g b gs
  | [], _, _, _, _ => rfl
  | [] :: gs, _, _, _, _ => rfl
  | (m :: ms) :: gs, a, b, h, k => by
    have mm : m ∈ ((m :: ms) :: gs).flatten := by rw [List.flatten_cons]; exact List.mem_append_left _ List.mem_cons_self
    have ins : ∀ {x}, x ∈ m :: ms → x ∈ ((m :: ms) :: gs).flatten := fun hx => by rw [List.flatten_cons]; exact List.mem_append_left _ hx
    have out : ∀ {x}, x ∈ gs.flatten → x ∈ ((m :: ms) :: gs).flatten := fun hx => by rw [List.flatten_cons]; exact List.mem_append_right _ hx
    have e : (f m ≤ a ∨ (m :: ms).any (fun k => decide (f k ≠ f m)) = true) ↔ (g m ≤ b ∨ (m :: ms).any (fun k => decide (g k ≠ g m)) = true) := by
      rw [k m mm]
      have q : (m :: ms).any (fun k => decide (f k ≠ f m)) = (m :: ms).any (fun k => decide (g k ≠ g m)) := by
        rw [Bool.eq_iff_iff, List.any_eq_true, List.any_eq_true]
        constructor <;> rintro ⟨x, mx, hx⟩ <;> refine ⟨x, mx, decide_eq_true ?_⟩ <;> have hx := of_decide_eq_true hx <;> intro z
        · exact hx (Int.le_antisymm ((h x (ins mx) m mm).mpr (by omega)) ((h m mm x (ins mx)).mpr (by omega)))
        · exact hx (Int.le_antisymm ((h x (ins mx) m mm).mp (by omega)) ((h m mm x (ins mx)).mp (by omega)))
      rw [q]
    rw [met, met]
    simp only [e]
    split
    · rfl
    · exact met_alike (fun x hx y hy => h x (out hx) y (out hy)) (fun x hx => h x (out hx) m mm)
/-- the differences of its marks are among these numbers -/
def Within (gs : List (List Int)) (ns : List Nat) : Prop := ∀ x ∈ gs.flatten, ∀ y ∈ gs.flatten, x ≠ y → (x - y).natAbs ∈ ns
theorem isMet_alike {gs : List (List Int)} {ns : List Nat} {c t t' p q u v : Int} (W : Within gs ns) (ne : gs.flatten ≠ []) (B : Btw c t t' p q) (C : Btw c t t' u v) (c0 : 0 < c) (hk : ∀ k ∈ ns, 0 < k ∧ ∃ j : Int, j * (k : Int) = c ∧ ∀ m : Int, 0 ≤ m → m < k → m * j ≤ t ∨ t' ≤ m * j) : isMet gs p q = isMet gs u v := by
  have T : ∀ x ∈ gs.flatten, ∀ y ∈ gs.flatten, Turns p q u v (x - y) := fun x hx y hy => by
    by_cases e : x = y
    · subst e
      rw [Int.sub_self]
      exact Turns.zero B.q0 C.q0
    · obtain ⟨k0, j, hj, gap⟩ := hk _ (W x hx y hy e)
      exact B.turns C c0 k0 j hj gap rfl
  have hs : gs.flatten.headD 0 ∈ gs.flatten := by
    cases h : gs.flatten with
    | nil => exact absurd h ne
    | cons a l => exact List.mem_cons_self
  unfold isMet
  refine met_alike (fun x hx y hy => ?_) (fun x hx => ?_)
  · rw [Int.fmod_eq_emod_of_nonneg _ (Int.le_of_lt B.q0), Int.fmod_eq_emod_of_nonneg _ (Int.le_of_lt B.q0), Int.fmod_eq_emod_of_nonneg _ (Int.le_of_lt C.q0), Int.fmod_eq_emod_of_nonneg _ (Int.le_of_lt C.q0)]
    refine (T x hx _ hs).le B.q0 C.q0 (T y hy _ hs) ?_
    rw [show y - gs.flatten.headD 0 - (x - gs.flatten.headD 0) = y - x by omega]
    exact T y hy x hx
  · rw [Int.fmod_eq_emod_of_nonneg _ (Int.le_of_lt B.q0), Int.fmod_eq_emod_of_nonneg _ (Int.le_of_lt C.q0)]
    have h1 := Int.emod_nonneg (p * (x - gs.flatten.headD 0)) (show q ≠ 0 by have := B.q0; omega)
    have h2 := Int.emod_nonneg (u * (x - gs.flatten.headD 0)) (show v ≠ 0 by have := C.q0; omega)
    constructor <;> intro z <;> omega
/-- a fraction of c in lowest terms beside another one -/
theorem low_lt {t c p q : Int} (c0 : 0 < c) (h : Lss (lowQ t c) (p, q)) : t * q < p * c := by
  obtain ⟨g, g0, e1, e2, _, _⟩ := lowQ_ex (a := t) c0
  have h' : (lowQ t c).1 * q < p * (lowQ t c).2 := h
  have k := Int.mul_lt_mul_of_pos_right h' g0
  have a : (lowQ t c).1 * q * g = t * q := by rw [Int.mul_assoc, Int.mul_comm q, ← Int.mul_assoc, ← e1]
  have b : p * (lowQ t c).2 * g = p * c := by rw [Int.mul_assoc, ← e2]
  omega
theorem low_gt {t c p q : Int} (c0 : 0 < c) (h : Lss (p, q) (lowQ t c)) : p * c < t * q := by
  obtain ⟨g, g0, e1, e2, _, _⟩ := lowQ_ex (a := t) c0
  have h' : p * (lowQ t c).2 < (lowQ t c).1 * q := h
  have k := Int.mul_lt_mul_of_pos_right h' g0
  have a : (lowQ t c).1 * q * g = t * q := by rw [Int.mul_assoc, Int.mul_comm q, ← Int.mul_assoc, ← e1]
  have b : p * (lowQ t c).2 * g = p * c := by rw [Int.mul_assoc, ← e2]
  omega
theorem med_lss {a b : Int × Int} (fa : Frc a) (fb : Frc b) (l : Lss a b) : Lss a ((med a b).1, (med a b).2) ∧ Lss ((med a b).1, (med a b).2) b := by
  have d0 := fa.d0; have e0 := fb.d0
  obtain ⟨g, g0, e1, e2, b0, co⟩ := lowQ_ex (a := a.1 + b.1) (b := a.2 + b.2) (by omega)
  have l' : a.1 * b.2 < b.1 * a.2 := l
  have x : (lowQ (a.1 + b.1) (a.2 + b.2)).1 = (med a b).1 := rfl
  have y : (lowQ (a.1 + b.1) (a.2 + b.2)).2 = (med a b).2 := rfl
  rw [x] at e1; rw [y] at e2
  constructor
  · show a.1 * (med a b).2 < (med a b).1 * a.2
    have k : a.1 * (med a b).2 * g < (med a b).1 * a.2 * g := by
      have p1 : a.1 * (med a b).2 * g = a.1 * a.2 + a.1 * b.2 := by rw [Int.mul_assoc, ← e2, Int.mul_add]
      have p2 : (med a b).1 * a.2 * g = a.1 * a.2 + b.1 * a.2 := by rw [Int.mul_assoc, Int.mul_comm a.2, ← Int.mul_assoc, ← e1, Int.add_mul]
      omega
    exact Int.lt_of_mul_lt_mul_right k (Int.le_of_lt g0)
  · show (med a b).1 * b.2 < b.1 * (med a b).2
    have k : (med a b).1 * b.2 * g < b.1 * (med a b).2 * g := by
      have p1 : b.1 * (med a b).2 * g = b.1 * a.2 + b.1 * b.2 := by rw [Int.mul_assoc, ← e2, Int.mul_add]
      have p2 : (med a b).1 * b.2 * g = a.1 * b.2 + b.1 * b.2 := by rw [Int.mul_assoc, Int.mul_comm b.2, ← Int.mul_assoc, ← e1, Int.add_mul]
      omega
    exact Int.lt_of_mul_lt_mul_right k (Int.le_of_lt g0)
theorem steady_map {f : Int → Int → Bool} {c : Int} : ∀ {l : List Int}, (∀ A t t' B, l = A ++ t :: t' :: B → ∀ p q, Stp p q → Lss (lowQ t c) (p, q) → Lss (p, q) (lowQ t' c) → f p q = f (med (lowQ t c) (lowQ t' c)).1 (med (lowQ t c) (lowQ t' c)).2) → Steady f (l.map fun t => lowQ t c)
  | [], _ => trivial
  | [_], _ => trivial
  | t :: t' :: l, h => ⟨h [] t t' l rfl, steady_map (l := t' :: l) fun A s s' B e => h (t :: A) s s' B (by rw [e]; rfl)⟩
/-- between its points a row is met steadily -/
theorem met_steady {gs : List (List Int)} {ns : List Nat} {c : Nat} (W : Within gs ns) (ne : gs.flatten ≠ []) (c0 : 0 < c) (hd : ∀ k ∈ ns, 0 < k ∧ k ∣ c) : Steady (isMet gs) (wpts c ns) := by
  have P := wpts_pts c0 (fun k m => (hd k m).2)
  have ci : 0 < (c : Int) := by omega
  unfold wpts at P ⊢
  refine steady_map fun A t t' B e p q s l1 l2 => ?_
  have pw := sortU_pw (0 :: (c : Int) :: tops c ns)
  rw [e] at pw
  have mem : ∀ x, x ∈ (0 :: (c : Int) :: tops c ns) → x ∈ A ++ t :: t' :: B := fun x m => by rw [← e]; exact sortU_mem.mpr m
  have pt : ∀ x ∈ A ++ t :: t' :: B, Frc (lowQ x c) := fun x m => P.v _ (List.mem_map.mpr ⟨x, by rw [e]; exact m, rfl⟩)
  have fa := pt t (by simp)
  have fb := pt t' (by simp)
  have lt : Lss (lowQ t c) (lowQ t' c) := lss_trans fa s.frc fb l1 l2
  obtain ⟨m1, m2⟩ := med_lss fa fb lt
  have sm := (med_stp fa fb lt).1
  have gap : ∀ k ∈ ns, 0 < k ∧ ∃ j : Int, j * (k : Int) = c ∧ ∀ m : Int, 0 ≤ m → m < k → m * j ≤ t ∨ t' ≤ m * j := fun k mk => by
    obtain ⟨k0, dv⟩ := hd k mk
    refine ⟨k0, ((c / k : Nat) : Int), by exact_mod_cast Nat.div_mul_cancel dv, fun m h0 h1 => ?_⟩
    have mt : m * ((c / k : Nat) : Int) ∈ A ++ t :: t' :: B := by
      refine mem _ (List.mem_cons_of_mem _ (List.mem_cons_of_mem _ (List.mem_flatMap.mpr ⟨k, mk, List.mem_map.mpr ⟨m.toNat, List.mem_range.mpr (by omega), ?_⟩⟩)))
      rw [Int.mul_comm]
      congr 1
      omega
    obtain ⟨p1, p2, p3⟩ := List.pairwise_append.mp pw
    obtain ⟨p4, p5⟩ := List.pairwise_cons.mp p2
    obtain ⟨p6, p7⟩ := List.pairwise_cons.mp p5
    rcases List.mem_append.mp mt with a | a
    · have := p3 _ a t List.mem_cons_self; exact .inl (Int.le_of_lt this)
    · rcases List.mem_cons.mp a with a | a
      · exact .inl (Int.le_of_eq a)
      · rcases List.mem_cons.mp a with a | a
        · exact .inr (Int.le_of_eq a.symm)
        · exact .inr (Int.le_of_lt (p6 _ a))
  have q0 : 0 < q := by have := s.p0; have := s.pq; omega
  have v0 : 0 < (med (lowQ t c) (lowQ t' c)).2 := by have := sm.p0; have := sm.pq; omega
  exact isMet_alike W ne ⟨q0, low_lt ci l1, low_gt ci l2, s.p0, s.pq⟩ ⟨v0, low_lt ci m1, low_gt ci m2, sm.p0, sm.pq⟩ ci gap
/-- the differences of unlike marks -/
def diffs (ms : List Int) : List Int := ms.flatMap fun x => (ms.filter fun y => decide (x ≠ y)).map fun y => ((x - y).natAbs : Int)
theorem diffs_mem {ms : List Int} {v : Int} : v ∈ diffs ms ↔ ∃ x ∈ ms, ∃ y ∈ ms, x ≠ y ∧ v = ((x - y).natAbs : Int) := by
  unfold diffs
  rw [List.mem_flatMap]
  constructor
  · rintro ⟨x, hx, h⟩
    obtain ⟨y, hy, e⟩ := List.mem_map.mp h
    obtain ⟨m, ne⟩ := List.mem_filter.mp hy
    exact ⟨x, hx, y, m, of_decide_eq_true ne, e.symm⟩
  · rintro ⟨x, hx, y, hy, ne, e⟩
    exact ⟨x, hx, List.mem_map.mpr ⟨y, List.mem_filter.mpr ⟨hy, decide_eq_true ne⟩, e.symm⟩⟩
def waysOf (gs : List (List Int)) : List Nat := (sortU (diffs gs.flatten)).map Int.toNat
/-- the lot of the steps that meet a row so -/
def lotOf (gs : List (List Int)) : List Cut := lw (evs (isMet gs) (wpts (lcmA (waysOf gs)) (waysOf gs)))
/-- all numbers up to 40 divide it -/
def L40 : Nat := 5342931457063200
/-- a row that may stand: what the mathematics wants of it -/
structure RowM (gs : List (List Int)) : Prop where
  ne : gs.flatten ≠ []
  rng : ∀ m ∈ gs.flatten, 0 ≤ m ∧ m ≤ 40
theorem ways_ok {gs : List (List Int)} (R : RowM gs) : ∀ k ∈ waysOf gs, (0 < k ∧ k ≤ 40) ∧ k ∣ L40 := fun k m => by
  obtain ⟨z, mz, rfl⟩ := List.mem_map.mp m
  obtain ⟨x, hx, y, hy, ne, e⟩ := diffs_mem.mp (sortU_mem.mp mz)
  have a := R.rng x hx; have b := R.rng y hy
  have all : ∀ n : Fin 41, 1 ≤ n.val → n.val ∣ L40 := by decide +kernel
  rw [e, Int.toNat_natCast]
  exact ⟨⟨by omega, by omega⟩, all ⟨(x - y).natAbs, by omega⟩ (by show 1 ≤ (x - y).natAbs; omega)⟩
theorem ways_lcm {gs : List (List Int)} (R : RowM gs) : 0 < lcmA (waysOf gs) ∧ (∀ k ∈ waysOf gs, k ∣ lcmA (waysOf gs)) := by
  have dl : lcmA (waysOf gs) ∣ L40 := (lcm_fold (waysOf gs) 1).2.2 L40 (Nat.one_dvd _) fun q m => (ways_ok R q m).2
  exact ⟨Nat.pos_of_dvd_of_pos dl (by decide), (lcm_fold (waysOf gs) 1).2.1⟩
theorem lot_pts {gs : List (List Int)} (R : RowM gs) : Pts (wpts (lcmA (waysOf gs)) (waysOf gs)) := wpts_pts (ways_lcm R).1 (ways_lcm R).2
theorem lot_steady {gs : List (List Int)} (R : RowM gs) : Steady (isMet gs) (wpts (lcmA (waysOf gs)) (waysOf gs)) :=
  met_steady (fun x hx y hy ne => List.mem_map.mpr ⟨_, sortU_mem.mpr (diffs_mem.mpr ⟨x, hx, y, hy, ne, rfl⟩), Int.toNat_natCast _⟩) R.ne (ways_lcm R).1 fun k m => ⟨(ways_ok R k m).1.1, (ways_lcm R).2 k m⟩
/-- it holds a step just if this meets the row so -/
theorem lot_mem {gs : List (List Int)} (R : RowM gs) {p q : Int} (s : Stp p q) : mem (lotOf gs) (at' p q) = isMet gs p q := mem_lot (lot_pts R) (lot_steady R) s
end My
set_option Elab.async false
set_option linter.all false
set_option maxRecDepth 100000
set_option maxHeartbeats 1000000
/-! sightings: where they may change, and whether they are right -/
namespace Mt
open My
/-- the unlike fractions with these tops, and 0 and 1 -/
def gpts (c : Nat) (ts : List Int) : List (Int × Int) := (sortU (0 :: (c : Int) :: ts)).map fun t => lowQ t c
theorem gpts_wpts (c : Nat) (ns : List Nat) : wpts c ns = gpts c (tops c ns) := rfl
theorem gpts_pts {c : Nat} {ts : List Int} (c0 : 0 < c) (ht : ∀ t ∈ ts, 0 ≤ t ∧ t ≤ (c : Int)) : Pts (gpts c ts) := by
  have pw := sortU_pw (0 :: (c : Int) :: ts)
  have mem : ∀ t, t ∈ sortU (0 :: (c : Int) :: ts) ↔ t ∈ (0 :: (c : Int) :: ts) := fun t => sortU_mem
  have hb : ∀ t ∈ sortU (0 :: (c : Int) :: ts), 0 ≤ t ∧ t ≤ (c : Int) := fun t m => by
    rcases List.mem_cons.mp ((mem t).mp m) with rfl | m
    · omega
    · rcases List.mem_cons.mp m with rfl | m
      · omega
      · exact ht t m
  obtain ⟨h1, h2⟩ := sorted_ends pw ((mem 0).mpr List.mem_cons_self) ((mem c).mpr (List.mem_cons_of_mem _ List.mem_cons_self)) hb
  have ci : 0 < (c : Int) := by omega
  unfold gpts
  refine ⟨?_, ?_, fun p m => ?_, ?_⟩
  · rw [List.head?_map, h1]
    show some (lowQ 0 c) = _
    unfold lowQ
    rw [show Nat.gcd (0 : Int).natAbs (c : Int).natAbs = c by simp]
    rw [Int.zero_ediv, Int.ediv_self (by omega)]
  · rw [List.getLast?_map, h2]
    show some (lowQ c c) = _
    unfold lowQ
    rw [show Nat.gcd (c : Int).natAbs (c : Int).natAbs = c by simp]
    rw [Int.ediv_self (by omega)]
  · obtain ⟨t, mt, rfl⟩ := List.mem_map.mp m
    obtain ⟨t0, t1⟩ := hb t mt
    obtain ⟨g, g0, e1, e2, b0, co⟩ := lowQ_ex (a := t) ci
    refine ⟨?_, ?_, b0, co⟩
    · rcases Int.lt_or_le (lowQ t c).1 0 with h | h
      · have := Int.mul_neg_of_neg_of_pos h g0; omega
      · exact h
    · have : (lowQ t c).1 * g ≤ (lowQ t c).2 * g := by omega
      exact Int.le_of_mul_le_mul_right this g0
  · rw [List.pairwise_map]
    exact pw.imp fun h => lowQ_lss ci h
theorem gpts_small {c : Nat} {ts : List Int} (c0 : 0 < c) (c1 : c < 2 ^ 62) (ht : ∀ t ∈ ts, 0 ≤ t ∧ t ≤ (c : Int)) : ∀ p ∈ gpts c ts, p.1.natAbs < 2 ^ 62 ∧ p.2.natAbs < 2 ^ 62 := fun p m => by
  have f := (gpts_pts c0 ht).v p m
  obtain ⟨t, _, rfl⟩ := List.mem_map.mp m
  obtain ⟨g, g0, _, e2, b0, _⟩ := lowQ_ex (a := t) (show 0 < (c : Int) by omega)
  have le := f.le; have n0 := f.n0
  have : (lowQ t c).2 * 1 ≤ (lowQ t c).2 * g := Int.mul_le_mul_of_nonneg_left (by omega) (by omega)
  omega
theorem gpts_len {c : Nat} {ts : List Int} : (gpts c ts).length ≤ ts.length + 2 := by
  unfold gpts
  rw [List.length_map]
  have := sortU_len (0 :: (c : Int) :: ts)
  have e : (0 :: (c : Int) :: ts).length = ts.length + 2 := rfl
  omega
/-- a mark -/
def Mrk (m : Int) : Prop := 0 ≤ m ∧ m ≤ 40
/-- how far it is from one mark round to another one, over the bottom of the step -/
def wy (x y s m : Int) : Int := x * (m - s) % y
inductive Sgt where
  | turn (s a b : Int)
  | on (a b : Int)
  | within (a b : Int) (p q : Int × Int)
/-- a right one -/
def Sgt.Ok : Sgt → Prop
  | .turn s a b => Mrk s ∧ Mrk a ∧ Mrk b ∧ s ≠ a ∧ s ≠ b ∧ a ≠ b
  | .on a b => Mrk a ∧ Mrk b ∧ a ≠ b
  | .within a b p q => Mrk a ∧ Mrk b ∧ a ≠ b ∧ Frc p ∧ Frc q ∧ p.2 ≤ 60 ∧ q.2 ≤ 60 ∧ Lss p q
/-- whether it is right for a step -/
def Sgt.fits : Sgt → Int → Int → Bool
  | .turn s a b, x, y => decide (0 < wy x y s a) && decide (wy x y s a < wy x y s b)
  | .on a b, x, y => decide (wy x y a b = 0)
  | .within a b p q, x, y => decide (p.1 * y < wy x y a b * p.2) && decide (wy x y a b * q.2 < q.1 * y)
/-- the numbers of which whole multiples make it change -/
def Sgt.ways : Sgt → List Nat
  | .turn s a b => [(a - s).natAbs, (b - s).natAbs, (b - a).natAbs]
  | .on a b => [(b - a).natAbs]
  | .within a b _ _ => [(b - a).natAbs]
def endsW (a b : Int) (p q : Int × Int) : List Int :=
  let c := ((Nat.lcm p.2.toNat q.2.toNat : Nat) : Int)
  let es := [p.1 * (c / p.2), q.1 * (c / q.2)]
  if b < a then es.map fun e => c - e else es
def topsW (a b : Int) (p q : Int × Int) : List Int :=
  (endsW a b p q).flatMap fun e => (List.range (b - a).natAbs).map fun (j : Nat) => e + (j : Int) * ((Nat.lcm p.2.toNat q.2.toNat : Nat) : Int)
def Sgt.pts : Sgt → List (Int × Int)
  | .within a b p q => gpts ((b - a).natAbs * Nat.lcm p.2.toNat q.2.toNat) (topsW a b p q)
  | g => wpts (lcmA g.ways) g.ways
/-- the lot of the steps for which it is right -/
def Sgt.lot (g : Sgt) : List Cut := lw (evs g.fits g.pts)
theorem dv40 : ∀ n : Nat, 1 ≤ n → n ≤ 40 → n ∣ L40 := by
  have all : ∀ n : Fin 41, 1 ≤ n.val → n.val ∣ L40 := by decide +kernel
  exact fun n h k => all ⟨n, by omega⟩ h
theorem ways40 {g : Sgt} (h : g.Ok) : ∀ k ∈ g.ways, 0 < k ∧ k ≤ 40 := by
  cases g with
  | turn s a b =>
    obtain ⟨⟨h1, h2⟩, ⟨h3, h4⟩, ⟨h5, h6⟩, h7, h8, h9⟩ := h
    intro k m
    simp only [Sgt.ways, List.mem_cons, List.mem_nil_iff, or_false] at m
    omega
  | on a b =>
    obtain ⟨⟨h1, h2⟩, ⟨h3, h4⟩, h7⟩ := h
    intro k m
    simp only [Sgt.ways, List.mem_cons, List.mem_nil_iff, or_false] at m
    omega
  | within a b p q =>
    obtain ⟨⟨h1, h2⟩, ⟨h3, h4⟩, h7, _⟩ := h
    intro k m
    simp only [Sgt.ways, List.mem_cons, List.mem_nil_iff, or_false] at m
    omega
theorem lcm40 {ns : List Nat} (h : ∀ k ∈ ns, 0 < k ∧ k ≤ 40) : 0 < lcmA ns ∧ lcmA ns ≤ L40 ∧ ∀ k ∈ ns, k ∣ lcmA ns := by
  have d := (lcm_fold ns 1).2.2 L40 (Nat.one_dvd _) fun k m => dv40 k (h k m).1 (h k m).2
  have L0 : 0 < L40 := by decide
  exact ⟨Nat.pos_of_dvd_of_pos d L0, Nat.le_of_dvd L0 d, (lcm_fold ns 1).2.1⟩
/-- of the ends of an arc -/
structure Arc (a b : Int) (p q : Int × Int) : Prop where
  n0 : 0 < (b - a).natAbs
  n40 : (b - a).natAbs ≤ 40
  c0 : 0 < Nat.lcm p.2.toNat q.2.toNat
  c1 : Nat.lcm p.2.toNat q.2.toNat ≤ 3600
  dp : p.2 ∣ ((Nat.lcm p.2.toNat q.2.toNat : Nat) : Int)
  dq : q.2 ∣ ((Nat.lcm p.2.toNat q.2.toNat : Nat) : Int)
  es : ∀ e ∈ endsW a b p q, 0 ≤ e ∧ e ≤ ((Nat.lcm p.2.toNat q.2.toNat : Nat) : Int)
  ts : ∀ t ∈ topsW a b p q, 0 ≤ t ∧ t ≤ (((b - a).natAbs * Nat.lcm p.2.toNat q.2.toNat : Nat) : Int)
theorem end_in {p : Int × Int} (f : Frc p) {c : Int} (c0 : 0 < c) (d : p.2 ∣ c) : 0 ≤ p.1 * (c / p.2) ∧ p.1 * (c / p.2) ≤ c := by
  have d0 := f.d0; have n0 := f.n0; have le := f.le
  have e : p.2 * (c / p.2) = c := Int.mul_ediv_cancel' d
  have q0 : 0 ≤ c / p.2 := Int.ediv_nonneg (by omega) (by omega)
  refine ⟨Int.mul_nonneg n0 q0, ?_⟩
  have := Int.mul_le_mul_of_nonneg_right le q0
  omega
theorem arc_of {a b : Int} {p q : Int × Int} (h : (Sgt.within a b p q).Ok) : Arc a b p q := by
  obtain ⟨⟨h1, h2⟩, ⟨h3, h4⟩, h7, fp, fq, p6, q6, _⟩ := h
  have dp0 := fp.d0; have dq0 := fq.d0
  have l1 : 0 < Nat.lcm p.2.toNat q.2.toNat := Nat.lcm_pos (by omega) (by omega)
  have l2 : Nat.lcm p.2.toNat q.2.toNat ≤ p.2.toNat * q.2.toNat := Nat.le_of_dvd (Nat.mul_pos (by omega) (by omega)) (Nat.lcm_dvd (Nat.dvd_mul_right _ _) (Nat.dvd_mul_left _ _))
  have l3 : p.2.toNat * q.2.toNat ≤ 60 * 60 := Nat.mul_le_mul (by omega) (by omega)
  have d1 : p.2 ∣ ((Nat.lcm p.2.toNat q.2.toNat : Nat) : Int) := by
    have := Int.natCast_dvd_natCast.mpr (Nat.dvd_lcm_left p.2.toNat q.2.toNat)
    rwa [show ((p.2.toNat : Nat) : Int) = p.2 by omega] at this
  have d2 : q.2 ∣ ((Nat.lcm p.2.toNat q.2.toNat : Nat) : Int) := by
    have := Int.natCast_dvd_natCast.mpr (Nat.dvd_lcm_right p.2.toNat q.2.toNat)
    rwa [show ((q.2.toNat : Nat) : Int) = q.2 by omega] at this
  have es : ∀ e ∈ endsW a b p q, 0 ≤ e ∧ e ≤ ((Nat.lcm p.2.toNat q.2.toNat : Nat) : Int) := by
    generalize hc : Nat.lcm p.2.toNat q.2.toNat = c at *
    have c0 : (0 : Int) < (c : Int) := by omega
    have e1 := end_in fp c0 d1
    have e2 := end_in fq c0 d2
    intro e m
    unfold endsW at m
    rw [hc] at m
    simp only at m
    split at m
    · obtain ⟨e', m', rfl⟩ := List.mem_map.mp m
      simp only [List.mem_cons, List.mem_nil_iff, or_false] at m'
      rcases m' with rfl | rfl
      · omega
      · omega
    · simp only [List.mem_cons, List.mem_nil_iff, or_false] at m
      rcases m with rfl | rfl
      · exact e1
      · exact e2
  refine ⟨by omega, by omega, l1, by omega, d1, d2, es, fun t m => ?_⟩
  unfold topsW at m
  obtain ⟨e, me, m⟩ := List.mem_flatMap.mp m
  obtain ⟨j, mj, rfl⟩ := List.mem_map.mp m
  have lj := List.mem_range.mp mj
  have r := es e me
  generalize Nat.lcm p.2.toNat q.2.toNat = c at *
  generalize (b - a).natAbs = n at *
  have k1 : 0 ≤ (j : Int) * (c : Int) := Int.mul_nonneg (by omega) (by omega)
  have k2 : ((j : Int) + 1) * (c : Int) ≤ (n : Int) * (c : Int) := Int.mul_le_mul_of_nonneg_right (by omega) (by omega)
  have k3 : ((j : Int) + 1) * (c : Int) = (j : Int) * c + c := by rw [Int.add_mul, Int.one_mul]
  rw [Int.natCast_mul]
  omega
theorem topsW_len {a b : Int} {p q : Int × Int} : (topsW a b p q).length = 2 * (b - a).natAbs := by
  unfold topsW
  have : (endsW a b p q).length = 2 := by unfold endsW; simp only; split <;> rfl
  generalize endsW a b p q = es at *
  match es, this with
  | [x, y], _ =>
    simp only [List.flatMap_cons, List.flatMap_nil, List.length_append, List.length_map, List.length_range, List.length_nil]
    omega
/-- its points are points -/
theorem sg_pts {g : Sgt} (h : g.Ok) : Pts g.pts ∧ (∀ p ∈ g.pts, p.1.natAbs < 2 ^ 62 ∧ p.2.natAbs < 2 ^ 62) ∧ g.pts.length ≤ 900 := by
  have w := ways40 h
  have L6 : L40 < 2 ^ 62 := by decide
  have main : ∀ ns : List Nat, (∀ k ∈ ns, 0 < k ∧ k ≤ 40) → ns.length ≤ 3 → Pts (wpts (lcmA ns) ns) ∧ (∀ p ∈ wpts (lcmA ns) ns, p.1.natAbs < 2 ^ 62 ∧ p.2.natAbs < 2 ^ 62) ∧ (wpts (lcmA ns) ns).length ≤ 900 := fun ns hn ln => by
    obtain ⟨l0, l1, ld⟩ := lcm40 hn
    have ht : ∀ t ∈ tops (lcmA ns) ns, 0 ≤ t ∧ t ≤ ((lcmA ns : Nat) : Int) := fun t m => by
      have := tops_mem l0 ld m
      omega
    refine ⟨wpts_pts l0 ld, gpts_small l0 (by omega) ht, ?_⟩
    have e := gpts_len (c := lcmA ns) (ts := tops (lcmA ns) ns)
    rw [← gpts_wpts] at e
    have tl : (tops (lcmA ns) ns).length ≤ 40 * ns.length := by
      generalize lcmA ns = c
      clear l0 l1 ld ht e w
      induction ns with
      | nil => exact Nat.le_refl 0
      | cons k r ih =>
        have i := ih (fun z m => hn z (List.mem_cons_of_mem _ m)) (by simp only [List.length_cons] at ln; omega)
        have k4 := (hn k List.mem_cons_self).2
        show (((List.range k).map _) ++ tops c r).length ≤ _
        rw [List.length_append, List.length_map, List.length_range, List.length_cons]
        omega
    omega
  cases g with
  | turn s a b => exact main _ w (Nat.le_refl 3)
  | on a b => exact main _ w (show 1 ≤ 3 by decide)
  | within a b p q =>
    have A := arc_of h
    have n0 := A.n0; have n4 := A.n40; have c0 := A.c0; have c1 := A.c1
    have z0 : 0 < (b - a).natAbs * Nat.lcm p.2.toNat q.2.toNat := Nat.mul_pos n0 c0
    have z1 : (b - a).natAbs * Nat.lcm p.2.toNat q.2.toNat ≤ 40 * 3600 := Nat.mul_le_mul n4 c1
    refine ⟨gpts_pts z0 A.ts, gpts_small z0 (by omega) A.ts, ?_⟩
    have e := gpts_len (c := (b - a).natAbs * Nat.lcm p.2.toNat q.2.toNat) (ts := topsW a b p q)
    rw [topsW_len] at e
    show (gpts _ _).length ≤ 900
    omega
end Mt
set_option Elab.async false
set_option linter.all false
set_option maxRecDepth 100000
set_option maxHeartbeats 8000000
set_option exponentiation.threshold 4000
namespace My
open PySem PySem.Spec PyProof.Rows L2 Gn Mt
abbrev s__way : Stmt := top 65
abbrev s__turn_is_right : Stmt := top 66
abbrev s__on_is_right : Stmt := top 67
abbrev s__within_is_right : Stmt := top 68
abbrev s__fits : Stmt := top 64
abbrev s__turn_points : Stmt := top 70
abbrev s__on_points : Stmt := top 71
abbrev s__within_points : Stmt := top 72
abbrev s_lot_of : Stmt := top 53
abbrev s_check_sighting : Stmt := top 54
abbrev s_check_sightings : Stmt := top 55
abbrev s_is_sighting : Stmt := top 56
abbrev s__are_marks : Stmt := top 59
abbrev s__is_turn : Stmt := top 60
abbrev s__is_on : Stmt := top 61
abbrev s__is_within : Stmt := top 62
/-! sightings: whether right for a step, where they change, their lots -/
theorem sc__way : FnScope ["step", "start", "mark"] ["step", "start", "mark"] (defScope s__way) := ⟨rfl, rfl, rfl, by decide +kernel, rfl, by decide +kernel, by decide +kernel⟩
theorem sc_tR : FnScope ["sighting", "step", "_", "start", "one", "other"] ["sighting", "step"] (defScope s__turn_is_right) := ⟨rfl, rfl, rfl, by decide +kernel, rfl, by decide +kernel, by decide +kernel⟩
theorem sc_oR : FnScope ["sighting", "step", "_", "one", "other"] ["sighting", "step"] (defScope s__on_is_right) := ⟨rfl, rfl, rfl, by decide +kernel, rfl, by decide +kernel, by decide +kernel⟩
theorem sc_wR : FnScope ["sighting", "step", "_", "one", "other", "low", "high", "part"] ["sighting", "step"] (defScope s__within_is_right) := ⟨rfl, rfl, rfl, by decide +kernel, rfl, by decide +kernel, by decide +kernel⟩
theorem sc_fits : FnScope ["sighting", "step", "is_met"] ["sighting", "step"] (defScope s__fits) := ⟨rfl, rfl, rfl, by decide +kernel, rfl, by decide +kernel, by decide +kernel⟩
def sgD : Sgt → PyData
  | .turn s a b => .tuple [.str "turn", .int s, .int a, .int b]
  | .on a b => .tuple [.str "on", .int a, .int b]
  | .within a b p q => .tuple [.str "within", .int a, .int b, frD p, frD q]
def sgW : Sgt → Str
  | .turn _ _ _ => "turn"
  | .on _ _ => "on"
  | .within _ _ _ _ => "within"
section
variable {K : PySem.W.Frag} {H : Hp} {v : V}
theorem t4_inv {d0 d1 d2 d3 : PyData} (h : Dp K H v (.tuple [d0, d1, d2, d3])) : ∃ a x0 x1 x2 x3, v = .ref a ∧ SqT K H a [x0, x1, x2, x3] ∧ Dp K H x0 d0 ∧ Dp K H x1 d1 ∧ Dp K H x2 d2 ∧ Dp K H x3 d3 := by
  obtain ⟨a, xs, rfl, ha, hx⟩ := tup_inv h
  cases hx with
  | cons h0 t => cases t with
    | cons h1 t => cases t with
      | cons h2 t => cases t with
        | cons h3 t => cases t; exact ⟨a, _, _, _, _, rfl, ha, h0, h1, h2, h3⟩
theorem t3_inv {d0 d1 d2 : PyData} (h : Dp K H v (.tuple [d0, d1, d2])) : ∃ a x0 x1 x2, v = .ref a ∧ SqT K H a [x0, x1, x2] ∧ Dp K H x0 d0 ∧ Dp K H x1 d1 ∧ Dp K H x2 d2 := by
  obtain ⟨a, xs, rfl, ha, hx⟩ := tup_inv h
  cases hx with
  | cons h0 t => cases t with
    | cons h1 t => cases t with
      | cons h2 t => cases t; exact ⟨a, _, _, _, rfl, ha, h0, h1, h2⟩
theorem t5_inv {d0 d1 d2 d3 d4 : PyData} (h : Dp K H v (.tuple [d0, d1, d2, d3, d4])) : ∃ a x0 x1 x2 x3 x4, v = .ref a ∧ SqT K H a [x0, x1, x2, x3, x4] ∧ Dp K H x0 d0 ∧ Dp K H x1 d1 ∧ Dp K H x2 d2 ∧ Dp K H x3 d3 ∧ Dp K H x4 d4 := by
  obtain ⟨a, xs, rfl, ha, hx⟩ := tup_inv h
  cases hx with
  | cons h0 t => cases t with
    | cons h1 t => cases t with
      | cons h2 t => cases t with
        | cons h3 t => cases t with
          | cons h4 t => cases t; exact ⟨a, _, _, _, _, _, rfl, ha, h0, h1, h2, h3, h4⟩
theorem turn_inv {s a b : Int} (h : Dp K H v (sgD (.turn s a b))) : ∃ t, v = .ref t ∧ SqT K H t [.str "turn", .int s, .int a, .int b] := by
  obtain ⟨t, x0, x1, x2, x3, rfl, ht, h0, h1, h2, h3⟩ := t4_inv h
  cases h0; cases h1; cases h2; cases h3
  exact ⟨t, rfl, ht⟩
theorem on_inv {a b : Int} (h : Dp K H v (sgD (.on a b))) : ∃ t, v = .ref t ∧ SqT K H t [.str "on", .int a, .int b] := by
  obtain ⟨t, x0, x1, x2, rfl, ht, h0, h1, h2⟩ := t3_inv h
  cases h0; cases h1; cases h2
  exact ⟨t, rfl, ht⟩
theorem within_inv {a b : Int} {p q : Int × Int} (h : Dp K H v (sgD (.within a b p q))) : ∃ t x y, v = .ref t ∧ SqT K H t [.str "within", .int a, .int b, x, y] ∧ Dp K H x (frD p) ∧ Dp K H y (frD q) := by
  obtain ⟨t, x0, x1, x2, x, y, rfl, ht, h0, h1, h2, hx, hy⟩ := t5_inv h
  cases h0; cases h1; cases h2
  exact ⟨t, x, y, rfl, ht, hx, hy⟩
/-- its word -/
theorem word_at {g : Sgt} (h : Dp K H v (sgD g)) : ∃ t xs, v = .ref t ∧ SqT K H t xs ∧ xs[0]? = some (.str (sgW g)) := by
  cases g with
  | turn s a b => obtain ⟨t, rfl, ht⟩ := turn_inv h; exact ⟨t, _, rfl, ht, rfl⟩
  | on a b => obtain ⟨t, rfl, ht⟩ := on_inv h; exact ⟨t, _, rfl, ht, rfl⟩
  | within a b p q => obtain ⟨t, x, y, rfl, ht, _⟩ := within_inv h; exact ⟨t, _, rfl, ht, rfl⟩
end
def spWay (K : PySem.W.Frag) : Sp := fun vs H Q _ => ∃ (u : V) (x y s m : Int), vs = [u, .int s, .int m] ∧ Dp K H u (frD (x, y)) ∧ 0 < y ∧ x.natAbs < 2 ^ 64 ∧ Mrk s ∧ Mrk m ∧ Q (.int (wy x y s m)) H
/-- whether a right sighting is right for a step -/
def spFit (K : PySem.W.Frag) (G : Sgt → Prop) : Sp := fun vs H Q _ => ∃ (u st : V) (g : Sgt) (x y : Int), vs = [u, st] ∧ G g ∧ g.Ok ∧ Dp K H u (sgD g) ∧ Dp K H st (frD (x, y)) ∧ Stp x y ∧ x.natAbs < 2 ^ 64 ∧ y.natAbs < 2 ^ 64 ∧ ∀ H', Same H H' → Q (.bl (g.fits x y)) H'
theorem wy_nn {x y s m : Int} (h : 0 < y) : 0 ≤ wy x y s m ∧ wy x y s m < y := ⟨Int.emod_nonneg _ (by omega), Int.emod_lt_of_pos _ h⟩
def isT : Sgt → Prop
  | .turn _ _ _ => True
  | _ => False
def isO : Sgt → Prop
  | .on _ _ => True
  | _ => False
def isW : Sgt → Prop
  | .within _ _ _ _ => True
  | _ => False
/-- the defs of sightings -/
structure Sf (K : PySem.W.Frag) (mg : Str → Option Value) where
  f_wy : Addr × FuncData
  wy : Df K mg "_way" s__way ["step", "start", "mark"] f_wy.1 f_wy.2
  f_tR : Addr × FuncData
  tR : Df K mg "_turn_is_right" s__turn_is_right ["sighting", "step"] f_tR.1 f_tR.2
  f_oR : Addr × FuncData
  oR : Df K mg "_on_is_right" s__on_is_right ["sighting", "step"] f_oR.1 f_oR.2
  f_wR : Addr × FuncData
  wR : Df K mg "_within_is_right" s__within_is_right ["sighting", "step"] f_wR.1 f_wR.2
  f_fi : Addr × FuncData
  fi : Df K mg "_fits" s__fits ["sighting", "step"] f_fi.1 f_fi.2
  f_tP : Addr × FuncData
  tP : Df K mg "_turn_points" s__turn_points ["sighting"] f_tP.1 f_tP.2
  f_oP : Addr × FuncData
  oP : Df K mg "_on_points" s__on_points ["sighting"] f_oP.1 f_oP.2
  f_wP : Addr × FuncData
  wP : Df K mg "_within_points" s__within_points ["sighting"] f_wP.1 f_wP.2
  f_wh : Addr × FuncData
  wh : Df K mg "whole_points" s_whole_points ["numbers"] f_wh.1 f_wh.2
  f_pn : Addr × FuncData
  pn : Df K mg "_points" s__points ["tops", "bottom"] f_pn.1 f_pn.2
  f_lw : Addr × FuncData
  lw : Df K mg "lot_where" s_lot_where ["points", "fits"] f_lw.1 f_lw.2
  f_lo : Addr × FuncData
  lo : Df K mg "lot_of" s_lot_of ["sighting"] f_lo.1 f_lo.2
  f_cs : Addr × FuncData
  cs : Df K mg "check_sighting" s_check_sighting ["given"] f_cs.1 f_cs.2
  f_ck : Addr × FuncData
  ck : Df K mg "check_sightings" s_check_sightings ["given", "most"] f_ck.1 f_ck.2
  f_is_ : Addr × FuncData
  is_ : Df K mg "is_sighting" s_is_sighting ["given"] f_is_.1 f_is_.2
  f_am : Addr × FuncData
  am : Df K mg "_are_marks" s__are_marks ["marks", "most"] f_am.1 f_am.2
  f_iT : Addr × FuncData
  iT : Df K mg "_is_turn" s__is_turn ["given"] f_iT.1 f_iT.2
  f_iO : Addr × FuncData
  iO : Df K mg "_is_on" s__is_on ["given"] f_iO.1 f_iO.2
  f_iW : Addr × FuncData
  iW : Df K mg "_is_within" s__is_within ["given"] f_iW.1 f_iW.2
  f_le : Addr × FuncData
  le : Df K mg "is_less" s_is_less ["one", "other"] f_le.1 f_le.2
  f_pa : Addr × FuncData
  pa : Df K mg "is_part" s_is_part ["given"] f_pa.1 f_pa.2
section
variable {P : Program} {w : World} {K : PySem.W.Frag} {mg : Str → Option Value} {base : Heap}
theorem ok_way {f : Addr} {fd : FuncData} (F : Fun K "_way" "_way" s__way f fd) : FnOk P w K mg base CX0 1 f fd ["step", "start", "mark"] (spWay K) := by
  refine F.ok sc__way (fun vs H Q E h => ?_) (fun cdv A outer s H vs Q E hr h => ?_)
  · obtain ⟨u, x, y, s, m, rfl, _⟩ := h
    rfl
  · obtain ⟨u, x, y, a, m, rfl, hu, y0, xb, ⟨s1, s2⟩, ⟨m1, m2⟩, k⟩ := h
    obtain ⟨t, rfl, ht⟩ := fr_inv hu
    refine ⟨_, pss_one (ps_ret (pe_op op_mod (pe_op op_mulW (pe_ix ix_tup (pv 0) pe_int (fun _ _ => rfl)) (pe_op op_sub (pv 2) (pv 1))) (pe_ix ix_tup (pv 0) pe_int (fun _ _ => rfl)))), ?_⟩
    exact ⟨_, rfl, t, _, 0, .int x, rfl, rfl, ht, at_of (j := 0) rfl rfl, _, rfl, _, rfl, _, _, rfl, rfl, _, _, rfl, rfl, wide_mul (a := 64) (b := 64) xb (by omega) (by decide) (by decide) (by decide), _, rfl, t, _, 1, .int y, rfl, rfl, ht, at_of (j := 1) rfl rfl, _, _, rfl, rfl, y0, k⟩
theorem ok_turnR (S : Sf K mg) : FnOk P w K mg base CX0 2 S.f_tR.1 S.f_tR.2 ["sighting", "step"] (spFit K isT) := by
  have GW : FnOk P w K mg base CX0 1 S.f_wy.1 S.f_wy.2 ["step", "start", "mark"] (spWay K) := ok_way S.wy.F
  refine S.tR.F.ok sc_tR (fun vs H Q E h => ?_) (fun cdv A outer s H vs Q E hr h => ?_)
  · obtain ⟨u, st, g, x, y, rfl, _⟩ := h
    rfl
  · obtain ⟨u, st, g, x, y, rfl, gT, ok, hu, hst, stp, xb, yb, k⟩ := h
    cases g with
    | on a b => exact gT.elim
    | within a b p q => exact gT.elim
    | turn s a b =>
    obtain ⟨ms, ma, mb, _⟩ := ok
    have y0 : 0 < y := by have := stp.p0; have := stp.pq; omega
    obtain ⟨t, rfl, ht⟩ := turn_inv hu
    have hr1 : Room 1 _ := hr.mono (by decide)
    refine ⟨_, pss_cons (ps_asg (pv 0) (pg_tup (by rfl) (pgs_cons (pg_name (i := 2) sc_tR.nd rfl (.inl rfl)) (pgs_cons (pg_name (i := 3) sc_tR.nd rfl (.inl rfl)) (pgs_cons (pg_name (i := 4) sc_tR.nd rfl (.inl rfl)) (pgs_cons (pg_name (i := 5) sc_tR.nd rfl (.inl rfl)) pgs_nil)))))) (pss_one (ps_ret (pe_chain op_lt op_lt pe_int (pe_call GW hr1 (by rfl) S.wy.g S.wy.F.kp S.wy.b .nil pass0 (pa_cons (pv 1) (pa_cons (pv 3) (pa_cons (pv 4) pa_nil)))) (pe_call GW hr1 (by rfl) S.wy.g S.wy.F.kp S.wy.b .nil pass0 (pa_cons (pv 1) (pa_cons (pv 3) (pa_cons (pv 5) pa_nil))))))), ?_⟩
    refine ⟨_, rfl, t, _, rfl, ht, rfl, _, _, rfl, _, _, rfl, _, _, rfl, _, _, rfl, rfl, ?_⟩
    refine ⟨_, rfl, _, rfl, _, rfl, st, x, y, s, a, rfl, hst, y0, xb, ms, ma, ?_⟩
    refine ⟨_, _, rfl, rfl, _, rfl, ?_⟩
    have k : Q (.bl (decide (0 < wy x y s a) && decide (wy x y s a < wy x y s b))) H := k H (Same.refl H)
    cases h : decide (0 < wy x y s a) with
    | false =>
      rw [h] at k
      exact iteF k
    | true =>
      rw [h] at k
      exact iteT ⟨_, rfl, _, rfl, _, rfl, st, x, y, s, b, rfl, hst, y0, xb, ms, mb, _, _, rfl, rfl, k⟩
theorem int_eq (a b : Int) : decide (V.int a = V.int b) = decide (a = b) := by
  by_cases h : a = b
  · rw [decide_eq_true h, decide_eq_true (congrArg V.int h)]
  · rw [decide_eq_false h, decide_eq_false fun z => h (V.int.inj z)]
theorem ok_onR (S : Sf K mg) : FnOk P w K mg base CX0 2 S.f_oR.1 S.f_oR.2 ["sighting", "step"] (spFit K isO) := by
  have GW : FnOk P w K mg base CX0 1 S.f_wy.1 S.f_wy.2 ["step", "start", "mark"] (spWay K) := ok_way S.wy.F
  refine S.oR.F.ok sc_oR (fun vs H Q E h => ?_) (fun cdv A outer s H vs Q E hr h => ?_)
  · obtain ⟨u, st, g, x, y, rfl, _⟩ := h
    rfl
  · obtain ⟨u, st, g, x, y, rfl, gT, ok, hu, hst, stp, xb, yb, k⟩ := h
    cases g with
    | turn s a b => exact gT.elim
    | within a b p q => exact gT.elim
    | on a b =>
    obtain ⟨ma, mb, _⟩ := ok
    have y0 : 0 < y := by have := stp.p0; have := stp.pq; omega
    obtain ⟨t, rfl, ht⟩ := on_inv hu
    have hr1 : Room 1 _ := hr.mono (by decide)
    refine ⟨_, pss_cons (ps_asg (pv 0) (pg_tup (by rfl) (pgs_cons (pg_name (i := 2) sc_oR.nd rfl (.inl rfl)) (pgs_cons (pg_name (i := 3) sc_oR.nd rfl (.inl rfl)) (pgs_cons (pg_name (i := 4) sc_oR.nd rfl (.inl rfl)) pgs_nil))))) (pss_one (ps_ret (pe_cmpR op_eq (pe_call GW hr1 (by rfl) S.wy.g S.wy.F.kp S.wy.b .nil pass0 (pa_cons (pv 1) (pa_cons (pv 3) (pa_cons (pv 4) pa_nil)))) pe_int (nomark _)))), ?_⟩
    refine ⟨_, rfl, t, _, rfl, ht, rfl, _, _, rfl, _, _, rfl, _, _, rfl, rfl, ?_⟩
    refine ⟨_, rfl, _, rfl, _, rfl, st, x, y, a, b, rfl, hst, y0, xb, ma, mb, rfl, ?_⟩
    rw [int_eq]
    exact k H (Same.refl H)
theorem lit_frc {p : Int × Int} (f : Frc p) (h : p.2 ≤ 60) : Lit p := by
  have n0 := f.n0; have le := f.le; have d0 := f.d0
  have k : (60 : Nat) < 2 ^ 1000 := by decide
  exact ⟨Nat.lt_of_le_of_lt (show p.1.natAbs ≤ 60 by omega) k, Nat.lt_of_le_of_lt (show p.2.natAbs ≤ 60 by omega) k⟩
theorem ok_withinR (S : Sf K mg) : FnOk P w K mg base CX0 2 S.f_wR.1 S.f_wR.2 ["sighting", "step"] (spFit K isW) := by
  have GW : FnOk P w K mg base CX0 1 S.f_wy.1 S.f_wy.2 ["step", "start", "mark"] (spWay K) := ok_way S.wy.F
  have GL : FnOk P w K mg base CX0 1 S.f_le.1 S.f_le.2 ["one", "other"] (spLess K) := ok_less S.le.F
  refine S.wR.F.ok sc_wR (fun vs H Q E h => ?_) (fun cdv A outer s H vs Q E hr h => ?_)
  · obtain ⟨u, st, g, x, y, rfl, _⟩ := h
    rfl
  · obtain ⟨u, st, g, x, y, rfl, gT, ok, hu, hst, stp, xb, yb, k⟩ := h
    cases g with
    | turn s a b => exact gT.elim
    | on a b => exact gT.elim
    | within a b p q =>
    obtain ⟨ma, mb, _, fp, fq, p6, q6, _⟩ := ok
    have y0 : 0 < y := by have := stp.p0; have := stp.pq; omega
    obtain ⟨t, lo, hi, rfl, ht, hlo, hhi⟩ := within_inv hu
    obtain ⟨ts, rfl, hts⟩ := fr_inv hst
    have hr1 : Room 1 _ := hr.mono (by decide)
    refine ⟨_, pss_cons (ps_asg (pv 0) (pg_tup (by rfl) (pgs_cons (pg_name (i := 2) sc_wR.nd rfl (.inl rfl)) (pgs_cons (pg_name (i := 3) sc_wR.nd rfl (.inl rfl)) (pgs_cons (pg_name (i := 4) sc_wR.nd rfl (.inl rfl)) (pgs_cons (pg_name (i := 5) sc_wR.nd rfl (.inl rfl)) (pgs_cons (pg_name (i := 6) sc_wR.nd rfl (.inl rfl)) pgs_nil))))))) (pss_cons (ps_set (i := 7) sc_wR.nd rfl (.inl rfl) (pe_tup (pa_cons (pe_call GW hr1 (by rfl) S.wy.g S.wy.F.kp S.wy.b .nil pass0 (pa_cons (pv 1) (pa_cons (pv 3) (pa_cons (pv 4) pa_nil)))) (pa_cons (pe_ix ix_tup (pv 1) pe_int (fun _ _ => rfl)) pa_nil)))) (pss_one (ps_ret (pe_and (pe_call GL hr1 (by rfl) S.le.g S.le.F.kp S.le.b .nil pass0 (pa_cons (pv 5) (pa_cons (pv 7) pa_nil))) (pe_one (pe_call GL hr1 (by rfl) S.le.g S.le.F.kp S.le.b .nil pass0 (pa_cons (pv 7) (pa_cons (pv 6) pa_nil)))))))), ?_⟩
    refine ⟨_, rfl, t, _, rfl, ht, rfl, _, _, rfl, _, _, rfl, _, _, rfl, _, _, rfl, _, _, rfl, rfl, ?_⟩
    refine nxI ⟨_, rfl, _, rfl, _, rfl, .ref ts, x, y, a, b, rfl, hst, y0, xb, ma, mb, _, rfl, ts, _, 1, .int y, rfl, rfl, hts, at_of (j := 1) rfl rfl, (by show 2 ≤ sizeLine; decide), fun r nr => ?_⟩
    have s1 := same_put (o := HO.tup [V.int (wy x y a b), V.int y]) nr
    have gr : Dp K (upd H r (HO.tup [V.int (wy x y a b), V.int y])) (.ref r) (frD (wy x y a b, y)) := fr_mk (x := wy x y a b) (y := y) (SqT.of upd_same)
    have k := k _ s1
    have hlo := dp_same s1 _ _ hlo
    have hhi := dp_same s1 _ _ hhi
    generalize upd H r (HO.tup [V.int (wy x y a b), V.int y]) = H1 at *
    obtain ⟨w0, w1⟩ := wy_nn (x := x) (s := a) (m := b) y0
    have k64 : (2 : Nat) ^ 64 < 2 ^ 1000 := Nat.pow_lt_pow_right (by decide) (by decide)
    have lp : Lit (wy x y a b, y) := ⟨Nat.lt_trans (show (wy x y a b).natAbs < 2 ^ 64 by omega) k64, Nat.lt_trans yb k64⟩
    refine nxI ⟨_, rfl, _, rfl, lo, .ref r, p, (wy x y a b, y), rfl, hlo, gr, lit_frc fp p6, lp, _, rfl, ?_⟩
    have k : Q (.bl (decide (p.1 * y < wy x y a b * p.2) && decide (wy x y a b * q.2 < q.1 * y))) H1 := k
    cases h : decide (p.1 * y < wy x y a b * p.2) with
    | false =>
      rw [h] at k
      exact iteF k
    | true =>
      rw [h] at k
      exact iteT ⟨_, rfl, _, rfl, .ref r, hi, (wy x y a b, y), q, rfl, gr, hhi, lp, lit_frc fq q6, k⟩
end
end My
set_option Elab.async false
set_option linter.all false
set_option maxRecDepth 100000
set_option maxHeartbeats 8000000
set_option exponentiation.threshold 4000
namespace My
open PySem PySem.Spec PyProof.Rows L2 Gn Mt
/-! whether right, by the word; points; the lot -/
theorem sc_tP : FnScope ["sighting", "_", "start", "one", "other"] ["sighting"] (defScope s__turn_points) := ⟨rfl, rfl, rfl, by decide +kernel, rfl, by decide +kernel, by decide +kernel⟩
theorem sc_oP : FnScope ["sighting", "_", "one", "other"] ["sighting"] (defScope s__on_points) := ⟨rfl, rfl, rfl, by decide +kernel, rfl, by decide +kernel, by decide +kernel⟩
theorem sc_wP : FnScope ["sighting", "_", "one", "other", "low", "high", "number", "shared", "ends", "end", "whole"] ["sighting"] (defScope s__within_points) := ⟨rfl, rfl, rfl, by decide +kernel, rfl, by decide +kernel, by decide +kernel⟩
/-- a written dict of the module -/
structure Kd (K : PySem.W.Frag) (w : World) (mg : Str → Option Value) (nm : Str) where
  d : Addr
  g : mg nm = some (.ref d)
  es : Array DictEntry
  n : Nat
  D : KDict K w d es n
/-- where the words lead -/
structure Sd (K : PySem.W.Frag) (w : World) (mg : Str → Option Value) (S : Sf K mg) where
  R : Kd K w mg "_RIGHT"
  P : Kd K w mg "_POINTS"
  F : Kd K w mg "_FORMS"
  rT : PySem.W.nsIn K R.d "turn" = some (some (.ref S.f_tR.1))
  rO : PySem.W.nsIn K R.d "on" = some (some (.ref S.f_oR.1))
  rW : PySem.W.nsIn K R.d "within" = some (some (.ref S.f_wR.1))
  pT : PySem.W.nsIn K P.d "turn" = some (some (.ref S.f_tP.1))
  pO : PySem.W.nsIn K P.d "on" = some (some (.ref S.f_oP.1))
  pW : PySem.W.nsIn K P.d "within" = some (some (.ref S.f_wP.1))
  fT : PySem.W.nsIn K F.d "turn" = some (some (.ref S.f_iT.1))
  fO : PySem.W.nsIn K F.d "on" = some (some (.ref S.f_iO.1))
  fW : PySem.W.nsIn K F.d "within" = some (some (.ref S.f_iW.1))
theorem Kd.at {K : PySem.W.Frag} {w : World} {mg : Str → Option Value} {nm z : Str} {f : Addr} (k : Kd K w mg nm) (h : PySem.W.nsIn K k.d z = some (some (.ref f))) : KDct K w k.d z (.ref f) := ⟨k.es, k.n, _, k.D.at_, k.D.lit, h, rfl⟩
def spPts (K : PySem.W.Frag) (G : Sgt → Prop) : Sp := fun vs H Q _ => ∃ (u : V) (g : Sgt), vs = [u] ∧ G g ∧ g.Ok ∧ Dp K H u (sgD g) ∧ ∀ v H', Same H H' → Dp K H' v (.list (g.pts.map frD)) → Q v H'
section
variable {P : Program} {w : World} {K : PySem.W.Frag} {mg : Str → Option Value} {base : Heap}
theorem ok_fitsT (S : Sf K mg) (D : Sd K w mg S) : FnOk P w K mg base CX0 3 S.f_fi.1 S.f_fi.2 ["sighting", "step"] (spFit K isT) := by
  have GR : FnOk P w K mg base CX0 2 S.f_tR.1 S.f_tR.2 ["sighting", "step"] (spFit K isT) := ok_turnR S
  refine S.fi.F.ok sc_fits (fun vs H Q E h => ?_) (fun cdv A outer s H vs Q E hr h => ?_)
  · obtain ⟨u, st, g, x, y, rfl, _⟩ := h
    rfl
  · obtain ⟨u, st, g, x, y, rfl, gT, ok, hu, hst, stp, xb, yb, k⟩ := h
    obtain ⟨t, xs, rfl, ht, h0⟩ := word_at hu
    have ew : sgW g = ("turn" : Str) := by cases g <;> first | rfl | exact gT.elim
    rw [ew] at h0
    refine ⟨_, pss_cons (ps_set (i := 2) sc_fits.nd rfl (.inl rfl) (pe_ix ix_kdict (pe_glob (v := .ref D.R.d) rfl D.R.g rfl) (pe_ix ix_tup (pv 0) pe_int (fun _ _ => rfl)) (fun _ _ => rfl))) (pss_one (ps_ret (pe_callL (i := 2) (f := S.f_tR.1) GR hr rfl (.inl rfl) S.tR.F.kp S.tR.b .nil pass0 (pa_cons (pv 0) (pa_cons (pv 1) pa_nil))))), ?_⟩
    exact ⟨_, rfl, t, xs, 0, _, rfl, rfl, ht, at_of (j := 0) rfl h0, D.R.d, _, .ref S.f_tR.1, rfl, rfl, D.R.at D.rT, rfl, _, rfl, _, rfl, .ref t, st, g, x, y, rfl, gT, ok, hu, hst, stp, xb, yb, k⟩
theorem ok_fitsO (S : Sf K mg) (D : Sd K w mg S) : FnOk P w K mg base CX0 3 S.f_fi.1 S.f_fi.2 ["sighting", "step"] (spFit K isO) := by
  have GR : FnOk P w K mg base CX0 2 S.f_oR.1 S.f_oR.2 ["sighting", "step"] (spFit K isO) := ok_onR S
  refine S.fi.F.ok sc_fits (fun vs H Q E h => ?_) (fun cdv A outer s H vs Q E hr h => ?_)
  · obtain ⟨u, st, g, x, y, rfl, _⟩ := h
    rfl
  · obtain ⟨u, st, g, x, y, rfl, gT, ok, hu, hst, stp, xb, yb, k⟩ := h
    obtain ⟨t, xs, rfl, ht, h0⟩ := word_at hu
    have ew : sgW g = ("on" : Str) := by cases g <;> first | rfl | exact gT.elim
    rw [ew] at h0
    refine ⟨_, pss_cons (ps_set (i := 2) sc_fits.nd rfl (.inl rfl) (pe_ix ix_kdict (pe_glob (v := .ref D.R.d) rfl D.R.g rfl) (pe_ix ix_tup (pv 0) pe_int (fun _ _ => rfl)) (fun _ _ => rfl))) (pss_one (ps_ret (pe_callL (i := 2) (f := S.f_oR.1) GR hr rfl (.inl rfl) S.oR.F.kp S.oR.b .nil pass0 (pa_cons (pv 0) (pa_cons (pv 1) pa_nil))))), ?_⟩
    exact ⟨_, rfl, t, xs, 0, _, rfl, rfl, ht, at_of (j := 0) rfl h0, D.R.d, _, .ref S.f_oR.1, rfl, rfl, D.R.at D.rO, rfl, _, rfl, _, rfl, .ref t, st, g, x, y, rfl, gT, ok, hu, hst, stp, xb, yb, k⟩
theorem ok_fitsW (S : Sf K mg) (D : Sd K w mg S) : FnOk P w K mg base CX0 3 S.f_fi.1 S.f_fi.2 ["sighting", "step"] (spFit K isW) := by
  have GR : FnOk P w K mg base CX0 2 S.f_wR.1 S.f_wR.2 ["sighting", "step"] (spFit K isW) := ok_withinR S
  refine S.fi.F.ok sc_fits (fun vs H Q E h => ?_) (fun cdv A outer s H vs Q E hr h => ?_)
  · obtain ⟨u, st, g, x, y, rfl, _⟩ := h
    rfl
  · obtain ⟨u, st, g, x, y, rfl, gT, ok, hu, hst, stp, xb, yb, k⟩ := h
    obtain ⟨t, xs, rfl, ht, h0⟩ := word_at hu
    have ew : sgW g = ("within" : Str) := by cases g <;> first | rfl | exact gT.elim
    rw [ew] at h0
    refine ⟨_, pss_cons (ps_set (i := 2) sc_fits.nd rfl (.inl rfl) (pe_ix ix_kdict (pe_glob (v := .ref D.R.d) rfl D.R.g rfl) (pe_ix ix_tup (pv 0) pe_int (fun _ _ => rfl)) (fun _ _ => rfl))) (pss_one (ps_ret (pe_callL (i := 2) (f := S.f_wR.1) GR hr rfl (.inl rfl) S.wR.F.kp S.wR.b .nil pass0 (pa_cons (pv 0) (pa_cons (pv 1) pa_nil))))), ?_⟩
    exact ⟨_, rfl, t, xs, 0, _, rfl, rfl, ht, at_of (j := 0) rfl h0, D.R.d, _, .ref S.f_wR.1, rfl, rfl, D.R.at D.rW, rfl, _, rfl, _, rfl, .ref t, st, g, x, y, rfl, gT, ok, hu, hst, stp, xb, yb, k⟩
theorem ok_turnP (S : Sf K mg) (B : Bc mg) (Bq : Bq mg) (ab : mg "abs" = none) {fL : Addr} {fdL : FuncData} (Lo : Df K mg "lowest" sLowest ["top", "bottom"] fL fdL) : FnOk P w K mg base CX0 4 S.f_tP.1 S.f_tP.2 ["sighting"] (spPts K isT) := by
  have GW : FnOk P w K mg base CX0 3 S.f_wh.1 S.f_wh.2 ["numbers"] (spWhole K) := ok_whole S.wh.F B Bq Lo S.pn
  refine S.tP.F.ok sc_tP (fun vs H Q E h => ?_) (fun cdv A outer s H vs Q E hr h => ?_)
  · obtain ⟨u, g, rfl, _⟩ := h
    rfl
  · obtain ⟨u, g, rfl, gT, ok, hu, k⟩ := h
    cases g with
    | on a b => exact gT.elim
    | within a b p q => exact gT.elim
    | turn s a b =>
    obtain ⟨t, rfl, ht⟩ := turn_inv hu
    have wy := ways40 ok
    obtain ⟨l0, l1, ld⟩ := lcm40 wy
    have ab2 : ∀ i : Int, (if i < 0 then -i else i) = ((i.natAbs : Nat) : Int) := fun i => by split <;> omega
    refine ⟨_, pss_cons (ps_asg (pv 0) (pg_tup (by rfl) (pgs_cons (pg_name (i := 1) sc_tP.nd rfl (.inl rfl)) (pgs_cons (pg_name (i := 2) sc_tP.nd rfl (.inl rfl)) (pgs_cons (pg_name (i := 3) sc_tP.nd rfl (.inl rfl)) (pgs_cons (pg_name (i := 4) sc_tP.nd rfl (.inl rfl)) pgs_nil)))))) (pss_one (ps_ret (pe_call GW hr (by rfl) S.wh.g S.wh.F.kp S.wh.b .nil pass0 (pa_cons (pe_lst (pa_cons (pe_callB (call_abs) (by rfl) ab (by decide +kernel) (pa_cons (pe_op op_sub (pv 3) (pv 2)) pa_nil)) (pa_cons (pe_callB (call_abs) (by rfl) ab (by decide +kernel) (pa_cons (pe_op op_sub (pv 4) (pv 2)) pa_nil)) (pa_cons (pe_callB (call_abs) (by rfl) ab (by decide +kernel) (pa_cons (pe_op op_sub (pv 4) (pv 3)) pa_nil)) pa_nil)))) pa_nil)))), ?_⟩
    refine ⟨_, rfl, t, _, rfl, ht, rfl, _, _, rfl, _, _, rfl, _, _, rfl, _, _, rfl, rfl, ?_⟩
    refine ⟨_, rfl, _, rfl, _, _, rfl, rfl, _, rfl, ?_⟩
    refine ⟨_, rfl, _, rfl, _, _, rfl, rfl, _, rfl, ?_⟩
    refine ⟨_, rfl, _, rfl, _, _, rfl, rfl, _, rfl, ?_⟩
    rw [ab2, ab2, ab2]
    refine ⟨(by show 3 ≤ sizeLine; decide), fun p np => ?_⟩
    have s1 := same_put (o := HO.lst [V.int (((a - s).natAbs : Nat) : Int), V.int (((b - s).natAbs : Nat) : Int), V.int (((b - a).natAbs : Nat) : Int)]) np
    refine ⟨p, (Sgt.turn s a b).ways, L40, rfl, SqL.of upd_same, ?_, by decide, by decide, fun z m => ⟨(wy z m).1, dv40 z (wy z m).1 (wy z m).2⟩, fun v H' s2 hv => k v H' (s1.trans s2) hv⟩
    have w1 := wy (a - s).natAbs (List.mem_cons_self)
    have w2 := wy (b - s).natAbs (List.mem_cons_of_mem _ List.mem_cons_self)
    have w3 := wy (b - a).natAbs (List.mem_cons_of_mem _ (List.mem_cons_of_mem _ List.mem_cons_self))
    show (a - s).natAbs + ((b - s).natAbs + ((b - a).natAbs + 0)) ≤ 900
    omega
theorem ok_onP (S : Sf K mg) (B : Bc mg) (Bq : Bq mg) (ab : mg "abs" = none) {fL : Addr} {fdL : FuncData} (Lo : Df K mg "lowest" sLowest ["top", "bottom"] fL fdL) : FnOk P w K mg base CX0 4 S.f_oP.1 S.f_oP.2 ["sighting"] (spPts K isO) := by
  have GW : FnOk P w K mg base CX0 3 S.f_wh.1 S.f_wh.2 ["numbers"] (spWhole K) := ok_whole S.wh.F B Bq Lo S.pn
  refine S.oP.F.ok sc_oP (fun vs H Q E h => ?_) (fun cdv A outer s H vs Q E hr h => ?_)
  · obtain ⟨u, g, rfl, _⟩ := h
    rfl
  · obtain ⟨u, g, rfl, gT, ok, hu, k⟩ := h
    cases g with
    | turn s a b => exact gT.elim
    | within a b p q => exact gT.elim
    | on a b =>
    obtain ⟨t, rfl, ht⟩ := on_inv hu
    have wy := ways40 ok
    have ab2 : ∀ i : Int, (if i < 0 then -i else i) = ((i.natAbs : Nat) : Int) := fun i => by split <;> omega
    refine ⟨_, pss_cons (ps_asg (pv 0) (pg_tup (by rfl) (pgs_cons (pg_name (i := 1) sc_oP.nd rfl (.inl rfl)) (pgs_cons (pg_name (i := 2) sc_oP.nd rfl (.inl rfl)) (pgs_cons (pg_name (i := 3) sc_oP.nd rfl (.inl rfl)) pgs_nil))))) (pss_one (ps_ret (pe_call GW hr (by rfl) S.wh.g S.wh.F.kp S.wh.b .nil pass0 (pa_cons (pe_lst (pa_cons (pe_callB (call_abs) (by rfl) ab (by decide +kernel) (pa_cons (pe_op op_sub (pv 3) (pv 2)) pa_nil)) pa_nil)) pa_nil)))), ?_⟩
    refine ⟨_, rfl, t, _, rfl, ht, rfl, _, _, rfl, _, _, rfl, _, _, rfl, rfl, ?_⟩
    refine ⟨_, rfl, _, rfl, _, _, rfl, rfl, _, rfl, ?_⟩
    rw [ab2]
    refine ⟨(by show 1 ≤ sizeLine; decide), fun p np => ?_⟩
    have s1 := same_put (o := HO.lst [V.int (((b - a).natAbs : Nat) : Int)]) np
    refine ⟨p, (Sgt.on a b).ways, L40, rfl, SqL.of upd_same, ?_, by decide, by decide, fun z m => ⟨(wy z m).1, dv40 z (wy z m).1 (wy z m).2⟩, fun v H' s2 hv => k v H' (s1.trans s2) hv⟩
    have w1 := wy (b - a).natAbs (List.mem_cons_self)
    show (b - a).natAbs + 0 ≤ 900
    omega
theorem ok_withinP (S : Sf K mg) (B : Bc mg) (Bq : Bq mg) (ab : mg "abs" = none) {fL : Addr} {fdL : FuncData} (Lo : Df K mg "lowest" sLowest ["top", "bottom"] fL fdL) : FnOk P w K mg base CX0 4 S.f_wP.1 S.f_wP.2 ["sighting"] (spPts K isW) := by
  have GP : FnOk P w K mg base CX0 2 S.f_pn.1 S.f_pn.2 ["tops", "bottom"] (spPoints K) := ok_points S.pn.F B Bq Lo
  refine S.wP.F.ok sc_wP (fun vs H Q E h => ?_) (fun cdv A outer s H vs Q E hr h => ?_)
  · obtain ⟨u, g, rfl, _⟩ := h
    rfl
  · obtain ⟨u, g, rfl, gT, ok, hu, k⟩ := h
    cases g with
    | turn s a b => exact gT.elim
    | on a b => exact gT.elim
    | within a b p q =>
    have AR := arc_of ok
    obtain ⟨ma, mb, _, fp, fq, p6, q6, _⟩ := ok
    obtain ⟨t, lo, hi, rfl, ht, hlo, hhi⟩ := within_inv hu
    obtain ⟨tl, rfl, htl⟩ := fr_inv hlo
    obtain ⟨th, rfl, hth⟩ := fr_inv hhi
    have hr2 : Room 2 _ := hr.mono (by decide)
    have ab2 : ∀ i : Int, (if i < 0 then -i else i) = ((i.natAbs : Nat) : Int) := fun i => by split <;> omega
    refine ⟨_, pss_cons (ps_asg (pv 0) (pg_tup (by rfl) (pgs_cons (pg_name (i := 1) sc_wP.nd rfl (.inl rfl)) (pgs_cons (pg_name (i := 2) sc_wP.nd rfl (.inl rfl)) (pgs_cons (pg_name (i := 3) sc_wP.nd rfl (.inl rfl)) (pgs_cons (pg_name (i := 4) sc_wP.nd rfl (.inl rfl)) (pgs_cons (pg_name (i := 5) sc_wP.nd rfl (.inl rfl)) pgs_nil))))))) (pss_cons (ps_set (i := 6) sc_wP.nd rfl (.inr rfl) (pe_callB (call_abs) (by rfl) ab (by decide +kernel) (pa_cons (pe_op op_sub (pv 3) (pv 2)) pa_nil))) (pss_cons (ps_set (i := 7) sc_wP.nd rfl (.inr rfl) (pe_callBfun cr_lcm (by rfl) Bq.lcm (pa_cons (pe_ix ix_tup (pv 4) pe_int (fun _ _ => rfl)) (pa_cons (pe_ix ix_tup (pv 5) pe_int (fun _ _ => rfl)) pa_nil)))) (pss_cons (ps_set (i := 8) sc_wP.nd rfl (.inl rfl) (pe_lst (pa_cons (pe_op op_mulW (pe_ix ix_tup (pv 4) pe_int (fun _ _ => rfl)) (pe_op op_fdivW (pv 7) (pe_ix ix_tup (pv 4) pe_int (fun _ _ => rfl)))) (pa_cons (pe_op op_mulW (pe_ix ix_tup (pv 5) pe_int (fun _ _ => rfl)) (pe_op op_fdivW (pv 7) (pe_ix ix_tup (pv 5) pe_int (fun _ _ => rfl)))) pa_nil)))) (pss_cons (ps_if (pt_cmpR op_lt (pv 3) (pv 2) (nomark _)) (pss_one (ps_setLc (i := 8) (te := tOp (rI0 fun i j => .int (i - j)) (tVar 7) (tVar 9)) (own := [("end", 9)]) (g := (gName 9)) (tt := tYes) rfl sc_wP.nd rfl rfl (sw_true rfl rfl rfl (by decide +kernel)) (pi_list (pv 8)) (blkOk_by (N := ["sighting", "_", "one", "other", "low", "high", "number", "shared", "ends", "end", "whole"]) (sc := defScope s__within_points) (by decide +kernel)) (fun _ _ _ _ _ => (pg_name (i := 9) sc_wP.nd rfl (.inl rfl))) (fun _ _ _ _ _ => pts_nil) (fun _ _ _ _ _ => (pe_op op_sub (pv 7) (pv 9))))) pss_nil) (pss_one (ps_ret (pe_call GP hr2 (by rfl) S.pn.g S.pn.F.kp S.pn.b .nil pass0 (pa_cons (pe_lc2 (te := tOp (rI0 fun i j => .int (i + j)) (tVar 9) (tOp (fun x y H Q => ∃ i j, x = V.int i ∧ y = V.int j ∧ CMulW i j ∧ Q (.int (i * j)) H) (tVar 10) (tVar 7))) (own := [("end", 9), ("whole", 10)]) (vs1 := [10]) (g := gName 9) (tt := tYes) (g1 := gName 10) (tt1 := tYes) (wi1 := iRng1 (tCons (tVar 6) tNil)) rfl sc_wP.nd (pi_list (pv 8)) (blkOk_by (N := ["sighting", "_", "one", "other", "low", "high", "number", "shared", "ends", "end", "whole"]) (sc := defScope s__within_points) (by decide +kernel)) (by decide) (fun _ _ _ _ _ => pg_name (i := 9) sc_wP.nd rfl (.inl rfl)) (fun _ _ _ _ _ => pts_nil) (fun _ _ _ _ _ => (pi_range1 rfl Bq.range (pa_cons (pv 6) pa_nil))) (fun _ _ _ _ _ => pg_name (i := 10) sc_wP.nd rfl (.inl rfl)) (fun _ _ _ _ _ => pts_nil) (fun _ _ _ _ _ => (pe_op op_add (pv 9) (pe_op op_mulW (pv 10) (pv 7))))) (pa_cons (pe_op op_mulW (pv 6) (pv 7)) pa_nil))))))))), ?_⟩
    refine ⟨_, rfl, t, _, rfl, ht, rfl, _, _, rfl, _, _, rfl, _, _, rfl, _, _, rfl, _, _, rfl, rfl, ?_⟩
    refine nxI ⟨_, rfl, _, rfl, _, _, rfl, rfl, _, rfl, ?_⟩
    rw [ab2]
    have d1 := fp.d0; have d2 := fq.d0
    have c0 := AR.c0; have c1 := AR.c1
    refine nxI ⟨_, rfl, tl, _, 1, .int p.2, rfl, rfl, htl, at_of (j := 1) rfl rfl, _, rfl, th, _, 1, .int q.2, rfl, rfl, hth, at_of (j := 1) rfl rfl, ?_⟩
    have hE1 : endsW a b p q = if b < a then [p.1 * (((Nat.lcm p.2.toNat q.2.toNat : Nat) : Int) / p.2), q.1 * (((Nat.lcm p.2.toNat q.2.toNat : Nat) : Int) / q.2)].map fun e => ((Nat.lcm p.2.toNat q.2.toNat : Nat) : Int) - e else [p.1 * (((Nat.lcm p.2.toNat q.2.toNat : Nat) : Int) / p.2), q.1 * (((Nat.lcm p.2.toNat q.2.toNat : Nat) : Int) / q.2)] := rfl
    have hT1 : topsW a b p q = (endsW a b p q).flatMap fun e => (List.range (b - a).natAbs).map fun (j : Nat) => e + (j : Int) * ((Nat.lcm p.2.toNat q.2.toNat : Nat) : Int) := rfl
    have hP1 : (Sgt.within a b p q).pts = gpts ((b - a).natAbs * Nat.lcm p.2.toNat q.2.toNat) (topsW a b p q) := rfl
    have tE := AR.es; have tT := AR.ts; have tl2 := topsW_len (a := a) (b := b) (p := p) (q := q)
    have le1 : (endsW a b p q).length = 2 := by rw [hE1]; split <;> rfl
    have n4 := AR.n40; have n0 := AR.n0
    rw [hP1] at k
    refine ⟨p.2.toNat, q.2.toNat, by rw [Int.toNat_of_nonneg (by omega), Int.toNat_of_nonneg (by omega)], Nat.lt_of_le_of_lt (show p.2.toNat ≤ 60 by omega) (by decide), Nat.lt_of_le_of_lt (show q.2.toNat ≤ 60 by omega) (by decide), ?_⟩
    have dvp := AR.dp; have dvq := AR.dq
    generalize Nat.lcm p.2.toNat q.2.toNat = c at *
    generalize (b - a).natAbs = n at *
    have ci : (0 : Int) < (c : Int) := by omega
    obtain ⟨x0, x1⟩ := end_in fp ci dvp
    obtain ⟨y0, y1⟩ := end_in fq ci dvq
    have pn0 := fp.n0; have ple := fp.le; have qn0 := fq.n0; have qle := fq.le
    have dp0 : 0 ≤ (c : Int) / p.2 ∧ (c : Int) / p.2 ≤ c := ⟨Int.ediv_nonneg (by omega) (by omega), Int.ediv_le_self _ (by omega)⟩
    have dq0 : 0 ≤ (c : Int) / q.2 ∧ (c : Int) / q.2 ≤ c := ⟨Int.ediv_nonneg (by omega) (by omega), Int.ediv_le_self _ (by omega)⟩
    refine nxI ⟨_, rfl, tl, _, 0, .int p.1, rfl, rfl, htl, at_of (j := 0) rfl rfl, _, rfl, _, rfl, tl, _, 1, .int p.2, rfl, rfl, htl, at_of (j := 1) rfl rfl, _, _, rfl, rfl, wide_div (b := 10) (by omega) (by omega) (by decide) (by decide), _, _, rfl, rfl, wide_mul (a := 64) (b := 64) (by omega) (by omega) (by decide) (by decide) (by decide), ?_⟩
    refine ⟨_, rfl, th, _, 0, .int q.1, rfl, rfl, hth, at_of (j := 0) rfl rfl, _, rfl, _, rfl, th, _, 1, .int q.2, rfl, rfl, hth, at_of (j := 1) rfl rfl, _, _, rfl, rfl, wide_div (b := 10) (by omega) (by omega) (by decide) (by decide), _, _, rfl, rfl, wide_mul (a := 64) (b := 64) (by omega) (by omega) (by decide) (by decide) (by decide), ?_⟩
    refine ⟨(by show 2 ≤ sizeLine; decide), fun E nE => nxI ?_⟩
    have s1 := same_put (o := HO.lst [V.int (p.1 * ((c : Int) / p.2)), V.int (q.1 * ((c : Int) / q.2))]) nE
    have gE : upd H E (HO.lst [V.int (p.1 * ((c : Int) / p.2)), V.int (q.1 * ((c : Int) / q.2))]) E = some (.lst [V.int (p.1 * ((c : Int) / p.2)), V.int (q.1 * ((c : Int) / q.2))]) := upd_same
    generalize upd H E (HO.lst [V.int (p.1 * ((c : Int) / p.2)), V.int (q.1 * ((c : Int) / q.2))]) = H1 at *
    -- turned round
    refine seqK (fun σ' H' => ∃ E' : Addr, σ' = [some (.ref t), some (.str "within"), some (.int a), some (.int b), some (.ref tl), some (.ref th), some (.int (n : Int)), some (.int (c : Int)), some (.ref E'), none, none] ∧ Same H H' ∧ H' E' = some (.lst ((endsW a b p q).map V.int))) (fun D' kD => ?_) ?_
    · refine ⟨_, rfl, _, rfl, _, _, rfl, rfl, _, rfl, ?_⟩
      by_cases ba : b < a
      · rw [decide_eq_true ba]
        rw [if_pos ba] at hE1
        refine iteT ⟨_, rfl, E, rfl, ⟨_, SqL.of gE⟩, fun D nD => ?_⟩
        have s2 := same_put (o := HO.lst []) nD
        refine lc_list (K := K) (a := E) (xs := [V.int (p.1 * ((c : Int) / p.2)), V.int (q.1 * ((c : Int) / q.2))]) (fun j H' => H' D = some (.lst (((endsW a b p q).take j).map V.int)) ∧ Same H1 H') ⟨upd_same, s2⟩ (fun j H' _ ⟨_, e⟩ => SqL.of (e _ _ gE)) ?_ ?_
        · rintro j z H2 hj ⟨hD, e2⟩
          have jl : j < 2 := (List.getElem?_eq_some_iff.mp hj).1
          have put : ∀ z' : Int, (endsW a b p q)[j]? = some z' → ∃ acc, H2 D = some (HO.lst acc) ∧ acc.length < sizeLine ∧ upd H2 D (HO.lst (acc ++ [.int z'])) D = some (HO.lst (((endsW a b p q).take (j + 1)).map V.int)) ∧ Same H1 (upd H2 D (HO.lst (acc ++ [.int z']))) := fun z' hz => ⟨_, hD, small4 (by rw [List.length_map, List.length_take]; omega), by rw [upd_same, List.take_add_one, hz, List.map_append]; rfl, fun b o e => by rw [upd_ne (ne_of_none e nD)]; exact e2 _ _ e⟩
          match j, jl, hj, put with
          | 0, _, hj, put =>
            cases hj
            exact ⟨rfl, _, rfl, _, rfl, _, _, rfl, rfl, put _ (by rw [hE1]; rfl)⟩
          | 1, _, hj, put =>
            cases hj
            exact ⟨rfl, _, rfl, _, rfl, _, _, rfl, rfl, put _ (by rw [hE1]; rfl)⟩
        · rintro H2 ⟨hD, e2⟩
          rw [show (endsW a b p q).take [V.int (p.1 * ((c : Int) / p.2)), V.int (q.1 * ((c : Int) / q.2))].length = endsW a b p q from List.take_of_length_le (by rw [le1]; exact Nat.le_refl 2)] at hD
          exact kD _ _ ⟨D, rfl, s1.trans e2, hD⟩
      · rw [decide_eq_false ba]
        rw [if_neg ba] at hE1
        exact iteF (kD _ _ ⟨E, rfl, s1, by rw [gE, hE1]; rfl⟩)
    rintro σ' H2 ⟨E', rfl, e02, gE'⟩
    -- all tops
    generalize endsW a b p q = es at *
    refine ⟨_, rfl, E', rfl, ⟨_, SqL.of gE'⟩, fun D nD => ?_⟩
    have s2 := same_put (o := HO.lst []) nD
    refine lc2_it (walk_list (K := K) (a := E') (xs := es.map V.int)) (fun i H' => H' D = some (.lst (((es.take i).flatMap fun e => (List.range n).map fun (j : Nat) => e + (j : Int) * (c : Int)).map V.int)) ∧ Same H2 H') ⟨upd_same, s2⟩ (fun i H' _ ⟨_, e⟩ => SqL.of (e _ _ gE')) ?_ ?_
    · rintro i x H3 H4 hi ⟨hD, e3⟩ ⟨rfl, hx⟩
      rw [List.getElem?_map] at hx
      obtain ⟨e, he, rfl⟩ := Option.map_eq_some_iff.mp hx
      have il : i < 2 := by rw [List.length_map, le1] at hi; exact hi
      have fl : ∀ (l : List Int), (l.flatMap fun e => (List.range n).map fun (j : Nat) => e + (j : Int) * (c : Int)).length = l.length * n := fun l => by
        induction l with
        | nil => simp
        | cons z r ih => rw [List.flatMap_cons, List.length_append, ih, List.length_map, List.length_range, List.length_cons, Nat.add_mul]; omega
      have lt : ((es.take i).flatMap fun e => (List.range n).map fun (j : Nat) => e + (j : Int) * (c : Int)).length ≤ 80 := by
        rw [fl, List.length_take]
        have : min i es.length * n ≤ 2 * 40 := Nat.mul_le_mul (by omega) n4
        omega
      have er := tE e (List.mem_of_getElem? he)
      refine ⟨rfl, yesI ?_⟩
      refine ⟨_, rfl, (n : Int), rfl, by omega, by omega, in1 (walk_range (lo := 0) (n := (n : Int).toNat)) (fun j H' => H' D = some (.lst ((((es.take i).flatMap fun e => (List.range n).map fun (j : Nat) => e + (j : Int) * (c : Int)) ++ (List.range j).map fun (j : Nat) => e + (j : Int) * (c : Int)).map V.int)) ∧ Same H2 H') ⟨by simpa using hD, e3⟩ (fun _ _ _ _ => trivial) ?_ ?_⟩
      · rintro j y H4 H5 hj ⟨hD4, e4⟩ ⟨rfl, rfl⟩
        refine ⟨rfl, yesI ?_⟩
        refine ⟨_, rfl, _, rfl, _, rfl, _, _, rfl, rfl, wide_mul (a := 64) (b := 64) (by omega) (by omega) (by decide) (by decide) (by decide), _, _, rfl, rfl, _, hD4, ?_, ?_, fun b o z => ?_⟩
        · rw [List.length_map, List.length_append, List.length_map, List.length_range]
          exact small4 (by omega)
        · rw [upd_same, List.range_succ]
          simp only [List.map_append, List.map_cons, List.map_nil, List.append_assoc, Int.zero_add]
        · rw [upd_ne (ne_of_none z nD)]
          exact e4 _ _ z
      · rintro H4 ⟨hD4, e4⟩
        refine ⟨?_, e4⟩
        rw [hD4, List.take_add_one, he]
        simp only [Int.toNat_natCast]
        show _ = some (HO.lst (((es.take i ++ [e]).flatMap fun e => (List.range n).map fun (j : Nat) => e + (j : Int) * (c : Int)).map V.int))
        rw [List.flatMap_append]
        simp
    · rintro H3 ⟨hD, e3⟩
      rw [List.length_map, List.take_length, ← hT1] at hD
      refine ⟨_, rfl, _, rfl, _, _, rfl, rfl, wide_mul (a := 64) (b := 64) (by omega) (by omega) (by decide) (by decide) (by decide), ?_⟩
      refine ⟨D, n * c, topsW a b p q, by rw [Int.natCast_mul]; rfl, SqL.of hD, by omega, Nat.mul_pos n0 c0, ?_, fun t m => (tT t m).1, fun v H4 s4 hv => k v H4 (e02.trans (e3.trans s4)) ?_⟩
      · have : n * c ≤ 40 * 3600 := Nat.mul_le_mul n4 c1
        omega
      · unfold gpts
        rw [List.map_map]
        exact hv
end
end My
set_option Elab.async false
set_option linter.all false
set_option maxRecDepth 100000
set_option maxHeartbeats 4000000
/-! t[::-1], t a tuple; set(a tuple of ints) -/
namespace Gn
open PySem PySem.Spec PyProof.Rows L2
theorem turn_adjust (n : Nat) : Builtin.Slice.slicePlaces (Builtin.Slice.sliceAdjust none none (-1) (n : Int)).1 (Builtin.Slice.sliceAdjust none none (-1) (n : Int)).2 (-1) = n ∧ (Builtin.Slice.sliceAdjust none none (-1) (n : Int)).1 = (n : Int) - 1 := by
  have a : (Builtin.Slice.sliceAdjust none none (-1) (n : Int)) = ((n : Int) - 1, -1) := by
    simp only [Builtin.Slice.sliceAdjust, show ((-1 : Int) < 0) = True by decide, if_true]
  rw [a]
  refine ⟨?_, rfl⟩
  unfold Builtin.Slice.slicePlaces
  simp only [show ((-1 : Int) > 0) = False by decide, if_false, show (-(-1) : Int) = 1 by decide, Int.ediv_one]
  split <;> omega
theorem turn_pick (xs : Array Value) : ((List.range xs.size).filterMap fun (m : Nat) => xs[(((xs.size : Nat) : Int) - 1 + (m : Int) * (-1)).toNat]?).toArray = xs.toList.reverse.toArray := by
  congr 1
  have g : ∀ k, k ≤ xs.size → ((List.range k).filterMap fun (m : Nat) => xs[(((xs.size : Nat) : Int) - 1 + (m : Int) * (-1)).toNat]?) = xs.toList.reverse.take k := by
    intro k
    induction k with
    | zero => intro _; rfl
    | succ k ih =>
      intro hk
      have i1 : (((xs.size : Nat) : Int) - 1 + (k : Int) * (-1)).toNat = xs.size - 1 - k := by omega
      have i2 : xs.size - 1 - k < xs.size := by omega
      have hl : k < xs.toList.reverse.length := by rw [List.length_reverse, Array.length_toList]; omega
      rw [List.range_succ, List.filterMap_append, ih (by omega), List.take_add_one, List.getElem?_eq_getElem hl]
      congr 1
      simp only [List.filterMap_cons, List.filterMap_nil, i1, Array.getElem?_eq_getElem i2, Option.toList]
      congr 1
      rw [List.getElem_reverse]
      simp only [Array.length_toList, Array.getElem_toList]
  rw [g _ (Nat.le_refl _)]
  refine List.take_of_length_le ?_
  rw [List.length_reverse, Array.length_toList]
  exact Nat.le_refl _
section
variable {prog : Program} {w : World} {A : Around} {E : Value → Shared → Prop} {s : Shared}
theorem turn_item {t sl : Addr} {its : Array Value} {vl vu vs : Value} {Q : Value → Shared → Prop} (ht : IsTup s.heap t its) (hs : s.heap.IsSliceOf sl vl vu vs) (pl : IsPart vl none) (pu : IsPart vu none) (ps : IsPart vs (some (-1)))
    (h : Q (.ref s.heap.objs.size) { s with heap := s.heap.push { cls := .type "tuple", data := .seq its.toList.reverse.toArray } }) (hz : its.size ≤ sizeLine) : wpAny (model prog w) A (getItem (.ref t) (.ref sl)) Q E s := by
  have hfit : sizeOk (.seq its.toList.reverse.toArray) := by
    show its.toList.reverse.toArray.size ≤ sizeLine
    rw [List.size_toArray, List.length_reverse, Array.length_toList]; exact hz
  obtain ⟨os, hos, hcs, hds⟩ := id hs
  unfold getItem
  try with_reducible refine wpAny_holding ?_
  first | refine wpAny_bind (wpAny_pure ?_) | skip
  refine wpAny_bind (wpAny_sequenceKey ht.typeIs (by decide) (wpAny_bind (wpAny_callSpecial?_slot (name := Str.ofString "__getitem__") ht.typeIs PyProof.Rows.slot_tuple_getitem (wpAny_call_entry PyProof.Rows.slot_tuple_getitem ht.typeIs PyProof.Rows.entry_tuple_getitem ?_ (PyProof.Rows.args_tuple_getitem _ _)))))
  show wpAny _ _ (Builtin.Tuple.tupleItemsOf (.ref t) >>= _) _ _ s
  refine wpAny_bind (PyProof.Rows.tupleItemsOf_ ht (wpAny_bind (wpAny_typeOf (show s.TypeIs (.ref sl) "slice" from ⟨os, hos, hcs⟩) ?_)))
  rw [if_pos (by decide)]
  refine wpAny_bind ?_
  unfold Builtin.Slice.sliceApplied Builtin.Slice.sliceFields
  refine wpAny_bind (wpAny_bind (wpAny_field hos hds (x := vl) rfl (wpAny_bind (wpAny_field hos hds (x := vu) rfl (wpAny_bind (wpAny_field hos hds (x := vs) rfl (wpAny_pure (wpAny_bind (HT.slicePart_ ps ?_)))))))))
  show wpAny _ _ (if ((-1 : Int) == 0) = true then _ else _) _ _ s
  rw [if_neg (by decide)]
  refine wpAny_bind (HT.slicePart_ pl (wpAny_bind (HT.slicePart_ pu (wpAny_bind (wpAny_pure ?_)))))
  have e1 := (turn_adjust its.size).1
  have e2 := (turn_adjust its.size).2
  show wpAny _ _ (pure ((Builtin.Slice.sliceAdjust none none (-1) (its.size : Int)).1, (-1 : Int), Builtin.Slice.slicePlaces (Builtin.Slice.sliceAdjust none none (-1) (its.size : Int)).1 (Builtin.Slice.sliceAdjust none none (-1) (its.size : Int)).2 (-1))) _ _ s
  rw [e1, e2]
  refine wpAny_pure ?_
  have no : ¬ ((((its.size : Nat) : Int) - 1 == 0 && (-1 : Int) == 1 && its.size == its.size) = true) := by
    rw [show ((-1 : Int) == 1) = false by decide]; simp
  show wpAny _ _ (if ((((its.size : Nat) : Int) - 1 == 0 && (-1 : Int) == 1 && its.size == its.size) = true) then _ else _) _ _ s
  rw [if_neg no, turn_pick]
  first
    | exact wpAny_bind (m := Builtin.Tuple.tupleExact _) (wpAny_newObj_type (wpAny_pure ⟨_, rfl, wpAny_pure h⟩) hfit)
    | exact wpAny_bind (wpAny_bind (m := Builtin.Tuple.tupleExact _) (wpAny_newObj_type (wpAny_pure ⟨_, rfl, wpAny_pure h⟩) hfit))
    | exact wpAny_bind (wpAny_bind (m := Builtin.Tuple.tupleExact _) (wpAny_newObj_type (wpAny_pure (wpAny_pure ⟨_, rfl, wpAny_pure h⟩)) hfit))
end
def tTurn (K : PySem.W.Frag) (te : TE) : TE := fun σ H Q => te σ H fun x H1 => ∃ a xs, x = .ref a ∧ SqT K H1 a xs ∧ ∀ p, H1 p = none → Q (.ref p) (upd H1 p (.tup xs.reverse))
section
variable {X : Cx}
theorem pe_turn {e : Expr} {te : TE} {k : Nat} {p1 p2 p3 pos : Pos} (he : PE X e te) : PE X (.Subscript e (.Slice none none (some (.UnaryOp .USub (.Constant (.int 1) k p1) p2)) p3) pos) (tTurn X.K te) := by
  refine ⟨fun pins s σ H Q I h => ?_⟩
  refine Subscript_ (thn (he.run pins s σ H _ I h) fun v s1 ⟨x, H1, I1, r1, q1⟩ => ?_)
  obtain ⟨a, xs, ex, hx, q⟩ := q1
  subst ex
  cases r1
  have hst : PO X (some (.UnaryOp .USub (.Constant (.int 1) k p1) p2)) (tPart (tUn (rU fun i => .int (-i)) (tC (.int 1)))) := po_some (pe_un un_neg pe_int)
  refine wpAny_Slice (thn (po_none.run pins s1 σ H1 (fun o H2 => o = none ∧ H2 = H1) I1 ⟨rfl, rfl⟩) fun vl s2 ⟨l, H2, I2, pl, el, e2⟩ => ?_)
  subst el e2
  refine thn (po_none.run pins s2 σ H2 (fun o H3 => o = none ∧ H3 = H2) I2 ⟨rfl, rfl⟩) fun vu s3 ⟨u, H3, I3, pu, eu, e3⟩ => ?_
  subst eu e3
  refine thn (hst.run pins s3 σ H3 (fun o H4 => o = some (-1) ∧ H4 = H3) I3 ⟨1, rfl, -1, rfl, rfl, rfl⟩) fun vs s4 ⟨o, H4, I4, ps, eo, e4⟩ => ?_
  subst eo e4
  have I5 : Inv X pins σ H4 { s4 with heap := s4.heap.push { cls := .type "slice", data := .fields #[vl, vu, vs] } } := I4.kept (t' := s4.toks) fun b ob q => Heap.get?_push_of_some _ q
  obtain ⟨its, r, ht, hz⟩ := I5.tuple hx
  have hlen := r.length
  show wpAny (model X.prog X.w) X.A (subscriptTail e (.Slice none none (some (.UnaryOp .USub (.Constant (.int 1) k p1) p2)) p3) (.ref a) (.ref s4.heap.objs.size)) (EP X pins σ Q) X.xe { s4 with heap := s4.heap.push { cls := .type "slice", data := .fields #[vl, vu, vs] } }
  refine tail_any (ops := [.ref a, .ref s4.heap.objs.size]) ht.typeIs (PyProof.Rows.slot_tuple_getitem.lookup) ?_ (by with_unfolding_all rfl)
  refine turn_item ht (Heap.IsSliceOf.new _ vl vu vs) pl pu ps ?_ (by rw [List.size_toArray]; omega)
  refine ⟨.ref _, _, I5.laid (t' := s4.toks) (o := .tup xs.reverse) (fun b ob q => Heap.get?_push_of_some _ q) (Nat.le_refl _) ?_, rfl, q _ (I5.hok.fresh (Nat.le_refl _))⟩
  exact ⟨by rw [List.length_reverse]; omega, _, r.reverse, ⟨_, Heap.get?_push_size _ rfl, rfl, _, rfl⟩⟩
/-- set(t), t a tuple of ints -/
def rSetT (K : PySem.W.Frag) (w : World) : List V → Hp → VK → Prop := fun xs H Q => ∃ (l : Addr) (ns : List Int), xs = [.ref l] ∧ SqT K H l (ns.map V.int) ∧ ns.length ≤ 1000 ∧ ∀ p c, H p = none → c ≤ ns.length → Q (.ref p) (upd H p (SetO w p (fun j => decide (j ∈ ns)) c))
theorem cr_setT (hc : X.calm = true) : CallR X (.type "set") (rSetT X.K X.w) := by
  intro pins s σ H xs us Q I r h
  obtain ⟨l, ns, rfl, hl, hf, q⟩ := h
  rw [Vals.ref1 r]
  obtain ⟨its, rv, tp, hz⟩ := I.tuple hl
  refine call_set_tupI ns (I.ok.hd hc) tp (by simpa using intsAre_of rv) (by unfold scanBound; omega) fun h' tk c hS hcn k => ?_
  exact ⟨.ref s.heap.objs.size, _, I.laid (t' := tk) k (Nat.le_refl _) (setO_new hS), rfl, q _ c (I.hok.fresh (Nat.le_refl _)) hcn⟩
end
end Gn
set_option Elab.async false
set_option linter.all false
set_option maxRecDepth 100000
set_option maxHeartbeats 4000000
/-! set(t), t a tuple of ints, with its count; len of a set of ints -/
namespace Gn
open PySem PySem.Spec PyProof.Rows L2
def rSetTN (K : PySem.W.Frag) (w : World) : List V → Hp → VK → Prop := fun xs H Q => ∃ (l : Addr) (ns : List Int), xs = [.ref l] ∧ SqT K H l (ns.map V.int) ∧ ns.length ≤ 1000 ∧ ∀ p (ks : List Int), H p = none → ks.Nodup → ks.length ≤ ns.length → (∀ k, k ∈ ks ↔ k ∈ ns) → Q (.ref p) (upd H p (SetO w p (fun j => decide (j ∈ ns)) ks.length))
theorem cr_setTN {X : Cx} (hc : X.calm = true) : CallR X (.type "set") (rSetTN X.K X.w) := by
  intro pins s σ H xs us Q I r h
  obtain ⟨l, ns, rfl, hl, hf, q⟩ := h
  rw [Vals.ref1 r]
  obtain ⟨its, rv, tp, hz⟩ := I.tuple hl
  refine call_set_tupI ns (I.ok.hd hc) tp (by simpa using intsAre_of rv) (by unfold scanBound; omega) fun h' tk c hS hcn k => ?_
  obtain ⟨o, es, ep, t, ho, hx, hd, g, nd, hm, hb, hft, hn, hr⟩ := id hS
  have len : (es.toList.map keyOf).length = c := by rw [List.length_map, Array.length_toList]; exact hn
  have z := q s.heap.objs.size (es.toList.map keyOf) (I.hok.fresh (Nat.le_refl _)) nd (by rw [len]; exact hcn) fun j => by rw [← hm j, decide_eq_true_eq]
  rw [len] at z
  exact ⟨.ref s.heap.objs.size, _, I.laid (t' := tk) k (Nat.le_refl _) (setO_new hS), rfl, z⟩
def rLenSetO (w : World) : List V → Hp → VK → Prop := fun xs H Q => ∃ (a : Addr) (S : Int → Bool) (n : Nat), xs = [V.ref a] ∧ H a = some (SetO w a S n) ∧ n ≤ 1000 ∧ Q (.int (n : Nat)) H
theorem cr_lenSetO {X : Cx} : CallR X (.builtin "len") (rLenSetO X.w) := by
  intro pins s σ H xs us Q I r h
  obtain ⟨a, S, n, rfl, ha, hn, q⟩ := h
  rw [Vals.ref1 r]
  obtain ⟨o, es, ep, t, ho, hx, hd, _, _, _, _, hf, hs, _⟩ := setO_get I ha
  refine call_len_set ho hx hd hf (by omega) ?_
  exact ⟨.int (n : Nat), H, I.tok _, ⟨_, by rw [hs]⟩, q⟩
/-- a list without doubles that has the same members is as long -/
theorem len_same {ns ks : List Int} (h1 : ns.Nodup) (h2 : ks.Nodup) (h : ∀ k, k ∈ ks ↔ k ∈ ns) : ks.length = ns.length := (List.perm_ext_iff_of_nodup h2 h1).mpr h |>.length_eq
end Gn
set_option Elab.async false
set_option linter.all false
set_option maxRecDepth 100000
set_option maxHeartbeats 8000000
set_option exponentiation.threshold 4000
namespace My
open PySem PySem.Spec PyProof.Rows L2 Gn Mt
/-! right sightings pass the checks; the lot of one -/
theorem sc_am : FnScope ["marks", "most", "mark"] ["marks", "most"] (defScope s__are_marks) := ⟨rfl, rfl, rfl, by decide +kernel, rfl, by decide +kernel, by decide +kernel⟩
theorem sc_iT : FnScope ["given"] ["given"] (defScope s__is_turn) := ⟨rfl, rfl, rfl, by decide +kernel, rfl, by decide +kernel, by decide +kernel⟩
theorem sc_iO : FnScope ["given"] ["given"] (defScope s__is_on) := ⟨rfl, rfl, rfl, by decide +kernel, rfl, by decide +kernel, by decide +kernel⟩
theorem sc_iW : FnScope ["given", "low", "high"] ["given"] (defScope s__is_within) := ⟨rfl, rfl, rfl, by decide +kernel, rfl, by decide +kernel, by decide +kernel⟩
theorem sc_is : FnScope ["given", "has_form"] ["given"] (defScope s_is_sighting) := ⟨rfl, rfl, rfl, by decide +kernel, rfl, by decide +kernel, by decide +kernel⟩
theorem sc_cs : FnScope ["given"] ["given"] (defScope s_check_sighting) := ⟨rfl, rfl, rfl, by decide +kernel, rfl, by decide +kernel, by decide +kernel⟩
theorem sc_ck : FnScope ["given", "most", "at", "sighting"] ["given", "most"] (defScope s_check_sightings) := ⟨rfl, rfl, rfl, by decide +kernel, rfl, by decide +kernel, by decide +kernel⟩
theorem sc_lo : FnScope ["sighting", "points_of"] ["sighting"] (defScope s_lot_of) := ⟨rfl, rfl, rfl, by decide +kernel, rfl, by decide +kernel, by decide +kernel⟩
def qO : Str := (envOfC "lot_of" (defScope s_lot_of) 0 0 .none).qual ++ "<lambda>"
def spMks (K : PySem.W.Frag) : Sp := fun vs H Q _ => ∃ (t : Addr) (ms : List Int), vs = [.ref t, .int 40] ∧ SqT K H t (ms.map V.int) ∧ (∀ m ∈ ms, Mrk m) ∧ ms.Nodup ∧ ms.length ≤ 9 ∧ ∀ H', Same H H' → Q (.bl true) H'
def spForm (K : PySem.W.Frag) (G : Sgt → Prop) : Sp := fun vs H Q _ => ∃ (u : V) (g : Sgt), vs = [u] ∧ G g ∧ g.Ok ∧ Dp K H u (sgD g) ∧ ∀ H', Same H H' → Q (.bl true) H'
def spIsSg (K : PySem.W.Frag) : Sp := fun vs H Q _ => ∃ (u : V) (g : Sgt), vs = [u] ∧ g.Ok ∧ Dp K H u (sgD g) ∧ ∀ H', Same H H' → Q (.bl true) H'
def spChSg (K : PySem.W.Frag) : Sp := fun vs H Q _ => ∃ (u : V) (g : Sgt), vs = [u] ∧ g.Ok ∧ Dp K H u (sgD g) ∧ ∀ H', Same H H' → Q .non H'
def spChSgs (K : PySem.W.Frag) : Sp := fun vs H Q _ => ∃ (u : V) (gs : List Sgt) (most : Int), vs = [u, .int most] ∧ (∀ g ∈ gs, g.Ok) ∧ (gs.length : Int) ≤ most ∧ most ≤ 1000 ∧ Dp K H u (.tuple (gs.map sgD)) ∧ ∀ H', Same H H' → Q .non H'
/-- what the checks want of the module -/
structure Sk (mg : Str → Option Value) : Prop where
  c : Bc mg
  all : mg "all" = none
  set : mg "set" = none
  str : mg "str" = none
  en : mg "enumerate" = none
  m40 : ∃ tk, mg "MOST_MARK" = some (.int 40 tk)
  m60 : ∃ tk, mg "MOST_PART" = some (.int 60 tk)
section
variable {P : Program} {w : World} {K : PySem.W.Frag} {mg : Str → Option Value} {base : Heap}
theorem ok_marks (S : Sf K mg) (B : Sk mg) {fN fI : Addr} {fdN fdI : FuncData} (N : Df K mg "is_number" sIsNum ["given", "least", "most"] fN fdN) (D : Df K mg "is_integer" sIsInt ["given"] fI fdI) : FnOk P w K mg base CX0 3 S.f_am.1 S.f_am.2 ["marks", "most"] (spMks K) := by
  have GN : FnOk P w K mg base CX0 2 fN fdN ["given", "least", "most"] spIsNum := ok_isNum N.F B.c D
  refine S.am.F.ok sc_am (fun vs H Q E h => ?_) (fun cdv A outer s H vs Q E hr h => ?_)
  · obtain ⟨t, ms, rfl, _⟩ := h
    rfl
  · obtain ⟨t, ms, rfl, ht, mk, nd, few, k⟩ := h
    refine ⟨_, pss_one (ps_ret (pe_and (pe_callB (cr_all rfl) (by rfl) B.all (by decide +kernel) (pa_cons (pe_lc (te := tCall spIsNum [] E0 (tCons (tVar 2) (tCons (tC (.int 0)) (tCons (tVar 1) tNil)))) (own := [("mark", 2)]) (g := gName 2) (tt := tYes) rfl sc_am.nd (pi_tup (pv 0)) (blkOk_by (N := ["marks", "most", "mark"]) (sc := defScope s__are_marks) (by decide +kernel)) (fun _ _ _ _ _ => pg_name (i := 2) sc_am.nd rfl (.inl rfl)) (fun _ _ _ _ _ => pts_nil) (fun _ _ _ _ _ => (pe_call GN hr (by rfl) N.g N.F.kp N.b .nil pass0 (pa_cons (pv 2) (pa_cons pe_int (pa_cons (pv 1) pa_nil)))))) pa_nil)) (pe_one (pe_cmpR op_eq (pe_callB (cr_lenSetO) (by rfl) B.c.len (by decide +kernel) (pa_cons (pe_callTy (cr_setTN rfl) (by rfl) B.set (by decide +kernel) (pa_cons (pv 0) pa_nil)) pa_nil)) (pe_callB (call_len_seq) (by rfl) B.c.len (by decide +kernel) (pa_cons (pv 0) pa_nil)) (nomark _))))), ?_⟩
    refine ⟨_, rfl, t, rfl, ⟨_, ht⟩, fun D nD => ?_⟩
    have s1 := same_put (o := HO.lst []) nD
    refine lc_tup (K := K) (a := t) (xs := ms.map V.int) (fun j H' => H' D = some (.lst ((List.replicate j true).map V.bl)) ∧ Same H H') ⟨upd_same, s1⟩ (fun j H' _ ⟨_, e⟩ => sqT_same e ht) ?_ ?_
    · rintro j z H2 hj ⟨hD, e2⟩
      rw [List.getElem?_map] at hj
      obtain ⟨m, hm, rfl⟩ := Option.map_eq_some_iff.mp hj
      have mm := mk m (List.mem_of_getElem? hm)
      have jl := (List.getElem?_eq_some_iff.mp hm).1
      refine ⟨rfl, _, rfl, _, rfl, m, 0, 40, rfl, mm.1, mm.2, _, hD, ?_, ?_, fun b o e => ?_⟩
      · rw [List.length_map, List.length_replicate]; exact small1000 (by omega)
      · rw [upd_same, List.replicate_succ', List.map_append]; rfl
      · rw [upd_ne (ne_of_none e nD)]; exact e2 _ _ e
    rintro H2 ⟨hD, e2⟩
    refine ⟨D, _, rfl, SqL.of hD, ?_⟩
    have tr : (List.replicate (ms.map V.int).length true).all id = true := by
      rw [List.all_eq_true]
      intro b hb
      exact (List.mem_replicate.mp hb).2
    rw [tr]
    refine ⟨_, rfl, iteT ⟨_, rfl, t, ms, rfl, sqT_same e2 ht, by omega, fun p ks np nk lk mem => ?_⟩⟩
    have s3 := same_put (o := SetO w p (fun j => decide (j ∈ ms)) ks.length) np
    have s13 := e2.trans s3
    refine ⟨p, _, ks.length, rfl, upd_same, by omega, _, rfl, t, _, rfl, .inr (sqT_same s13 ht), ?_⟩
    have el := len_same nd nk mem
    rw [el] at s13
    rw [el, List.length_map]
    refine ⟨rfl, ?_⟩
    rw [decide_eq_true rfl]
    exact k _ s13
theorem ok_isT (S : Sf K mg) (B : Sk mg) {fN fI : Addr} {fdN fdI : FuncData} (N : Df K mg "is_number" sIsNum ["given", "least", "most"] fN fdN) (D : Df K mg "is_integer" sIsInt ["given"] fI fdI) : FnOk P w K mg base CX0 4 S.f_iT.1 S.f_iT.2 ["given"] (spForm K isT) := by
  have GM : FnOk P w K mg base CX0 3 S.f_am.1 S.f_am.2 ["marks", "most"] (spMks K) := ok_marks S B N D
  obtain ⟨tk, m40⟩ := B.m40
  refine S.iT.F.ok sc_iT (fun vs H Q E h => ?_) (fun cdv A outer s H vs Q E hr h => ?_)
  · obtain ⟨u, g, rfl, _⟩ := h
    rfl
  · obtain ⟨u, g, rfl, gT, ok, hu, k⟩ := h
    cases g with
    | on a b => exact gT.elim
    | within a b p q => exact gT.elim
    | turn s a b =>
    obtain ⟨t, rfl, ht⟩ := turn_inv hu
    obtain ⟨m1, m2, m3, n1, n2, n3⟩ := ok
    refine ⟨_, pss_one (ps_ret (pe_and (pe_cmpR op_eq (pe_callB (call_len_seq) (by rfl) B.c.len (by decide +kernel) (pa_cons (pv 0) pa_nil)) pe_int (nomark _)) (pe_one (pe_call GM hr (by rfl) S.am.g S.am.F.kp S.am.b .nil pass0 (pa_cons (pe_slice sl_tup (pv 0) (po_some pe_int) po_none) (pa_cons (pe_glob (v := .int 40) rfl m40 ⟨tk, rfl⟩) pa_nil)))))), ?_⟩
    refine ⟨_, rfl, t, _, rfl, .inr ht, rfl, _, rfl, iteT ?_⟩
    refine ⟨_, rfl, 1, rfl, t, _, rfl, ht, (by show ¬ (HT.sIx 4 0 (some 1) = 0 ∧ HT.sIx 4 4 none = 4); decide), fun z nz => ?_⟩
    have s1 := same_put (o := HO.tup (cutV [V.str "turn", V.int s, V.int a, V.int b] (some 1) none)) nz
    refine ⟨z, [s, a, b], rfl, SqT.of upd_same, fun m mm => ?_, ?_, (show 3 ≤ 9 by decide), fun H' s2 => k H' (s1.trans s2)⟩
    · simp only [List.mem_cons, List.mem_nil_iff, or_false] at mm
      rcases mm with rfl | rfl | rfl
      · exact m1
      · exact m2
      · exact m3
    · simp only [List.nodup_cons, List.mem_cons, List.mem_nil_iff, or_false, not_or, not_false_iff, List.nodup_nil, and_true]
      exact ⟨⟨n1, n2⟩, n3⟩
theorem ok_isO (S : Sf K mg) (B : Sk mg) {fN fI : Addr} {fdN fdI : FuncData} (N : Df K mg "is_number" sIsNum ["given", "least", "most"] fN fdN) (D : Df K mg "is_integer" sIsInt ["given"] fI fdI) : FnOk P w K mg base CX0 4 S.f_iO.1 S.f_iO.2 ["given"] (spForm K isO) := by
  have GM : FnOk P w K mg base CX0 3 S.f_am.1 S.f_am.2 ["marks", "most"] (spMks K) := ok_marks S B N D
  obtain ⟨tk, m40⟩ := B.m40
  refine S.iO.F.ok sc_iO (fun vs H Q E h => ?_) (fun cdv A outer s H vs Q E hr h => ?_)
  · obtain ⟨u, g, rfl, _⟩ := h
    rfl
  · obtain ⟨u, g, rfl, gT, ok, hu, k⟩ := h
    cases g with
    | turn s a b => exact gT.elim
    | within a b p q => exact gT.elim
    | on a b =>
    obtain ⟨t, rfl, ht⟩ := on_inv hu
    obtain ⟨m1, m2, n1⟩ := ok
    refine ⟨_, pss_one (ps_ret (pe_and (pe_cmpR op_eq (pe_callB (call_len_seq) (by rfl) B.c.len (by decide +kernel) (pa_cons (pv 0) pa_nil)) pe_int (nomark _)) (pe_one (pe_call GM hr (by rfl) S.am.g S.am.F.kp S.am.b .nil pass0 (pa_cons (pe_slice sl_tup (pv 0) (po_some pe_int) po_none) (pa_cons (pe_glob (v := .int 40) rfl m40 ⟨tk, rfl⟩) pa_nil)))))), ?_⟩
    refine ⟨_, rfl, t, _, rfl, .inr ht, rfl, _, rfl, iteT ?_⟩
    refine ⟨_, rfl, 1, rfl, t, _, rfl, ht, (by show ¬ (HT.sIx 3 0 (some 1) = 0 ∧ HT.sIx 3 3 none = 3); decide), fun z nz => ?_⟩
    have s1 := same_put (o := HO.tup (cutV [V.str "on", V.int a, V.int b] (some 1) none)) nz
    refine ⟨z, [a, b], rfl, SqT.of upd_same, fun m mm => ?_, ?_, (show 2 ≤ 9 by decide), fun H' s2 => k H' (s1.trans s2)⟩
    · simp only [List.mem_cons, List.mem_nil_iff, or_false] at mm
      rcases mm with rfl | rfl
      · exact m1
      · exact m2
    · simp only [List.nodup_cons, List.mem_cons, List.mem_nil_iff, or_false, not_false_iff, List.nodup_nil, and_true]
      exact n1
theorem ok_isW (S : Sf K mg) (B : Sk mg) {fN fI fR : Addr} {fdN fdI fdR : FuncData} (N : Df K mg "is_number" sIsNum ["given", "least", "most"] fN fdN) (D : Df K mg "is_integer" sIsInt ["given"] fI fdI) (R : Df K mg "is_fraction" s_is_fraction ["given"] fR fdR) : FnOk P w K mg base CX0 4 S.f_iW.1 S.f_iW.2 ["given"] (spForm K isW) := by
  have GM : FnOk P w K mg base CX0 3 S.f_am.1 S.f_am.2 ["marks", "most"] (spMks K) := ok_marks S B N D
  have GP : FnOk P w K mg base CX0 3 S.f_pa.1 S.f_pa.2 ["given"] (spPart K) := ok_part S.pa.F B.c D R
  have GL : FnOk P w K mg base CX0 1 S.f_le.1 S.f_le.2 ["one", "other"] (spLess K) := ok_less S.le.F
  obtain ⟨tk, m40⟩ := B.m40
  obtain ⟨tk6, m60⟩ := B.m60
  refine S.iW.F.ok sc_iW (fun vs H Q E h => ?_) (fun cdv A outer s H vs Q E hr h => ?_)
  · obtain ⟨u, g, rfl, _⟩ := h
    rfl
  · obtain ⟨u, g, rfl, gT, ok, hu, k⟩ := h
    cases g with
    | turn s a b => exact gT.elim
    | on a b => exact gT.elim
    | within a b p q =>
    obtain ⟨t, lo, hi, rfl, ht, hlo, hhi⟩ := within_inv hu
    obtain ⟨m1, m2, n1, fp, fq, p6, q6, lss⟩ := ok
    obtain ⟨tl, rfl, htl⟩ := fr_inv hlo
    obtain ⟨th, rfl, hth⟩ := fr_inv hhi
    have hr1 : Room 1 _ := hr.mono (by decide)
    refine ⟨_, pss_cons (ps_if (PW.pt (pw_or (pt_cmpR op_ne (pe_callB (call_len_seq) (by rfl) B.c.len (by decide +kernel) (pa_cons (pv 0) pa_nil)) pe_int (nomark _)) (pw_or1 (pt_not (pt_val (pe_call GM hr (by rfl) S.am.g S.am.F.kp S.am.b .nil pass0 (pa_cons (pe_slice sl_tup (pv 0) (po_some pe_int) (po_some pe_int)) (pa_cons (pe_glob (v := .int 40) rfl m40 ⟨tk, rfl⟩) pa_nil)))))))) (pss_one (ps_ret pe_bl)) pss_nil) (pss_cons (ps_asg (pe_slice sl_tup (pv 0) (po_some pe_int) po_none) (pg_tup (by rfl) (pgs_cons (pg_name (i := 1) sc_iW.nd rfl (.inl rfl)) (pgs_cons (pg_name (i := 2) sc_iW.nd rfl (.inl rfl)) pgs_nil)))) (pss_cons (ps_if (PW.pt (pw_or (pt_not (pt_val (pe_call GP hr (by rfl) S.pa.g S.pa.F.kp S.pa.b .nil pass0 (pa_cons (pv 1) pa_nil)))) (pw_or (pt_not (pt_val (pe_call GP hr (by rfl) S.pa.g S.pa.F.kp S.pa.b .nil pass0 (pa_cons (pv 2) pa_nil)))) (pw_or (pt_cmpR op_gt (pe_ix ix_tup (pv 1) pe_int (fun _ _ => rfl)) (pe_glob (v := .int 60) rfl m60 ⟨tk6, rfl⟩) (nomark _)) (pw_or1 (pt_cmpR op_gt (pe_ix ix_tup (pv 2) pe_int (fun _ _ => rfl)) (pe_glob (v := .int 60) rfl m60 ⟨tk6, rfl⟩) (nomark _))))))) (pss_one (ps_ret pe_bl)) pss_nil) (pss_one (ps_ret (pe_call GL hr1 (by rfl) S.le.g S.le.F.kp S.le.b .nil pass0 (pa_cons (pv 1) (pa_cons (pv 2) pa_nil))))))), ?_⟩
    refine ⟨_, rfl, t, _, rfl, .inr ht, rfl, _, rfl, iteF ?_⟩
    refine ⟨_, rfl, 1, rfl, 3, rfl, t, _, rfl, ht, (by show ¬ (HT.sIx 5 0 (some 1) = 0 ∧ HT.sIx 5 5 (some 3) = 5); decide), fun z nz => ?_⟩
    have s1 := same_put (o := HO.tup (cutV [V.str "within", V.int a, V.int b, V.ref tl, V.ref th] (some 1) (some 3))) nz
    refine ⟨z, [a, b], rfl, SqT.of upd_same, fun m mm => ?_, ?_, (show 2 ≤ 9 by decide), fun H2 s2 => ⟨_, rfl, iteF ?_⟩⟩
    · simp only [List.mem_cons, List.mem_nil_iff, or_false] at mm
      rcases mm with rfl | rfl
      · exact m1
      · exact m2
    · simp only [List.nodup_cons, List.mem_cons, List.mem_nil_iff, or_false, not_false_iff, List.nodup_nil, and_true]
      exact n1
    have S2 := s1.trans s2
    have ht2 := sqT_same S2 ht
    refine ⟨_, rfl, 3, rfl, t, _, rfl, ht2, (by show ¬ (HT.sIx 5 0 (some 3) = 0 ∧ HT.sIx 5 5 none = 5); decide), fun y ny => ?_⟩
    have s3 := same_put (o := HO.tup (cutV [V.str "within", V.int a, V.int b, V.ref tl, V.ref th] (some 3) none)) ny
    have gy : upd H2 y (HO.tup (cutV [V.str "within", V.int a, V.int b, V.ref tl, V.ref th] (some 3) none)) y = some (.tup [.ref tl, .ref th]) := upd_same
    generalize upd H2 y (HO.tup (cutV [V.str "within", V.int a, V.int b, V.ref tl, V.ref th] (some 3) none)) = H3 at *
    have S3 := S2.trans s3
    have hlo := dp_same S3 _ _ hlo
    have hhi := dp_same S3 _ _ hhi
    refine ⟨y, _, rfl, SqT.of gy, rfl, _, _, rfl, _, _, rfl, rfl, ?_⟩
    refine ⟨_, rfl, .ref tl, p, rfl, hlo, fp, _, rfl, iteF ?_⟩
    refine ⟨_, rfl, .ref th, q, rfl, hhi, fq, _, rfl, iteF ?_⟩
    refine ⟨_, rfl, tl, _, 1, .int p.2, rfl, rfl, sqT_same S3 htl, at_of (j := 1) rfl rfl, _, _, rfl, rfl, _, rfl, ?_⟩
    rw [decide_eq_false (show ¬ (60 : Int) < p.2 by omega)]
    refine iteF ⟨_, rfl, th, _, 1, .int q.2, rfl, rfl, sqT_same S3 hth, at_of (j := 1) rfl rfl, _, _, rfl, rfl, _, rfl, ?_⟩
    rw [decide_eq_false (show ¬ (60 : Int) < q.2 by omega)]
    refine iteF (nxI ⟨_, rfl, _, rfl, .ref tl, .ref th, p, q, rfl, hlo, hhi, lit_frc fp p6, lit_frc fq q6, ?_⟩)
    rw [decide_eq_true (show p.1 * q.2 < q.1 * p.2 from lss)]
    exact k _ S3
end
end My
set_option Elab.async false
set_option linter.all false
set_option maxRecDepth 100000
set_option maxHeartbeats 4000000
/-! two promises of one def, one that never throws and one that does, put together -/
namespace Gn
open PySem PySem.Spec PyProof.Rows L2
section
variable {P : Program} {w : World} {K : PySem.W.Frag} {mg : Str → Option Value} {base : Heap} {CX : CXT} {k : Nat} {f : Addr} {fd : FuncData} {ps : List Str} {sp sp' : Sp}
theorem cr_up {outer : List Env} {H : Hp} {s s' : Shared} {Q : VK} {E : XK} {r : Result} (h : CR CX0 outer P w H s Q E r s') : CR CX outer P w H s Q E r s' := by
  match r, h with
  | .ok (.ret u), h => exact h
  | .error e, h => exact False.elim h
theorem okUp (F : FnOk P w K mg base CX0 k f fd ps sp) : FnOk P w K mg base CX k f fd ps sp :=
  ⟨F.len, fun A o s H a us vs Q E hr e hb hv h => codeAny_mono (F.run A o s H a us vs Q E hr e hb hv h) fun _ _ z => cr_up z⟩
theorem fgUp (F : FnG P w K mg base CX0 k f fd ps sp) : FnG P w K mg base CX k f fd ps sp :=
  ⟨F.len, fun A o s H a us vs Q E hg hr e hb hv h => codeAny_mono (F.run A o s H a us vs Q E hg hr e hb hv h) fun _ _ z => cr_up z⟩
def spOr (a b : Sp) : Sp := fun vs H Q E => a vs H Q E ∨ b vs H Q E
theorem okOr (F : FnOk P w K mg base CX k f fd ps sp) (G : FnOk P w K mg base CX k f fd ps sp') : FnOk P w K mg base CX k f fd ps (spOr sp sp') :=
  ⟨fun vs H Q E h => h.elim (F.len vs H Q E) (G.len vs H Q E), fun A o s H a us vs Q E hr e hb hv h => h.elim (fun h => F.run A o s H a us vs Q E hr e hb hv h) fun h => G.run A o s H a us vs Q E hr e hb hv h⟩
theorem fgOr (F : FnG P w K mg base CX k f fd ps sp) (G : FnG P w K mg base CX k f fd ps sp') : FnG P w K mg base CX k f fd ps (spOr sp sp') :=
  ⟨fun vs H Q E h => h.elim (F.len vs H Q E) (G.len vs H Q E), fun A o s H a us vs Q E hg hr e hb hv h => h.elim (fun h => F.run A o s H a us vs Q E hg hr e hb hv h) fun h => G.run A o s H a us vs Q E hg hr e hb hv h⟩
/-- what is refused, the rest never gone through -/
theorem okBad {x qual : Str} {st : Stmt} {f : Addr} {fd : FuncData} {N ps : List Str} {k : Nat} {sp : Sp} (F : Fun K x qual st f fd) (S : FnScope N ps (defScope st)) (len : ∀ vs H Q E, sp vs H Q E → vs.length = ps.length)
    (body : ∀ (cdv : Value) (A : Around) (outer : List Env) (s : Shared) (H : Hp) (vs : List V) (Q : VK) (E : XK), Room k (A.deeper (envOfC qual (defScope st) s.heap.objs.size f cdv)) → sp vs H Q E →
      L2N.Takes (cxOf (L2N.CX P w) P w K mg base N qual (defScope st) f cdv A outer s H E) (fun C d _ G => E C d G) →
      ∃ t, PSs (cxOf (L2N.CX P w) P w K mg base N qual (defScope st) f cdv A outer s H E) (defBody st) t ∧ t { nx := fun _ G => Q .non G, rt := Q } (start N vs) H) : FnOk P w K mg base (L2N.CX P w) (k + 1) f fd ps sp :=
  okN F S len fun cdv A outer s H vs Q E hr h => body cdv A outer s H vs Q E hr h (L2N.takes_of rfl rfl rfl rfl)
end
end Gn
set_option Elab.async false
set_option linter.all false
set_option maxRecDepth 100000
set_option maxHeartbeats 8000000
set_option exponentiation.threshold 4000
namespace My
open PySem PySem.Spec PyProof.Rows L2 Gn Mt
section
variable {P : Program} {w : World} {K : PySem.W.Frag} {mg : Str → Option Value} {base : Heap}
/-- as Fun.ok, the code object told -/
theorem okC {x qual : Str} {st : Stmt} {f : Addr} {fd : FuncData} {N ps : List Str} {k : Nat} {sp : Sp} (F : Fun K x qual st f fd) (S : FnScope N ps (defScope st)) (len : ∀ vs H Q E, sp vs H Q E → vs.length = ps.length)
    (body : ∀ (A : Around) (outer : List Env) (s : Shared) (H : Hp) (vs : List V) (Q : VK) (E : XK), Room k (A.deeper (envOfC qual (defScope st) s.heap.objs.size f fd.code)) → sp vs H Q E →
      ∃ t, PSs (cxOf CX0 P w K mg base N qual (defScope st) f fd.code A outer s H E).nox (defBody st) t ∧ t { nx := fun _ G => Q .non G, rt := Q } (start N vs) H) : FnOk P w K mg base CX0 (k + 1) f fd ps sp := by
  obtain ⟨_, _, _, _, _, _, cdv, _, _, rfl, lk, hcd⟩ := F.ex
  refine fn_of lk hcd S len fun A o s H vs Q E hr h => ?_
  obtain ⟨t, ht, q⟩ := body A o s H vs Q E hr h
  exact ⟨t, ht.nox, q⟩
end
mutual
theorem dp_ext {K : PySem.W.Frag} {H H' : Hp} (k : LamX.ExtN H H') : ∀ (d : PyData) (v : V), Dp K H v d → Dp K H' v d
  | .none, _, h => by cases h; exact .non
  | .bool b, _, h => by cases h; exact .bl b
  | .int i, _, h => by cases h; exact .int i
  | .str x, _, h => by cases h; exact .str x
  | .list ds, _, h => by
    cases h with
    | lst a b =>
      refine .lst ?_ (dps_ext k ds _ b)
      rcases a with (h | ⟨o, h⟩) | h
      · exact .inl (.inl (k _ _ h (fun ps z => by cases z)))
      · exact .inl (.inr ⟨o, k _ _ h (fun ps z => by cases z)⟩)
      · exact .inr h
  | .tuple ds, _, h => by
    cases h with
    | tup a b =>
      refine .tup ?_ (dps_ext k ds _ b)
      rcases a with (h | ⟨o, h⟩) | h
      · exact .inl (.inl (k _ _ h (fun ps z => by cases z)))
      · exact .inl (.inr ⟨o, k _ _ h (fun ps z => by cases z)⟩)
      · exact .inr h
  | .dict _, _, h => by cases h
theorem dps_ext {K : PySem.W.Frag} {H H' : Hp} (k : LamX.ExtN H H') : ∀ (ds : List PyData) (vs : List V), DpAll K H vs ds → DpAll K H' vs ds
  | [], _, h => by cases h; exact .nil
  | d :: ds, _, h => by cases h with | cons a b => exact .cons (dp_ext k d _ a) (dps_ext k ds _ b)
end
/-! right sightings pass; lot_of -/
section
variable {P : Program} {w : World} {K : PySem.W.Frag} {mg : Str → Option Value} {base : Heap}
/-- the helpers' helpers -/
structure Sh (K : PySem.W.Frag) (mg : Str → Option Value) where
  f_nu : Addr × FuncData
  nu : Df K mg "is_number" sIsNum ["given", "least", "most"] f_nu.1 f_nu.2
  f_ii : Addr × FuncData
  ii : Df K mg "is_integer" sIsInt ["given"] f_ii.1 f_ii.2
  f_fr : Addr × FuncData
  fr : Df K mg "is_fraction" s_is_fraction ["given"] f_fr.1 f_fr.2
  f_low : Addr × FuncData
  low : Df K mg "lowest" sLowest ["top", "bottom"] f_low.1 f_low.2
theorem okW {k : Nat} {f : Addr} {fd : FuncData} {ps : List Str} {sp sp' : Sp} {CX : CXT} (F : FnOk P w K mg base CX k f fd ps sp') (h : ∀ vs H Q E, sp vs H Q E → sp' vs H Q E) : FnOk P w K mg base CX k f fd ps sp :=
  ⟨fun vs H Q E z => F.len vs H Q E (h _ _ _ _ z), fun A o s H a us vs Q E hr e hb hv z => F.run A o s H a us vs Q E hr e hb hv (h _ _ _ _ z)⟩
theorem ok_isTS (S : Sf K mg) (B : Sk mg) (N : Sh K mg) (D : Sd K w mg S) : FnOk P w K mg base CX0 5 S.f_is_.1 S.f_is_.2 ["given"] (spForm K isT) := by
  have GF : FnOk P w K mg base CX0 4 S.f_iT.1 S.f_iT.2 ["given"] (spForm K isT) := ok_isT S B N.nu N.ii
  refine S.is_.F.ok sc_is (fun vs H Q E h => ?_) (fun cdv A outer s H vs Q E hr h => ?_)
  · obtain ⟨u, g, rfl, _⟩ := h
    rfl
  · obtain ⟨u, g, rfl, gT, ok, hu, k⟩ := h
    obtain ⟨t, xs, rfl, ht, h0⟩ := word_at hu
    have ew : sgW g = ("turn" : Str) := by cases g <;> first | rfl | exact gT.elim
    rw [ew] at h0
    have ne : xs.isEmpty = false := by cases xs with | nil => cases h0 | cons _ _ => rfl
    refine ⟨_, pss_cons (ps_if (PW.pt (pw_or (pt_not (pt_val (pe_callB (call_isi) (by rfl) B.c.isi (by decide +kernel) (pa_cons (pv 0) (pa_cons (pe_bltn (v := .ty "tuple") (by rfl) B.c.tuple (by decide +kernel) rfl) pa_nil))))) (pw_or (pt_not (pt_truth (pv 0) (by intro _; rfl))) (pw_or1 (pt_not (pt_val (pe_callB (call_isi) (by rfl) B.c.isi (by decide +kernel) (pa_cons (pe_ix ix_tup (pv 0) pe_int (fun _ _ => rfl)) (pa_cons (pe_bltn (v := .ty "str") (by rfl) B.str (by decide +kernel) rfl) pa_nil))))))))) (pss_one (ps_ret pe_bl)) pss_nil) (pss_cons (ps_if (pt_cmpR (op_notIn_kd D.F.D) (pe_ix ix_tup (pv 0) pe_int (fun _ _ => rfl)) (pe_glob (v := .ref D.F.d) rfl D.F.g rfl) (by rfl)) (pss_one (ps_ret pe_bl)) pss_nil) (pss_cons (ps_set (i := 1) sc_is.nd rfl (.inl rfl) (pe_ix ix_kdict (pe_glob (v := .ref D.F.d) rfl D.F.g rfl) (pe_ix ix_tup (pv 0) pe_int (fun _ _ => rfl)) (fun _ _ => rfl))) (pss_one (ps_ret (pe_callL (i := 1) (f := S.f_iT.1) GF hr rfl (.inl rfl) S.iT.F.kp S.iT.b .nil pass0 (pa_cons (pv 0) pa_nil)))))), ?_⟩
    refine ⟨_, rfl, .ref t, .ty "tuple", _, _, true, rfl, .ty "tuple", tyx_sqt ht, kit_ty (by decide +kernel), true, rfl, iteF ?_⟩
    refine ⟨_, rfl, true, .inr (.inl ⟨_, ht, by rw [ne]; rfl⟩), iteF ?_⟩
    refine ⟨_, rfl, t, xs, 0, _, rfl, rfl, ht, at_of (j := 0) rfl h0, _, .ty "str", _, _, true, rfl, .ty "str", .base (.str _), kit_ty (by decide +kernel), true, rfl, iteF ?_⟩
    refine ⟨_, rfl, t, xs, 0, _, rfl, rfl, ht, at_of (j := 0) rfl h0, _, _, rfl, rfl, D.fT, _, rfl, iteF ?_⟩
    refine ⟨_, rfl, t, xs, 0, _, rfl, rfl, ht, at_of (j := 0) rfl h0, D.F.d, _, .ref S.f_iT.1, rfl, rfl, D.F.at D.fT, ?_⟩
    exact ⟨rfl, _, rfl, .ref t, g, rfl, gT, ok, hu, k⟩
theorem ok_isOS (S : Sf K mg) (B : Sk mg) (N : Sh K mg) (D : Sd K w mg S) : FnOk P w K mg base CX0 5 S.f_is_.1 S.f_is_.2 ["given"] (spForm K isO) := by
  have GF : FnOk P w K mg base CX0 4 S.f_iO.1 S.f_iO.2 ["given"] (spForm K isO) := ok_isO S B N.nu N.ii
  refine S.is_.F.ok sc_is (fun vs H Q E h => ?_) (fun cdv A outer s H vs Q E hr h => ?_)
  · obtain ⟨u, g, rfl, _⟩ := h
    rfl
  · obtain ⟨u, g, rfl, gT, ok, hu, k⟩ := h
    obtain ⟨t, xs, rfl, ht, h0⟩ := word_at hu
    have ew : sgW g = ("on" : Str) := by cases g <;> first | rfl | exact gT.elim
    rw [ew] at h0
    have ne : xs.isEmpty = false := by cases xs with | nil => cases h0 | cons _ _ => rfl
    refine ⟨_, pss_cons (ps_if (PW.pt (pw_or (pt_not (pt_val (pe_callB (call_isi) (by rfl) B.c.isi (by decide +kernel) (pa_cons (pv 0) (pa_cons (pe_bltn (v := .ty "tuple") (by rfl) B.c.tuple (by decide +kernel) rfl) pa_nil))))) (pw_or (pt_not (pt_truth (pv 0) (by intro _; rfl))) (pw_or1 (pt_not (pt_val (pe_callB (call_isi) (by rfl) B.c.isi (by decide +kernel) (pa_cons (pe_ix ix_tup (pv 0) pe_int (fun _ _ => rfl)) (pa_cons (pe_bltn (v := .ty "str") (by rfl) B.str (by decide +kernel) rfl) pa_nil))))))))) (pss_one (ps_ret pe_bl)) pss_nil) (pss_cons (ps_if (pt_cmpR (op_notIn_kd D.F.D) (pe_ix ix_tup (pv 0) pe_int (fun _ _ => rfl)) (pe_glob (v := .ref D.F.d) rfl D.F.g rfl) (by rfl)) (pss_one (ps_ret pe_bl)) pss_nil) (pss_cons (ps_set (i := 1) sc_is.nd rfl (.inl rfl) (pe_ix ix_kdict (pe_glob (v := .ref D.F.d) rfl D.F.g rfl) (pe_ix ix_tup (pv 0) pe_int (fun _ _ => rfl)) (fun _ _ => rfl))) (pss_one (ps_ret (pe_callL (i := 1) (f := S.f_iO.1) GF hr rfl (.inl rfl) S.iO.F.kp S.iO.b .nil pass0 (pa_cons (pv 0) pa_nil)))))), ?_⟩
    refine ⟨_, rfl, .ref t, .ty "tuple", _, _, true, rfl, .ty "tuple", tyx_sqt ht, kit_ty (by decide +kernel), true, rfl, iteF ?_⟩
    refine ⟨_, rfl, true, .inr (.inl ⟨_, ht, by rw [ne]; rfl⟩), iteF ?_⟩
    refine ⟨_, rfl, t, xs, 0, _, rfl, rfl, ht, at_of (j := 0) rfl h0, _, .ty "str", _, _, true, rfl, .ty "str", .base (.str _), kit_ty (by decide +kernel), true, rfl, iteF ?_⟩
    refine ⟨_, rfl, t, xs, 0, _, rfl, rfl, ht, at_of (j := 0) rfl h0, _, _, rfl, rfl, D.fO, _, rfl, iteF ?_⟩
    refine ⟨_, rfl, t, xs, 0, _, rfl, rfl, ht, at_of (j := 0) rfl h0, D.F.d, _, .ref S.f_iO.1, rfl, rfl, D.F.at D.fO, ?_⟩
    exact ⟨rfl, _, rfl, .ref t, g, rfl, gT, ok, hu, k⟩
theorem ok_isWS (S : Sf K mg) (B : Sk mg) (N : Sh K mg) (D : Sd K w mg S) : FnOk P w K mg base CX0 5 S.f_is_.1 S.f_is_.2 ["given"] (spForm K isW) := by
  have GF : FnOk P w K mg base CX0 4 S.f_iW.1 S.f_iW.2 ["given"] (spForm K isW) := ok_isW S B N.nu N.ii N.fr
  refine S.is_.F.ok sc_is (fun vs H Q E h => ?_) (fun cdv A outer s H vs Q E hr h => ?_)
  · obtain ⟨u, g, rfl, _⟩ := h
    rfl
  · obtain ⟨u, g, rfl, gT, ok, hu, k⟩ := h
    obtain ⟨t, xs, rfl, ht, h0⟩ := word_at hu
    have ew : sgW g = ("within" : Str) := by cases g <;> first | rfl | exact gT.elim
    rw [ew] at h0
    have ne : xs.isEmpty = false := by cases xs with | nil => cases h0 | cons _ _ => rfl
    refine ⟨_, pss_cons (ps_if (PW.pt (pw_or (pt_not (pt_val (pe_callB (call_isi) (by rfl) B.c.isi (by decide +kernel) (pa_cons (pv 0) (pa_cons (pe_bltn (v := .ty "tuple") (by rfl) B.c.tuple (by decide +kernel) rfl) pa_nil))))) (pw_or (pt_not (pt_truth (pv 0) (by intro _; rfl))) (pw_or1 (pt_not (pt_val (pe_callB (call_isi) (by rfl) B.c.isi (by decide +kernel) (pa_cons (pe_ix ix_tup (pv 0) pe_int (fun _ _ => rfl)) (pa_cons (pe_bltn (v := .ty "str") (by rfl) B.str (by decide +kernel) rfl) pa_nil))))))))) (pss_one (ps_ret pe_bl)) pss_nil) (pss_cons (ps_if (pt_cmpR (op_notIn_kd D.F.D) (pe_ix ix_tup (pv 0) pe_int (fun _ _ => rfl)) (pe_glob (v := .ref D.F.d) rfl D.F.g rfl) (by rfl)) (pss_one (ps_ret pe_bl)) pss_nil) (pss_cons (ps_set (i := 1) sc_is.nd rfl (.inl rfl) (pe_ix ix_kdict (pe_glob (v := .ref D.F.d) rfl D.F.g rfl) (pe_ix ix_tup (pv 0) pe_int (fun _ _ => rfl)) (fun _ _ => rfl))) (pss_one (ps_ret (pe_callL (i := 1) (f := S.f_iW.1) GF hr rfl (.inl rfl) S.iW.F.kp S.iW.b .nil pass0 (pa_cons (pv 0) pa_nil)))))), ?_⟩
    refine ⟨_, rfl, .ref t, .ty "tuple", _, _, true, rfl, .ty "tuple", tyx_sqt ht, kit_ty (by decide +kernel), true, rfl, iteF ?_⟩
    refine ⟨_, rfl, true, .inr (.inl ⟨_, ht, by rw [ne]; rfl⟩), iteF ?_⟩
    refine ⟨_, rfl, t, xs, 0, _, rfl, rfl, ht, at_of (j := 0) rfl h0, _, .ty "str", _, _, true, rfl, .ty "str", .base (.str _), kit_ty (by decide +kernel), true, rfl, iteF ?_⟩
    refine ⟨_, rfl, t, xs, 0, _, rfl, rfl, ht, at_of (j := 0) rfl h0, _, _, rfl, rfl, D.fW, _, rfl, iteF ?_⟩
    refine ⟨_, rfl, t, xs, 0, _, rfl, rfl, ht, at_of (j := 0) rfl h0, D.F.d, _, .ref S.f_iW.1, rfl, rfl, D.F.at D.fW, ?_⟩
    exact ⟨rfl, _, rfl, .ref t, g, rfl, gT, ok, hu, k⟩
theorem ok_isSg (S : Sf K mg) (B : Sk mg) (N : Sh K mg) (D : Sd K w mg S) : FnOk P w K mg base CX0 5 S.f_is_.1 S.f_is_.2 ["given"] (spIsSg K) := by
  have G1 := ok_isTS (P := P) (w := w) (base := base) S B N D
  have G2 := ok_isOS (P := P) (w := w) (base := base) S B N D
  have G3 := ok_isWS (P := P) (w := w) (base := base) S B N D
  refine okW (okOr G1 (okOr G2 G3)) fun vs H Q E h => ?_
  obtain ⟨u, g, rfl, ok, hu, k⟩ := h
  cases g with
  | turn s a b => exact .inl ⟨u, .turn s a b, rfl, trivial, ok, hu, k⟩
  | on a b => exact .inr (.inl ⟨u, .on a b, rfl, trivial, ok, hu, k⟩)
  | within a b p q => exact .inr (.inr ⟨u, .within a b p q, rfl, trivial, ok, hu, k⟩)
theorem ok_chSg (S : Sf K mg) (B : Sk mg) (N : Sh K mg) (D : Sd K w mg S) : FnOk P w K mg base CX0 6 S.f_cs.1 S.f_cs.2 ["given"] (spChSg K) := by
  have GI : FnOk P w K mg base CX0 5 S.f_is_.1 S.f_is_.2 ["given"] (spIsSg K) := ok_isSg S B N D
  refine S.cs.F.ok sc_cs (fun vs H Q E h => ?_) (fun cdv A outer s H vs Q E hr h => ?_)
  · obtain ⟨u, g, rfl, _⟩ := h
    rfl
  · obtain ⟨u, g, rfl, ok, hu, k⟩ := h
    refine ⟨_, pss_one (ps_if (pt_not (pt_val (pe_call GI hr (by rfl) S.is_.g S.is_.F.kp S.is_.b .nil pass0 (pa_cons (pv 0) pa_nil)))) (pss_one ps_never) pss_nil), ?_⟩
    exact ⟨_, rfl, u, g, rfl, ok, hu, fun H1 s1 => ⟨_, rfl, iteF (k H1 s1)⟩⟩
theorem ok_chSgs (S : Sf K mg) (B : Sk mg) (N : Sh K mg) (D : Sd K w mg S) : FnOk P w K mg base CX0 6 S.f_ck.1 S.f_ck.2 ["given", "most"] (spChSgs K) := by
  have GI : FnOk P w K mg base CX0 5 S.f_is_.1 S.f_is_.2 ["given"] (spIsSg K) := ok_isSg S B N D
  refine S.ck.F.ok sc_ck (fun vs H Q E h => ?_) (fun cdv A outer s H vs Q E hr h => ?_)
  · obtain ⟨u, gs, most, rfl, _⟩ := h
    rfl
  · obtain ⟨u, gs, most, rfl, ok, few, m1, hu, k⟩ := h
    obtain ⟨t, xs, rfl, ht, hx⟩ := tup_inv hu
    have lx := dps_len hx
    rw [List.length_map] at lx
    refine ⟨_, pss_cons (ps_if (pt_not (pt_val (pe_callB (call_isi) (by rfl) B.c.isi (by decide +kernel) (pa_cons (pv 0) (pa_cons (pe_bltn (v := .ty "tuple") (by rfl) B.c.tuple (by decide +kernel) rfl) pa_nil))))) (pss_one ps_never) pss_nil) (pss_one (ps_for PassesOwn.never rfl (pi_enumT (by rfl) B.en (pa_cons (pv 0) pa_nil)) (pg_tup (by rfl) (pgs_cons (pg_name (i := 2) sc_ck.nd rfl (.inl rfl)) (pgs_cons (pg_name (i := 3) sc_ck.nd rfl (.inl rfl)) pgs_nil))) (pss_one (ps_if (PW.pt (pw_or (pt_cmpR op_eq (pv 2) (pv 1) (nomark _)) (pw_or1 (pt_not (pt_val (pe_call GI hr (by rfl) S.is_.g S.is_.F.kp S.is_.b .nil pass0 (pa_cons (pv 3) pa_nil))))))) (pss_one ps_never) pss_nil)))), ?_⟩
    refine ⟨_, rfl, .ref t, .ty "tuple", _, _, true, rfl, .ty "tuple", tyx_sqt ht, kit_ty (by decide +kernel), true, rfl, iteF ?_⟩
    refine nxI ⟨_, rfl, t, xs, rfl, ht, for_en (K := K) (a := t) (xs := xs) (fun i σ H' => ∃ u1 u2, σ = [some (.ref t), some (.int most), u1, u2] ∧ Same H H') ⟨none, none, rfl, Same.refl H⟩ (fun i σ H' ⟨_, _, _, e⟩ => sqT_same e ht) ?_ ?_⟩
    · rintro i x r σ H1 hi ⟨u1, u2, rfl, e1⟩ nr
      obtain ⟨d, hd, dx⟩ := dps_get (dps_same e1 _ _ hx) hi
      rw [List.getElem?_map] at hd
      obtain ⟨g, hg, rfl⟩ := Option.map_eq_some_iff.mp hd
      have il := (List.getElem?_eq_some_iff.mp hg).1
      have s2 := same_put (o := HO.tup [V.int (i : Nat), x]) nr
      have g2 : upd H1 r (HO.tup [V.int (i : Nat), x]) r = some (.tup [V.int (i : Nat), x]) := upd_same
      generalize upd H1 r (HO.tup [V.int (i : Nat), x]) = H2 at *
      refine ⟨r, _, rfl, SqT.of g2, rfl, _, _, rfl, _, _, rfl, rfl, ?_⟩
      refine ⟨_, rfl, _, rfl, rfl, _, rfl, ?_⟩
      rw [int_eq, decide_eq_false (show ¬ ((i : Int) = most) by omega)]
      refine iteF ⟨_, rfl, x, g, rfl, ok g (List.mem_of_getElem? hg), dp_same s2 _ _ dx, fun H3 s3 => ⟨_, rfl, iteF ?_⟩⟩
      exact ⟨_, _, rfl, e1.trans (s2.trans s3)⟩
    · rintro σ H1 ⟨u1, u2, rfl, e1⟩
      exact k H1 e1
/-- all that lots of sightings want -/
structure Sg (P : Program) (w : World) (K : PySem.W.Frag) (mg : Str → Option Value) (base : Heap) where
  L : Lo P w K mg base
  S : Sf K mg
  B : Sk mg
  Bq : Bq mg
  N : Sh K mg
  D : Sd K w mg S
  ab : mg "abs" = none
  cc : Addr
  PP : Addr
  ec : S.f_lo.2.code = .ref cc
  TB : LamX.TabB base mg cc PP
  TT : List (Addr × Str)
  mT : (PP, qO) ∈ TT
  oT : ∀ q ∈ TT, q.1 = PP → q.2 = qO
def spLotOf (K : PySem.W.Frag) (C : Addr) (T : List (Addr × Str)) (G : Sgt → Prop) : Sp := fun vs H Q _ => ∃ (u : V) (g : Sgt), vs = [u] ∧ G g ∧ g.Ok ∧ Dp K H u (sgD g) ∧ LamX.Tabs T H ∧ ∀ v H', LamX.ExtN H H' → LamX.Tabs T H' → LotAt K C H' v g.lot → Q v H'
theorem ok_lotOfT (M : Sg P w K mg base) : FnOk P w K mg base CX0 10 M.S.f_lo.1 M.S.f_lo.2 ["sighting"] (spLotOf K M.L.C M.TT isT) := by
  have GC : FnOk P w K mg base CX0 6 M.S.f_cs.1 M.S.f_cs.2 ["given"] (spChSg K) := ok_chSg M.S M.B M.N M.D
  have GP : FnOk P w K mg base CX0 4 M.S.f_tP.1 M.S.f_tP.2 ["sighting"] (spPts K isT) := ok_turnP M.S M.B.c M.Bq M.ab M.N.low
  have GF : FnOk P w K mg base CX0 3 M.S.f_fi.1 M.S.f_fi.2 ["sighting", "step"] (spFit K isT) := ok_fitsT M.S M.D
  refine okC M.S.lo.F sc_lo (fun vs H Q E h => ?_) (fun A outer s H vs Q E hr h => ?_)
  · obtain ⟨u, g, rfl, _⟩ := h
    rfl
  · obtain ⟨u, g, rfl, gT, ok, hu, hT, k⟩ := h
    obtain ⟨t, xs, rfl, ht, h0⟩ := word_at hu
    have ew : sgW g = ("turn" : Str) := by cases g <;> first | rfl | exact gT.elim
    rw [ew] at h0
    have hr4 : Room 4 _ := hr.mono (by decide)
    have hr6 : Room 6 _ := hr.mono (by decide)
    have hr9 : Room (7 + 2) _ := hr
    refine ⟨_, pss_cons (ps_expr (pe_call GC hr6 (by rfl) M.S.cs.g M.S.cs.F.kp M.S.cs.b .nil pass0 (pa_cons (pv 0) pa_nil))) (pss_cons (ps_set (i := 1) sc_lo.nd rfl (.inl rfl) (pe_ix ix_kdict (pe_glob (v := .ref M.D.P.d) rfl M.D.P.g rfl) (pe_ix ix_tup (pv 0) pe_int (fun _ _ => rfl)) (fun _ _ => rfl))) (pss_one (ps_ret (pe_lamQ (T := M.TT) (sp := spWhere K M.L.C) (a0 := "points") (a := "fits") (pn := "step") (k := 7) (Ng := ["points", "fits", "cuts", "low", "high", "cut", "step"]) (tb := tCall (spFit K isT) [] E0 (tCons (tVar 0) (tCons (tVar 2) tNil))) (by rfl) M.S.lw.g M.S.lw.F M.S.lw.F.kp M.S.lw.b sc_lot_where rfl (.inl rfl) (fun cdv => gives_where (X := (cxOf CX0 P w K mg base ["sighting", "points_of"] "lot_of" (defScope s_lot_of) M.S.f_lo.1 M.S.f_lo.2.code A outer s H E).nox) (by decide) M.L.T M.L.B M.L.M) (show ("step" : Str) ∉ (["sighting", "points_of"] : List Str) by decide +kernel) M.TB M.ec M.mT M.oT hr9 (lamP_by (sc := defScope s_lot_of) (by decide +kernel)) rfl (fun _ _ _ _ _ _ => rfl) (pe_callL (i := 1) (f := M.S.f_tP.1) GP hr4 rfl (.inl rfl) M.S.tP.F.kp M.S.tP.b .nil pass0 (pa_cons (pv 0) pa_nil)) rfl (fun A2 o2 s2 H2 f2 c2 hr2 => (pe_call GF (hr2.mono (by decide)) (by rfl) M.S.fi.g M.S.fi.F.kp M.S.fi.b .nil pass0 (pa_cons (pv 0) (pa_cons (pv 2) pa_nil)))))))), ?_⟩
    refine ⟨_, rfl, .ref t, g, rfl, ok, hu, fun H1 s1 => ?_⟩
    have ht1 := sqT_same s1 ht
    refine nxI ⟨_, rfl, t, xs, 0, _, rfl, rfl, ht1, at_of (j := 0) rfl h0, M.D.P.d, _, .ref M.S.f_tP.1, rfl, rfl, M.D.P.at M.D.pT, ?_⟩
    refine ⟨rfl, _, rfl, .ref t, g, rfl, gT, ok, dp_same s1 _ _ hu, fun v H2 s2 dv => ?_⟩
    have S2 := s1.trans s2
    obtain ⟨pt, sm, ln⟩ := sg_pts ok
    refine ⟨fun p hp => (hT p hp).ext S2, fun H3 e3 hT3 => ?_⟩
    have X3 : LamX.ExtN H H3 := (LamX.ExtN.of S2).trans e3
    refine ⟨g.pts, g.fits, dp_ext e3 _ _ dv, pt, sm, by omega, fun z x y G sG dz stp xb yb Rk hR => ?_, fun z H4 s4 at4 => ?_⟩
    · exact ⟨_, rfl, _, rfl, .ref t, z, g, x, y, rfl, gT, ok, dp_same sG _ _ (dp_ext X3 _ _ hu), dz, stp, xb, yb, hR⟩
    · exact k z H4 (X3.trans (LamX.ExtN.of s4)) (fun p hp => (hT3 p hp).ext s4) at4
theorem ok_lotOfO (M : Sg P w K mg base) : FnOk P w K mg base CX0 10 M.S.f_lo.1 M.S.f_lo.2 ["sighting"] (spLotOf K M.L.C M.TT isO) := by
  have GC : FnOk P w K mg base CX0 6 M.S.f_cs.1 M.S.f_cs.2 ["given"] (spChSg K) := ok_chSg M.S M.B M.N M.D
  have GP : FnOk P w K mg base CX0 4 M.S.f_oP.1 M.S.f_oP.2 ["sighting"] (spPts K isO) := ok_onP M.S M.B.c M.Bq M.ab M.N.low
  have GF : FnOk P w K mg base CX0 3 M.S.f_fi.1 M.S.f_fi.2 ["sighting", "step"] (spFit K isO) := ok_fitsO M.S M.D
  refine okC M.S.lo.F sc_lo (fun vs H Q E h => ?_) (fun A outer s H vs Q E hr h => ?_)
  · obtain ⟨u, g, rfl, _⟩ := h
    rfl
  · obtain ⟨u, g, rfl, gT, ok, hu, hT, k⟩ := h
    obtain ⟨t, xs, rfl, ht, h0⟩ := word_at hu
    have ew : sgW g = ("on" : Str) := by cases g <;> first | rfl | exact gT.elim
    rw [ew] at h0
    have hr4 : Room 4 _ := hr.mono (by decide)
    have hr6 : Room 6 _ := hr.mono (by decide)
    have hr9 : Room (7 + 2) _ := hr
    refine ⟨_, pss_cons (ps_expr (pe_call GC hr6 (by rfl) M.S.cs.g M.S.cs.F.kp M.S.cs.b .nil pass0 (pa_cons (pv 0) pa_nil))) (pss_cons (ps_set (i := 1) sc_lo.nd rfl (.inl rfl) (pe_ix ix_kdict (pe_glob (v := .ref M.D.P.d) rfl M.D.P.g rfl) (pe_ix ix_tup (pv 0) pe_int (fun _ _ => rfl)) (fun _ _ => rfl))) (pss_one (ps_ret (pe_lamQ (T := M.TT) (sp := spWhere K M.L.C) (a0 := "points") (a := "fits") (pn := "step") (k := 7) (Ng := ["points", "fits", "cuts", "low", "high", "cut", "step"]) (tb := tCall (spFit K isO) [] E0 (tCons (tVar 0) (tCons (tVar 2) tNil))) (by rfl) M.S.lw.g M.S.lw.F M.S.lw.F.kp M.S.lw.b sc_lot_where rfl (.inl rfl) (fun cdv => gives_where (X := (cxOf CX0 P w K mg base ["sighting", "points_of"] "lot_of" (defScope s_lot_of) M.S.f_lo.1 M.S.f_lo.2.code A outer s H E).nox) (by decide) M.L.T M.L.B M.L.M) (show ("step" : Str) ∉ (["sighting", "points_of"] : List Str) by decide +kernel) M.TB M.ec M.mT M.oT hr9 (lamP_by (sc := defScope s_lot_of) (by decide +kernel)) rfl (fun _ _ _ _ _ _ => rfl) (pe_callL (i := 1) (f := M.S.f_oP.1) GP hr4 rfl (.inl rfl) M.S.oP.F.kp M.S.oP.b .nil pass0 (pa_cons (pv 0) pa_nil)) rfl (fun A2 o2 s2 H2 f2 c2 hr2 => (pe_call GF (hr2.mono (by decide)) (by rfl) M.S.fi.g M.S.fi.F.kp M.S.fi.b .nil pass0 (pa_cons (pv 0) (pa_cons (pv 2) pa_nil)))))))), ?_⟩
    refine ⟨_, rfl, .ref t, g, rfl, ok, hu, fun H1 s1 => ?_⟩
    have ht1 := sqT_same s1 ht
    refine nxI ⟨_, rfl, t, xs, 0, _, rfl, rfl, ht1, at_of (j := 0) rfl h0, M.D.P.d, _, .ref M.S.f_oP.1, rfl, rfl, M.D.P.at M.D.pO, ?_⟩
    refine ⟨rfl, _, rfl, .ref t, g, rfl, gT, ok, dp_same s1 _ _ hu, fun v H2 s2 dv => ?_⟩
    have S2 := s1.trans s2
    obtain ⟨pt, sm, ln⟩ := sg_pts ok
    refine ⟨fun p hp => (hT p hp).ext S2, fun H3 e3 hT3 => ?_⟩
    have X3 : LamX.ExtN H H3 := (LamX.ExtN.of S2).trans e3
    refine ⟨g.pts, g.fits, dp_ext e3 _ _ dv, pt, sm, by omega, fun z x y G sG dz stp xb yb Rk hR => ?_, fun z H4 s4 at4 => ?_⟩
    · exact ⟨_, rfl, _, rfl, .ref t, z, g, x, y, rfl, gT, ok, dp_same sG _ _ (dp_ext X3 _ _ hu), dz, stp, xb, yb, hR⟩
    · exact k z H4 (X3.trans (LamX.ExtN.of s4)) (fun p hp => (hT3 p hp).ext s4) at4
theorem ok_lotOfW (M : Sg P w K mg base) : FnOk P w K mg base CX0 10 M.S.f_lo.1 M.S.f_lo.2 ["sighting"] (spLotOf K M.L.C M.TT isW) := by
  have GC : FnOk P w K mg base CX0 6 M.S.f_cs.1 M.S.f_cs.2 ["given"] (spChSg K) := ok_chSg M.S M.B M.N M.D
  have GP : FnOk P w K mg base CX0 4 M.S.f_wP.1 M.S.f_wP.2 ["sighting"] (spPts K isW) := ok_withinP M.S M.B.c M.Bq M.ab M.N.low
  have GF : FnOk P w K mg base CX0 3 M.S.f_fi.1 M.S.f_fi.2 ["sighting", "step"] (spFit K isW) := ok_fitsW M.S M.D
  refine okC M.S.lo.F sc_lo (fun vs H Q E h => ?_) (fun A outer s H vs Q E hr h => ?_)
  · obtain ⟨u, g, rfl, _⟩ := h
    rfl
  · obtain ⟨u, g, rfl, gT, ok, hu, hT, k⟩ := h
    obtain ⟨t, xs, rfl, ht, h0⟩ := word_at hu
    have ew : sgW g = ("within" : Str) := by cases g <;> first | rfl | exact gT.elim
    rw [ew] at h0
    have hr4 : Room 4 _ := hr.mono (by decide)
    have hr6 : Room 6 _ := hr.mono (by decide)
    have hr9 : Room (7 + 2) _ := hr
    refine ⟨_, pss_cons (ps_expr (pe_call GC hr6 (by rfl) M.S.cs.g M.S.cs.F.kp M.S.cs.b .nil pass0 (pa_cons (pv 0) pa_nil))) (pss_cons (ps_set (i := 1) sc_lo.nd rfl (.inl rfl) (pe_ix ix_kdict (pe_glob (v := .ref M.D.P.d) rfl M.D.P.g rfl) (pe_ix ix_tup (pv 0) pe_int (fun _ _ => rfl)) (fun _ _ => rfl))) (pss_one (ps_ret (pe_lamQ (T := M.TT) (sp := spWhere K M.L.C) (a0 := "points") (a := "fits") (pn := "step") (k := 7) (Ng := ["points", "fits", "cuts", "low", "high", "cut", "step"]) (tb := tCall (spFit K isW) [] E0 (tCons (tVar 0) (tCons (tVar 2) tNil))) (by rfl) M.S.lw.g M.S.lw.F M.S.lw.F.kp M.S.lw.b sc_lot_where rfl (.inl rfl) (fun cdv => gives_where (X := (cxOf CX0 P w K mg base ["sighting", "points_of"] "lot_of" (defScope s_lot_of) M.S.f_lo.1 M.S.f_lo.2.code A outer s H E).nox) (by decide) M.L.T M.L.B M.L.M) (show ("step" : Str) ∉ (["sighting", "points_of"] : List Str) by decide +kernel) M.TB M.ec M.mT M.oT hr9 (lamP_by (sc := defScope s_lot_of) (by decide +kernel)) rfl (fun _ _ _ _ _ _ => rfl) (pe_callL (i := 1) (f := M.S.f_wP.1) GP hr4 rfl (.inl rfl) M.S.wP.F.kp M.S.wP.b .nil pass0 (pa_cons (pv 0) pa_nil)) rfl (fun A2 o2 s2 H2 f2 c2 hr2 => (pe_call GF (hr2.mono (by decide)) (by rfl) M.S.fi.g M.S.fi.F.kp M.S.fi.b .nil pass0 (pa_cons (pv 0) (pa_cons (pv 2) pa_nil)))))))), ?_⟩
    refine ⟨_, rfl, .ref t, g, rfl, ok, hu, fun H1 s1 => ?_⟩
    have ht1 := sqT_same s1 ht
    refine nxI ⟨_, rfl, t, xs, 0, _, rfl, rfl, ht1, at_of (j := 0) rfl h0, M.D.P.d, _, .ref M.S.f_wP.1, rfl, rfl, M.D.P.at M.D.pW, ?_⟩
    refine ⟨rfl, _, rfl, .ref t, g, rfl, gT, ok, dp_same s1 _ _ hu, fun v H2 s2 dv => ?_⟩
    have S2 := s1.trans s2
    obtain ⟨pt, sm, ln⟩ := sg_pts ok
    refine ⟨fun p hp => (hT p hp).ext S2, fun H3 e3 hT3 => ?_⟩
    have X3 : LamX.ExtN H H3 := (LamX.ExtN.of S2).trans e3
    refine ⟨g.pts, g.fits, dp_ext e3 _ _ dv, pt, sm, by omega, fun z x y G sG dz stp xb yb Rk hR => ?_, fun z H4 s4 at4 => ?_⟩
    · exact ⟨_, rfl, _, rfl, .ref t, z, g, x, y, rfl, gT, ok, dp_same sG _ _ (dp_ext X3 _ _ hu), dz, stp, xb, yb, hR⟩
    · exact k z H4 (X3.trans (LamX.ExtN.of s4)) (fun p hp => (hT3 p hp).ext s4) at4
theorem ok_lotOf (M : Sg P w K mg base) : FnOk P w K mg base CX0 10 M.S.f_lo.1 M.S.f_lo.2 ["sighting"] (spLotOf K M.L.C M.TT fun _ => True) := by
  have G1 := ok_lotOfT M
  have G2 := ok_lotOfO M
  have G3 := ok_lotOfW M
  refine okW (okOr G1 (okOr G2 G3)) fun vs H Q E h => ?_
  obtain ⟨u, g, rfl, _, ok, hu, hT, k⟩ := h
  cases g with
  | turn s a b => exact .inl ⟨u, .turn s a b, rfl, trivial, ok, hu, hT, k⟩
  | on a b => exact .inr (.inl ⟨u, .on a b, rfl, trivial, ok, hu, hT, k⟩)
  | within a b p q => exact .inr (.inr ⟨u, .within a b p q, rfl, trivial, ok, hu, hT, k⟩)
end
end My
set_option Elab.async false
set_option linter.all false
set_option maxRecDepth 100000
set_option maxHeartbeats 4000000
/-! enumerate(tuple) in a comprehension -/
namespace Gn
open PySem PySem.Spec PyProof.Rows L2
theorem walk_en {K : PySem.W.Frag} {a : Addr} {xs : List V} : Walk (ItE K a) xs.length (fun H => SqT K H a xs) (fun i H v H' => ∃ r x, v = .ref r ∧ H r = none ∧ H' = upd H r (.tup [.int (i : Nat), x]) ∧ xs[i]? = some x) where
  goes := fun i H hi h => ⟨xs, _, h, List.getElem?_eq_getElem hi⟩
  stops := fun H h => ⟨xs, h, Nat.le_refl _⟩
  yields := fun i H v H' hi h y => by
    obtain ⟨r, x, e1, e2, e3, f⟩ := y
    exact ⟨r, x, e1, e2, e3, f xs h⟩
end Gn
set_option Elab.async false
set_option linter.all false
set_option maxRecDepth 100000
set_option maxHeartbeats 8000000
set_option exponentiation.threshold 4000
namespace My
open PySem PySem.Spec PyProof.Rows L2 Gn Mt
abbrev s__lots_by_wrong : Stmt := top 85
abbrev s_lot_with : Stmt := top 79
abbrev s_fewest_wrong : Stmt := top 80
abbrev s_surely_wrong : Stmt := top 81
abbrev s_surely_right : Stmt := top 82
abbrev s__check_doubted : Stmt := top 83
abbrev s__lot_with_steps : Stmt := top 84
/-! what some sightings tell if a few may be wrong -/
theorem sc_lw : FnScope ["sightings", "lots", "sighting", "fitting", "grown", "fewer", "many"] ["sightings"] (defScope s__lots_by_wrong) := ⟨rfl, rfl, rfl, by decide +kernel, rfl, by decide +kernel, by decide +kernel⟩
/-- one sighting more -/
def stepW (Ls : List (List Cut)) (F : List Cut) : List (List Cut) := both (Ls.headD []) F :: (List.zipWith (fun a b => either (both b F) a) Ls (Ls.drop 1)) ++ [[first, last]]
def lotsW (Fs : List (List Cut)) : List (List Cut) := Fs.foldl stepW [[first, last]]
theorem stepW_len {Ls : List (List Cut)} {F : List Cut} (h : 0 < Ls.length) : (stepW Ls F).length = Ls.length + 1 := by
  unfold stepW
  simp only [List.length_cons, List.length_append, List.length_zipWith, List.length_drop, List.length_nil]
  omega
theorem foldW_len : ∀ (Fs : List (List Cut)) (Ls : List (List Cut)), 0 < Ls.length → (Fs.foldl stepW Ls).length = Ls.length + Fs.length
  | [], Ls, _ => by simp
  | F :: Fs, Ls, h => by
    have l := stepW_len (F := F) h
    have := foldW_len Fs (stepW Ls F) (by omega)
    simp only [List.foldl_cons, List.length_cons]
    omega
theorem lotsW_len (Fs : List (List Cut)) : (lotsW Fs).length = Fs.length + 1 := by
  have := foldW_len Fs [[first, last]] (by decide)
  unfold lotsW
  simp only [List.length_singleton] at this
  omega
/-- lots stand in a list -/
def LotsA (K : PySem.W.Frag) (C : Addr) (H : Hp) (xs : List V) (Ls : List (List Cut)) : Prop := xs.length = Ls.length ∧ ∀ (i : Nat) (x : V) (L : List Cut), xs[i]? = some x → Ls[i]? = some L → LotAt K C H x L
theorem LotAt.extN {K : PySem.W.Frag} {C : Addr} {H H' : Hp} {v : V} {cs : List Cut} (h : LotAt K C H v cs) (e : LamX.ExtN H H') : LotAt K C H' v cs := by
  obtain ⟨x, dx, a, rfl, hx, ha⟩ := h
  exact ⟨x, dx, a, rfl, e _ _ hx (fun ps z => by cases z), dp_ext e _ _ ha⟩
theorem LotAt.put {K : PySem.W.Frag} {C : Addr} {H : Hp} {v : V} {cs : List Cut} {D : Addr} {ys zs : List V} (h : LotAt K C H v cs) (hD : H D = some (.lst ys)) : LotAt K C (upd H D (.lst zs)) v cs := by
  obtain ⟨x, dx, a, rfl, hx, ha⟩ := h
  have ne : x ≠ D := fun z => by rw [z, hD] at hx; cases hx
  exact ⟨x, dx, a, rfl, by rw [upd_ne ne]; exact hx, dp_upd hD (by unfold noL; exact noLs_iff.mpr fun d m => pcs_noL m) ha⟩
theorem LotsA.extN {K : PySem.W.Frag} {C : Addr} {H H' : Hp} {xs : List V} {Ls : List (List Cut)} (h : LotsA K C H xs Ls) (e : LamX.ExtN H H') : LotsA K C H' xs Ls := ⟨h.1, fun i x L hx hL => (h.2 i x L hx hL).extN e⟩
theorem LotsA.same {K : PySem.W.Frag} {C : Addr} {H H' : Hp} {xs : List V} {Ls : List (List Cut)} (h : LotsA K C H xs Ls) (e : Same H H') : LotsA K C H' xs Ls := h.extN (LamX.ExtN.of e)
theorem LotsA.put {K : PySem.W.Frag} {C : Addr} {H : Hp} {xs : List V} {Ls : List (List Cut)} {D : Addr} {ys zs : List V} (h : LotsA K C H xs Ls) (hD : H D = some (.lst ys)) : LotsA K C (upd H D (.lst zs)) xs Ls := ⟨h.1, fun i x L hx hL => (h.2 i x L hx hL).put hD⟩
theorem LotsA.snoc {K : PySem.W.Frag} {C : Addr} {H : Hp} {xs : List V} {Ls : List (List Cut)} {x : V} {L : List Cut} (h : LotsA K C H xs Ls) (l : LotAt K C H x L) : LotsA K C H (xs ++ [x]) (Ls ++ [L]) := by
  refine ⟨by rw [List.length_append, List.length_append, h.1]; rfl, fun i y M hy hM => ?_⟩
  rcases Nat.lt_or_ge i xs.length with lt | ge
  · rw [List.getElem?_append_left lt] at hy
    rw [List.getElem?_append_left (by rw [← h.1]; exact lt)] at hM
    exact h.2 i y M hy hM
  · rw [List.getElem?_append_right ge] at hy
    rw [List.getElem?_append_right (by rw [← h.1]; exact ge), ← h.1] at hM
    cases hi : i - xs.length with
    | zero => rw [hi] at hy hM; cases hy; cases hM; exact l
    | succ n => rw [hi] at hy; cases hy
/-- all lots that come up are right, and not long -/
structure Fit4 (L : List Cut) : Prop where
  l : LtL L
  few : L.length ≤ 1300
def Fine (Fs : List (List Cut)) : Prop := ∀ n, n ≤ Fs.length → ∀ L ∈ lotsW (Fs.take n), L.length ≤ 1300
def spLbw (K : PySem.W.Frag) (C : Addr) (T : List (Addr × Str)) : Sp := fun vs H Q _ => ∃ (u : V) (gs : List Sgt), vs = [u] ∧ (∀ g ∈ gs, g.Ok ∧ g.lot.length ≤ 1300) ∧ gs.length ≤ 100 ∧ Fine (gs.map Sgt.lot) ∧ Dp K H u (.tuple (gs.map sgD)) ∧ LamX.Tabs T H ∧
  ∀ l xs H', LamX.ExtN H H' → LamX.Tabs T H' → H' l = some (.lst xs) → LotsA K C H' xs (lotsW (gs.map Sgt.lot)) → Q (.ref l) H'
end My
set_option Elab.async false
set_option linter.all false
set_option maxRecDepth 100000
set_option maxHeartbeats 8000000
set_option exponentiation.threshold 4000
namespace My
open PySem PySem.Spec PyProof.Rows L2 Gn Mt
/-! the lots by the number of wrong ones, as the program makes them -/
/-- all that doubts want -/
structure Do (P : Program) (w : World) (K : PySem.W.Frag) (mg : Str → Option Value) (base : Heap) where
  M : Sg P w K mg base
  d8 : ∃ tk, mg "_MOST_DOUBTED" = some (.int 8 tk)
  min : mg "min" = none
  f_lw : Addr × FuncData
  lw : Df K mg "_lots_by_wrong" s__lots_by_wrong ["sightings"] f_lw.1 f_lw.2
  f_lwi : Addr × FuncData
  lwi : Df K mg "lot_with" s_lot_with ["sightings", "most"] f_lwi.1 f_lwi.2
  f_fw : Addr × FuncData
  fw : Df K mg "fewest_wrong" s_fewest_wrong ["sightings"] f_fw.1 f_fw.2
  f_sw : Addr × FuncData
  sw : Df K mg "surely_wrong" s_surely_wrong ["sightings", "most"] f_sw.1 f_sw.2
  f_sr : Addr × FuncData
  sr : Df K mg "surely_right" s_surely_right ["sightings", "most"] f_sr.1 f_sr.2
  f_cd : Addr × FuncData
  cd : Df K mg "_check_doubted" s__check_doubted ["sightings", "most"] f_cd.1 f_cd.2
  f_ls : Addr × FuncData
  ls : Df K mg "_lot_with_steps" s__lot_with_steps ["sightings", "most"] f_ls.1 f_ls.2
  f_cn : Addr × FuncData
  cn : Df K mg "check_number" sChNum ["given", "least", "most"] f_cn.1 f_cn.2
theorem fold_snoc (Fs : List (List Cut)) (F : List Cut) : lotsW (Fs ++ [F]) = stepW (lotsW Fs) F := by
  unfold lotsW
  rw [List.foldl_append]
  rfl
theorem zipW_mem {α β γ : Type} {f : α → β → γ} : ∀ {as : List α} {bs : List β} {x : γ}, x ∈ List.zipWith f as bs → ∃ a ∈ as, ∃ b ∈ bs, x = f a b
  | [], _, _, h => by simp at h
  | _ :: _, [], _, h => by simp at h
  | a :: as, b :: bs, x, h => by
    rw [List.zipWith_cons_cons] at h
    rcases List.mem_cons.mp h with rfl | h
    · exact ⟨a, List.mem_cons_self, b, List.mem_cons_self, rfl⟩
    · obtain ⟨a', ma, b', mb, e⟩ := zipW_mem h
      exact ⟨a', List.mem_cons_of_mem _ ma, b', List.mem_cons_of_mem _ mb, e⟩
theorem sqT_ext {K : PySem.W.Frag} {H H' : Hp} {a : Addr} {xs : List V} (e : LamX.ExtN H H') (h : SqT K H a xs) : SqT K H' a xs := by
  rcases h with (h | ⟨o, h⟩) | h
  · exact .inl (.inl (e _ _ h fun ps z => by cases z))
  · exact .inl (.inr ⟨o, e _ _ h fun ps z => by cases z⟩)
  · exact .inr h
theorem tabs_put {T : List (Addr × Str)} {G : Hp} {D : Addr} {xs : List V} {o : HO} (h : LamX.Tabs T G) (hD : G D = some (.lst xs)) : LamX.Tabs T (upd G D o) := fun p hp => by
  obtain ⟨ps, h1, h2, h3⟩ := h p hp
  have ne : p.1 ≠ D := fun z => by rw [z, hD] at h1; cases h1
  refine ⟨ps, by rw [upd_ne ne]; exact h1, h2, fun pos cv hc => ?_⟩
  obtain ⟨c0, e1, e2⟩ := h3 pos cv hc
  have ne2 : c0 ≠ D := fun z => by rw [z, hD] at e2; unfold LamX.CodeO at e2; cases e2
  exact ⟨c0, e1, by rw [upd_ne ne2]; exact e2⟩
theorem lots_ltl : ∀ {Fs : List (List Cut)}, (∀ F ∈ Fs, LtL F) → ∀ L ∈ lotsW Fs, LtL L := by
  intro Fs h
  have gen : ∀ (Fs : List (List Cut)) (Ls : List (List Cut)), (∀ F ∈ Fs, LtL F) → (∀ L ∈ Ls, LtL L) → ∀ L ∈ Fs.foldl stepW Ls, LtL L := by
    intro Fs
    induction Fs with
    | nil => intro Ls _ h L m; exact h L m
    | cons F Fs ih =>
      intro Ls hF hL L m
      refine ih (stepW Ls F) (fun x m => hF x (List.mem_cons_of_mem _ m)) (fun x mx => ?_) L m
      have lF := hF F List.mem_cons_self
      unfold stepW at mx
      rw [List.cons_append] at mx
      rcases List.mem_cons.mp mx with rfl | mx
      · refine run_ltl rfl ?_ lF
        cases Ls with
        | nil => exact ⟨⟨(fun c m => nomatch m), List.Pairwise.nil, rfl⟩, fun c m => nomatch m⟩
        | cons a r => exact hL a List.mem_cons_self
      · rcases List.mem_append.mp mx with mx | mx
        · obtain ⟨a, b, ha, hb, rfl⟩ : ∃ a b, a ∈ Ls ∧ b ∈ Ls ∧ x = either (both b F) a := by
            obtain ⟨a, ma, b, mb, e⟩ := zipW_mem mx
            exact ⟨a, b, ma, List.mem_of_mem_drop mb, e⟩
          exact run_ltl rfl (run_ltl rfl (hL b hb) lF) (hL a ha)
        · rw [List.mem_singleton.mp mx]; exact all_ltl
  exact gen Fs _ h fun L m => by rw [List.mem_singleton.mp m]; exact all_ltl
theorem both_len (as bs : List Cut) : (both as bs).length ≤ as.length + bs.length := Nat.le_trans (run_len' _ _ _) (mg_len as bs)
/-- a right sighting's lot -/
theorem sg_ltl {g : Sgt} (h : g.Ok) : LtL g.lot := by
  obtain ⟨pt, sm, ln⟩ := sg_pts h
  refine ⟨lot_lt pt, fun c m => ?_⟩
  have k := (evs_all (f := g.fits) pt.v pt.asc pt.ls).2.2.2 c (lw_in m)
  obtain ⟨p, mp, e1, e2⟩ := k
  rw [e1, e2]
  exact ⟨Nat.lt_trans (sm p mp).1 (by decide), Nat.lt_trans (sm p mp).2 (by decide)⟩
section
variable {P : Program} {w : World} {K : PySem.W.Frag} {mg' : Str → Option Value} {base : Heap}
theorem ok_lbw (S : Do P w K mg' base) : FnOk P w K mg' base CX0 11 S.f_lw.1 S.f_lw.2 ["sightings"] (spLbw K S.M.L.C S.M.TT) := by
  have GW : FnOk P w K mg' base CX0 9 S.M.L.f_wl.1 S.M.L.f_wl.2 [] (spAll K S.M.L.C) := ok_whole_lot S.M.L
  have GO : FnOk P w K mg' base CX0 10 S.M.S.f_lo.1 S.M.S.f_lo.2 ["sighting"] (spLotOf K S.M.L.C S.M.TT fun _ => True) := ok_lotOf S.M
  have GB : FnOk P w K mg' base CX0 10 S.M.L.f_bo.1 S.M.L.f_bo.2 ["lot", "mate"] (spBoth K S.M.L.C fun p q => p && q) := ok_both S.M.L
  have GE : FnOk P w K mg' base CX0 10 S.M.L.f_ei.1 S.M.L.f_ei.2 ["lot", "mate"] (spBoth K S.M.L.C fun p q => p || q) := ok_either S.M.L
  refine S.lw.F.ok sc_lw (fun vs H Q E h => ?_) (fun cdv A outer s H vs Q E hr h => ?_)
  · obtain ⟨u, gs, rfl, _⟩ := h
    rfl
  · obtain ⟨u, gs, rfl, ok, few, fine, hu, hT, k⟩ := h
    have hr9 : Room 9 _ := hr.mono (by decide)
    obtain ⟨t, ts, rfl, ht, hx⟩ := tup_inv hu
    have lx := dps_len hx
    rw [List.length_map] at lx
    refine ⟨_, pss_cons (ps_set (i := 1) sc_lw.nd rfl (.inl rfl) (pe_lst (pa_cons (pe_call0 GW hr9 (by rfl) S.M.L.wl.g S.M.L.wl.F.kp S.M.L.wl.b .nil pass0) pa_nil))) (pss_cons (ps_for PassesOwn.never rfl (pi_tup (pv 0)) (pg_name (i := 2) sc_lw.nd rfl (.inl rfl)) (pss_cons (ps_set (i := 3) sc_lw.nd rfl (.inl rfl) (pe_call GO hr (by rfl) S.M.S.lo.g S.M.S.lo.F.kp S.M.S.lo.b .nil pass0 (pa_cons (pv 2) pa_nil))) (pss_cons (ps_set (i := 4) sc_lw.nd rfl (.inl rfl) (pe_lst (pa_cons (pe_call GB hr (by rfl) S.M.L.bo.g S.M.L.bo.F.kp S.M.L.bo.b .nil pass0 (pa_cons (pe_ix ix_list (pv 1) pe_int (fun _ _ => rfl)) (pa_cons (pv 3) pa_nil))) pa_nil))) (pss_cons (ps_for PassesOwn.never rfl (pi_zip (by rfl) S.M.L.B.zip (pa_cons (pv 1) (pa_cons (pe_slice sl_list (pv 1) (po_some pe_int) po_none) pa_nil))) (pg_tup (by rfl) (pgs_cons (pg_name (i := 5) sc_lw.nd rfl (.inl rfl)) (pgs_cons (pg_name (i := 6) sc_lw.nd rfl (.inl rfl)) pgs_nil))) (pss_one (ps_expr (pe_bm PySem.F.plainAttrs_list PySem.F.slot_list_append PySem.F.type_list_append mt_append (pv 4) (pa_cons (pe_call GE hr (by rfl) S.M.L.ei.g S.M.L.ei.F.kp S.M.L.ei.b .nil pass0 (pa_cons (pe_call GB hr (by rfl) S.M.L.bo.g S.M.L.bo.F.kp S.M.L.bo.b .nil pass0 (pa_cons (pv 6) (pa_cons (pv 3) pa_nil))) (pa_cons (pv 5) pa_nil))) pa_nil))))) (pss_one (ps_set (i := 1) sc_lw.nd rfl (.inl rfl) (pe_lst (StX.pa_star (pv 4) (pa_cons (pe_call0 GW hr9 (by rfl) S.M.L.wl.g S.M.L.wl.F.kp S.M.L.wl.b .nil pass0) pa_nil))))))))) (pss_one (ps_ret (pv 1)))), ?_⟩
    refine ⟨rfl, fun v0 H1 s1 lot0 => ⟨(by show 1 ≤ sizeLine; decide), fun l0 nl0 => ?_⟩⟩
    have s2 := same_put (o := HO.lst [v0]) nl0
    have X2 : LamX.ExtN H (upd H1 l0 (HO.lst [v0])) := LamX.ExtN.of (s1.trans s2)
    have T2 : LamX.Tabs S.M.TT (upd H1 l0 (HO.lst [v0])) := fun p hp => ((hT p hp).ext s1).ext s2
    refine nxI ⟨_, rfl, t, rfl, ⟨_, sqT_ext X2 ht⟩, for_tup (K := K) (a := t) (xs := ts) (fun i σ H' => ∃ (l : Addr) (xs : List V) (u2 u3 u4 u5 u6 : Option V), σ = [some (.ref t), some (.ref l), u2, u3, u4, u5, u6] ∧ H' l = some (.lst xs) ∧ LotsA K S.M.L.C H' xs (lotsW ((gs.take i).map Sgt.lot)) ∧ LamX.ExtN H H' ∧ LamX.Tabs S.M.TT H')
      ⟨l0, [v0], none, none, none, none, none, rfl, upd_same, ⟨rfl, fun i x L hx hL => by
        cases i with
        | zero => cases hx; cases hL; exact lot0.same s2
        | succ n => cases hx⟩, X2, T2⟩ (fun i σ H' _ ⟨_, _, _, _, _, _, _, _, _, _, e, _⟩ => sqT_ext e ht) ?_ ?_⟩
    · rintro i x σ H3 hi ⟨l, xs, u2, u3, u4, u5, u6, rfl, hl, la, X3, T3⟩
      obtain ⟨d, hd, dx⟩ := dps_get hx hi
      rw [List.getElem?_map] at hd
      obtain ⟨g, hg, rfl⟩ := Option.map_eq_some_iff.mp hd
      have mg1 := List.mem_of_getElem? hg
      have il := (List.getElem?_eq_some_iff.mp hg).1
      obtain ⟨okg, fewg⟩ := ok g mg1
      refine ⟨_, rfl, x, g, rfl, trivial, okg, dp_ext X3 _ _ dx, T3, fun vF H4 e4 T4 lotF => ?_⟩
      have X4 := X3.trans e4
      have hl4 := e4 _ _ hl (fun ps z => by cases z)
      have la4 := la.extN e4
      have LF := sg_ltl okg
      have LL : ∀ L ∈ lotsW ((gs.take i).map Sgt.lot), LtL L ∧ L.length ≤ 1300 := fun L m => ⟨lots_ltl (fun F mF => by
        obtain ⟨g', mg', rfl⟩ := List.mem_map.mp mF
        exact sg_ltl (ok g' (List.mem_of_mem_take mg')).1) L m, fine i (by rw [List.length_map]; omega) L (by rw [← List.map_take]; exact m)⟩
      have ll : xs.length = i + 1 := by
        rw [la.1, lotsW_len, List.length_map, List.length_take]
        omega
      have step : lotsW ((gs.take (i + 1)).map Sgt.lot) = stepW (lotsW ((gs.take i).map Sgt.lot)) g.lot := by
        rw [List.take_add_one, hg, List.map_append]
        exact fold_snoc _ _
      have lLs : (lotsW ((gs.take i).map Sgt.lot)).length = i + 1 := by rw [← la.1]; exact ll
      generalize lotsW ((gs.take i).map Sgt.lot) = Ls at *
      generalize g.lot = F at *
      clear la hl T3 X3 e4
      -- all of them right
      obtain ⟨x0, hx0⟩ : ∃ x0, xs[0]? = some x0 := ⟨_, List.getElem?_eq_getElem (by omega)⟩
      obtain ⟨L0, hL0⟩ : ∃ L0, Ls[0]? = some L0 := ⟨_, List.getElem?_eq_getElem (by omega)⟩
      have eL0 : Ls.headD [] = L0 := by cases Ls with | nil => cases hL0 | cons a r => cases hL0; rfl
      obtain ⟨ltl0, few0⟩ := LL L0 (List.mem_of_getElem? hL0)
      refine nxI ⟨_, rfl, l, xs, 0, x0, rfl, rfl, SqL.of hl4, at_of (j := 0) rfl hx0, _, rfl, x0, vF, L0, F, rfl, la4.2 0 x0 L0 hx0 hL0, lotF, ltl0, LF, by omega, by omega, fun vB H5 s5 lotB => ?_⟩
      refine ⟨(by show 1 ≤ sizeLine; decide), fun D nD => ?_⟩
      have s6 := same_put (o := HO.lst [vB]) nD
      have hD6 : upd H5 D (HO.lst [vB]) D = some (.lst [vB]) := upd_same
      have hl6 := s6 _ _ (s5 _ _ hl4)
      have la6 := (la4.same s5).same s6
      have lF6 := (lotF.same s5).same s6
      have lB6 := lotB.same s6
      have X6 := X4.trans (LamX.ExtN.of (s5.trans s6))
      have T6 : LamX.Tabs S.M.TT (upd H5 D (HO.lst [vB])) := fun p hp => ((T4 p hp).ext s5).ext s6
      have nlD : l ≠ D := ne_of_none (s5 _ _ hl4) nD
      have X5 := X4.trans (LamX.ExtN.of s5)
      generalize upd H5 D (HO.lst [vB]) = H6 at *
      clear lotB s6 s5 hl4 la4 lotF T4 X4
      -- the others
      refine nxI ⟨_, rfl, _, rfl, 1, rfl, l, xs, rfl, SqL.of hl6, fun p1 np => ?_⟩
      rw [cut_from1]
      have s7 := same_put (o := HO.lst (xs.drop 1)) np
      have gp : upd H6 p1 (HO.lst (xs.drop 1)) p1 = some (.lst (xs.drop 1)) := upd_same
      have hl7 := s7 _ _ hl6
      have hD7 := s7 _ _ hD6
      have la7 := la6.same s7
      have lF7 := lF6.same s7
      have lB7 := lB6.same s7
      have X7 := X6.trans (LamX.ExtN.of s7)
      have T7 : LamX.Tabs S.M.TT (upd H6 p1 (HO.lst (xs.drop 1))) := fun p hp => (T6 p hp).ext s7
      have npD : p1 ≠ D := fun z => by rw [z, hD6] at np; cases np
      generalize upd H6 p1 (HO.lst (xs.drop 1)) = H7 at *
      refine ⟨l, p1, xs, xs.drop 1, rfl, SqL.of hl7, SqL.of gp, for_it (walk_zip (K := K) (a := l) (b := p1) (xs := xs) (ys := xs.drop 1) (n := i) (by rw [List.length_drop, ll]; omega))
        (fun j σ H' => ∃ (w5 w6 : Option V) (ys : List V), σ = [some (.ref t), some (.ref l), some x, some vF, some (.ref D), w5, w6] ∧ H' D = some (.lst ys) ∧ LotsA K S.M.L.C H' ys (both L0 F :: (List.zipWith (fun a b => either (both b F) a) Ls (Ls.drop 1)).take j) ∧ LamX.Tabs S.M.TT H' ∧ ∀ b o, b ≠ D → H7 b = some o → H' b = some o)
        ⟨_, _, [vB], rfl, hD7, ⟨rfl, fun i x L hx hL => by
          cases i with
          | zero => cases hx; cases hL; exact lB7
          | succ n => cases hx⟩, T7, fun b o _ e => e⟩ (fun j σ H' _ ⟨_, _, _, _, _, _, _, kp⟩ => ⟨SqL.of (kp _ _ nlD hl7), SqL.of (kp _ _ npD gp)⟩) ?_ ?_⟩
      · rintro j z σ H8 H9 hj ⟨w5, w6, ys, rfl, hD8, lY, T8, kp⟩ ⟨r, a, b, rfl, nr, rfl, ha, hb⟩
        have ha : xs[j]? = some a := ha
        have hb : (xs.drop 1)[j]? = some b := hb
        rw [List.getElem?_drop, Nat.add_comm] at hb
        obtain ⟨La, hLa⟩ : ∃ La, Ls[j]? = some La := ⟨_, List.getElem?_eq_getElem (by omega)⟩
        obtain ⟨Lb, hLb⟩ : ∃ Lb, Ls[j + 1]? = some Lb := ⟨_, List.getElem?_eq_getElem (by omega)⟩
        obtain ⟨la1, la2⟩ := LL La (List.mem_of_getElem? hLa)
        obtain ⟨lb1, lb2⟩ := LL Lb (List.mem_of_getElem? hLb)
        have lift : ∀ {v : V} {cs : List Cut}, LotAt K S.M.L.C H7 v cs → LotAt K S.M.L.C H8 v cs := fun {v cs} h => by
          obtain ⟨x, dx, a, rfl, hx, hda⟩ := h
          have bl : ButL H7 H8 := fun b o n e => kp b o (fun z => by rw [z, hD7] at e; exact n _ (Option.some.inj e).symm) e
          exact ⟨x, dx, a, rfl, bl _ _ (fun ys z => by cases z) hx, dp_butL bl _ _ (by unfold noL; exact noLs_iff.mpr fun d m => pcs_noL m) hda⟩
        have lA8 := lift (la7.2 j a La ha hLa)
        have lB8 := lift (la7.2 (j + 1) b Lb hb hLb)
        have lF8 := lift lF7
        have sr := same_put (o := HO.tup [a, b]) nr
        have gr : upd H8 r (HO.tup [a, b]) r = some (.tup [a, b]) := upd_same
        have hD9 := sr _ _ hD8
        have lA9 := lA8.same sr
        have lB9 := lB8.same sr
        have lF9 := lF8.same sr
        have lY9 := lY.same sr
        have T9 : LamX.Tabs S.M.TT (upd H8 r (HO.tup [a, b])) := fun p hp => (T8 p hp).ext sr
        generalize upd H8 r (HO.tup [a, b]) = H9 at *
        refine ⟨r, _, rfl, SqT.of gr, rfl, _, _, rfl, _, _, rfl, rfl, ?_⟩
        refine ⟨_, rfl, .inl ⟨rfl, _, SqL.of hD9⟩, ?_⟩
        refine ⟨_, rfl, _, rfl, b, vF, Lb, F, rfl, lB9, lF9, lb1, LF, by omega, by omega, fun vb H10 s10 lot10 => ?_⟩
        have fb := both_len Lb F
        refine ⟨_, rfl, vb, a, _, La, rfl, lot10, lA9.same s10, run_ltl rfl lb1 LF, la1, (by show (both Lb F).length ≤ 4000; omega), by omega, fun ve H11 s11 lot11 => ?_⟩
        have S9 := s10.trans s11
        have lys := lY9.1
        have lzz : (List.zipWith (fun a b => either (both b F) a) Ls (Ls.drop 1)).length ≤ Ls.length := by rw [List.length_zipWith]; exact Nat.min_le_left _ _
        refine ⟨D, ys, _, rfl, rfl, S9 _ _ hD9, small4 (by rw [lys, List.length_cons, List.length_take]; omega), ?_⟩
        have hz : (List.zipWith (fun a b => either (both b F) a) Ls (Ls.drop 1))[j]? = some (either (both Lb F) La) := by
          rw [List.getElem?_zipWith, hLa, List.getElem?_drop, Nat.add_comm 1 j, hLb]
        refine ⟨_, _, ys ++ [ve], rfl, upd_same, ?_, tabs_put (fun p hp => (T9 p hp).ext S9) (S9 _ _ hD9), fun b' o n e => ?_⟩
        · rw [List.take_add_one, hz]
          exact ((lY9.same S9).snoc lot11).put (S9 _ _ hD9)
        · rw [upd_ne n]
          exact S9 _ _ (sr _ _ (kp _ _ n e))
      · rintro σ H8 ⟨w5, w6, ys, rfl, hD8, lY, T8, kp⟩
        have tk : (List.zipWith (fun a b => either (both b F) a) Ls (Ls.drop 1)).take i = List.zipWith (fun a b => either (both b F) a) Ls (Ls.drop 1) := List.take_of_length_le (by rw [List.length_zipWith, List.length_drop]; omega)
        rw [tk] at lY
        have X8 : LamX.ExtN H H8 := fun b o e n => kp b o (ne_of_none (X5 b o e n) nD) (X7 b o e n)
        have lys : ys.length ≤ 200 := by
          have h := lY.1
          rw [List.length_cons, List.length_zipWith, List.length_drop] at h
          omega
        refine nxI ⟨_, rfl, D, ys, rfl, .inr (SqL.of hD8), rfl, fun vW H10 s10 lotW => ⟨(by show (ys ++ [vW]).length ≤ sizeLine; exact Nat.le_of_lt (small4 (by rw [List.length_append]; show ys.length + 1 ≤ 9000; omega))), fun q nq => ?_⟩⟩
        have s11 := same_put (o := HO.lst (ys ++ [vW])) nq
        refine ⟨q, ys ++ [vW], _, _, _, _, _, rfl, upd_same, ?_, X8.trans (LamX.ExtN.of (s10.trans s11)), fun p hp => ((T8 p hp).ext s10).ext s11⟩
        rw [step]
        unfold stepW
        rw [eL0]
        exact ((lY.same s10).snoc lotW).same s11
    · rintro σ H3 ⟨l, xs, u2, u3, u4, u5, u6, rfl, hl, la, X3, T3⟩
      have e : gs.take ts.length = gs := List.take_of_length_le (by omega)
      rw [e] at la
      exact nxI ⟨_, rfl, k l xs H3 X3 T3 hl la⟩
end
end My
set_option Elab.async false
set_option linter.all false
set_option maxRecDepth 100000
set_option maxHeartbeats 8000000
set_option exponentiation.threshold 4000
namespace My
open PySem PySem.Spec PyProof.Rows L2 Gn Mt
/-! doubts: the functions -/
theorem sc_lwi : FnScope ["sightings", "most"] ["sightings", "most"] (defScope s_lot_with) := ⟨rfl, rfl, rfl, by decide +kernel, rfl, by decide +kernel, by decide +kernel⟩
theorem sc_fw : FnScope ["sightings", "lot"] ["sightings"] (defScope s_fewest_wrong) := ⟨rfl, rfl, rfl, by decide +kernel, rfl, by decide +kernel, by decide +kernel⟩
theorem sc_sw : FnScope ["sightings", "most", "lot", "at", "sighting"] ["sightings", "most"] (defScope s_surely_wrong) := ⟨rfl, rfl, rfl, by decide +kernel, rfl, by decide +kernel, by decide +kernel⟩
theorem sc_sr : FnScope ["sightings", "most", "lot", "at", "sighting"] ["sightings", "most"] (defScope s_surely_right) := ⟨rfl, rfl, rfl, by decide +kernel, rfl, by decide +kernel, by decide +kernel⟩
theorem sc_cd : FnScope ["sightings", "most"] ["sightings", "most"] (defScope s__check_doubted) := ⟨rfl, rfl, rfl, by decide +kernel, rfl, by decide +kernel, by decide +kernel⟩
theorem sc_ls : FnScope ["sightings", "most", "lot"] ["sightings", "most"] (defScope s__lot_with_steps) := ⟨rfl, rfl, rfl, by decide +kernel, rfl, by decide +kernel, by decide +kernel⟩
/-- right sightings that are handed over -/
structure Sgs (K : PySem.W.Frag) (T : List (Addr × Str)) (H : Hp) (u : V) (gs : List Sgt) : Prop where
  ok : ∀ g ∈ gs, g.Ok ∧ g.lot.length ≤ 1300
  few : gs.length ≤ 8
  fine : Fine (gs.map Sgt.lot)
  dp : Dp K H u (.tuple (gs.map sgD))
  tab : LamX.Tabs T H
theorem Sgs.ext {K : PySem.W.Frag} {T : List (Addr × Str)} {H H' : Hp} {u : V} {gs : List Sgt} (h : Sgs K T H u gs) (e : LamX.ExtN H H') (t : LamX.Tabs T H') : Sgs K T H' u gs := ⟨h.ok, h.few, h.fine, dp_ext e _ _ h.dp, t⟩
/-- the lot with so many wrong ones at most -/
def lotM (gs : List Sgt) (m : Nat) : List Cut := (lotsW (gs.map Sgt.lot)).getD (min m gs.length) []
def spLotWi (K : PySem.W.Frag) (C : Addr) (T : List (Addr × Str)) : Sp := fun vs H Q _ => ∃ (u : V) (gs : List Sgt) (m : Nat), vs = [u, .int (m : Int)] ∧ Sgs K T H u gs ∧ m ≤ 8 ∧ ∀ v H', LamX.ExtN H H' → LamX.Tabs T H' → LotAt K C H' v (lotM gs m) → LtL (lotM gs m) → (lotM gs m).length ≤ 1300 → Q v H'
def spLotSt (K : PySem.W.Frag) (C : Addr) (T : List (Addr × Str)) : Sp := fun vs H Q _ => ∃ (u : V) (gs : List Sgt) (m : Nat), vs = [u, .int (m : Int)] ∧ Sgs K T H u gs ∧ m ≤ 8 ∧ lotM gs m ≠ [] ∧ ∀ v H', LamX.ExtN H H' → LamX.Tabs T H' → LotAt K C H' v (lotM gs m) → LtL (lotM gs m) → (lotM gs m).length ≤ 1300 → Q v H'
def spChD (K : PySem.W.Frag) (T : List (Addr × Str)) : Sp := fun vs H Q _ => ∃ (u : V) (gs : List Sgt) (m : Nat), vs = [u, .int (m : Int)] ∧ Sgs K T H u gs ∧ m ≤ 8 ∧ ∀ H', Same H H' → Q .non H'
def spFew (K : PySem.W.Frag) (T : List (Addr × Str)) : Sp := fun vs H Q _ => ∃ (u : V) (gs : List Sgt) (j : Nat), vs = [u] ∧ Sgs K T H u gs ∧ (lotsW (gs.map Sgt.lot))[j]? ≠ none ∧ (∀ L, (lotsW (gs.map Sgt.lot))[j]? = some L → L ≠ []) ∧ (∀ i L, i < j → (lotsW (gs.map Sgt.lot))[i]? = some L → L = []) ∧ ∀ H', LamX.ExtN H H' → LamX.Tabs T H' → Q (.int (j : Int)) H'
/-- the indexes of those that pass -/
def idxW (f : List Cut → Bool) (gs : List Sgt) (n : Nat) : List Nat := (List.range n).filter fun i => match gs[i]? with | some g => f g.lot | none => false
def spSure (K : PySem.W.Frag) (T : List (Addr × Str)) (f : List Cut → List Cut → Bool) : Sp := fun vs H Q _ => ∃ (u : V) (gs : List Sgt) (m : Nat), vs = [u, .int (m : Int)] ∧ Sgs K T H u gs ∧ m ≤ 8 ∧ lotM gs m ≠ [] ∧ ∀ r H', LamX.ExtN H H' → LamX.Tabs T H' → H' r = some (.tup ((idxW (f (lotM gs m)) gs gs.length).map fun i => V.int (i : Nat))) → Q (.ref r) H'
theorem idxW_step {f : List Cut → Bool} {gs : List Sgt} {n : Nat} {g : Sgt} (h : gs[n]? = some g) : idxW f gs (n + 1) = if f g.lot = true then idxW f gs n ++ [n] else idxW f gs n := by
  unfold idxW
  rw [List.range_succ, List.filter_append, List.filter_cons, h, List.filter_nil]
  cases hf : f g.lot <;> simp [hf]
theorem idxW_len {f : List Cut → Bool} {gs : List Sgt} {n : Nat} : (idxW f gs n).length ≤ n := by
  unfold idxW
  have := List.length_filter_le (fun i => match gs[i]? with | some g => f g.lot | none => false) (List.range n)
  rwa [List.length_range] at this
section
variable {P : Program} {w : World} {K : PySem.W.Frag} {mg : Str → Option Value} {base : Heap}
theorem ok_chD (S : Do P w K mg base) : FnOk P w K mg base CX0 7 S.f_cd.1 S.f_cd.2 ["sightings", "most"] (spChD K S.M.TT) := by
  have GC : FnOk P w K mg base CX0 6 S.M.S.f_ck.1 S.M.S.f_ck.2 ["given", "most"] (spChSgs K) := ok_chSgs S.M.S S.M.B S.M.N S.M.D
  have GN : FnOk P w K mg base CX0 3 S.f_cn.1 S.f_cn.2 ["given", "least", "most"] spChNum := ok_chNum S.cn.F S.M.B.c S.M.N.ii S.M.N.nu
  obtain ⟨tk, d8⟩ := S.d8
  refine S.cd.F.ok sc_cd (fun vs H Q E h => ?_) (fun cdv A outer s H vs Q E hr h => ?_)
  · obtain ⟨u, gs, m, rfl, _⟩ := h
    rfl
  · obtain ⟨u, gs, m, rfl, G, m8, k⟩ := h
    have hr3 : Room 3 _ := hr.mono (by decide)
    refine ⟨_, pss_cons (ps_expr (pe_call GC hr (by rfl) S.M.S.ck.g S.M.S.ck.F.kp S.M.S.ck.b .nil pass0 (pa_cons (pv 0) (pa_cons (pe_glob (v := .int 8) rfl d8 ⟨tk, rfl⟩) pa_nil)))) (pss_one (ps_expr (pe_call GN hr3 (by rfl) S.cn.g S.cn.F.kp S.cn.b .nil pass0 (pa_cons (pv 1) (pa_cons pe_int (pa_cons (pe_glob (v := .int 8) rfl d8 ⟨tk, rfl⟩) pa_nil)))))), ?_⟩
    have f8 := G.few
    refine ⟨_, rfl, u, gs, 8, rfl, fun g mg => (G.ok g mg).1, by omega, by decide, G.dp, fun H1 s1 => ?_⟩
    exact nxI ⟨_, rfl, (m : Int), 0, 8, rfl, by omega, by omega, k H1 s1⟩
theorem ok_lotWi (S : Do P w K mg base) : FnOk P w K mg base CX0 12 S.f_lwi.1 S.f_lwi.2 ["sightings", "most"] (spLotWi K S.M.L.C S.M.TT) := by
  have GC : FnOk P w K mg base CX0 7 S.f_cd.1 S.f_cd.2 ["sightings", "most"] (spChD K S.M.TT) := ok_chD S
  have GL : FnOk P w K mg base CX0 11 S.f_lw.1 S.f_lw.2 ["sightings"] (spLbw K S.M.L.C S.M.TT) := ok_lbw S
  refine S.lwi.F.ok sc_lwi (fun vs H Q E h => ?_) (fun cdv A outer s H vs Q E hr h => ?_)
  · obtain ⟨u, gs, m, rfl, _⟩ := h
    rfl
  · obtain ⟨u, gs, m, rfl, G, m8, k⟩ := h
    have hr7 : Room 7 _ := hr.mono (by decide)
    refine ⟨_, pss_cons (ps_expr (pe_call GC hr7 (by rfl) S.cd.g S.cd.F.kp S.cd.b .nil pass0 (pa_cons (pv 0) (pa_cons (pv 1) pa_nil)))) (pss_one (ps_ret (pe_ix ix_list (pe_call GL hr (by rfl) S.lw.g S.lw.F.kp S.lw.b .nil pass0 (pa_cons (pv 0) pa_nil)) (pe_callB (call_min2 rfl) (by rfl) S.min (by decide +kernel) (pa_cons (pv 1) (pa_cons (pe_callB (call_len_seq) (by rfl) S.M.B.c.len (by decide +kernel) (pa_cons (pv 0) pa_nil)) pa_nil))) (fun _ _ => rfl)))), ?_⟩
    refine ⟨_, rfl, _, rfl, u, gs, m, rfl, G, m8, fun H1 s1 => ?_⟩
    have f8 := G.few
    have T1 : LamX.Tabs S.M.TT H1 := fun p hp => (G.tab p hp).ext s1
    refine nxI ⟨_, rfl, u, gs, rfl, G.ok, by omega, G.fine, dp_same s1 _ _ G.dp, T1, fun l xs H2 e2 T2 hl la => ?_⟩
    have E2 := (LamX.ExtN.of s1).trans e2
    obtain ⟨t, ts, rfl, ht, hx⟩ := tup_inv (dp_ext E2 _ _ G.dp)
    have lx := dps_len hx
    rw [List.length_map] at lx
    refine ⟨_, rfl, _, rfl, t, ts, rfl, .inr ht, _, _, rfl, ?_⟩
    have em : (if ((ts.length : Nat) : Int) < (m : Int) then ((ts.length : Nat) : Int) else (m : Int)) = ((min m gs.length : Nat) : Int) := by
      rw [lx]
      split <;> omega
    rw [em]
    have ll := lotsW_len (gs.map Sgt.lot)
    rw [List.length_map] at ll
    have lxs := la.1
    obtain ⟨x, hx⟩ : ∃ x, xs[min m gs.length]? = some x := ⟨_, List.getElem?_eq_getElem (by omega)⟩
    obtain ⟨L, hL⟩ : ∃ L, (lotsW (gs.map Sgt.lot))[min m gs.length]? = some L := ⟨_, List.getElem?_eq_getElem (by omega)⟩
    have eL : lotM gs m = L := by
      unfold lotM
      rw [List.getD_eq_getElem?_getD, hL]
      rfl
    rw [eL] at k
    have mL := List.mem_of_getElem? hL
    refine ⟨l, xs, ((min m gs.length : Nat) : Int), x, rfl, rfl, SqL.of hl, at_of (j := min m gs.length) rfl hx, ?_⟩
    exact k x H2 E2 T2 (la.2 _ x L hx hL) (lots_ltl (fun F mF => by
      obtain ⟨g, mg', rfl⟩ := List.mem_map.mp mF
      exact sg_ltl (G.ok g mg').1) L mL) (G.fine (gs.map Sgt.lot).length (Nat.le_refl _) L (by rw [List.take_length]; exact mL))
theorem ok_lotSt (S : Do P w K mg base) : FnOk P w K mg base CX0 13 S.f_ls.1 S.f_ls.2 ["sightings", "most"] (spLotSt K S.M.L.C S.M.TT) := by
  have GL : FnOk P w K mg base CX0 12 S.f_lwi.1 S.f_lwi.2 ["sightings", "most"] (spLotWi K S.M.L.C S.M.TT) := ok_lotWi S
  have GP : FnOk P w K mg base CX0 1 S.M.L.fP S.M.L.fdP ["self"] (spPieces K S.M.L.C) := ok_lpieces S.M.L.T
  obtain ⟨pP, hpP⟩ := S.M.L.T.pp
  refine S.ls.F.ok sc_ls (fun vs H Q E h => ?_) (fun cdv A outer s H vs Q E hr h => ?_)
  · obtain ⟨u, gs, m, rfl, _⟩ := h
    rfl
  · obtain ⟨u, gs, m, rfl, G, m8, ne, k⟩ := h
    have hr2 : Room 2 _ := hr.mono (by decide)
    refine ⟨_, pss_cons (ps_set (i := 2) sc_ls.nd rfl (.inl rfl) (pe_call GL hr (by rfl) S.lwi.g S.lwi.F.kp S.lwi.b .nil pass0 (pa_cons (pv 0) (pa_cons (pv 1) pa_nil)))) (pss_cons (ps_if (pt_not (pt_truth (pe_prop (pv 2) S.M.L.T.cl hpP GP hr2 S.M.L.T.bP .nil pass0 rfl) (by intro _; rfl))) (pss_one ps_never) pss_nil) (pss_one (ps_ret (pv 2)))), ?_⟩
    refine ⟨_, rfl, _, rfl, u, gs, m, rfl, G, m8, fun x H1 e1 T1 lot ltl few => ?_⟩
    obtain ⟨y, dy, a, rfl, hy, hp⟩ := id lot
    refine nxI ⟨_, rfl, y, dy, _, rfl, hy, .ref y, _, rfl, lot, fun a' h' => ?_⟩
    obtain ⟨a2, zs, e, hz, hzs⟩ := tup_inv h'
    cases e
    have lz := dps_len hzs
    have l2 := pcs_len ltl.e
    have nz : zs.isEmpty = false := by
      cases zs with
      | nil =>
        exfalso
        have z0 : (lotM gs m).length = 0 := by rw [← l2, ← lz]; rfl
        exact ne (List.eq_nil_of_length_eq_zero z0)
      | cons _ _ => rfl
    exact ⟨true, .inr (.inl ⟨_, hz, by rw [nz]; rfl⟩), iteF (nxI ⟨_, rfl, k _ H1 e1 T1 lot ltl few⟩)⟩
theorem eqV_bl (a b : Bool) : eqV (.bl a) (.bl b) = decide (a = b) := by cases a <;> cases b <;> decide +kernel
theorem ok_few (S : Do P w K mg base) : FnOk P w K mg base CX0 12 S.f_fw.1 S.f_fw.2 ["sightings"] (spFew K S.M.TT) := by
  have GC : FnOk P w K mg base CX0 6 S.M.S.f_ck.1 S.M.S.f_ck.2 ["given", "most"] (spChSgs K) := ok_chSgs S.M.S S.M.B S.M.N S.M.D
  have GL : FnOk P w K mg base CX0 11 S.f_lw.1 S.f_lw.2 ["sightings"] (spLbw K S.M.L.C S.M.TT) := ok_lbw S
  have GP : FnOk P w K mg base CX0 1 S.M.L.fP S.M.L.fdP ["self"] (spPieces K S.M.L.C) := ok_lpieces S.M.L.T
  obtain ⟨pP, hpP⟩ := S.M.L.T.pp
  obtain ⟨tk, d8⟩ := S.d8
  refine S.fw.F.ok sc_fw (fun vs H Q E h => ?_) (fun cdv A outer s H vs Q E hr h => ?_)
  · obtain ⟨u, gs, j, rfl, _⟩ := h
    rfl
  · obtain ⟨u, gs, j, rfl, G, jj, jy, jn, k⟩ := h
    have hr6 : Room 6 _ := hr.mono (by decide)
    have hr2 : Room 2 _ := hr.mono (by decide)
    refine ⟨_, pss_cons (ps_expr (pe_call GC hr6 (by rfl) S.M.S.ck.g S.M.S.ck.F.kp S.M.S.ck.b .nil pass0 (pa_cons (pv 0) (pa_cons (pe_glob (v := .int 8) rfl d8 ⟨tk, rfl⟩) pa_nil)))) (pss_one (ps_ret (pe_bm PySem.F.plainAttrs_list PySem.F.slot_list_index PySem.F.type_list_index mt_index (pe_lc (te := tOp (rI0 fun i j => .bl (decide (j < i))) (tCB (fun xs H Q => ∃ p ys, xs = [.ref p] ∧ (SqL K H p ys ∨ SqT K H p ys) ∧ Q (.int ys.length) H) (tCons (tProp S.M.L.C (spPieces K S.M.L.C) [] E0 (tVar 1)) tNil)) (tC (.int 0))) (own := [("lot", 1)]) (g := gName 1) (tt := tYes) rfl sc_fw.nd (pi_list (pe_call GL hr (by rfl) S.lw.g S.lw.F.kp S.lw.b .nil pass0 (pa_cons (pv 0) pa_nil))) (blkOk_by (N := ["sightings", "lot"]) (sc := defScope s_fewest_wrong) (by decide +kernel)) (fun _ _ _ _ _ => pg_name (i := 1) sc_fw.nd rfl (.inl rfl)) (fun _ _ _ _ _ => pts_nil) (fun _ _ _ _ _ => (pe_cmpR op_gt (pe_callB (call_len_seq) (by rfl) S.M.B.c.len (by decide +kernel) (pa_cons (pe_prop (pv 1) S.M.L.T.cl hpP GP hr2 S.M.L.T.bP .nil pass0 rfl) pa_nil)) pe_int (nomark _)))) (pa_cons pe_bl pa_nil)))), ?_⟩
    have f8 := G.few
    refine ⟨_, rfl, u, gs, 8, rfl, fun g mg => (G.ok g mg).1, by omega, by decide, G.dp, fun H1 s1 => ?_⟩
    have T1 : LamX.Tabs S.M.TT H1 := fun p hp => (G.tab p hp).ext s1
    refine nxI ⟨_, rfl, u, gs, rfl, G.ok, by omega, G.fine, dp_same s1 _ _ G.dp, T1, fun l xs H2 e2 T2 hl la => ?_⟩
    have E2 := (LamX.ExtN.of s1).trans e2
    have ll := lotsW_len (gs.map Sgt.lot)
    rw [List.length_map] at ll
    have ltl : ∀ L ∈ lotsW (gs.map Sgt.lot), LtL L := lots_ltl (fun F mF => by
      obtain ⟨g, mg', rfl⟩ := List.mem_map.mp mF
      exact sg_ltl (G.ok g mg').1)
    generalize lotsW (gs.map Sgt.lot) = Ls at *
    refine ⟨l, rfl, ⟨_, SqL.of hl⟩, fun D nD => ?_⟩
    have s3 := same_put (o := HO.lst []) nD
    refine lc_list (K := K) (a := l) (xs := xs) (fun i H' => H' D = some (.lst ((Ls.take i).map fun L => V.bl (!L.isEmpty))) ∧ Same H2 H') ⟨upd_same, s3⟩ (fun i H' _ ⟨_, e⟩ => SqL.of (e _ _ hl)) ?_ ?_
    · rintro i x H3 hi ⟨hD, e3⟩
      have il := (List.getElem?_eq_some_iff.mp hi).1
      obtain ⟨L, hL⟩ : ∃ L, Ls[i]? = some L := ⟨_, List.getElem?_eq_getElem (by have := la.1; omega)⟩
      have lot := (la.2 i x L hi hL).same e3
      obtain ⟨y, dy, a, rfl, hy, hp⟩ := id lot
      refine ⟨rfl, _, rfl, y, dy, _, rfl, hy, .ref y, _, rfl, lot, fun a' h' => ?_⟩
      obtain ⟨a2, zs, e, hz, hzs⟩ := tup_inv h'
      cases e
      have lz := dps_len hzs
      have l2 := pcs_len (ltl L (List.mem_of_getElem? hL)).e
      have bz : decide ((0 : Int) < ((zs.length : Nat) : Int)) = !L.isEmpty := by
        cases L with
        | nil => rw [decide_eq_false (by show ¬ _; have : zs.length = 0 := by rw [lz]; rfl
                                         omega)]; rfl
        | cons c r => rw [decide_eq_true (by simp only [List.length_cons] at l2; omega)]; rfl
      refine ⟨a', zs, rfl, .inr hz, _, _, rfl, rfl, _, hD, small4 (by rw [List.length_map, List.length_take]; omega), ?_, fun b o e => by rw [upd_ne (ne_of_none e nD)]; exact e3 _ _ e⟩
      rw [upd_same, List.take_add_one, hL, List.map_append]
      show some (HO.lst (_ ++ [V.bl (decide ((0 : Int) < ((zs.length : Nat) : Int)))])) = _
      rw [bz]
      rfl
    rintro H3 ⟨hD, e3⟩
    have tk1 : Ls.take xs.length = Ls := List.take_of_length_le (by have := la.1; omega)
    rw [tk1] at hD
    obtain ⟨L, hL⟩ : ∃ L, Ls[j]? = some L := by
      cases h : Ls[j]? with
      | none => exact absurd h jj
      | some L => exact ⟨L, rfl⟩
    refine ⟨.inl ⟨rfl, _, SqL.of hD⟩, D, _, .bl true, j, .bl (!L.isEmpty), rfl, rfl, SqL.of hD, rfl, ?_, by rw [List.getElem?_map, hL]; rfl, ?_, fun i z lt hz => ?_, ?_⟩
    · rw [List.all_eq_true]
      intro z mz
      obtain ⟨M, _, rfl⟩ := List.mem_map.mp mz
      rfl
    · have n := jy L hL
      cases L with
      | nil => exact absurd rfl n
      | cons _ _ => rfl
    · rw [List.getElem?_map] at hz
      obtain ⟨M, hM, rfl⟩ := Option.map_eq_some_iff.mp hz
      rw [jn i M lt hM]
      rfl
    · exact k H3 (E2.trans (LamX.ExtN.of e3)) fun p hp => (T2 p hp).ext e3
end
end My
set_option Elab.async false
set_option linter.all false
set_option maxRecDepth 100000
set_option maxHeartbeats 8000000
set_option exponentiation.threshold 4000
namespace My
open PySem PySem.Spec PyProof.Rows L2 Gn Mt
/-! doubts: what is surely wrong, surely right -/
section
variable {P : Program} {w : World} {K : PySem.W.Frag} {mg : Str → Option Value} {base : Heap}
theorem ok_sw (S : Do P w K mg base) : FnOk P w K mg base CX0 14 S.f_sw.1 S.f_sw.2 ["sightings", "most"] (spSure K S.M.TT fun L F => (both L F).isEmpty) := by
  have GS : FnOk P w K mg base CX0 13 S.f_ls.1 S.f_ls.2 ["sightings", "most"] (spLotSt K S.M.L.C S.M.TT) := ok_lotSt S
  have GO : FnOk P w K mg base CX0 10 S.M.S.f_lo.1 S.M.S.f_lo.2 ["sighting"] (spLotOf K S.M.L.C S.M.TT fun _ => True) := ok_lotOf S.M
  have GB : FnOk P w K mg base CX0 10 S.M.L.f_bo.1 S.M.L.f_bo.2 ["lot", "mate"] (spBoth K S.M.L.C fun p q => p && q) := ok_both S.M.L
  have GI : FnOk P w K mg base CX0 11 S.M.L.f_in_.1 S.M.L.f_in_.2 ["lot", "mate"] (spInside K S.M.L.C) := ok_inside S.M.L
  have GP : FnOk P w K mg base CX0 1 S.M.L.fP S.M.L.fdP ["self"] (spPieces K S.M.L.C) := ok_lpieces S.M.L.T
  obtain ⟨pP, hpP⟩ := S.M.L.T.pp
  refine S.sw.F.ok sc_sw (fun vs H Q E h => ?_) (fun cdv A outer s H vs Q E hr h => ?_)
  · obtain ⟨u, gs, m, rfl, _⟩ := h
    rfl
  · obtain ⟨u, gs, m, rfl, G, m8, ne, k⟩ := h
    have hr2 : Room 2 _ := hr.mono (by decide)
    have hr10 : Room 10 _ := hr.mono (by decide)
    have hr11 : Room 11 _ := hr.mono (by decide)
    refine ⟨_, pss_cons (ps_set (i := 2) sc_sw.nd rfl (.inr rfl) (pe_call GS hr (by rfl) S.ls.g S.ls.F.kp S.ls.b .nil pass0 (pa_cons (pv 0) (pa_cons (pv 1) pa_nil)))) (pss_one (ps_ret (pe_callTy (cr_tupL) (by rfl) S.M.B.c.tuple (by decide +kernel) (pa_cons (pe_lc (te := tVar 3) (tt := (tNot (fun σ H Q => tProp S.M.L.C (spPieces K S.M.L.C) [] E0 (tCall (spBoth K S.M.L.C fun p q => p && q) [] E0 (tCons (tVar 2) (tCons (tCall (spLotOf K S.M.L.C S.M.TT fun _ => True) [] E0 (tCons (tVar 4) tNil)) tNil))) σ H fun x H2 => ∃ k, TruV K x H2 k ∧ Q k H2))) (own := [("at", 3), ("sighting", 4)]) (g := gTup K 2 (gCons (gName 3) (gCons (gName 4) gNil))) rfl sc_sw.nd (pi_enumT (by rfl) S.M.B.en (pa_cons (pv 0) pa_nil)) (blkOk_by (N := ["sightings", "most", "lot", "at", "sighting"]) (sc := defScope s_surely_wrong) (by decide +kernel)) (fun _ _ _ _ _ => (pg_tup (by rfl) (pgs_cons (pg_name (i := 3) sc_sw.nd rfl (.inl rfl)) (pgs_cons (pg_name (i := 4) sc_sw.nd rfl (.inl rfl)) pgs_nil)))) (fun _ _ _ _ _ => pts_one (pt_not (pt_truth (pe_prop (pe_call GB hr10 (by rfl) S.M.L.bo.g S.M.L.bo.F.kp S.M.L.bo.b .nil pass0 (pa_cons (pv 2) (pa_cons (pe_call GO hr10 (by rfl) S.M.S.lo.g S.M.S.lo.F.kp S.M.S.lo.b .nil pass0 (pa_cons (pv 4) pa_nil)) pa_nil))) S.M.L.T.cl hpP GP hr2 S.M.L.T.bP .nil pass0 rfl) (by intro _; rfl)))) (fun _ _ _ _ _ => pv 3)) pa_nil)))), ?_⟩
    have f8 := G.few
    refine ⟨_, rfl, _, rfl, u, gs, m, rfl, G, m8, ne, fun x H1 e1 T1 lot ltl few => ?_⟩
    have lm1300 : (lotM gs m).length ≤ 4000 := by omega
    generalize lotM gs m = L at *
    obtain ⟨t, ts, rfl, ht, hx⟩ := tup_inv (dp_ext e1 _ _ G.dp)
    have lx := dps_len hx
    rw [List.length_map] at lx
    refine nxI ⟨_, rfl, t, ts, rfl, ht, fun D nD => ?_⟩
    have s2 := same_put (o := HO.lst []) nD
    refine lc_it (walk_en (K := K) (a := t) (xs := ts)) (fun i H' => H' D = some (.lst ((idxW (fun F => (both L F).isEmpty) gs i).map fun i => V.int (i : Nat))) ∧ LamX.ExtN H1 H' ∧ LamX.Tabs S.M.TT H') ⟨upd_same, LamX.ExtN.of s2, fun p hp => (T1 p hp).ext s2⟩ (fun i H' _ ⟨_, e, _⟩ => sqT_ext e ht) ?_ ?_
    · rintro i z H2 H3 hi ⟨hD, e2, T2⟩ ⟨r, y, rfl, nr, rfl, hy⟩
      obtain ⟨d, hd, dy⟩ := dps_get hx hy
      rw [List.getElem?_map] at hd
      obtain ⟨g, hg, rfl⟩ := Option.map_eq_some_iff.mp hd
      obtain ⟨okg, fewg⟩ := G.ok g (List.mem_of_getElem? hg)
      have s3 := same_put (o := HO.tup [V.int (i : Nat), y]) nr
      have g3 : upd H2 r (HO.tup [V.int (i : Nat), y]) r = some (.tup [V.int (i : Nat), y]) := upd_same
      have hD3 := s3 _ _ hD
      have E3 := e2.trans (LamX.ExtN.of s3)
      have T3 : LamX.Tabs S.M.TT (upd H2 r (HO.tup [V.int (i : Nat), y])) := fun p hp => (T2 p hp).ext s3
      generalize upd H2 r (HO.tup [V.int (i : Nat), y]) = H3 at *
      refine ⟨r, _, rfl, SqT.of g3, rfl, _, _, rfl, _, _, rfl, rfl, rfl, ?_⟩
      have LF := sg_ltl okg
      have st := idxW_step (f := fun F => (both L F).isEmpty) hg
      refine ⟨_, rfl, _, rfl, y, g, rfl, trivial, okg, dp_ext E3 _ _ dy, T3, fun v H4 e4 T4 lotF => ?_⟩
      have hD4 := e4 _ _ hD3 (fun ps z => by cases z)
      have E4 := E3.trans e4
      have li := idxW_len (f := fun F => (both L F).isEmpty) (gs := gs) (n := i)
      refine ⟨x, v, L, g.lot, rfl, lot.extN E4, lotF, ltl, LF, lm1300, by omega, ?_⟩
      intro w5 H5 s5 lot5
      have ltl5 := lt_run (f := fun p q => p && q) rfl ltl.toLt LF.toLt
      obtain ⟨y5, dy5, a5, rfl, hy5, hp5⟩ := id lot5
      have hD5 := s5 _ _ hD4
      have E5 := E4.trans (LamX.ExtN.of s5)
      have T5 : LamX.Tabs S.M.TT H5 := fun p hp => (T4 p hp).ext s5
      refine ⟨y5, dy5, _, rfl, hy5, .ref y5, _, rfl, lot5, fun a' h' => ?_⟩
      obtain ⟨a2, zs, e, hz, hzs⟩ := tup_inv h'
      cases e
      have lz := dps_len hzs
      have l2 := pcs_len ltl5.e
      have bz : zs.isEmpty = (both L g.lot).isEmpty := by
        show _ = (Mt.run (fun p q => p && q) false false (Mt.mg L g.lot)).isEmpty
        cases h5 : Mt.run (fun p q => p && q) false false (Mt.mg L g.lot) with
        | nil =>
          rw [h5] at lz
          cases zs with
          | nil => rfl
          | cons _ _ => cases lz
        | cons c r =>
          rw [h5] at l2 lz
          cases zs with
          | nil => rw [← lz] at l2; cases l2
          | cons _ _ => rfl
      refine ⟨!(both L g.lot).isEmpty, .inr (.inl ⟨_, hz, by rw [bz]⟩), ?_⟩
      cases bT : (both L g.lot).isEmpty with
      | true => exact iteT ⟨_, rfl, _, hD5, small4 (by rw [List.length_map]; omega), by rw [upd_same, st, if_pos bT, List.map_append]; rfl, fun b o e n => by rw [upd_ne (ne_of_none e nD)]; exact E5 _ _ e n, tabs_put T5 hD5⟩
      | false => exact iteF ⟨by rw [hD5, st, if_neg (by rw [bT]; decide)], E5, T5⟩
    · rintro H2 ⟨hD, e2, T2⟩
      rw [lx] at hD
      refine ⟨D, _, rfl, SqL.of hD, fun r nr => ?_⟩
      have s3 := same_put (o := HO.tup ((idxW (fun F => (both L F).isEmpty) gs gs.length).map fun i => V.int (i : Nat))) nr
      exact k r _ (e1.trans (e2.trans (LamX.ExtN.of s3))) (fun p hp => (T2 p hp).ext s3) upd_same
theorem ok_sr (S : Do P w K mg base) : FnOk P w K mg base CX0 14 S.f_sr.1 S.f_sr.2 ["sightings", "most"] (spSure K S.M.TT fun L F => decide (both L F = L)) := by
  have GS : FnOk P w K mg base CX0 13 S.f_ls.1 S.f_ls.2 ["sightings", "most"] (spLotSt K S.M.L.C S.M.TT) := ok_lotSt S
  have GO : FnOk P w K mg base CX0 10 S.M.S.f_lo.1 S.M.S.f_lo.2 ["sighting"] (spLotOf K S.M.L.C S.M.TT fun _ => True) := ok_lotOf S.M
  have GB : FnOk P w K mg base CX0 10 S.M.L.f_bo.1 S.M.L.f_bo.2 ["lot", "mate"] (spBoth K S.M.L.C fun p q => p && q) := ok_both S.M.L
  have GI : FnOk P w K mg base CX0 11 S.M.L.f_in_.1 S.M.L.f_in_.2 ["lot", "mate"] (spInside K S.M.L.C) := ok_inside S.M.L
  have GP : FnOk P w K mg base CX0 1 S.M.L.fP S.M.L.fdP ["self"] (spPieces K S.M.L.C) := ok_lpieces S.M.L.T
  obtain ⟨pP, hpP⟩ := S.M.L.T.pp
  refine S.sr.F.ok sc_sr (fun vs H Q E h => ?_) (fun cdv A outer s H vs Q E hr h => ?_)
  · obtain ⟨u, gs, m, rfl, _⟩ := h
    rfl
  · obtain ⟨u, gs, m, rfl, G, m8, ne, k⟩ := h
    have hr2 : Room 2 _ := hr.mono (by decide)
    have hr10 : Room 10 _ := hr.mono (by decide)
    have hr11 : Room 11 _ := hr.mono (by decide)
    refine ⟨_, pss_cons (ps_set (i := 2) sc_sr.nd rfl (.inr rfl) (pe_call GS hr (by rfl) S.ls.g S.ls.F.kp S.ls.b .nil pass0 (pa_cons (pv 0) (pa_cons (pv 1) pa_nil)))) (pss_one (ps_ret (pe_callTy (cr_tupL) (by rfl) S.M.B.c.tuple (by decide +kernel) (pa_cons (pe_lc (te := tVar 3) (tt := (tB (tCall (spInside K S.M.L.C) [] E0 (tCons (tVar 2) (tCons (tCall (spLotOf K S.M.L.C S.M.TT fun _ => True) [] E0 (tCons (tVar 4) tNil)) tNil))))) (own := [("at", 3), ("sighting", 4)]) (g := gTup K 2 (gCons (gName 3) (gCons (gName 4) gNil))) rfl sc_sr.nd (pi_enumT (by rfl) S.M.B.en (pa_cons (pv 0) pa_nil)) (blkOk_by (N := ["sightings", "most", "lot", "at", "sighting"]) (sc := defScope s_surely_right) (by decide +kernel)) (fun _ _ _ _ _ => (pg_tup (by rfl) (pgs_cons (pg_name (i := 3) sc_sr.nd rfl (.inl rfl)) (pgs_cons (pg_name (i := 4) sc_sr.nd rfl (.inl rfl)) pgs_nil)))) (fun _ _ _ _ _ => pts_one (pt_val (pe_call GI hr11 (by rfl) S.M.L.in_.g S.M.L.in_.F.kp S.M.L.in_.b .nil pass0 (pa_cons (pv 2) (pa_cons (pe_call GO hr10 (by rfl) S.M.S.lo.g S.M.S.lo.F.kp S.M.S.lo.b .nil pass0 (pa_cons (pv 4) pa_nil)) pa_nil))))) (fun _ _ _ _ _ => pv 3)) pa_nil)))), ?_⟩
    have f8 := G.few
    refine ⟨_, rfl, _, rfl, u, gs, m, rfl, G, m8, ne, fun x H1 e1 T1 lot ltl few => ?_⟩
    have lm1300 : (lotM gs m).length ≤ 4000 := by omega
    generalize lotM gs m = L at *
    obtain ⟨t, ts, rfl, ht, hx⟩ := tup_inv (dp_ext e1 _ _ G.dp)
    have lx := dps_len hx
    rw [List.length_map] at lx
    refine nxI ⟨_, rfl, t, ts, rfl, ht, fun D nD => ?_⟩
    have s2 := same_put (o := HO.lst []) nD
    refine lc_it (walk_en (K := K) (a := t) (xs := ts)) (fun i H' => H' D = some (.lst ((idxW (fun F => decide (both L F = L)) gs i).map fun i => V.int (i : Nat))) ∧ LamX.ExtN H1 H' ∧ LamX.Tabs S.M.TT H') ⟨upd_same, LamX.ExtN.of s2, fun p hp => (T1 p hp).ext s2⟩ (fun i H' _ ⟨_, e, _⟩ => sqT_ext e ht) ?_ ?_
    · rintro i z H2 H3 hi ⟨hD, e2, T2⟩ ⟨r, y, rfl, nr, rfl, hy⟩
      obtain ⟨d, hd, dy⟩ := dps_get hx hy
      rw [List.getElem?_map] at hd
      obtain ⟨g, hg, rfl⟩ := Option.map_eq_some_iff.mp hd
      obtain ⟨okg, fewg⟩ := G.ok g (List.mem_of_getElem? hg)
      have s3 := same_put (o := HO.tup [V.int (i : Nat), y]) nr
      have g3 : upd H2 r (HO.tup [V.int (i : Nat), y]) r = some (.tup [V.int (i : Nat), y]) := upd_same
      have hD3 := s3 _ _ hD
      have E3 := e2.trans (LamX.ExtN.of s3)
      have T3 : LamX.Tabs S.M.TT (upd H2 r (HO.tup [V.int (i : Nat), y])) := fun p hp => (T2 p hp).ext s3
      generalize upd H2 r (HO.tup [V.int (i : Nat), y]) = H3 at *
      refine ⟨r, _, rfl, SqT.of g3, rfl, _, _, rfl, _, _, rfl, rfl, rfl, ?_⟩
      have LF := sg_ltl okg
      have st := idxW_step (f := fun F => decide (both L F = L)) hg
      refine ⟨_, rfl, _, rfl, y, g, rfl, trivial, okg, dp_ext E3 _ _ dy, T3, fun v H4 e4 T4 lotF => ?_⟩
      have hD4 := e4 _ _ hD3 (fun ps z => by cases z)
      have E4 := E3.trans e4
      have li := idxW_len (f := fun F => decide (both L F = L)) (gs := gs) (n := i)
      refine ⟨x, v, L, g.lot, rfl, lot.extN E4, lotF, ltl, LF, lm1300, by omega, ?_⟩
      intro H5 s5
      have hD5 := s5 _ _ hD4
      have E5 := E4.trans (LamX.ExtN.of s5)
      have T5 : LamX.Tabs S.M.TT H5 := fun p hp => (T4 p hp).ext s5
      refine ⟨_, rfl, ?_⟩
      cases bT : decide (both L g.lot = L) with
      | true => exact iteT ⟨_, rfl, _, hD5, small4 (by rw [List.length_map]; omega), by rw [upd_same, st, if_pos bT, List.map_append]; rfl, fun b o e n => by rw [upd_ne (ne_of_none e nD)]; exact E5 _ _ e n, tabs_put T5 hD5⟩
      | false => exact iteF ⟨by rw [hD5, st, if_neg (by rw [bT]; decide)], E5, T5⟩
    · rintro H2 ⟨hD, e2, T2⟩
      rw [lx] at hD
      refine ⟨D, _, rfl, SqL.of hD, fun r nr => ?_⟩
      have s3 := same_put (o := HO.tup ((idxW (fun F => decide (both L F = L)) gs gs.length).map fun i => V.int (i : Nat))) nr
      exact k r _ (e1.trans (e2.trans (LamX.ExtN.of s3))) (fun p hp => (T2 p hp).ext s3) upd_same
end
end My
set_option Elab.async false
set_option linter.all false
set_option maxRecDepth 100000
set_option maxHeartbeats 8000000
set_option exponentiation.threshold 4000
namespace My
open PySem PySem.Spec PyProof.Rows L2 Gn Mt
abbrev s__law_right : Stmt := top 89
/-! a turn of the law: known doubts -/
abbrev NR : List Str := ["_law_reel_here", "_law_by", "_law_saids", "_law_told", "_law_same"]
theorem sc__law_right : FnScope NR ["_law_reel_here"] (defScope s__law_right) := ⟨rfl, rfl, rfl, by decide +kernel, rfl, by decide +kernel, by decide +kernel⟩
def g1 (d : Int) : Sgt := .turn d (d + 1) (d + 2)
def g2 (d : Int) : Sgt := .turn d (d + 2) (d + 1)
def g3 (d : Int) : Sgt := .on (d + 3) d
def g4 (d : Int) : Sgt := .within (d + 1) (d + 2) (1, 4) (3, 4)
def F1 : List Cut := [⟨0, 1, true⟩, ⟨1, 2, false⟩]
def F2 : List Cut := [⟨1, 2, true⟩, ⟨1, 1, false⟩]
def F3 : List Cut := [⟨0, 1, false⟩, ⟨0, 1, true⟩, ⟨1, 3, false⟩, ⟨1, 3, true⟩, ⟨2, 3, false⟩, ⟨2, 3, true⟩]
def F4 : List Cut := [⟨1, 4, true⟩, ⟨3, 4, false⟩]
theorem lot_of_eq {g h : Sgt} (e1 : g.fits = h.fits) (e2 : g.pts = h.pts) : g.lot = h.lot := by
  unfold Sgt.lot
  rw [e1, e2]
theorem wy_of {x y a b c e : Int} (h : b - a = e - c) : wy x y a b = wy x y c e := by
  unfold wy
  rw [h]
theorem lot1 (d : Int) : (g1 d).lot = F1 := by
  have e : (g1 d).lot = (Sgt.turn 0 1 2).lot := lot_of_eq (funext fun x => funext fun y => by
    show (decide (0 < wy x y d (d + 1)) && decide (wy x y d (d + 1) < wy x y d (d + 2))) = (decide (0 < wy x y 0 1) && decide (wy x y 0 1 < wy x y 0 2))
    rw [wy_of (show (d + 1) - d = 1 - 0 by omega), wy_of (show (d + 2) - d = 2 - 0 by omega)]) (by
    show wpts (lcmA [((d + 1) - d).natAbs, ((d + 2) - d).natAbs, ((d + 2) - (d + 1)).natAbs]) [((d + 1) - d).natAbs, ((d + 2) - d).natAbs, ((d + 2) - (d + 1)).natAbs] = _
    rw [show (d + 1) - d = 1 by omega, show (d + 2) - d = 2 by omega, show (d + 2) - (d + 1) = 1 by omega]
    rfl)
  rw [e]
  decide +kernel
theorem lot2 (d : Int) : (g2 d).lot = F2 := by
  have e : (g2 d).lot = (Sgt.turn 0 2 1).lot := lot_of_eq (funext fun x => funext fun y => by
    show (decide (0 < wy x y d (d + 2)) && decide (wy x y d (d + 2) < wy x y d (d + 1))) = (decide (0 < wy x y 0 2) && decide (wy x y 0 2 < wy x y 0 1))
    rw [wy_of (show (d + 1) - d = 1 - 0 by omega), wy_of (show (d + 2) - d = 2 - 0 by omega)]) (by
    show wpts (lcmA [((d + 2) - d).natAbs, ((d + 1) - d).natAbs, ((d + 1) - (d + 2)).natAbs]) [((d + 2) - d).natAbs, ((d + 1) - d).natAbs, ((d + 1) - (d + 2)).natAbs] = _
    rw [show (d + 1) - d = 1 by omega, show (d + 2) - d = 2 by omega, show (d + 1) - (d + 2) = -1 by omega]
    rfl)
  rw [e]
  decide +kernel
theorem lot3 (d : Int) : (g3 d).lot = F3 := by
  have e : (g3 d).lot = (Sgt.on 3 0).lot := lot_of_eq (funext fun x => funext fun y => by
    show decide (wy x y (d + 3) d = 0) = decide (wy x y 3 0 = 0)
    rw [wy_of (show d - (d + 3) = 0 - 3 by omega)]) (by
    show wpts (lcmA [(d - (d + 3)).natAbs]) [(d - (d + 3)).natAbs] = _
    rw [show d - (d + 3) = -3 by omega]
    rfl)
  rw [e]
  decide +kernel
theorem lot4 (d : Int) : (g4 d).lot = F4 := by
  have e : (g4 d).lot = (Sgt.within 1 2 (1, 4) (3, 4)).lot := lot_of_eq (funext fun x => funext fun y => by
    show (decide (1 * y < wy x y (d + 1) (d + 2) * 4) && decide (wy x y (d + 1) (d + 2) * 4 < 3 * y)) = (decide (1 * y < wy x y 1 2 * 4) && decide (wy x y 1 2 * 4 < 3 * y))
    rw [wy_of (show (d + 2) - (d + 1) = 2 - 1 by omega)]) (by
    have ne : ¬ d + 2 < d + 1 := by omega
    show gpts (((d + 2) - (d + 1)).natAbs * _) (topsW (d + 1) (d + 2) (1, 4) (3, 4)) = gpts (((2 : Int) - 1).natAbs * _) (topsW 1 2 (1, 4) (3, 4))
    have e1 : topsW (d + 1) (d + 2) (1, 4) (3, 4) = topsW 1 2 (1, 4) (3, 4) := by
      unfold topsW endsW
      simp only
      rw [show (d + 2) - (d + 1) = 2 - 1 by omega, if_neg ne, if_neg (show ¬ (2 : Int) < 1 by decide)]
    rw [e1, show (d + 2) - (d + 1) = 2 - 1 by omega])
  rw [e]
  decide +kernel
def fineB (Fs : List (List Cut)) : Bool := (List.range (Fs.length + 1)).all fun n => (lotsW (Fs.take n)).all fun L => decide (L.length ≤ 1300)
theorem fine_of {Fs : List (List Cut)} (h : fineB Fs = true) : Fine Fs := fun n hn L m => by
  have z := List.all_eq_true.mp h n (List.mem_range.mpr (by omega))
  exact of_decide_eq_true (List.all_eq_true.mp z L m)
/-- by -/
def By (d : Int) : Prop := 0 ≤ d ∧ d < 38
theorem ok1 {d : Int} (h : By d) : (g1 d).Ok := by
  obtain ⟨a, b⟩ := h
  exact ⟨⟨a, by omega⟩, ⟨by omega, by omega⟩, ⟨by omega, by omega⟩, by omega, by omega, by omega⟩
theorem ok2 {d : Int} (h : By d) : (g2 d).Ok := by
  obtain ⟨a, b⟩ := h
  exact ⟨⟨a, by omega⟩, ⟨by omega, by omega⟩, ⟨by omega, by omega⟩, by omega, by omega, by omega⟩
theorem ok3 {d : Int} (h : By d) : (g3 d).Ok := by
  obtain ⟨a, b⟩ := h
  exact ⟨⟨by omega, by omega⟩, ⟨by omega, by omega⟩, by omega⟩
theorem ok4 {d : Int} (h : By d) : (g4 d).Ok := by
  obtain ⟨a, b⟩ := h
  exact ⟨⟨by omega, by omega⟩, ⟨by omega, by omega⟩, by omega, ⟨by decide, by decide, by decide, by decide⟩, ⟨by decide, by decide, by decide, by decide⟩, by decide, by decide, by show (1 : Int) * 4 < 3 * 4; decide⟩
def gsA (d : Int) : List Sgt := [g1 d, g2 d, g3 d, g4 d]
def gsB (d : Int) : List Sgt := [g1 d, g2 d]
def gsC (d : Int) : List Sgt := List.replicate 8 (g1 d)
theorem lotsA (d : Int) : (gsA d).map Sgt.lot = [F1, F2, F3, F4] := by
  show [(g1 d).lot, (g2 d).lot, (g3 d).lot, (g4 d).lot] = _
  rw [lot1, lot2, lot3, lot4]
theorem lotsB (d : Int) : (gsB d).map Sgt.lot = [F1, F2] := by
  show [(g1 d).lot, (g2 d).lot] = _
  rw [lot1, lot2]
theorem lotsC (d : Int) : (gsC d).map Sgt.lot = List.replicate 8 F1 := by
  show [(g1 d).lot, (g1 d).lot, (g1 d).lot, (g1 d).lot, (g1 d).lot, (g1 d).lot, (g1 d).lot, (g1 d).lot] = _
  rw [lot1]
  rfl
theorem okA {d : Int} (h : By d) : ∀ g ∈ gsA d, g.Ok ∧ g.lot.length ≤ 1300 := fun g m => by
  simp only [gsA, List.mem_cons, List.mem_nil_iff, or_false] at m
  rcases m with rfl | rfl | rfl | rfl
  · exact ⟨ok1 h, by rw [lot1]; decide⟩
  · exact ⟨ok2 h, by rw [lot2]; decide⟩
  · exact ⟨ok3 h, by rw [lot3]; decide⟩
  · exact ⟨ok4 h, by rw [lot4]; decide⟩
theorem okB {d : Int} (h : By d) : ∀ g ∈ gsB d, g.Ok ∧ g.lot.length ≤ 1300 := fun g m => by
  simp only [gsB, List.mem_cons, List.mem_nil_iff, or_false] at m
  rcases m with rfl | rfl
  · exact ⟨ok1 h, by rw [lot1]; decide⟩
  · exact ⟨ok2 h, by rw [lot2]; decide⟩
theorem okC' {d : Int} (h : By d) : ∀ g ∈ gsC d, g.Ok ∧ g.lot.length ≤ 1300 := fun g m => by
  rw [(List.mem_replicate.mp m).2]
  exact ⟨ok1 h, by rw [lot1]; decide⟩
/-- idxW by the lots alone -/
def idxF (f : List Cut → Bool) (Fs : List (List Cut)) (n : Nat) : List Nat := (List.range n).filter fun i => match Fs[i]? with | some F => f F | none => false
theorem idx_lots {f : List Cut → Bool} {gs : List Sgt} {n : Nat} : idxW f gs n = idxF f (gs.map Sgt.lot) n := by
  unfold idxW idxF
  refine List.filter_congr fun i _ => ?_
  rw [List.getElem?_map]
  cases gs[i]? <;> rfl
theorem lotM_lots {gs : List Sgt} {m : Nat} {Fs : List (List Cut)} (e : gs.map Sgt.lot = Fs) : lotM gs m = (lotsW Fs).getD (min m Fs.length) [] := by
  unfold lotM
  rw [← e, List.length_map]
/-- what a term hands over -/
def AsG (K : PySem.W.Frag) (T : List (Addr × Str)) (te : TE) (σ : L2.St) (H : Hp) (gs : List Sgt) : Prop := ∀ R : VK, (∀ v H', LamX.ExtN H H' → LamX.Tabs T H' → Sgs K T H' v gs → R v H') → te σ H R
section
variable {K : PySem.W.Frag} {C : Addr} {T : List (Addr × Str)} {H : Hp} {σ : L2.St} {R : VK} {te : TE} {gs : List Sgt} {Fs : List (List Cut)}
theorem few_at (f : AsG K T te σ H gs) (e : gs.map Sgt.lot = Fs) (j : Nat) (h1 : ((lotsW Fs)[j]?.any fun L => !L.isEmpty) = true) (h2 : ((lotsW Fs).take j).all List.isEmpty = true) (k : ∀ H', LamX.ExtN H H' → LamX.Tabs T H' → R (.int (j : Int)) H') : tCall (spFew K T) [] E0 (tCons te tNil) σ H R :=
  f _ fun v H1 e1 T1 G => ⟨v, gs, j, rfl, G, (by
    rw [e]
    intro z
    rw [z] at h1
    cases h1), (fun L hL => by
    rw [e] at hL
    rw [hL] at h1
    intro z
    rw [z] at h1
    cases h1), (fun i L lt hL => by
    rw [e] at hL
    have z := List.all_eq_true.mp h2 L (List.mem_of_getElem? (i := i) (by rw [List.getElem?_take, if_pos lt]; exact hL))
    exact List.isEmpty_iff.mp z), fun H2 e2 T2 => k H2 (e1.trans e2) T2⟩
def smB (L : List Cut) : Bool := L.all fun c => decide (0 ≤ c.n ∧ c.n < 2 ^ 62 ∧ 0 ≤ c.d ∧ c.d < 2 ^ 62)
theorem text_at (f : AsG K T te σ H gs) (e : gs.map Sgt.lot = Fs) (m : Nat) (m8 : m ≤ 8) (L : List Cut) (x : Str) (h1 : (lotsW Fs).getD (min m Fs.length) [] = L) (h2 : smB L = true) (h3 : (pcsD L).length ≤ 1000) (h4 : textT L = x) (k : ∀ H', LamX.ExtN H H' → LamX.Tabs T H' → R (.str x) H') :
    tProp C (spLText K C) [] E0 (tCall (spLotWi K C T) [] E0 (tCons te (tCons (tC (.int (m : Int))) tNil))) σ H R :=
  f _ fun v H1 e1 T1 G => ⟨v, gs, m, rfl, G, m8, fun w H2 e2 T2 lot ltl few => by
    rw [lotM_lots e, h1] at lot ltl
    obtain ⟨y, dy, a, rfl, hy, hp⟩ := id lot
    refine ⟨y, dy, _, rfl, hy, .ref y, L, rfl, lot, ltl.e, fun c mc => ?_, h3, fun H3 s3 => ?_⟩
    · have z := of_decide_eq_true (List.all_eq_true.mp h2 c mc)
      exact ⟨⟨z.1, z.2.1⟩, z.2.2.1, z.2.2.2⟩
    · rw [h4]
      exact k H3 ((e1.trans e2).trans (LamX.ExtN.of s3)) fun p hp => (T2 p hp).ext s3⟩
theorem sure_at {fq : List Cut → List Cut → Bool} (f : AsG K T te σ H gs) (e : gs.map Sgt.lot = Fs) (m : Nat) (m8 : m ≤ 8) (idx : List Nat) (h0 : ((lotsW Fs).getD (min m Fs.length) []).isEmpty = false) (h1 : idxF (fq ((lotsW Fs).getD (min m Fs.length) [])) Fs Fs.length = idx) (k : ∀ r H', LamX.ExtN H H' → LamX.Tabs T H' → H' r = some (.tup (idx.map fun i => V.int (i : Nat))) → R (.ref r) H') :
    tCall (spSure K T fq) [] E0 (tCons te (tCons (tC (.int (m : Int))) tNil)) σ H R :=
  f _ fun v H1 e1 T1 G => ⟨v, gs, m, rfl, G, m8, (fun z => by
    rw [lotM_lots e] at z
    rw [z] at h0
    cases h0), fun r H2 e2 T2 hr => k r H2 (e1.trans e2) T2 (by
    rw [hr, lotM_lots e, idx_lots, e, show gs.length = Fs.length by rw [← e, List.length_map], h1])⟩
theorem asG_v {i : Nat} {u : V} (h : σ[i]? = some (some u)) (G : Sgs K T H u gs) : AsG K T (tVar i) σ H gs := fun R k => ⟨u, h, k u H (LamX.ExtN.refl H) G.tab G⟩
end
end My
set_option Elab.async false
set_option linter.all false
set_option maxRecDepth 100000
set_option maxHeartbeats 8000000
set_option exponentiation.threshold 4000
namespace My
open PySem PySem.Spec PyProof.Rows L2 Gn Mt
/-- tables stay when a reel turns -/
theorem tabs_spun {H H' : Hp} {t : Addr} {N M : Int} {T : List (Addr × Str)} (hT : LamX.Tabs T H) (r : Reel H t M) (s : Spun H H' t N) : LamX.Tabs T H' := fun p hp => by
  obtain ⟨ps, h1, h2, h3⟩ := hT p hp
  obtain ⟨a, b, c, hl, _⟩ := r
  refine ⟨ps, s.keep _ _ h1 (fun z => by rw [z, hl] at h1; cases h1), h2, fun pos cv hc => ?_⟩
  obtain ⟨c0, e1, e2⟩ := h3 pos cv hc
  exact ⟨c0, e1, s.keep _ _ e2 (fun z => by rw [z, hl] at e2; unfold LamX.CodeO at e2; cases e2)⟩
/-- it turned its reel and made new things; tables may grow -/
structure Srq (T : List (Addr × Str)) (H H' : Hp) (t : Addr) : Prop where
  keep : ∀ b o, H b = some o → b ≠ t → (∀ ps, o ≠ .tbl ps) → H' b = some o
  tab : LamX.Tabs T H'
/-- what a term hands over in every later heap -/
def AE (K : PySem.W.Frag) (T : List (Addr × Str)) (te : TE) (σ : L2.St) (H : Hp) (d : PyData) : Prop := ∀ H1, LamX.ExtN H H1 → LamX.Tabs T H1 → ∀ R : VK, (∀ v H2, LamX.ExtN H1 H2 → LamX.Tabs T H2 → Dp K H2 v d → R v H2) → te σ H1 R
def LE (K : PySem.W.Frag) (T : List (Addr × Str)) (ts : TA) (σ : L2.St) (H : Hp) (ds : List PyData) : Prop := ∀ H1, LamX.ExtN H H1 → LamX.Tabs T H1 → ∀ R, (∀ vs H2, LamX.ExtN H1 H2 → LamX.Tabs T H2 → DpAll K H2 vs ds → R vs H2) → ts σ H1 R
def GE (K : PySem.W.Frag) (T : List (Addr × Str)) (te : TE) (σ : L2.St) (H : Hp) (gs : List Sgt) : Prop := ∀ H1, LamX.ExtN H H1 → LamX.Tabs T H1 → AsG K T te σ H1 gs
section
variable {K : PySem.W.Frag} {C : Addr} {T : List (Addr × Str)} {H : Hp} {σ : L2.St} {te : TE} {ts : TA} {gs : List Sgt} {Fs : List (List Cut)} {d : PyData} {ds : List PyData}
theorem AE.int (i : Int) : AE K T (tC (.int i)) σ H (.int i) := fun H1 _ t _ k => k _ _ (LamX.ExtN.refl _) t (.int i)
theorem AE.str (x : Str) : AE K T (tC (.str x)) σ H (.str x) := fun H1 _ t _ k => k _ _ (LamX.ExtN.refl _) t (.str x)
theorem AE.v {i : Nat} {u : V} (h : σ[i]? = some (some u)) (g : Dp K H u d) : AE K T (tVar i) σ H d := fun H1 e t _ k => ⟨u, h, k _ _ (LamX.ExtN.refl _) t (dp_ext e _ _ g)⟩
theorem LE.nil : LE K T tNil σ H [] := fun H1 _ t _ k => k _ _ (LamX.ExtN.refl _) t .nil
theorem LE.cons (a : AE K T te σ H d) (b : LE K T ts σ H ds) : LE K T (tCons te ts) σ H (d :: ds) := fun H1 e1 t1 R k =>
  a H1 e1 t1 _ fun v H2 e2 t2 dv => b H2 (e1.trans e2) t2 _ fun vs H3 e3 t3 dvs => k _ _ (e2.trans e3) t3 (.cons (dp_ext e3 _ _ dv) dvs)
theorem AE.tup (a : LE K T ts σ H ds) (z : ds.length ≤ sizeLine) : AE K T (tTup ts) σ H (.tuple ds) := fun H1 e1 t1 R k =>
  a H1 e1 t1 _ fun vs H2 e2 t2 dvs => ⟨by rw [dps_len dvs]; exact z, fun p np => k _ _ (e2.trans (LamX.ExtN.of (same_put np))) (t2.ext (same_put np)) (.tup (SqT.of upd_same) (dps_ext (LamX.ExtN.of (same_put np)) _ _ dvs))⟩
theorem AE.lst (a : LE K T ts σ H ds) (z : ds.length ≤ sizeLine) : AE K T (tLst ts) σ H (.list ds) := fun H1 e1 t1 R k =>
  a H1 e1 t1 _ fun vs H2 e2 t2 dvs => ⟨by rw [dps_len dvs]; exact z, fun p np => k _ _ (e2.trans (LamX.ExtN.of (same_put np))) (t2.ext (same_put np)) (.lst (SqL.of upd_same) (dps_ext (LamX.ExtN.of (same_put np)) _ _ dvs))⟩
theorem GE.v {i : Nat} {u : V} (h : σ[i]? = some (some u)) (G : Sgs K T H u gs) : GE K T (tVar i) σ H gs := fun _ e t => asG_v h (G.ext e t)
theorem AE.few (f : GE K T te σ H gs) (e : gs.map Sgt.lot = Fs) (j : Nat) (h1 : ((lotsW Fs)[j]?.any fun L => !L.isEmpty) = true) (h2 : ((lotsW Fs).take j).all List.isEmpty = true) : AE K T (tCall (spFew K T) [] E0 (tCons te tNil)) σ H (.int (j : Int)) := fun H1 e1 t1 R k =>
  few_at (f H1 e1 t1) e j h1 h2 fun H2 e2 t2 => k _ _ e2 t2 (.int _)
theorem AE.text (f : GE K T te σ H gs) (e : gs.map Sgt.lot = Fs) (m : Nat) (m8 : m ≤ 8) (L : List Cut) (x : Str) (h1 : (lotsW Fs).getD (min m Fs.length) [] = L) (h2 : smB L = true) (h3 : (pcsD L).length ≤ 1000) (h4 : textT L = x) :
    AE K T (tProp C (spLText K C) [] E0 (tCall (spLotWi K C T) [] E0 (tCons te (tCons (tC (.int (m : Int))) tNil)))) σ H (.str x) := fun H1 e1 t1 R k =>
  text_at (f H1 e1 t1) e m m8 L x h1 h2 h3 h4 fun H2 e2 t2 => k _ _ e2 t2 (.str _)
theorem dp_nats {r : Addr} {is : List Nat} (h : H r = some (.tup (is.map fun i => V.int (i : Nat)))) : Dp K H (.ref r) (.tuple (is.map fun i => .int (i : Nat))) := by
  refine .tup (SqT.of h) ?_
  clear h
  induction is with
  | nil => exact .nil
  | cons i is ih => exact .cons (.int _) ih
theorem AE.sure {fq : List Cut → List Cut → Bool} (f : GE K T te σ H gs) (e : gs.map Sgt.lot = Fs) (m : Nat) (m8 : m ≤ 8) (idx : List Nat) (h0 : ((lotsW Fs).getD (min m Fs.length) []).isEmpty = false) (h1 : idxF (fq ((lotsW Fs).getD (min m Fs.length) [])) Fs Fs.length = idx) :
    AE K T (tCall (spSure K T fq) [] E0 (tCons te (tCons (tC (.int (m : Int))) tNil))) σ H (.tuple (idx.map fun i => .int (i : Nat))) := fun H1 e1 t1 R k =>
  sure_at (f H1 e1 t1) e m m8 idx h0 h1 fun r H2 e2 t2 hr => k _ _ e2 t2 (dp_nats hr)
/-- x != y with the same data on both sides -/
theorem ne_same {a b : TE} {R : Bool → Hp → Prop} (ha : AE K T a σ H d) (hb : AE K T b σ H d) (t : LamX.Tabs T H) (sh : SeqAt.shaped d = true) (sl : d.canLay0 = true) (k : ∀ H', LamX.ExtN H H' → LamX.Tabs T H' → R false H') : tTest (tOp (rNeD K) a b) σ H R :=
  ha H (LamX.ExtN.refl H) t _ fun x H1 e1 t1 d1 => hb H1 e1 t1 _ fun y H2 e2 t2 d2 => ⟨d, d, dp_ext e2 _ _ d1, d2, sh, sh, false, by rw [SeqAt.eqv_refl _ sl]; rfl, k H2 (e1.trans e2) t2⟩
/-- x == y with the same data on both sides -/
theorem eq_same {a b : TE} {R : VK} (ha : AE K T a σ H d) (hb : AE K T b σ H d) (t : LamX.Tabs T H) (sh : SeqAt.shaped d = true) (sl : d.canLay0 = true) (k : ∀ H', LamX.ExtN H H' → LamX.Tabs T H' → R (.bl true) H') : tOp (rEqD K) a b σ H R :=
  ha H (LamX.ExtN.refl H) t _ fun x H1 e1 t1 d1 => hb H1 e1 t1 _ fun y H2 e2 t2 d2 => ⟨d, d, dp_ext e2 _ _ d1, d2, sh, sh, by rw [SeqAt.eqv_refl _ sl]; exact k H2 (e1.trans e2) t2⟩
end
/-! what comes out -/
theorem fineA : fineB [F1, F2, F3, F4] = true := by decide +kernel
theorem fineB' : fineB [F1, F2] = true := by decide +kernel
theorem fineC : fineB (List.replicate 8 F1) = true := by decide +kernel
theorem fine0 : fineB [] = true := by decide +kernel
def LA0 : List Cut := []
def LA1 : List Cut := [⟨1, 3, false⟩, ⟨1, 3, true⟩, ⟨2, 3, false⟩, ⟨2, 3, true⟩]
def LA2 : List Cut := [⟨1, 4, true⟩, ⟨1, 2, false⟩, ⟨1, 2, true⟩, ⟨3, 4, false⟩]
def LW : List Cut := [⟨0, 1, false⟩, ⟨1, 1, false⟩]
def LB1 : List Cut := [⟨0, 1, true⟩, ⟨1, 2, false⟩, ⟨1, 2, true⟩, ⟨1, 1, false⟩]
theorem lwA0 : (lotsW [F1, F2, F3, F4]).getD (min 0 ([F1, F2, F3, F4] : List (List Cut)).length) [] = LA0 := by decide +kernel
theorem lwA1 : (lotsW [F1, F2, F3, F4]).getD (min 1 ([F1, F2, F3, F4] : List (List Cut)).length) [] = LA1 := by decide +kernel
theorem lwA2 : (lotsW [F1, F2, F3, F4]).getD (min 2 ([F1, F2, F3, F4] : List (List Cut)).length) [] = LA2 := by decide +kernel
theorem lwA4 : (lotsW [F1, F2, F3, F4]).getD (min 4 ([F1, F2, F3, F4] : List (List Cut)).length) [] = LW := by decide +kernel
theorem lwB1 : (lotsW [F1, F2]).getD (min 1 ([F1, F2] : List (List Cut)).length) [] = LB1 := by decide +kernel
theorem lwC7 : (lotsW (List.replicate 8 F1)).getD (min 7 ((List.replicate 8 F1) : List (List Cut)).length) [] = F1 := by decide +kernel
theorem lwC8 : (lotsW (List.replicate 8 F1)).getD (min 8 ((List.replicate 8 F1) : List (List Cut)).length) [] = LW := by decide +kernel
theorem lw00 : (lotsW []).getD (min 0 ([] : List (List Cut)).length) [] = LW := by decide +kernel
theorem txA0 : textT LA0 = "none" := by decide +kernel
theorem txA1 : textT LA1 = "[1/3] [2/3]" := by decide +kernel
theorem txA2 : textT LA2 = "(1/4,1/2) (1/2,3/4)" := by decide +kernel
theorem txW : textT LW = "[0/1,1/1)" := by decide +kernel
theorem txB1 : textT LB1 = "(0/1,1/2) (1/2,1/1)" := by decide +kernel
theorem txF1 : textT F1 = "(0/1,1/2)" := by decide +kernel
theorem smLA0 : smB LA0 = true := by decide
theorem pcLA0 : (pcsD LA0).length ≤ 1000 := by decide
theorem smLA1 : smB LA1 = true := by decide
theorem pcLA1 : (pcsD LA1).length ≤ 1000 := by decide
theorem smLA2 : smB LA2 = true := by decide
theorem pcLA2 : (pcsD LA2).length ≤ 1000 := by decide
theorem smLW : smB LW = true := by decide
theorem pcLW : (pcsD LW).length ≤ 1000 := by decide
theorem smLB1 : smB LB1 = true := by decide
theorem pcLB1 : (pcsD LB1).length ≤ 1000 := by decide
theorem smF1 : smB F1 = true := by decide
theorem pcF1 : (pcsD F1).length ≤ 1000 := by decide
section
variable {K : PySem.W.Frag} {C : Addr} {T : List (Addr × Str)} {H : Hp} {σ : L2.St} {te : TE} {d : Int}
theorem fewA1 : ((lotsW [F1, F2, F3, F4])[1]?.any fun L => !L.isEmpty) = true := by decide +kernel
theorem fewA2 : ((lotsW [F1, F2, F3, F4]).take 1).all List.isEmpty = true := by decide +kernel
theorem fewA (f : GE K T te σ H (gsA d)) : AE K T (tCall (spFew K T) [] E0 (tCons te tNil)) σ H (.int 1) := AE.few f (lotsA d) 1 fewA1 fewA2
theorem fewB1 : ((lotsW [F1, F2])[1]?.any fun L => !L.isEmpty) = true := by decide +kernel
theorem fewB2 : ((lotsW [F1, F2]).take 1).all List.isEmpty = true := by decide +kernel
theorem fewB (f : GE K T te σ H (gsB d)) : AE K T (tCall (spFew K T) [] E0 (tCons te tNil)) σ H (.int 1) := AE.few f (lotsB d) 1 fewB1 fewB2
theorem fewC1 : ((lotsW (List.replicate 8 F1))[0]?.any fun L => !L.isEmpty) = true := by decide +kernel
theorem fewC2 : ((lotsW (List.replicate 8 F1)).take 0).all List.isEmpty = true := by decide +kernel
theorem fewC (f : GE K T te σ H (gsC d)) : AE K T (tCall (spFew K T) [] E0 (tCons te tNil)) σ H (.int 0) := AE.few f (lotsC d) 0 fewC1 fewC2
theorem few01 : ((lotsW [])[0]?.any fun L => !L.isEmpty) = true := by decide +kernel
theorem few02 : ((lotsW []).take 0).all List.isEmpty = true := by decide +kernel
theorem few0 (f : GE K T te σ H ([])) : AE K T (tCall (spFew K T) [] E0 (tCons te tNil)) σ H (.int 0) := AE.few f (rfl) 0 few01 few02
theorem tA1 (f : GE K T te σ H (gsA d)) : AE K T (tProp C (spLText K C) [] E0 (tCall (spLotWi K C T) [] E0 (tCons te (tCons (tC (.int 1)) tNil)))) σ H (.str "[1/3] [2/3]") := AE.text f (lotsA d) 1 (by decide) LA1 "[1/3] [2/3]" lwA1 smLA1 pcLA1 txA1
theorem tA0 (f : GE K T te σ H (gsA d)) : AE K T (tProp C (spLText K C) [] E0 (tCall (spLotWi K C T) [] E0 (tCons te (tCons (tC (.int 0)) tNil)))) σ H (.str "none") := AE.text f (lotsA d) 0 (by decide) LA0 "none" lwA0 smLA0 pcLA0 txA0
theorem tA4 (f : GE K T te σ H (gsA d)) : AE K T (tProp C (spLText K C) [] E0 (tCall (spLotWi K C T) [] E0 (tCons te (tCons (tC (.int 4)) tNil)))) σ H (.str "[0/1,1/1)") := AE.text f (lotsA d) 4 (by decide) LW "[0/1,1/1)" lwA4 smLW pcLW txW
theorem tA2 (f : GE K T te σ H (gsA d)) : AE K T (tProp C (spLText K C) [] E0 (tCall (spLotWi K C T) [] E0 (tCons te (tCons (tC (.int 2)) tNil)))) σ H (.str "(1/4,1/2) (1/2,3/4)") := AE.text f (lotsA d) 2 (by decide) LA2 "(1/4,1/2) (1/2,3/4)" lwA2 smLA2 pcLA2 txA2
theorem tB1 (f : GE K T te σ H (gsB d)) : AE K T (tProp C (spLText K C) [] E0 (tCall (spLotWi K C T) [] E0 (tCons te (tCons (tC (.int 1)) tNil)))) σ H (.str "(0/1,1/2) (1/2,1/1)") := AE.text f (lotsB d) 1 (by decide) LB1 "(0/1,1/2) (1/2,1/1)" lwB1 smLB1 pcLB1 txB1
theorem tC7 (f : GE K T te σ H (gsC d)) : AE K T (tProp C (spLText K C) [] E0 (tCall (spLotWi K C T) [] E0 (tCons te (tCons (tC (.int 7)) tNil)))) σ H (.str "(0/1,1/2)") := AE.text f (lotsC d) 7 (by decide) F1 "(0/1,1/2)" lwC7 smF1 pcF1 txF1
theorem tC8 (f : GE K T te σ H (gsC d)) : AE K T (tProp C (spLText K C) [] E0 (tCall (spLotWi K C T) [] E0 (tCons te (tCons (tC (.int 8)) tNil)))) σ H (.str "[0/1,1/1)") := AE.text f (lotsC d) 8 (by decide) LW "[0/1,1/1)" lwC8 smLW pcLW txW
theorem t00 (f : GE K T te σ H ([])) : AE K T (tProp C (spLText K C) [] E0 (tCall (spLotWi K C T) [] E0 (tCons te (tCons (tC (.int 0)) tNil)))) σ H (.str "[0/1,1/1)") := AE.text f (rfl) 0 (by decide) LW "[0/1,1/1)" lw00 smLW pcLW txW
theorem rA10 : ((lotsW [F1, F2, F3, F4]).getD (min 1 ([F1, F2, F3, F4] : List (List Cut)).length) []).isEmpty = false := by decide +kernel
theorem rA11 : idxF ((fun L F => decide (both L F = L)) ((lotsW [F1, F2, F3, F4]).getD (min 1 ([F1, F2, F3, F4] : List (List Cut)).length) [])) [F1, F2, F3, F4] ([F1, F2, F3, F4] : List (List Cut)).length = [2, 3] := by decide +kernel
theorem rA1 (f : GE K T te σ H (gsA d)) : AE K T (tCall (spSure K T fun L F => decide (both L F = L)) [] E0 (tCons te (tCons (tC (.int 1)) tNil))) σ H (.tuple [.int 2, .int 3]) := AE.sure f (lotsA d) 1 (by decide) [2, 3] rA10 rA11
theorem wA10 : ((lotsW [F1, F2, F3, F4]).getD (min 1 ([F1, F2, F3, F4] : List (List Cut)).length) []).isEmpty = false := by decide +kernel
theorem wA11 : idxF ((fun L F => (both L F).isEmpty) ((lotsW [F1, F2, F3, F4]).getD (min 1 ([F1, F2, F3, F4] : List (List Cut)).length) [])) [F1, F2, F3, F4] ([F1, F2, F3, F4] : List (List Cut)).length = [] := by decide +kernel
theorem wA1 (f : GE K T te σ H (gsA d)) : AE K T (tCall (spSure K T fun L F => (both L F).isEmpty) [] E0 (tCons te (tCons (tC (.int 1)) tNil))) σ H (.tuple []) := AE.sure f (lotsA d) 1 (by decide) [] wA10 wA11
theorem rA20 : ((lotsW [F1, F2, F3, F4]).getD (min 2 ([F1, F2, F3, F4] : List (List Cut)).length) []).isEmpty = false := by decide +kernel
theorem rA21 : idxF ((fun L F => decide (both L F = L)) ((lotsW [F1, F2, F3, F4]).getD (min 2 ([F1, F2, F3, F4] : List (List Cut)).length) [])) [F1, F2, F3, F4] ([F1, F2, F3, F4] : List (List Cut)).length = [3] := by decide +kernel
theorem rA2 (f : GE K T te σ H (gsA d)) : AE K T (tCall (spSure K T fun L F => decide (both L F = L)) [] E0 (tCons te (tCons (tC (.int 2)) tNil))) σ H (.tuple [.int 3]) := AE.sure f (lotsA d) 2 (by decide) [3] rA20 rA21
theorem rC70 : ((lotsW (List.replicate 8 F1)).getD (min 7 ((List.replicate 8 F1) : List (List Cut)).length) []).isEmpty = false := by decide +kernel
theorem rC71 : idxF ((fun L F => decide (both L F = L)) ((lotsW (List.replicate 8 F1)).getD (min 7 ((List.replicate 8 F1) : List (List Cut)).length) [])) (List.replicate 8 F1) ((List.replicate 8 F1) : List (List Cut)).length = [0, 1, 2, 3, 4, 5, 6, 7] := by decide +kernel
theorem rC7 (f : GE K T te σ H (gsC d)) : AE K T (tCall (spSure K T fun L F => decide (both L F = L)) [] E0 (tCons te (tCons (tC (.int 7)) tNil))) σ H (.tuple [.int 0, .int 1, .int 2, .int 3, .int 4, .int 5, .int 6, .int 7]) := AE.sure f (lotsC d) 7 (by decide) [0, 1, 2, 3, 4, 5, 6, 7] rC70 rC71
theorem r030 : ((lotsW []).getD (min 3 ([] : List (List Cut)).length) []).isEmpty = false := by decide +kernel
theorem r031 : idxF ((fun L F => decide (both L F = L)) ((lotsW []).getD (min 3 ([] : List (List Cut)).length) [])) [] ([] : List (List Cut)).length = [] := by decide +kernel
theorem r03 (f : GE K T te σ H ([])) : AE K T (tCall (spSure K T fun L F => decide (both L F = L)) [] E0 (tCons te (tCons (tC (.int 3)) tNil))) σ H (.tuple []) := AE.sure f (rfl) 3 (by decide) [] r030 r031
theorem w000 : ((lotsW []).getD (min 0 ([] : List (List Cut)).length) []).isEmpty = false := by decide +kernel
theorem w001 : idxF ((fun L F => (both L F).isEmpty) ((lotsW []).getD (min 0 ([] : List (List Cut)).length) [])) [] ([] : List (List Cut)).length = [] := by decide +kernel
theorem w00 (f : GE K T te σ H ([])) : AE K T (tCall (spSure K T fun L F => (both L F).isEmpty) [] E0 (tCons te (tCons (tC (.int 0)) tNil))) σ H (.tuple []) := AE.sure f (rfl) 0 (by decide) [] w000 w001
end
end My
set_option Elab.async false
set_option linter.all false
set_option maxRecDepth 100000
set_option maxHeartbeats 8000000
set_option exponentiation.threshold 4000
namespace My
open PySem PySem.Spec PyProof.Rows L2 Gn Mt
/-- what the law asks of the module -/
structure La (P : Program) (w : World) (K : PySem.W.Frag) (mg : Str → Option Value) (base : Heap) where
  D : Do P w K mg base
  bl : Bl mg
  f_sp : Addr × FuncData
  sp : Df K mg "_law_spin" sSpin ["_law_reel_here", "_law_many"] f_sp.1 f_sp.2
def spRight (T : List (Addr × Str)) : Sp := fun vs H Q _ => ∃ t, vs = [.ref t] ∧ Reel H t 0 ∧ LamX.Tabs T H ∧ ∀ H', Srq T H H' t → Q (.bl true) H'
section
variable {K : PySem.W.Frag} {T : List (Addr × Str)} {H : Hp} {σ : L2.St} {te : TE}
theorem sgsA {d : Int} {u : V} (b : By d) (h : Dp K H u (.tuple ((gsA d).map sgD))) (t : LamX.Tabs T H) : Sgs K T H u (gsA d) := ⟨okA b, by show 4 ≤ 8; decide, by rw [lotsA]; exact fine_of fineA, h, t⟩
theorem sgsB {d : Int} {u : V} (b : By d) (h : Dp K H u (.tuple ((gsB d).map sgD))) (t : LamX.Tabs T H) : Sgs K T H u (gsB d) := ⟨okB b, by show 2 ≤ 8; decide, by rw [lotsB]; exact fine_of fineB', h, t⟩
theorem sgsC {d : Int} {u : V} (b : By d) (h : Dp K H u (.tuple ((gsC d).map sgD))) (t : LamX.Tabs T H) : Sgs K T H u (gsC d) := ⟨okC' b, by show 8 ≤ 8; decide, by rw [lotsC]; exact fine_of fineC, h, t⟩
theorem sgs0 {u : V} (h : Dp K H u (.tuple [])) (t : LamX.Tabs T H) : Sgs K T H u [] := ⟨(fun g m => by cases m), by decide, fine_of fine0, h, t⟩
/-- () -/
theorem GE.nothing : GE K T (tTup tNil) σ H [] := fun _ _ t R k => ⟨by show 0 ≤ sizeLine; decide, fun p np => k _ _ (LamX.ExtN.of (same_put np)) (t.ext (same_put np)) (sgs0 (.tup (SqT.of upd_same) .nil) (t.ext (same_put np)))⟩
/-- a slice of a tuple of data -/
theorem dps_cut : ∀ {xs : List V} {ds : List PyData}, DpAll K H xs ds → ∀ a b : Nat, DpAll K H ((xs.drop a).take b) ((ds.drop a).take b)
  | [], _, h, a, b => by cases h; simp only [List.drop_nil, List.take_nil]; exact .nil
  | x :: xs, _, h, 0, b => by
    cases h with
    | cons h t => cases b with
      | zero => exact .nil
      | succ n => exact .cons h (dps_cut t 0 n)
  | x :: xs, _, h, a + 1, b => by
    cases h with
    | cons h t => exact dps_cut t a b
theorem AE.add {a b : TE} {i j : Int} (ha : AE K T a σ H (.int i)) (hb : AE K T b σ H (.int j)) : AE K T (tOp (rI0 fun i j => .int (i + j)) a b) σ H (.int (i + j)) := fun H1 e1 t1 R k =>
  ha H1 e1 t1 _ fun x H2 e2 t2 dx => hb H2 (e1.trans e2) t2 _ fun y H3 e3 t3 dy => by
    cases dx
    cases dy
    exact ⟨i, j, rfl, rfl, k _ _ (e2.trans e3) t3 (.int _)⟩
theorem AE.cat {a b : TE} {ds es : List PyData} (ha : AE K T a σ H (.tuple ds)) (hb : AE K T b σ H (.tuple es)) (z : ds.length + es.length ≤ sizeLine) : AE K T (tOp (rCatA K) a b) σ H (.tuple (ds ++ es)) := fun H1 e1 t1 R k =>
  ha H1 e1 t1 _ fun x H2 e2 t2 dx => hb H2 (e1.trans e2) t2 _ fun y H3 e3 t3 dy => by
    obtain ⟨p, xs, rfl, hp, hx⟩ := tup_inv (dp_ext e3 _ _ dx)
    obtain ⟨q, ys, rfl, hq, hy⟩ := tup_inv dy
    exact catA_of hp hq (by rw [dps_len hx, dps_len hy]; exact z) fun c H4 s4 hc => k _ _ (e2.trans (e3.trans (LamX.ExtN.of s4))) (t3.ext s4) (.tup hc (dps_ext (LamX.ExtN.of s4) _ _ (dps_app hx hy)))
theorem AE.ix {a : TE} {ds : List PyData} {d : PyData} (j : Nat) (ha : AE K T a σ H (.tuple ds)) (hd : ds[j]? = some d) : AE K T (tOp (rIxT K) a (tC (.int (j : Int)))) σ H d := fun H1 e1 t1 R k =>
  ha H1 e1 t1 _ fun x H2 e2 t2 dx => by
    obtain ⟨p, xs, rfl, hp, hx⟩ := tup_inv dx
    obtain ⟨v, hv, dv⟩ := dps_at hx hd
    exact ⟨p, xs, (j : Int), v, rfl, rfl, hp, at_of (j := j) rfl hv, k _ _ e2 t2 dv⟩
theorem dps_rep {u : V} {d : PyData} (h : Dp K H u d) : ∀ n : Nat, DpAll K H (List.replicate n [u]).flatten (List.replicate n d)
  | 0 => .nil
  | n + 1 => .cons h (dps_rep h n)
theorem AE.rep1 {a : TE} {d : PyData} (n : Nat) (n2 : 2 ≤ n) (n1 : n ≤ 1000) (ha : AE K T a σ H (.tuple [d])) : AE K T (tOp (rRepT K) a (tC (.int (n : Int)))) σ H (.tuple (List.replicate n d)) := fun H1 e1 t1 R k =>
  ha H1 e1 t1 _ fun x H2 e2 t2 dx => by
    obtain ⟨p, xs, rfl, hp, hx⟩ := tup_inv dx
    cases hx with
    | cons hx tl =>
      cases tl
      exact ⟨p, (n : Int), _, rfl, rfl, hp, by simp, by omega, by omega, by show 1 ≤ 1000; decide, fun r nr => k _ _ (e2.trans (LamX.ExtN.of (same_put nr))) (t2.ext (same_put nr)) (.tup (SqT.of upd_same) (by rw [Int.toNat_natCast]; exact dps_rep (dp_ext (LamX.ExtN.of (same_put nr)) _ _ hx) n))⟩
theorem GE.two {i : Nat} {u : V} {d : Int} (b : By d) (h : σ[i]? = some (some u)) (g : Dp K H u (.tuple ((gsA d).map sgD))) : GE K T (tSl (rSlA K) (tVar i) tNoPart (tPart (tC (.int 2)))) σ H (gsB d) := fun H1 e t R k => by
  obtain ⟨a, xs, rfl, ha, hx⟩ := tup_inv (dp_ext e _ _ g)
  refine ⟨_, h, 2, rfl, slA_of ha fun c H2 s2 hc => k _ _ (LamX.ExtN.of s2) (t.ext s2) (sgsB b (.tup hc ?_) (t.ext s2))⟩
  have l := dps_len hx
  have z := dps_ext (LamX.ExtN.of s2) _ _ (dps_cut hx 0 2)
  have e4 : xs.length = 4 := l
  have w : cutV xs Option.none (some 2) = (xs.drop 0).take 2 := by
    unfold cutV
    match xs, e4 with
    | [_, _, _, _], _ => rfl
  rw [w]
  exact z
theorem set_step {r : TS} {D : Ends} {i : Nat} {d : PyData} (t : LamX.Tabs T H) (a : AE K T te σ H d) (k : ∀ u H', LamX.ExtN H H' → LamX.Tabs T H' → Dp K H' u d → r D (σ.set i (some u)) H') : tSeq (tAsg te (gName i)) r D σ H := a H (LamX.ExtN.refl _) t _ fun u H' e t d => k u H' e t d
theorem ne_step {th r : TS} {D : Ends} {a b : TE} {d : PyData} (t : LamX.Tabs T H) (ha : AE K T a σ H d) (hb : AE K T b σ H d) (sh : SeqAt.shaped d = true) (sl : d.canLay0 = true) (k : ∀ H', LamX.ExtN H H' → LamX.Tabs T H' → r D σ H') : tSeq (tIfS (tTest (tOp (rNeD K) a b)) th tNext) r D σ H :=
  ne_same ha hb t sh sl fun H' e t' => iteF (k H' e t')
theorem ret_step {D : Ends} {a b : TE} {d : PyData} (t : LamX.Tabs T H) (ha : AE K T a σ H d) (hb : AE K T b σ H d) (sh : SeqAt.shaped d = true) (sl : d.canLay0 = true) (k : ∀ H', LamX.ExtN H H' → LamX.Tabs T H' → D.rt (.bl true) H') : tRet (tOp (rEqD K) a b) D σ H :=
  eq_same ha hb t sh sl k
/-- a few kinds of lists of what is told -/
theorem LE.two {a b : TE} {d e : PyData} (ha : AE K T a σ H d) (hb : AE K T b σ H e) : LE K T (tCons a (tCons b tNil)) σ H [d, e] := .cons ha (.cons hb .nil)
theorem LE.three {a b c : TE} {d e f : PyData} (ha : AE K T a σ H d) (hb : AE K T b σ H e) (hc : AE K T c σ H f) : LE K T (tCons a (tCons b (tCons c tNil))) σ H [d, e, f] := .cons ha (.two hb hc)
theorem LE.four {a b c k : TE} {d e f g : PyData} (ha : AE K T a σ H d) (hb : AE K T b σ H e) (hc : AE K T c σ H f) (hk : AE K T k σ H g) : LE K T (tCons a (tCons b (tCons c (tCons k tNil)))) σ H [d, e, f, g] := .cons ha (.three hb hc hk)
theorem ln (n : Nat) (h : n ≤ 1000) : n ≤ sizeLine := Nat.le_trans h (by decide)
end
section
variable {P : Program} {w : World} {K : PySem.W.Frag} {mg : Str → Option Value} {base : Heap}
theorem ok_right {f : Addr} {fd : FuncData} (F : Fun K "_law_right" "_law_right" s__law_right f fd) (M : La P w K mg base) : FnOk P w K mg base CX0 15 f fd ["_law_reel_here"] (spRight M.D.M.TT) := by
  have LS : FnOk P w K mg base CX0 1 M.f_sp.1 M.f_sp.2 ["_law_reel_here", "_law_many"] spSpin := ok_spin M.sp.F (M.bl)
  have GF : FnOk P w K mg base CX0 12 M.D.f_fw.1 M.D.f_fw.2 ["sightings"] (spFew K M.D.M.TT) := ok_few M.D
  have GW : FnOk P w K mg base CX0 12 M.D.f_lwi.1 M.D.f_lwi.2 ["sightings", "most"] (spLotWi K M.D.M.L.C M.D.M.TT) := ok_lotWi M.D
  have GR : FnOk P w K mg base CX0 14 M.D.f_sr.1 M.D.f_sr.2 ["sightings", "most"] (spSure K M.D.M.TT fun L F => decide (both L F = L)) := ok_sr M.D
  have GQ : FnOk P w K mg base CX0 14 M.D.f_sw.1 M.D.f_sw.2 ["sightings", "most"] (spSure K M.D.M.TT fun L F => (both L F).isEmpty) := ok_sw M.D
  have GT : FnOk P w K mg base CX0 5 M.D.M.L.fT M.D.M.L.fdT ["self"] (spLText K M.D.M.L.C) := ok_ltext M.D.M.L
  obtain ⟨pT, hpT⟩ := M.D.M.L.pt
  refine F.ok sc__law_right (fun vs H Q E h => ?_) (fun cdv A outer s H vs Q E hr h => ?_)
  · obtain ⟨t, rfl, _⟩ := h
    rfl
  · obtain ⟨t, rfl, R0, T0, q⟩ := h
    have hu := hr.units
    have hr1 : Room 1 _ := hr.mono (by decide)
    have hr6 : Room (5 + 1) _ := hr.mono (by decide)
    have hr12 : Room 12 _ := hr.mono (by decide)
    refine ⟨_, pss_cons (ps_set (i := 1) sc__law_right.nd rfl (.inl rfl) (pe_call LS hr1 (by rfl) M.sp.g M.sp.F.kp M.sp.b .nil pass0 (pa_cons (pv 0) (pa_cons pe_int pa_nil)))) (pss_cons (ps_set (i := 2) sc__law_right.nd rfl (.inl rfl) (pe_tup (pa_cons (pe_tup (pa_cons pe_str (pa_cons (pv 1) (pa_cons (pe_op op_add (pv 1) pe_int) (pa_cons (pe_op op_add (pv 1) pe_int) pa_nil))))) (pa_cons (pe_tup (pa_cons pe_str (pa_cons (pv 1) (pa_cons (pe_op op_add (pv 1) pe_int) (pa_cons (pe_op op_add (pv 1) pe_int) pa_nil))))) pa_nil)))) (pss_cons (ps_set (i := 2) sc__law_right.nd rfl (.inl rfl) (pe_op op_catA (pv 2) (pe_tup (pa_cons (pe_tup (pa_cons pe_str (pa_cons (pe_op op_add (pv 1) pe_int) (pa_cons (pv 1) pa_nil)))) (pa_cons (pe_tup (pa_cons pe_str (pa_cons (pe_op op_add (pv 1) pe_int) (pa_cons (pe_op op_add (pv 1) pe_int) (pa_cons (pe_tup (pa_cons pe_int (pa_cons pe_int pa_nil))) (pa_cons (pe_tup (pa_cons pe_int (pa_cons pe_int pa_nil))) pa_nil)))))) pa_nil))))) (pss_cons (ps_set (i := 3) sc__law_right.nd rfl (.inl rfl) (pe_lst (pa_cons (pe_call GF hr12 (by rfl) M.D.fw.g M.D.fw.F.kp M.D.fw.b .nil pass0 (pa_cons (pv 2) pa_nil)) (pa_cons (pe_prop (pe_call GW hr12 (by rfl) M.D.lwi.g M.D.lwi.F.kp M.D.lwi.b .nil pass0 (pa_cons (pv 2) (pa_cons pe_int pa_nil))) M.D.M.L.T.cl hpT GT hr6 M.D.M.L.bT .nil pass0 rfl) (pa_cons (pe_prop (pe_call GW hr12 (by rfl) M.D.lwi.g M.D.lwi.F.kp M.D.lwi.b .nil pass0 (pa_cons (pv 2) (pa_cons pe_int pa_nil))) M.D.M.L.T.cl hpT GT hr6 M.D.M.L.bT .nil pass0 rfl) (pa_cons (pe_prop (pe_call GW hr12 (by rfl) M.D.lwi.g M.D.lwi.F.kp M.D.lwi.b .nil pass0 (pa_cons (pv 2) (pa_cons pe_int pa_nil))) M.D.M.L.T.cl hpT GT hr6 M.D.M.L.bT .nil pass0 rfl) pa_nil)))))) (pss_cons (ps_if (pt_cmpR (op_neD hu) (pv 3) (pe_lst (pa_cons pe_int (pa_cons pe_str (pa_cons pe_str (pa_cons pe_str pa_nil))))) (nomark _)) (pss_one (ps_ret pe_bl)) pss_nil) (pss_cons (ps_if (pt_cmpR (op_neD hu) (pe_lst (pa_cons (pe_call GR hr (by rfl) M.D.sr.g M.D.sr.F.kp M.D.sr.b .nil pass0 (pa_cons (pv 2) (pa_cons pe_int pa_nil))) (pa_cons (pe_call GQ hr (by rfl) M.D.sw.g M.D.sw.F.kp M.D.sw.b .nil pass0 (pa_cons (pv 2) (pa_cons pe_int pa_nil))) (pa_cons (pe_call GR hr (by rfl) M.D.sr.g M.D.sr.F.kp M.D.sr.b .nil pass0 (pa_cons (pv 2) (pa_cons pe_int pa_nil))) pa_nil)))) (pe_lst (pa_cons (pe_tup (pa_cons pe_int (pa_cons pe_int pa_nil))) (pa_cons (pe_tup pa_nil) (pa_cons (pe_tup (pa_cons pe_int pa_nil)) pa_nil)))) (nomark _)) (pss_one (ps_ret pe_bl)) pss_nil) (pss_cons (ps_if (pt_cmpR (op_neD hu) (pe_prop (pe_call GW hr12 (by rfl) M.D.lwi.g M.D.lwi.F.kp M.D.lwi.b .nil pass0 (pa_cons (pv 2) (pa_cons pe_int pa_nil))) M.D.M.L.T.cl hpT GT hr6 M.D.M.L.bT .nil pass0 rfl) pe_str (nomark _)) (pss_one (ps_ret pe_bl)) pss_nil) (pss_cons (ps_if (pt_cmpR (op_neD hu) (pe_lst (pa_cons (pe_call GF hr12 (by rfl) M.D.fw.g M.D.fw.F.kp M.D.fw.b .nil pass0 (pa_cons (pe_slice sl_tupA (pv 2) po_none (po_some pe_int)) pa_nil)) (pa_cons (pe_prop (pe_call GW hr12 (by rfl) M.D.lwi.g M.D.lwi.F.kp M.D.lwi.b .nil pass0 (pa_cons (pe_slice sl_tupA (pv 2) po_none (po_some pe_int)) (pa_cons pe_int pa_nil))) M.D.M.L.T.cl hpT GT hr6 M.D.M.L.bT .nil pass0 rfl) pa_nil))) (pe_lst (pa_cons pe_int (pa_cons pe_str pa_nil))) (nomark _)) (pss_one (ps_ret pe_bl)) pss_nil) (pss_cons (ps_set (i := 4) sc__law_right.nd rfl (.inl rfl) (pe_op op_repT (pe_tup (pa_cons (pe_ix ix_tup (pv 2) pe_int (fun _ _ => rfl)) pa_nil)) pe_int)) (pss_cons (ps_set (i := 3) sc__law_right.nd rfl (.inl rfl) (pe_lst (pa_cons (pe_call GF hr12 (by rfl) M.D.fw.g M.D.fw.F.kp M.D.fw.b .nil pass0 (pa_cons (pv 4) pa_nil)) (pa_cons (pe_prop (pe_call GW hr12 (by rfl) M.D.lwi.g M.D.lwi.F.kp M.D.lwi.b .nil pass0 (pa_cons (pv 4) (pa_cons pe_int pa_nil))) M.D.M.L.T.cl hpT GT hr6 M.D.M.L.bT .nil pass0 rfl) (pa_cons (pe_prop (pe_call GW hr12 (by rfl) M.D.lwi.g M.D.lwi.F.kp M.D.lwi.b .nil pass0 (pa_cons (pv 4) (pa_cons pe_int pa_nil))) M.D.M.L.T.cl hpT GT hr6 M.D.M.L.bT .nil pass0 rfl) (pa_cons (pe_call GR hr (by rfl) M.D.sr.g M.D.sr.F.kp M.D.sr.b .nil pass0 (pa_cons (pv 4) (pa_cons pe_int pa_nil))) pa_nil)))))) (pss_cons (ps_if (pt_cmpR (op_neD hu) (pv 3) (pe_lst (pa_cons pe_int (pa_cons pe_str (pa_cons pe_str (pa_cons (pe_tup (pa_cons pe_int (pa_cons pe_int (pa_cons pe_int (pa_cons pe_int (pa_cons pe_int (pa_cons pe_int (pa_cons pe_int (pa_cons pe_int pa_nil))))))))) pa_nil))))) (nomark _)) (pss_one (ps_ret pe_bl)) pss_nil) (pss_cons (ps_set (i := 3) sc__law_right.nd rfl (.inl rfl) (pe_lst (pa_cons (pe_call GF hr12 (by rfl) M.D.fw.g M.D.fw.F.kp M.D.fw.b .nil pass0 (pa_cons (pe_tup pa_nil) pa_nil)) (pa_cons (pe_prop (pe_call GW hr12 (by rfl) M.D.lwi.g M.D.lwi.F.kp M.D.lwi.b .nil pass0 (pa_cons (pe_tup pa_nil) (pa_cons pe_int pa_nil))) M.D.M.L.T.cl hpT GT hr6 M.D.M.L.bT .nil pass0 rfl) (pa_cons (pe_call GR hr (by rfl) M.D.sr.g M.D.sr.F.kp M.D.sr.b .nil pass0 (pa_cons (pe_tup pa_nil) (pa_cons pe_int pa_nil))) (pa_cons (pe_call GQ hr (by rfl) M.D.sw.g M.D.sw.F.kp M.D.sw.b .nil pass0 (pa_cons (pe_tup pa_nil) (pa_cons pe_int pa_nil))) pa_nil)))))) (pss_one (ps_ret (pe_cmpR (op_eqD hu) (pv 3) (pe_lst (pa_cons pe_int (pa_cons pe_str (pa_cons (pe_tup pa_nil) (pa_cons (pe_tup pa_nil) pa_nil))))) (nomark _))))))))))))))), ?_⟩
    refine ⟨_, rfl, t, 38, 0, rfl, R0, by decide, by decide, by decide, fun d H1 d0 d38 p1 => ?_⟩
    have b : By d := ⟨d0, d38⟩
    have T1 := tabs_spun T0 R0 p1
    have X1 : Srq M.D.M.TT H H1 t := ⟨fun c o e n _ => p1.keep c o e n, T1⟩
    -- the sightings
    refine nxI (set_step (K := K) T1 (.tup (.two (.tup (.four (.str _) (.v rfl (.int d)) (.add (.v rfl (.int d)) (.int 1)) (.add (.v rfl (.int d)) (.int 2))) (ln 4 (by decide))) (.tup (.four (.str _) (.v rfl (.int d)) (.add (.v rfl (.int d)) (.int 2)) (.add (.v rfl (.int d)) (.int 1))) (ln 4 (by decide)))) (ln 2 (by decide))) fun u2 H2 e2 T2 d2 => ?_)
    refine set_step (K := K) T2 (.cat (.v rfl d2) (.tup (.two (.tup (.three (.str _) (.add (.v rfl (.int d)) (.int 3)) (.v rfl (.int d))) (ln 3 (by decide))) (.tup (.cons (.str _) (.four (.add (.v rfl (.int d)) (.int 1)) (.add (.v rfl (.int d)) (.int 2)) (.tup (.two (.int 1) (.int 4)) (ln 2 (by decide))) (.tup (.two (.int 3) (.int 4)) (ln 2 (by decide))))) (ln 5 (by decide)))) (ln 2 (by decide))) (ln 4 (by decide))) fun u3 H3 e3 T3 d3 => ?_
    have g3 : Dp K H3 u3 (.tuple ((gsA d).map sgD)) := d3
    have G3 := sgsA b g3 T3
    -- what is told of them
    refine set_step (K := K) T3 (.lst (.four (fewA (.v rfl G3)) (tA1 (.v rfl G3)) (tA0 (.v rfl G3)) (tA4 (.v rfl G3))) (ln 4 (by decide))) fun u4 H4 e4 T4 d4 => ?_
    refine ne_step (K := K) T4 (.v rfl d4) (.lst (.four (.int 1) (.str _) (.str _) (.str _)) (ln 4 (by decide))) (by decide +kernel) (by decide +kernel) fun H5 e5 T5 => ?_
    have G5 := G3.ext (e4.trans e5) T5
    refine ne_step (K := K) T5 (.lst (.three (rA1 (.v rfl G5)) (wA1 (.v rfl G5)) (rA2 (.v rfl G5))) (ln 3 (by decide))) (.lst (.three (.tup (.two (.int 2) (.int 3)) (ln 2 (by decide))) (.tup .nil (ln 0 (by decide))) (.tup (.cons (.int 3) .nil) (ln 1 (by decide)))) (ln 3 (by decide))) (by decide +kernel) (by decide +kernel) fun H6 e6 T6 => ?_
    have G6 := G5.ext e6 T6
    refine ne_step (K := K) T6 (tA2 (.v rfl G6)) (.str _) (by decide +kernel) (by decide +kernel) fun H7 e7 T7 => ?_
    have E37 := e4.trans (e5.trans (e6.trans e7))
    have g7 := dp_ext E37 _ _ g3
    -- the first two
    refine ne_step (K := K) T7 (.lst (.two (fewB (.two b rfl g7)) (tB1 (.two b rfl g7))) (ln 2 (by decide))) (.lst (.two (.int 1) (.str _)) (ln 2 (by decide))) (by decide +kernel) (by decide +kernel) fun H8 e8 T8 => ?_
    have g8 := dp_ext e8 _ _ g7
    -- eight times the first one
    refine set_step (K := K) T8 (.rep1 8 (by decide) (by decide) (.tup (.cons (.ix 0 (.v rfl g8) rfl) .nil) (ln 1 (by decide)))) fun u9 H9 e9 T9 d9 => ?_
    have g9 : Dp K H9 u9 (.tuple ((gsC d).map sgD)) := d9
    have G9 := sgsC b g9 T9
    refine set_step (K := K) T9 (.lst (.four (fewC (.v rfl G9)) (tC7 (.v rfl G9)) (tC8 (.v rfl G9)) (rC7 (.v rfl G9))) (ln 4 (by decide))) fun u10 H10 e10 T10 d10 => ?_
    refine ne_step (K := K) T10 (.v rfl d10) (.lst (.four (.int 0) (.str _) (.str _) (.tup (.cons (.int 0) (.cons (.int 1) (.cons (.int 2) (.cons (.int 3) (.four (.int 4) (.int 5) (.int 6) (.int 7)))))) (ln 8 (by decide)))) (ln 4 (by decide))) (by decide +kernel) (by decide +kernel) fun H11 e11 T11 => ?_
    -- none
    refine set_step (K := K) T11 (.lst (.four (few0 .nothing) (t00 .nothing) (r03 .nothing) (w00 .nothing)) (ln 4 (by decide))) fun u12 H12 e12 T12 d12 => ?_
    refine ret_step (K := K) T12 (.v rfl d12) (.lst (.four (.int 0) (.str _) (.tup .nil (ln 0 (by decide))) (.tup .nil (ln 0 (by decide)))) (ln 4 (by decide))) (by decide +kernel) (by decide +kernel) fun H13 e13 T13 => ?_
    have E := e2.trans (e3.trans (E37.trans (e8.trans (e9.trans (e10.trans (e11.trans (e12.trans e13)))))))
    exact q _ ⟨fun c o e n x => E c o (X1.keep c o e n x) x, T13⟩
end
end My
set_option Elab.async false
set_option linter.all false
set_option maxRecDepth 100000
set_option maxHeartbeats 8000000
set_option exponentiation.threshold 4000
namespace My
open PySem PySem.Spec PyProof.Rows L2 Gn Mt
/-! the law -/
abbrev sLaw : Stmt := top 90
abbrev NL : List Str := ["_law_script", "_law_at"]
theorem scLaw : FnScope NL ["_law_script"] (defScope sLaw) := ⟨rfl, rfl, rfl, by decide +kernel, rfl, by decide +kernel, by decide +kernel⟩
theorem sqL_ext {K : PySem.W.Frag} {H H' : Hp} {a : Addr} {xs : List V} (h : SqL K H a xs) (e : LamX.ExtN H H') : SqL K H' a xs := by
  rcases h with (h | ⟨o, h⟩) | h
  · exact .inl (.inl (e _ _ h fun ps z => by cases z))
  · exact .inl (.inr ⟨o, e _ _ h fun ps z => by cases z⟩)
  · exact .inr h
def spLaw (K : PySem.W.Frag) (T : List (Addr × Str)) : Sp := fun vs H Q _ => ∃ (a : Addr) (ns : List Int), vs = [.ref a] ∧ SqL K H a (ns.map V.int) ∧ ns.length ≤ 63 ∧ LamX.Tabs T H ∧ ∀ H', Q (.bl true) H'
/-- what the law itself asks of the module -/
structure Lc (P : Program) (w : World) (K : PySem.W.Frag) (mg : Str → Option Value) (base : Heap) (M : La P w K mg base) where
  max : mg "max" = none
  all : mg "all" = none
  rl : Addr × FuncData
  gr : Addr × FuncData
  lr : Df K mg "_law_reel" sReel ["_law_script", "_law_at"] rl.1 rl.2
  dg : Df K mg "_law_right" s__law_right ["_law_reel_here"] gr.1 gr.2
section
variable {P : Program} {w : World} {K : PySem.W.Frag} {mg : Str → Option Value} {base : Heap}
theorem ok_law {f : Addr} {fd : FuncData} (F : Fun K "law" "law" sLaw f fd) (M : La P w K mg base) (N : Lc P w K mg base M) : FnG P w K mg base CX0 16 f fd ["_law_script"] (spLaw K M.D.M.TT) := by
  have LT : FnOk P w K mg base CX0 1 N.rl.1 N.rl.2 ["_law_script", "_law_at"] (spReel K) := ok_reel N.lr.F M.bl
  have GT : FnOk P w K mg base CX0 15 N.gr.1 N.gr.2 ["_law_reel_here"] (spRight M.D.M.TT) := ok_right N.dg.F M
  refine funG0 F scLaw (fun vs H Q E h => ?_) (fun cdv A outer s H vs Q E hg hr h => ?_)
  · obtain ⟨a, ns, rfl, _⟩ := h
    rfl
  · obtain ⟨a, ns, rfl, hS, hlen, hT, q⟩ := h
    have hr1 : Room 1 _ := hr.mono (by decide)
    refine ⟨_, pss_one (ps_ret (pe_callB (cr_all rfl) (by rfl) N.all (by decide +kernel) (pa_cons (pe_lc (te := tCall (spRight M.D.M.TT) [] E0 (tCons (tCall (spReel K) [] E0 (tCons (tVar 0) (tCons (tVar 1) tNil))) tNil)) (own := [("_law_at", 1)]) (g := gName 1) (tt := tYes) rfl scLaw.nd (pi_range1 rfl M.D.M.Bq.range (pa_cons (pe_callB (call_max2 rfl) (by rfl) N.max (by decide +kernel) (pa_cons pe_int (pa_cons (pe_callB (call_min2 rfl) (by rfl) M.D.min (by decide +kernel) (pa_cons (pe_callB (call_len_seq) (by rfl) M.bl.len (by decide +kernel) (pa_cons (pv 0) pa_nil)) (pa_cons pe_int pa_nil))) pa_nil))) pa_nil)) (blkOk_by (N := NL) (sc := defScope sLaw) (by decide +kernel)) (fun _ _ _ _ _ => pg_name (i := 1) scLaw.nd rfl (.inl rfl)) (fun _ _ _ _ _ => pts_nil) (fun _ _ _ _ _ => (pe_call GT hr (by rfl) N.dg.g N.dg.F.kp N.dg.b .nil pass0 (pa_cons (pe_call LT hr1 (by rfl) N.lr.g N.lr.F.kp N.lr.b .nil pass0 (pa_cons (pv 0) (pa_cons (pv 1) pa_nil))) pa_nil)))) pa_nil))), ?_⟩
    refine ⟨_, rfl, a, _, rfl, .inl hS, _, _, rfl, _, _, rfl, ?_⟩
    have hN : ∀ L : Int, 0 ≤ (if (if (6 : Int) < L then 6 else L) > 2 then (if (6 : Int) < L then 6 else L) else 2) ∧ (if (if (6 : Int) < L then 6 else L) > 2 then (if (6 : Int) < L then 6 else L) else 2) ≤ 6 := fun L => by
      split <;> split <;> omega
    have hN' := hN (((ns.map V.int).length : Nat) : Int)
    generalize (if (if (6 : Int) < (((ns.map V.int).length : Nat) : Int) then 6 else (((ns.map V.int).length : Nat) : Int)) > 2 then (if (6 : Int) < (((ns.map V.int).length : Nat) : Int) then 6 else (((ns.map V.int).length : Nat) : Int)) else 2) = N5 at hN' ⊢
    refine ⟨N5, rfl, by omega, by omega, fun D hD => ?_⟩
    have s0 := same_put (o := HO.lst []) hD
    refine lc_range (lo := 0) (n := N5.toNat) (fun i H2 => H2 D = some (.lst ((List.replicate i true).map V.bl)) ∧ LamX.ExtN H H2 ∧ LamX.Tabs M.D.M.TT H2) ⟨upd_same, LamX.ExtN.of s0, fun p hp => (hT p hp).ext s0⟩ ?_ ?_
    · rintro i H2 hi ⟨g1, g2, g3⟩
      rw [Int.zero_add]
      refine ⟨rfl, _, rfl, _, rfl, a, ns, _, rfl, sqL_ext hS g2, by omega, by omega, fun p H3 s3 hp T => ⟨p, rfl, T, fun q hq => (g3 q hq).ext s3, fun H4 S4 => ?_⟩⟩
      have nDp : D ≠ p := ne_of_none g1 hp
      have dl := S4.keep _ _ (s3 _ _ g1) nDp (fun ps z => by cases z)
      refine ⟨_, dl, ?_, ?_, fun b z e n => ?_, tabs_put S4.tab dl⟩
      · rw [List.length_map, List.length_replicate]
        exact small1000 (by omega)
      · rw [upd_same, List.replicate_succ', List.map_append]; rfl
      · rw [upd_ne (ne_of_none e hD)]
        have z2 := g2 _ _ e n
        exact S4.keep _ _ (s3 _ _ z2) (ne_of_none z2 hp) n
    · rintro H2 ⟨g1, g2, g3⟩
      refine ⟨D, _, rfl, SqL.of g1, ?_⟩
      have tr : (List.replicate N5.toNat true).all id = true := by
        rw [List.all_eq_true]
        intro b hb
        exact (List.mem_replicate.mp hb).2
      rw [tr]
      exact q H2
end
end My
set_option Elab.async false
set_option linter.all false
set_option maxRecDepth 100000
set_option maxHeartbeats 4000000
/-! x != y of two instances with an own __eq__ and no __ne__ -/
namespace Gn
open PySem PySem.Spec PyProof.Rows L2
/-- what the class says of it -/
structure NeC (K : PySem.W.Frag) (C f : Addr) : Prop where
  cls : ∃ (nm q : Str) (N : Addr) (bs : List Value) (hd : Bool) (sn : List Str) (sub : List Value) (ab : Bool) (col : Option Bool) (dd : Option Addr) (k0 k1 k2 k3 k5 : Option Value) (nw : String),
    K.lookup C = some (excClassObj nm q C N bs [.type "object"] hd sn sub ab col dd k0 k1 k2 k3 k5 nw) ∧ PySem.W.nsOkIn K N = true ∧ PySem.W.nsIn K N "__eq__" = some (some (.ref f)) ∧ PySem.W.nsIn K N "__ne__" = some none
  fn : PySem.W.isFn K (.ref f) = true
def rNeI (C : Addr) (sp : Sp) : R2 := fun x y H Q => ∃ (a dx b dy : Addr) (fs gs : List (Str × V)), x = .ref a ∧ y = .ref b ∧ H a = some (.ins C dx fs) ∧ H b = some (.ins C dy gs) ∧ sp [x, y] H (fun v H' => ∃ c, v = .bl c ∧ Q (.bl (!c)) H') fun _ _ _ => False
theorem ns_val {K : PySem.W.Frag} {h : Heap} {N : Addr} {mN : Str → Option Value} {n : Str} {v : Value} (X : K.In h) (G : h.Ns N mN) (e : PySem.W.nsIn K N n = some (some v)) : mN n = some v := by
  obtain ⟨ob, ents, epo, hob, hdat, _, hfi⟩ := G
  unfold PySem.W.nsIn at e
  split at e
  · rename_i c d l k sl q
    cases hob.symm.trans (X _ _ q)
    cases hdat
    split at e
    · rename_i en he
      cases e
      exact (hfi n).symm.trans (by unfold nsFind findBy; rw [← Array.find?_toList, he]; rfl)
    · split at e <;> cases e
  · cases e
theorem op_neI {X : Cx} {CX : CXT} {n : Nat} {C f : Addr} {fd : FuncData} {ps : List Str} {sp : Sp} (F : FnOk X.prog X.w X.K X.mg X.base CX n f fd ps sp) (c : NeC X.K C f) (hb : Binds X.K fd ps []) (hr : Room (n + 1) X.A) (hx : Passes CX X fun _ _ _ => False) :
    OpR X (compareOp .NotEq) (rNeI C sp) := by
  intro pins s σ H x y v u Q I rx ry h
  obtain ⟨a, dx, b, dy, fs, gs, rfl, rfl, ha, hb', hsp⟩ := h
  cases rx
  cases ry
  obtain ⟨mA, J, _⟩ := ins_get I.hok ha
  obtain ⟨mB, J', _⟩ := ins_get I.hok hb'
  obtain ⟨od, J, _⟩ := J.look
  obtain ⟨od', J', _⟩ := J'.look
  obtain ⟨nm, q', N, bs, hd, sn, sub, ab, col, dd, k0, k1, k2, k3, k5, nw, lk, ok, e1, e2⟩ := c.cls
  have G : s.heap.Ns N (s.heap.nsMap N) := .of_isNs (PySem.W.isNs_of_in I.kIn ok)
  obtain ⟨of, lf, cf⟩ : ∃ of, X.K.lookup f = some of ∧ of.cls = .type "function" := by
    have z : PySem.W.typeIn X.K (.ref f) = some (.type "function") := beq_iff_eq.mp c.fn
    have z : (X.K.lookup f).map (·.cls) = some (.type "function") := z
    cases e : X.K.lookup f with
    | none => rw [e] at z; cases z
    | some o => rw [e] at z; exact ⟨o, rfl, Option.some.inj z⟩
  have Y : s.heap.OwnEqNoNe a C f "object" [.type "object"] := ⟨_, of, nm, q', N, bs, hd, sn, sub, ab, col, dd, k0, k1, k2, k3, k5, nw, s.heap.nsMap N, some (.builtin "object.__eq__"), J.1, J.2, I.kIn _ _ lk, G, ns_val I.kIn G e1, I.kIn _ _ lf, cf, PySem.F.cmp_object.mro, PySem.F.cmp_object.eq.lookup, PySem.W.ns_none_of I.kIn G e2⟩
  have r1 : Room n X.A.in1 := Room.in1 hr
  have r2 : Vals [V.ref a, V.ref b] [Value.ref a, Value.ref b] := .cons rfl (.cons rfl .nil)
  have hl := F.len _ _ _ _ hsp
  have bn := hb s [.ref a, .ref b] I.kIn (by simpa using hl)
  rw [List.append_nil] at bn
  refine compareOp_ne_ownEq PySem.F.cmp_object Y J'.1 J'.2 (hu_of hr) ?_
  refine wpAny_call (codeAny_mono (F.run X.A.in1 X.stack s H ⟨[.ref a, .ref b], []⟩ [.ref a, .ref b] [.ref a, .ref b] _ _ r1 I.env0.in1 bn r2 hsp) fun r s' hq => ?_)
  match r, hq with
  | .error z, hq => exact hx pins σ H s z s' I hq
  | .ok (.ret w), hq =>
    obtain ⟨z, H', I', rz, c', ez, qz⟩ := I.after hq
    subst ez
    cases rz
    exact ⟨c', rfl, .bl (!c'), H', I', rfl, qz⟩
  | .ok .next, hq => exact hq.elim
  | .ok .brk, hq => exact hq.elim
  | .ok .cont, hq => exact hq.elim
end Gn
set_option Elab.async false
set_option linter.all false
set_option maxRecDepth 100000
set_option maxHeartbeats 4000000
/-! what a head by facts says of a class with an own __eq__ and __repr__ -/
namespace Gn
open PySem PySem.Spec PyProof.Rows L2
theorem neB_ok {K : PySem.W.Frag} {C f : Addr} (h : neB K C f = true) (hf : PySem.W.isFn K (.ref f) = true) : NeC K C f := by
  refine ⟨?_, hf⟩
  unfold neB at h
  split at h
  · rename_i m dd cd sl lk
    obtain ⟨h1, ha⟩ := He.ba h
    cases of_decide_eq_true h1
    clear h h1
    split at ha
    · rename_i C' o k0 k1 k2 k3 n k5 em es
      obtain ⟨h2, hb⟩ := He.ba ha
      obtain ⟨h3, hc⟩ := He.ba hb
      obtain ⟨h4, hd⟩ := He.ba hc
      obtain ⟨h5, he⟩ := He.ba hd
      obtain ⟨h6, h7⟩ := He.ba he
      cases of_decide_eq_true h2
      cases of_decide_eq_true h3
      clear ha hb hc hd he h2 h3
      obtain ⟨nm, bs, mro, ns, qn, hd, sn, sub, ab, col, del⟩ := cd
      dsimp only at em h4 h5 h6 h7
      have h4 : del = false := by cases del; rfl; cases h4
      subst em h4
      have esl : sl = #[k0, k1, k2, k3, some (.builtin n), k5] := by
        obtain ⟨l⟩ := sl
        dsimp only at es
        rw [es]
      subst esl
      exact ⟨nm, qn, ns, bs, hd, sn, sub, ab, col, dd, k0, k1, k2, k3, k5, n, lk, h5, He.eqO_ok h6, He.eqO_ok h7⟩
    · cases ha
  · cases h
structure EqcOk (K : PySem.W.Frag) (C : Addr) : Prop where
  ca : PySem.W.findIn K (.ref C) "__class__" = some (some (.builtin "object.__class__"))
  cm : PySem.W.mroIn K C (.type "object") = some true
  yes : PySem.W.kitOne K (.ref C) (.ref C) = some true
  no : PySem.W.kitOne K (.type "tuple") (.ref C) = some false
  eS : PySem.W.findIn K (.ref C) "__eq__" = some (some (.ref (He.ma K C "__eq__")))
  eF : PySem.W.isFn K (.ref (He.ma K C "__eq__")) = true
  nF : PySem.W.notFirst K C (.type "tuple") = true
  nC : NeC K C (He.ma K C "__eq__")
  rS : PySem.W.findIn K (.ref C) "__repr__" = some (some (.ref (He.ma K C "__repr__")))
  rF : PySem.W.isFn K (.ref (He.ma K C "__repr__")) = true
  nb : PySem.W.findIn K (.ref C) "__bool__" = some none
  nl : PySem.W.findIn K (.ref C) "__len__" = some none
theorem eqc_ok {K : PySem.W.Frag} {x : Str} (h : (Fb.eqc x).ok K = true) : EqcOk K (He.ga K x) := by
  obtain ⟨h1, h⟩ := He.ba (show eqcB K (He.ga K x) = true from h)
  obtain ⟨h2, h⟩ := He.ba h
  obtain ⟨h3, h⟩ := He.ba h
  obtain ⟨h4, h⟩ := He.ba h
  obtain ⟨h5, h⟩ := He.ba h
  obtain ⟨h6, h⟩ := He.ba h
  obtain ⟨h7, h⟩ := He.ba h
  obtain ⟨h8, h⟩ := He.ba h
  obtain ⟨h9, h⟩ := He.ba h
  obtain ⟨h10, h⟩ := He.ba h
  obtain ⟨h11, h12⟩ := He.ba h
  exact ⟨He.eqO_ok h1, of_decide_eq_true h2, of_decide_eq_true h3, of_decide_eq_true h4, He.eqO_ok h5, h6, h7, neB_ok h8 h6, He.eqO_ok h9, h10, He.eqO_ok h11, He.eqO_ok h12⟩
/-- an own method of a class -/
theorem mth_ok {K : PySem.W.Frag} {x m : Str} (h : (Fb.mth x m).ok K = true) : PySem.W.findIn K (.ref (He.ga K x)) m = some (some (.ref (He.ma K (He.ga K x) m))) ∧ PySem.W.isFn K (.ref (He.ma K (He.ga K x) m)) = true := by
  obtain ⟨h1, h2⟩ := He.ba (show (He.eqO (PySem.W.findIn K (.ref (He.ga K x)) m) (some (some (.ref (He.ma K (He.ga K x) m)))) && PySem.W.isFn K (.ref (He.ma K (He.ga K x) m))) = true from h)
  exact ⟨He.eqO_ok h1, h2⟩
end Gn
set_option Elab.async false
set_option linter.all false
set_option maxRecDepth 100000
set_option maxHeartbeats 8000000
namespace My
open PySem PySem.Spec PyProof.Rows L2 Gn Mt
def inn : Stmt → Stmt
  | .ClassDef _ _ _ (s :: _) _ _ _ _ _ _ _ => s
  | s => s
section
variable {P : Program} {w : World} {K : PySem.W.Frag} {mg : Str → Option Value} {base : Heap}
theorem prop_mk {C p g : Addr} {f : Str} {od : Option Addr} {sl : Array (Option Value)} {vs : Array Value} {rest : List Value} (a : PySem.W.findIn K (.ref C) f = some (some (.ref p))) (ge : PySem.W.specialIn K (.ref p) "__get__" = some (some (.builtin "property.__get__"))) (tk : PySem.W.takesIn K (.ref p) = some true)
    (l : K.lookup p = some ⟨.type "property", od, .fields vs, sl⟩) (e : vs.toList = .ref g :: rest) : PropOf K C f p g := by
  refine ⟨a, ge, tk, rest, ?_⟩
  unfold PySem.W.recIn
  simp only [l, e]
  rfl
/-- the last cut as the text writes it -/
theorem cut_written {a b : Addr} {oa ob : Option Addr} {sa sb : Array (Option Value)} {ia ib : Array Value} {na nb : Nat} {t0 t1 t2 : Tok} (la : K.lookup a = some ⟨.type "tuple", oa, .seq ia na, sa⟩) (ea : ia.toList = [.ref b, .int 0 t0]) (lb : K.lookup b = some ⟨.type "tuple", ob, .seq ib nb, sb⟩) (eb : ib.toList = [.int 1 t1, .int 1 t2]) (H : Hp) : Dp K H (.ref a) (cutD last) := by
  have za : ia.size ≤ sizeLine := by
    rw [← Array.length_toList, ea]
    exact (by decide : 2 ≤ sizeLine)
  have zb : ib.size ≤ sizeLine := by
    rw [← Array.length_toList, eb]
    exact (by decide : 2 ≤ sizeLine)
  refine .tup (xs := [.ref b, .int 0]) (.inr ⟨_, ia, na, la, rfl, rfl, za, ?_⟩) (.cons (.tup (xs := [.int 1, .int 1]) (.inr ⟨_, ib, nb, lb, rfl, rfl, zb, ?_⟩) (.cons (.int 1) (.cons (.int 1) .nil))) (.cons (.int 0) .nil))
  · rw [ea]
    exact .cons rfl (.cons ⟨t0, rfl⟩ .nil)
  · rw [eb]
    exact .cons ⟨t1, rfl⟩ (.cons ⟨t2, rfl⟩ .nil)
end
theorem is1 {α : Type} {x a : α} (h : x ∈ [a]) : x = a := by simpa using h
theorem funOfX {K : PySem.W.Frag} {x qual : Str} {st : Stmt} {f : Addr} {fd : FuncData} (F : FunD K x qual (defArgs st) (defBody st) (defScope st) [] [] f fd) : Fun K x qual st f fd := by
  obtain ⟨oc, od, dV, kV, doc, pm, an, cdv, ct, osl, e, lk, hcd, hD, _⟩ := F.ex
  rcases hD with ⟨_, rfl⟩ | ⟨e', _⟩
  · exact ⟨⟨oc, od, kV, doc, pm, an, cdv, ct, osl, e, lk, hcd⟩, F.kp⟩
  · exact absurd rfl e'
theorem walkGX {l : PySem.W.OpenLaw} {n k : Nat} {q : Program} {loose : List Str} {XP : (Str → Option Value) → Heap → Prop} {YP : World → Heap → Prop} {d : DefRec} {CX : World → CXT} {x : Str}
    (hn : l.most = some n) (hn2 : n ≤ sizeLine) (hdf : d.params.defaults = []) (hr : Room k callerA)
    (F : ∀ (w : World) (mg : Str → Option Value) (fa : Addr) (h : Heap), YP w h → h.Ns mainGlobals mg → mg d.name = some (.ref fa) → ∃ K : PySem.W.Frag, K.In h ∧ LawAtG l w K (CX w) k n x mg fa h)
    (hCX : ∀ (w : World) (H : Hp) (s : Shared) (e : Value) (s' : Shared), CX w [] H s (fun _ _ _ => False) e s' → False) : PySem.W.WalkO q loose XP YP l.row.toRowW d [] (fun f vs => PySem.call f vs) :=
  Att.attach_call hn hdf fun w s₀ s₁ mg mb fa o pm cd doc a vs ns G Y ho hd hcd hmg hobj hints hlen hg => by
    obtain ⟨K, KX, fd, cs, sp, T, hb, hsp, hF⟩ := F w mg fa _ Y G.T.g hmg
    exact lawGT KX G.T.g G.T.b G.T.builtins G.T.nolimit hg (fun p m => (T p m).1) (fun p m => (T p m).2.1) (fun p m => (T p m).2.2) G.T.bmain hobj hints (Nat.le_trans hlen hn2) hr hF hb (fun H h1 h2 => hsp H a ns hlen h1 h2) fun H e s' => hCX w H s₁ e s'
theorem all_mkX {l : PySem.W.OpenLaw} {w : World} {K : PySem.W.Frag} {h : Heap} {mg : Str → Option Value} {fa : Addr} (X : K.In h) (G : h.Ns mainGlobals mg) (hfa : mg "law" = some (.ref fa)) (cY : SaysY fasX fnsX tfX fbsX prsX fcX tsX w h K)
    : LawAtG l w K CX0 16 63 "_law_script" mg fa h := by
  have c := cY.z
  have cd := c.d
  obtain ⟨fd0, G0⟩ := cd.def_ 0 (d := ddX0) rfl
  obtain ⟨F0, C0⟩ : Fun K "is_integer" "is_integer" (top 13) (He.ga K "is_integer") fd0 ∧ fd0.code = .ref (He.cT K ("is_integer", none)).1 := funZ (p := ("is_integer", none)) G0
  have g0 := He.glo_ok X G (cd.fact 0 (f := .glo "is_integer") rfl)
  have d0 : Df K mg "is_integer" (top 13) ["given"] (He.ga K "is_integer") fd0 := ⟨F0, g0, F0.binds fun _ _ _ _ _ _ us hl => match us, hl with | [_], _ => rfl⟩
  obtain ⟨fd1, G1⟩ := cd.def_ 1 (d := ddX1) rfl
  obtain ⟨F1, C1⟩ : Fun K "lowest" "lowest" (top 22) (He.ga K "lowest") fd1 ∧ fd1.code = .ref (He.cT K ("lowest", none)).1 := funZ (p := ("lowest", none)) G1
  have g1 := He.glo_ok X G (cd.fact 1 (f := .glo "lowest") rfl)
  have d1 : Df K mg "lowest" (top 22) ["top", "bottom"] (He.ga K "lowest") fd1 := ⟨F1, g1, F1.binds fun _ _ _ _ _ _ us hl => match us, hl with | [_, _], _ => rfl⟩
  obtain ⟨fd2, G2⟩ := cd.def_ 2 (d := ddX2) rfl
  obtain ⟨F2, C2⟩ : Fun K "_cuts_of" "_cuts_of" (top 42) (He.ga K "_cuts_of") fd2 ∧ fd2.code = .ref (He.cT K ("_cuts_of", none)).1 := funZ (p := ("_cuts_of", none)) G2
  have g2 := He.glo_ok X G (cd.fact 2 (f := .glo "_cuts_of") rfl)
  have d2 : Df K mg "_cuts_of" (top 42) ["pieces"] (He.ga K "_cuts_of") fd2 := ⟨F2, g2, F2.binds fun _ _ _ _ _ _ us hl => match us, hl with | [_], _ => rfl⟩
  obtain ⟨fd3, G3⟩ := cd.def_ 3 (d := ddX3) rfl
  obtain ⟨F3, C3⟩ : Fun K "_covered" "_covered" (top 44) (He.ga K "_covered") fd3 ∧ fd3.code = .ref (He.cT K ("_covered", none)).1 := funZ (p := ("_covered", none)) G3
  have g3 := He.glo_ok X G (cd.fact 3 (f := .glo "_covered") rfl)
  have d3 : Df K mg "_covered" (top 44) ["lot", "mate", "least"] (He.ga K "_covered") fd3 := ⟨F3, g3, F3.binds fun _ _ _ _ _ _ us hl => match us, hl with | [_, _, _], _ => rfl⟩
  obtain ⟨fd4, G4⟩ := cd.def_ 4 (d := ddX4) rfl
  obtain ⟨F4, C4⟩ : Fun K "is_fraction" "is_fraction" (top 14) (He.ga K "is_fraction") fd4 ∧ fd4.code = .ref (He.cT K ("is_fraction", none)).1 := funZ (p := ("is_fraction", none)) G4
  have g4 := He.glo_ok X G (cd.fact 4 (f := .glo "is_fraction") rfl)
  have d4 : Df K mg "is_fraction" (top 14) ["given"] (He.ga K "is_fraction") fd4 := ⟨F4, g4, F4.binds fun _ _ _ _ _ _ us hl => match us, hl with | [_], _ => rfl⟩
  obtain ⟨fd5, G5⟩ := cd.def_ 5 (d := ddX5) rfl
  obtain ⟨F5, C5⟩ : Fun K "is_part" "is_part" (top 15) (He.ga K "is_part") fd5 ∧ fd5.code = .ref (He.cT K ("is_part", none)).1 := funZ (p := ("is_part", none)) G5
  have g5 := He.glo_ok X G (cd.fact 5 (f := .glo "is_part") rfl)
  have d5 : Df K mg "is_part" (top 15) ["given"] (He.ga K "is_part") fd5 := ⟨F5, g5, F5.binds fun _ _ _ _ _ _ us hl => match us, hl with | [_], _ => rfl⟩
  obtain ⟨fd6, G6⟩ := cd.def_ 6 (d := ddX6) rfl
  obtain ⟨F6, C6⟩ : Fun K "is_less" "is_less" (top 16) (He.ga K "is_less") fd6 ∧ fd6.code = .ref (He.cT K ("is_less", none)).1 := funZ (p := ("is_less", none)) G6
  have g6 := He.glo_ok X G (cd.fact 6 (f := .glo "is_less") rfl)
  have d6 : Df K mg "is_less" (top 16) ["one", "other"] (He.ga K "is_less") fd6 := ⟨F6, g6, F6.binds fun _ _ _ _ _ _ us hl => match us, hl with | [_, _], _ => rfl⟩
  obtain ⟨fd7, G7⟩ := cd.def_ 7 (d := ddX7) rfl
  obtain ⟨F7, C7⟩ : Fun K "mediant" "mediant" (top 23) (He.ga K "mediant") fd7 ∧ fd7.code = .ref (He.cT K ("mediant", none)).1 := funZ (p := ("mediant", none)) G7
  have g7 := He.glo_ok X G (cd.fact 7 (f := .glo "mediant") rfl)
  have d7 : Df K mg "mediant" (top 23) ["low", "high"] (He.ga K "mediant") fd7 := ⟨F7, g7, F7.binds fun _ _ _ _ _ _ us hl => match us, hl with | [_, _], _ => rfl⟩
  obtain ⟨fd8, G8⟩ := cd.def_ 8 (d := ddX8) rfl
  obtain ⟨F8, C8⟩ : Fun K "_first_wrong" "_first_wrong" (top 38) (He.ga K "_first_wrong") fd8 ∧ fd8.code = .ref (He.cT K ("_first_wrong", none)).1 := funZ (p := ("_first_wrong", none)) G8
  have g8 := He.glo_ok X G (cd.fact 8 (f := .glo "_first_wrong") rfl)
  have d8 : Df K mg "_first_wrong" (top 38) ["pieces"] (He.ga K "_first_wrong") fd8 := ⟨F8, g8, F8.binds fun _ _ _ _ _ _ us hl => match us, hl with | [_], _ => rfl⟩
  obtain ⟨fd9, G9⟩ := cd.def_ 9 (d := ddX9) rfl
  obtain ⟨F9, C9⟩ : Fun K "_is_piece" "_is_piece" (top 39) (He.ga K "_is_piece") fd9 ∧ fd9.code = .ref (He.cT K ("_is_piece", none)).1 := funZ (p := ("_is_piece", none)) G9
  have g9 := He.glo_ok X G (cd.fact 9 (f := .glo "_is_piece") rfl)
  have d9 : Df K mg "_is_piece" (top 39) ["given"] (He.ga K "_is_piece") fd9 := ⟨F9, g9, F9.binds fun _ _ _ _ _ _ us hl => match us, hl with | [_], _ => rfl⟩
  obtain ⟨fd10, G10⟩ := cd.def_ 10 (d := ddX10) rfl
  obtain ⟨F10, C10⟩ : Fun K "_cuts_at" "_cuts_at" (top 40) (He.ga K "_cuts_at") fd10 ∧ fd10.code = .ref (He.cT K ("_cuts_at", none)).1 := funZ (p := ("_cuts_at", none)) G10
  have g10 := He.glo_ok X G (cd.fact 10 (f := .glo "_cuts_at") rfl)
  have d10 : Df K mg "_cuts_at" (top 40) ["piece"] (He.ga K "_cuts_at") fd10 := ⟨F10, g10, F10.binds fun _ _ _ _ _ _ us hl => match us, hl with | [_], _ => rfl⟩
  obtain ⟨fd11, G11⟩ := cd.def_ 11 (d := ddX11) rfl
  obtain ⟨F11, C11⟩ : Fun K "_is_ahead" "_is_ahead" (top 41) (He.ga K "_is_ahead") fd11 ∧ fd11.code = .ref (He.cT K ("_is_ahead", none)).1 := funZ (p := ("_is_ahead", none)) G11
  have g11 := He.glo_ok X G (cd.fact 11 (f := .glo "_is_ahead") rfl)
  have d11 : Df K mg "_is_ahead" (top 41) ["cut", "other"] (He.ga K "_is_ahead") fd11 := ⟨F11, g11, F11.binds fun _ _ _ _ _ _ us hl => match us, hl with | [_, _], _ => rfl⟩
  obtain ⟨fd12, G12⟩ := cd.def_ 12 (d := ddX12) rfl
  obtain ⟨F12, C12⟩ : Fun K "_lot_with" "_lot_with" (top 43) (He.ga K "_lot_with") fd12 ∧ fd12.code = .ref (He.cT K ("_lot_with", none)).1 := funZ (p := ("_lot_with", none)) G12
  have g12 := He.glo_ok X G (cd.fact 12 (f := .glo "_lot_with") rfl)
  have d12 : Df K mg "_lot_with" (top 43) ["cuts"] (He.ga K "_lot_with") fd12 := ⟨F12, g12, F12.binds fun _ _ _ _ _ _ us hl => match us, hl with | [_], _ => rfl⟩
  obtain ⟨fd13, G13⟩ := cd.def_ 13 (d := ddX13) rfl
  obtain ⟨F13, C13⟩ : Fun K "both" "both" (top 32) (He.ga K "both") fd13 ∧ fd13.code = .ref (He.cT K ("both", none)).1 := funZ (p := ("both", none)) G13
  have g13 := He.glo_ok X G (cd.fact 13 (f := .glo "both") rfl)
  have d13 : Df K mg "both" (top 32) ["lot", "mate"] (He.ga K "both") fd13 := ⟨F13, g13, F13.binds fun _ _ _ _ _ _ us hl => match us, hl with | [_, _], _ => rfl⟩
  obtain ⟨fd14, G14⟩ := cd.def_ 14 (d := ddX14) rfl
  obtain ⟨F14, C14⟩ : Fun K "either" "either" (top 33) (He.ga K "either") fd14 ∧ fd14.code = .ref (He.cT K ("either", none)).1 := funZ (p := ("either", none)) G14
  have g14 := He.glo_ok X G (cd.fact 14 (f := .glo "either") rfl)
  have d14 : Df K mg "either" (top 33) ["lot", "mate"] (He.ga K "either") fd14 := ⟨F14, g14, F14.binds fun _ _ _ _ _ _ us hl => match us, hl with | [_, _], _ => rfl⟩
  obtain ⟨fd15, G15⟩ := cd.def_ 15 (d := ddX15) rfl
  obtain ⟨F15, C15⟩ : Fun K "inside" "inside" (top 31) (He.ga K "inside") fd15 ∧ fd15.code = .ref (He.cT K ("inside", none)).1 := funZ (p := ("inside", none)) G15
  have g15 := He.glo_ok X G (cd.fact 15 (f := .glo "inside") rfl)
  have d15 : Df K mg "inside" (top 31) ["lot", "mate"] (He.ga K "inside") fd15 := ⟨F15, g15, F15.binds fun _ _ _ _ _ _ us hl => match us, hl with | [_, _], _ => rfl⟩
  obtain ⟨fd16, G16⟩ := cd.def_ 16 (d := ddX16) rfl
  obtain ⟨F16, C16⟩ : Fun K "check_lot" "check_lot" (top 34) (He.ga K "check_lot") fd16 ∧ fd16.code = .ref (He.cT K ("check_lot", none)).1 := funZ (p := ("check_lot", none)) G16
  have g16 := He.glo_ok X G (cd.fact 16 (f := .glo "check_lot") rfl)
  have d16 : Df K mg "check_lot" (top 34) ["given"] (He.ga K "check_lot") fd16 := ⟨F16, g16, F16.binds fun _ _ _ _ _ _ us hl => match us, hl with | [_], _ => rfl⟩
  obtain ⟨fd17, G17⟩ := cd.def_ 17 (d := ddX17) rfl
  obtain ⟨F17, C17⟩ : Fun K "whole_lot" "whole_lot" (top 35) (He.ga K "whole_lot") fd17 ∧ fd17.code = .ref (He.cT K ("whole_lot", none)).1 := funZ (p := ("whole_lot", none)) G17
  have g17 := He.glo_ok X G (cd.fact 17 (f := .glo "whole_lot") rfl)
  have d17 : Df K mg "whole_lot" (top 35) [] (He.ga K "whole_lot") fd17 := ⟨F17, g17, F17.binds fun _ _ _ _ _ _ us hl => match us, hl with | [], _ => rfl⟩
  obtain ⟨fd18, G18⟩ := cd.def_ 18 (d := ddX18) rfl
  obtain ⟨F18, C18⟩ : Fun K "_digits_of" "_digits_of" (top 47) (He.ga K "_digits_of") fd18 ∧ fd18.code = .ref (He.cT K ("_digits_of", none)).1 := funZ (p := ("_digits_of", none)) G18
  have g18 := He.glo_ok X G (cd.fact 18 (f := .glo "_digits_of") rfl)
  have d18 : Df K mg "_digits_of" (top 47) ["number"] (He.ga K "_digits_of") fd18 := ⟨F18, g18, F18.binds fun _ _ _ _ _ _ us hl => match us, hl with | [_], _ => rfl⟩
  obtain ⟨fd19, G19⟩ := cd.def_ 19 (d := ddX19) rfl
  obtain ⟨F19, C19⟩ : Fun K "fraction_text" "fraction_text" (top 37) (He.ga K "fraction_text") fd19 ∧ fd19.code = .ref (He.cT K ("fraction_text", none)).1 := funZ (p := ("fraction_text", none)) G19
  have g19 := He.glo_ok X G (cd.fact 19 (f := .glo "fraction_text") rfl)
  have d19 : Df K mg "fraction_text" (top 37) ["fraction"] (He.ga K "fraction_text") fd19 := ⟨F19, g19, F19.binds fun _ _ _ _ _ _ us hl => match us, hl with | [_], _ => rfl⟩
  obtain ⟨fd20, G20⟩ := cd.def_ 20 (d := ddX20) rfl
  obtain ⟨F20, C20⟩ : Fun K "_word_of" "_word_of" (top 46) (He.ga K "_word_of") fd20 ∧ fd20.code = .ref (He.cT K ("_word_of", none)).1 := funZ (p := ("_word_of", none)) G20
  have g20 := He.glo_ok X G (cd.fact 20 (f := .glo "_word_of") rfl)
  have d20 : Df K mg "_word_of" (top 46) ["piece"] (He.ga K "_word_of") fd20 := ⟨F20, g20, F20.binds fun _ _ _ _ _ _ us hl => match us, hl with | [_], _ => rfl⟩
  obtain ⟨fd21, G21⟩ := cd.def_ 21 (d := ddX21) rfl
  obtain ⟨F21, C21⟩ : Fun K "_text_of" "_text_of" (top 45) (He.ga K "_text_of") fd21 ∧ fd21.code = .ref (He.cT K ("_text_of", none)).1 := funZ (p := ("_text_of", none)) G21
  have g21 := He.glo_ok X G (cd.fact 21 (f := .glo "_text_of") rfl)
  have d21 : Df K mg "_text_of" (top 45) ["pieces"] (He.ga K "_text_of") fd21 := ⟨F21, g21, F21.binds fun _ _ _ _ _ _ us hl => match us, hl with | [_], _ => rfl⟩
  obtain ⟨fd22, G22⟩ := cd.def_ 22 (d := ddX22) rfl
  obtain ⟨F22, C22⟩ : Fun K "_way" "_way" (top 65) (He.ga K "_way") fd22 ∧ fd22.code = .ref (He.cT K ("_way", none)).1 := funZ (p := ("_way", none)) G22
  have g22 := He.glo_ok X G (cd.fact 22 (f := .glo "_way") rfl)
  have d22 : Df K mg "_way" (top 65) ["step", "start", "mark"] (He.ga K "_way") fd22 := ⟨F22, g22, F22.binds fun _ _ _ _ _ _ us hl => match us, hl with | [_, _, _], _ => rfl⟩
  obtain ⟨fd23, G23⟩ := cd.def_ 23 (d := ddX23) rfl
  obtain ⟨F23, C23⟩ : Fun K "_turn_is_right" "_turn_is_right" (top 66) (He.ga K "_turn_is_right") fd23 ∧ fd23.code = .ref (He.cT K ("_turn_is_right", none)).1 := funZ (p := ("_turn_is_right", none)) G23
  have g23 := He.glo_ok X G (cd.fact 23 (f := .glo "_turn_is_right") rfl)
  have d23 : Df K mg "_turn_is_right" (top 66) ["sighting", "step"] (He.ga K "_turn_is_right") fd23 := ⟨F23, g23, F23.binds fun _ _ _ _ _ _ us hl => match us, hl with | [_, _], _ => rfl⟩
  obtain ⟨fd24, G24⟩ := cd.def_ 24 (d := ddX24) rfl
  obtain ⟨F24, C24⟩ : Fun K "_on_is_right" "_on_is_right" (top 67) (He.ga K "_on_is_right") fd24 ∧ fd24.code = .ref (He.cT K ("_on_is_right", none)).1 := funZ (p := ("_on_is_right", none)) G24
  have g24 := He.glo_ok X G (cd.fact 24 (f := .glo "_on_is_right") rfl)
  have d24 : Df K mg "_on_is_right" (top 67) ["sighting", "step"] (He.ga K "_on_is_right") fd24 := ⟨F24, g24, F24.binds fun _ _ _ _ _ _ us hl => match us, hl with | [_, _], _ => rfl⟩
  obtain ⟨fd25, G25⟩ := cd.def_ 25 (d := ddX25) rfl
  obtain ⟨F25, C25⟩ : Fun K "_within_is_right" "_within_is_right" (top 68) (He.ga K "_within_is_right") fd25 ∧ fd25.code = .ref (He.cT K ("_within_is_right", none)).1 := funZ (p := ("_within_is_right", none)) G25
  have g25 := He.glo_ok X G (cd.fact 25 (f := .glo "_within_is_right") rfl)
  have d25 : Df K mg "_within_is_right" (top 68) ["sighting", "step"] (He.ga K "_within_is_right") fd25 := ⟨F25, g25, F25.binds fun _ _ _ _ _ _ us hl => match us, hl with | [_, _], _ => rfl⟩
  obtain ⟨fd26, G26⟩ := cd.def_ 26 (d := ddX26) rfl
  obtain ⟨F26, C26⟩ : Fun K "_fits" "_fits" (top 64) (He.ga K "_fits") fd26 ∧ fd26.code = .ref (He.cT K ("_fits", none)).1 := funZ (p := ("_fits", none)) G26
  have g26 := He.glo_ok X G (cd.fact 26 (f := .glo "_fits") rfl)
  have d26 : Df K mg "_fits" (top 64) ["sighting", "step"] (He.ga K "_fits") fd26 := ⟨F26, g26, F26.binds fun _ _ _ _ _ _ us hl => match us, hl with | [_, _], _ => rfl⟩
  obtain ⟨fd27, G27⟩ := cd.def_ 27 (d := ddX27) rfl
  obtain ⟨F27, C27⟩ : Fun K "_turn_points" "_turn_points" (top 70) (He.ga K "_turn_points") fd27 ∧ fd27.code = .ref (He.cT K ("_turn_points", none)).1 := funZ (p := ("_turn_points", none)) G27
  have g27 := He.glo_ok X G (cd.fact 27 (f := .glo "_turn_points") rfl)
  have d27 : Df K mg "_turn_points" (top 70) ["sighting"] (He.ga K "_turn_points") fd27 := ⟨F27, g27, F27.binds fun _ _ _ _ _ _ us hl => match us, hl with | [_], _ => rfl⟩
  obtain ⟨fd28, G28⟩ := cd.def_ 28 (d := ddX28) rfl
  obtain ⟨F28, C28⟩ : Fun K "_on_points" "_on_points" (top 71) (He.ga K "_on_points") fd28 ∧ fd28.code = .ref (He.cT K ("_on_points", none)).1 := funZ (p := ("_on_points", none)) G28
  have g28 := He.glo_ok X G (cd.fact 28 (f := .glo "_on_points") rfl)
  have d28 : Df K mg "_on_points" (top 71) ["sighting"] (He.ga K "_on_points") fd28 := ⟨F28, g28, F28.binds fun _ _ _ _ _ _ us hl => match us, hl with | [_], _ => rfl⟩
  obtain ⟨fd29, G29⟩ := cd.def_ 29 (d := ddX29) rfl
  obtain ⟨F29, C29⟩ : Fun K "_within_points" "_within_points" (top 72) (He.ga K "_within_points") fd29 ∧ fd29.code = .ref (He.cT K ("_within_points", none)).1 := funZ (p := ("_within_points", none)) G29
  have g29 := He.glo_ok X G (cd.fact 29 (f := .glo "_within_points") rfl)
  have d29 : Df K mg "_within_points" (top 72) ["sighting"] (He.ga K "_within_points") fd29 := ⟨F29, g29, F29.binds fun _ _ _ _ _ _ us hl => match us, hl with | [_], _ => rfl⟩
  obtain ⟨fd30, G30⟩ := cd.def_ 30 (d := ddX30) rfl
  obtain ⟨F30, C30⟩ : Fun K "whole_points" "whole_points" (top 57) (He.ga K "whole_points") fd30 ∧ fd30.code = .ref (He.cT K ("whole_points", none)).1 := funZ (p := ("whole_points", none)) G30
  have g30 := He.glo_ok X G (cd.fact 30 (f := .glo "whole_points") rfl)
  have d30 : Df K mg "whole_points" (top 57) ["numbers"] (He.ga K "whole_points") fd30 := ⟨F30, g30, F30.binds fun _ _ _ _ _ _ us hl => match us, hl with | [_], _ => rfl⟩
  obtain ⟨fd31, G31⟩ := cd.def_ 31 (d := ddX31) rfl
  obtain ⟨F31, C31⟩ : Fun K "_points" "_points" (top 58) (He.ga K "_points") fd31 ∧ fd31.code = .ref (He.cT K ("_points", none)).1 := funZ (p := ("_points", none)) G31
  have g31 := He.glo_ok X G (cd.fact 31 (f := .glo "_points") rfl)
  have d31 : Df K mg "_points" (top 58) ["tops", "bottom"] (He.ga K "_points") fd31 := ⟨F31, g31, F31.binds fun _ _ _ _ _ _ us hl => match us, hl with | [_, _], _ => rfl⟩
  obtain ⟨fd32, G32⟩ := cd.def_ 32 (d := ddX32) rfl
  obtain ⟨F32, C32⟩ : Fun K "lot_where" "lot_where" (top 36) (He.ga K "lot_where") fd32 ∧ fd32.code = .ref (He.cT K ("lot_where", none)).1 := funZ (p := ("lot_where", none)) G32
  have g32 := He.glo_ok X G (cd.fact 32 (f := .glo "lot_where") rfl)
  have d32 : Df K mg "lot_where" (top 36) ["points", "fits"] (He.ga K "lot_where") fd32 := ⟨F32, g32, F32.binds fun _ _ _ _ _ _ us hl => match us, hl with | [_, _], _ => rfl⟩
  obtain ⟨fd33, G33⟩ := cd.def_ 33 (d := ddX33) rfl
  obtain ⟨F33, C33⟩ : Fun K "lot_of" "lot_of" (top 53) (He.ga K "lot_of") fd33 ∧ fd33.code = .ref (He.cT K ("lot_of", none)).1 := funZ (p := ("lot_of", none)) G33
  have g33 := He.glo_ok X G (cd.fact 33 (f := .glo "lot_of") rfl)
  have d33 : Df K mg "lot_of" (top 53) ["sighting"] (He.ga K "lot_of") fd33 := ⟨F33, g33, F33.binds fun _ _ _ _ _ _ us hl => match us, hl with | [_], _ => rfl⟩
  obtain ⟨fd34, G34⟩ := cd.def_ 34 (d := ddX34) rfl
  obtain ⟨F34, C34⟩ : Fun K "check_sighting" "check_sighting" (top 54) (He.ga K "check_sighting") fd34 ∧ fd34.code = .ref (He.cT K ("check_sighting", none)).1 := funZ (p := ("check_sighting", none)) G34
  have g34 := He.glo_ok X G (cd.fact 34 (f := .glo "check_sighting") rfl)
  have d34 : Df K mg "check_sighting" (top 54) ["given"] (He.ga K "check_sighting") fd34 := ⟨F34, g34, F34.binds fun _ _ _ _ _ _ us hl => match us, hl with | [_], _ => rfl⟩
  obtain ⟨fd35, G35⟩ := cd.def_ 35 (d := ddX35) rfl
  obtain ⟨F35, C35⟩ : Fun K "check_sightings" "check_sightings" (top 55) (He.ga K "check_sightings") fd35 ∧ fd35.code = .ref (He.cT K ("check_sightings", none)).1 := funZ (p := ("check_sightings", none)) G35
  have g35 := He.glo_ok X G (cd.fact 35 (f := .glo "check_sightings") rfl)
  have d35 : Df K mg "check_sightings" (top 55) ["given", "most"] (He.ga K "check_sightings") fd35 := ⟨F35, g35, F35.binds fun _ _ _ _ _ _ us hl => match us, hl with | [_, _], _ => rfl⟩
  obtain ⟨fd36, G36⟩ := cd.def_ 36 (d := ddX36) rfl
  obtain ⟨F36, C36⟩ : Fun K "is_sighting" "is_sighting" (top 56) (He.ga K "is_sighting") fd36 ∧ fd36.code = .ref (He.cT K ("is_sighting", none)).1 := funZ (p := ("is_sighting", none)) G36
  have g36 := He.glo_ok X G (cd.fact 36 (f := .glo "is_sighting") rfl)
  have d36 : Df K mg "is_sighting" (top 56) ["given"] (He.ga K "is_sighting") fd36 := ⟨F36, g36, F36.binds fun _ _ _ _ _ _ us hl => match us, hl with | [_], _ => rfl⟩
  obtain ⟨fd37, G37⟩ := cd.def_ 37 (d := ddX37) rfl
  obtain ⟨F37, C37⟩ : Fun K "_are_marks" "_are_marks" (top 59) (He.ga K "_are_marks") fd37 ∧ fd37.code = .ref (He.cT K ("_are_marks", none)).1 := funZ (p := ("_are_marks", none)) G37
  have g37 := He.glo_ok X G (cd.fact 37 (f := .glo "_are_marks") rfl)
  have d37 : Df K mg "_are_marks" (top 59) ["marks", "most"] (He.ga K "_are_marks") fd37 := ⟨F37, g37, F37.binds fun _ _ _ _ _ _ us hl => match us, hl with | [_, _], _ => rfl⟩
  obtain ⟨fd38, G38⟩ := cd.def_ 38 (d := ddX38) rfl
  obtain ⟨F38, C38⟩ : Fun K "_is_turn" "_is_turn" (top 60) (He.ga K "_is_turn") fd38 ∧ fd38.code = .ref (He.cT K ("_is_turn", none)).1 := funZ (p := ("_is_turn", none)) G38
  have g38 := He.glo_ok X G (cd.fact 38 (f := .glo "_is_turn") rfl)
  have d38 : Df K mg "_is_turn" (top 60) ["given"] (He.ga K "_is_turn") fd38 := ⟨F38, g38, F38.binds fun _ _ _ _ _ _ us hl => match us, hl with | [_], _ => rfl⟩
  obtain ⟨fd39, G39⟩ := cd.def_ 39 (d := ddX39) rfl
  obtain ⟨F39, C39⟩ : Fun K "_is_on" "_is_on" (top 61) (He.ga K "_is_on") fd39 ∧ fd39.code = .ref (He.cT K ("_is_on", none)).1 := funZ (p := ("_is_on", none)) G39
  have g39 := He.glo_ok X G (cd.fact 39 (f := .glo "_is_on") rfl)
  have d39 : Df K mg "_is_on" (top 61) ["given"] (He.ga K "_is_on") fd39 := ⟨F39, g39, F39.binds fun _ _ _ _ _ _ us hl => match us, hl with | [_], _ => rfl⟩
  obtain ⟨fd40, G40⟩ := cd.def_ 40 (d := ddX40) rfl
  obtain ⟨F40, C40⟩ : Fun K "_is_within" "_is_within" (top 62) (He.ga K "_is_within") fd40 ∧ fd40.code = .ref (He.cT K ("_is_within", none)).1 := funZ (p := ("_is_within", none)) G40
  have g40 := He.glo_ok X G (cd.fact 40 (f := .glo "_is_within") rfl)
  have d40 : Df K mg "_is_within" (top 62) ["given"] (He.ga K "_is_within") fd40 := ⟨F40, g40, F40.binds fun _ _ _ _ _ _ us hl => match us, hl with | [_], _ => rfl⟩
  obtain ⟨fd41, G41⟩ := cd.def_ 41 (d := ddX41) rfl
  obtain ⟨F41, C41⟩ : Fun K "_lots_by_wrong" "_lots_by_wrong" (top 85) (He.ga K "_lots_by_wrong") fd41 ∧ fd41.code = .ref (He.cT K ("_lots_by_wrong", none)).1 := funZ (p := ("_lots_by_wrong", none)) G41
  have g41 := He.glo_ok X G (cd.fact 41 (f := .glo "_lots_by_wrong") rfl)
  have d41 : Df K mg "_lots_by_wrong" (top 85) ["sightings"] (He.ga K "_lots_by_wrong") fd41 := ⟨F41, g41, F41.binds fun _ _ _ _ _ _ us hl => match us, hl with | [_], _ => rfl⟩
  obtain ⟨fd42, G42⟩ := cd.def_ 42 (d := ddX42) rfl
  obtain ⟨F42, C42⟩ : Fun K "lot_with" "lot_with" (top 79) (He.ga K "lot_with") fd42 ∧ fd42.code = .ref (He.cT K ("lot_with", none)).1 := funZ (p := ("lot_with", none)) G42
  have g42 := He.glo_ok X G (cd.fact 42 (f := .glo "lot_with") rfl)
  have d42 : Df K mg "lot_with" (top 79) ["sightings", "most"] (He.ga K "lot_with") fd42 := ⟨F42, g42, F42.binds fun _ _ _ _ _ _ us hl => match us, hl with | [_, _], _ => rfl⟩
  obtain ⟨fd43, G43⟩ := cd.def_ 43 (d := ddX43) rfl
  obtain ⟨F43, C43⟩ : Fun K "fewest_wrong" "fewest_wrong" (top 80) (He.ga K "fewest_wrong") fd43 ∧ fd43.code = .ref (He.cT K ("fewest_wrong", none)).1 := funZ (p := ("fewest_wrong", none)) G43
  have g43 := He.glo_ok X G (cd.fact 43 (f := .glo "fewest_wrong") rfl)
  have d43 : Df K mg "fewest_wrong" (top 80) ["sightings"] (He.ga K "fewest_wrong") fd43 := ⟨F43, g43, F43.binds fun _ _ _ _ _ _ us hl => match us, hl with | [_], _ => rfl⟩
  obtain ⟨fd44, G44⟩ := cd.def_ 44 (d := ddX44) rfl
  obtain ⟨F44, C44⟩ : Fun K "surely_wrong" "surely_wrong" (top 81) (He.ga K "surely_wrong") fd44 ∧ fd44.code = .ref (He.cT K ("surely_wrong", none)).1 := funZ (p := ("surely_wrong", none)) G44
  have g44 := He.glo_ok X G (cd.fact 44 (f := .glo "surely_wrong") rfl)
  have d44 : Df K mg "surely_wrong" (top 81) ["sightings", "most"] (He.ga K "surely_wrong") fd44 := ⟨F44, g44, F44.binds fun _ _ _ _ _ _ us hl => match us, hl with | [_, _], _ => rfl⟩
  obtain ⟨fd45, G45⟩ := cd.def_ 45 (d := ddX45) rfl
  obtain ⟨F45, C45⟩ : Fun K "surely_right" "surely_right" (top 82) (He.ga K "surely_right") fd45 ∧ fd45.code = .ref (He.cT K ("surely_right", none)).1 := funZ (p := ("surely_right", none)) G45
  have g45 := He.glo_ok X G (cd.fact 45 (f := .glo "surely_right") rfl)
  have d45 : Df K mg "surely_right" (top 82) ["sightings", "most"] (He.ga K "surely_right") fd45 := ⟨F45, g45, F45.binds fun _ _ _ _ _ _ us hl => match us, hl with | [_, _], _ => rfl⟩
  obtain ⟨fd46, G46⟩ := cd.def_ 46 (d := ddX46) rfl
  obtain ⟨F46, C46⟩ : Fun K "_check_doubted" "_check_doubted" (top 83) (He.ga K "_check_doubted") fd46 ∧ fd46.code = .ref (He.cT K ("_check_doubted", none)).1 := funZ (p := ("_check_doubted", none)) G46
  have g46 := He.glo_ok X G (cd.fact 46 (f := .glo "_check_doubted") rfl)
  have d46 : Df K mg "_check_doubted" (top 83) ["sightings", "most"] (He.ga K "_check_doubted") fd46 := ⟨F46, g46, F46.binds fun _ _ _ _ _ _ us hl => match us, hl with | [_, _], _ => rfl⟩
  obtain ⟨fd47, G47⟩ := cd.def_ 47 (d := ddX47) rfl
  obtain ⟨F47, C47⟩ : Fun K "_lot_with_steps" "_lot_with_steps" (top 84) (He.ga K "_lot_with_steps") fd47 ∧ fd47.code = .ref (He.cT K ("_lot_with_steps", none)).1 := funZ (p := ("_lot_with_steps", none)) G47
  have g47 := He.glo_ok X G (cd.fact 47 (f := .glo "_lot_with_steps") rfl)
  have d47 : Df K mg "_lot_with_steps" (top 84) ["sightings", "most"] (He.ga K "_lot_with_steps") fd47 := ⟨F47, g47, F47.binds fun _ _ _ _ _ _ us hl => match us, hl with | [_, _], _ => rfl⟩
  obtain ⟨fd48, G48⟩ := cd.def_ 48 (d := ddX48) rfl
  obtain ⟨F48, C48⟩ : Fun K "check_number" "check_number" (top 18) (He.ga K "check_number") fd48 ∧ fd48.code = .ref (He.cT K ("check_number", none)).1 := funZ (p := ("check_number", none)) G48
  have g48 := He.glo_ok X G (cd.fact 48 (f := .glo "check_number") rfl)
  have d48 : Df K mg "check_number" (top 18) ["given", "least", "most"] (He.ga K "check_number") fd48 := ⟨F48, g48, F48.binds fun _ _ _ _ _ _ us hl => match us, hl with | [_, _, _], _ => rfl⟩
  obtain ⟨fd49, G49⟩ := cd.def_ 49 (d := ddX49) rfl
  obtain ⟨F49, C49⟩ : Fun K "is_number" "is_number" (top 17) (He.ga K "is_number") fd49 ∧ fd49.code = .ref (He.cT K ("is_number", none)).1 := funZ (p := ("is_number", none)) G49
  have g49 := He.glo_ok X G (cd.fact 49 (f := .glo "is_number") rfl)
  have d49 : Df K mg "is_number" (top 17) ["given", "least", "most"] (He.ga K "is_number") fd49 := ⟨F49, g49, F49.binds fun _ _ _ _ _ _ us hl => match us, hl with | [_, _, _], _ => rfl⟩
  obtain ⟨fd50, G50⟩ := cd.def_ 50 (d := ddX50) rfl
  obtain ⟨F50, C50⟩ : Fun K "_law_spin" "_law_spin" (top 88) (He.ga K "_law_spin") fd50 ∧ fd50.code = .ref (He.cT K ("_law_spin", none)).1 := funZ (p := ("_law_spin", none)) G50
  have g50 := He.glo_ok X G (cd.fact 50 (f := .glo "_law_spin") rfl)
  have d50 : Df K mg "_law_spin" (top 88) ["_law_reel_here", "_law_many"] (He.ga K "_law_spin") fd50 := ⟨F50, g50, F50.binds fun _ _ _ _ _ _ us hl => match us, hl with | [_, _], _ => rfl⟩
  obtain ⟨fd51, G51⟩ := cd.def_ 51 (d := ddX51) rfl
  obtain ⟨F51, C51⟩ : Fun K "_law_reel" "_law_reel" (top 87) (He.ga K "_law_reel") fd51 ∧ fd51.code = .ref (He.cT K ("_law_reel", none)).1 := funZ (p := ("_law_reel", none)) G51
  have g51 := He.glo_ok X G (cd.fact 51 (f := .glo "_law_reel") rfl)
  have d51 : Df K mg "_law_reel" (top 87) ["_law_script", "_law_at"] (He.ga K "_law_reel") fd51 := ⟨F51, g51, F51.binds fun _ _ _ _ _ _ us hl => match us, hl with | [_, _], _ => rfl⟩
  obtain ⟨fd52, G52⟩ := cd.def_ 52 (d := ddX52) rfl
  obtain ⟨F52, C52⟩ : Fun K "_law_right" "_law_right" (top 89) (He.ga K "_law_right") fd52 ∧ fd52.code = .ref (He.cT K ("_law_right", none)).1 := funZ (p := ("_law_right", none)) G52
  have g52 := He.glo_ok X G (cd.fact 52 (f := .glo "_law_right") rfl)
  have d52 : Df K mg "_law_right" (top 89) ["_law_reel_here"] (He.ga K "_law_right") fd52 := ⟨F52, g52, F52.binds fun _ _ _ _ _ _ us hl => match us, hl with | [_], _ => rfl⟩
  obtain ⟨fd53, G53⟩ := cd.def_ 53 (d := ddX53) rfl
  obtain ⟨F53, C53⟩ : Fun K "law" "law" (top 90) (He.ga K "law") fd53 ∧ fd53.code = .ref (He.cT K ("law", none)).1 := funZ (p := ("law", none)) G53
  have g53 := He.glo_ok X G (cd.fact 53 (f := .glo "law") rfl)
  have n0 := He.free_ok X G (cd.fact 54 (f := .free "len") rfl)
  have n1 := He.free_ok X G (cd.fact 55 (f := .free "int") rfl)
  have n2 := He.free_ok X G (cd.fact 56 (f := .free "abs") rfl)
  have n3 := He.free_ok X G (cd.fact 57 (f := .free "isinstance") rfl)
  have n4 := He.free_ok X G (cd.fact 58 (f := .free "bool") rfl)
  have n5 := He.free_ok X G (cd.fact 59 (f := .free "tuple") rfl)
  have n6 := He.free_ok X G (cd.fact 60 (f := .free "range") rfl)
  have n7 := He.free_ok X G (cd.fact 61 (f := .free "min") rfl)
  have n8 := He.free_ok X G (cd.fact 62 (f := .free "max") rfl)
  have n9 := He.free_ok X G (cd.fact 63 (f := .free "all") rfl)
  have n10 := He.free_ok X G (cd.fact 64 (f := .free "sorted") rfl)
  have n11 := He.free_ok X G (cd.fact 65 (f := .free "set") rfl)
  have n12 := He.free_ok X G (cd.fact 66 (f := .free "str") rfl)
  have n13 := He.free_ok X G (cd.fact 67 (f := .free "enumerate") rfl)
  have n14 := He.free_ok X G (cd.fact 68 (f := .free "zip") rfl)
  have n15 := He.free_ok X G (cd.fact 69 (f := .free "divmod") rfl)
  obtain ⟨i__GROUP, v__GROUP⟩ := He.int_ok X G (cd.fact 70 (f := .int "_GROUP" (Int.ofNat (10 ^ 600))) rfl)
  obtain ⟨i_MOST_MARK, v_MOST_MARK⟩ := He.int_ok X G (cd.fact 71 (f := .int "MOST_MARK" (40)) rfl)
  obtain ⟨i_MOST_PART, v_MOST_PART⟩ := He.int_ok X G (cd.fact 72 (f := .int "MOST_PART" (60)) rfl)
  obtain ⟨i__MOST_DOUBTED, v__MOST_DOUBTED⟩ := He.int_ok X G (cd.fact 73 (f := .int "_MOST_DOUBTED" (8)) rfl)
  have b_gcd := bi_ok X G (c.fx 1 (f := .bi "gcd" "math.gcd") rfl)
  have b_lcm := bi_ok X G (c.fx 2 (f := .bi "lcm" "math.lcm") rfl)
  have gb := (c.fx 0 (f := .glob) rfl)
  obtain ⟨gb1, gb2⟩ := glob_ok gb
  obtain ⟨fi0, H0⟩ := cd.def_ 54 (d := ddX54) rfl
  obtain ⟨I0, J0⟩ : Fun K "__init__" "Lot.__init__" (inClass (top 30) 0) (He.ma K (He.ga K "Lot") "__init__") fi0 ∧ fi0.code = .ref (He.cT K ("Lot", some "__init__")).1 := funZ (p := ("Lot", some "__init__")) H0
  obtain ⟨fm0, Hm0⟩ := cd.def_ 55 (d := ddX55) rfl
  obtain ⟨Im0, Jm0⟩ : Fun K "__eq__" "Lot.__eq__" (inClass (top 30) 5) (He.ma K (He.ga K "Lot") "__eq__") fm0 ∧ fm0.code = .ref (He.cT K ("Lot", some "__eq__")).1 := funZ (p := ("Lot", some "__eq__")) Hm0
  obtain rfl : fa = He.ga K "law" := by
    have z := hfa.symm.trans g53
    cases z
    rfl
  refine ⟨fd53, [(He.cT K ("lot_of", none))], spLaw K [((He.cT K ("lot_of", none)).2, qO)], fun p hp => ?_, fun s v => FunD.bindsA (ps := ["_law_script"]) G53 (fun _ _ _ _ _ _ us hl => match us, hl with | [_], _ => rfl) s [v] rfl, fun H a ns hl ht hS => ⟨a, ns, rfl, hS, hl, fun p hp => ?_, fun _ => rfl⟩, fun base _ _ TB => ?_⟩
  · obtain rfl := is1 hp
    exact c.tab X (p := ("lot_of", none)) List.mem_cons_self
  · obtain rfl := is1 hp
    exact LamX.TabS.nil (ht (He.cT K ("lot_of", none)) List.mem_cons_self)
  have bl : Bl mg := ⟨n0, n1, n2, n15⟩
  have bc : Bc mg := ⟨n3, n1, n4, n5, n0, b_gcd⟩
  have bp : Bp K mg := ⟨bc, n13, n14, _, (He.glo_ok X G (cd.fact 78 (f := .glo "_LAST_CUT") rfl)), cutV3_ok (cY.fc_ 0 (f := Fc.cut3 "_LAST_CUT" 1 1 0) rfl)⟩
  obtain ⟨pe0, pf0, pq0⟩ := c.prop 0 (p := prX0) rfl
  obtain ⟨oP0, odP0, kvP0, dcP0, pmP0, aP0, cdP0, ctP0, sP0, lP0, cP0, kP0⟩ := PrD.fn pe0 pf0
  obtain ⟨pr0, opr0, vpr0, spr0, rpr0, aq0, gP0, tP0, lpr0, epr0⟩ := PrD.pr pq0
  have FP0 : Fun K "pieces" "Lot.pieces" s_lpieces (prX0.at_ K) _ := fun_mk (st := s_lpieces) lP0 cP0 kP0
  obtain ⟨pe1, pf1, pq1⟩ := c.prop 1 (p := prX1) rfl
  obtain ⟨oP1, odP1, kvP1, dcP1, pmP1, aP1, cdP1, ctP1, sP1, lP1, cP1, kP1⟩ := PrD.fn pe1 pf1
  obtain ⟨pr1, opr1, vpr1, spr1, rpr1, aq1, gP1, tP1, lpr1, epr1⟩ := PrD.pr pq1
  have FP1 : Fun K "text" "Lot.text" s_ltext (prX1.at_ K) _ := fun_mk (st := s_ltext) lP1 cP1 kP1
  have T : LotC l.prog w K mg (He.ga K "Lot") (He.ma K (He.ga K "Lot") "__init__") (prX0.at_ K) fi0 _ := ⟨He.cls_ok (cd.fact 75 (f := .cls "Lot") rfl), He.noat_ok (cd.fact 77 (f := .noat "Lot" "_pieces") rfl), (He.glo_ok X G (cd.fact 74 (f := .glo "Lot") rfl)), He.mkr_ok (cd.fact 76 (f := .mkr "Lot") rfl), I0, I0.binds fun _ _ _ _ _ _ us hl => match us, hl with | [_, _], _ => rfl, ⟨pr0, prop_mk aq0 gP0 tP0 lpr0 epr0⟩, FP0, FP0.binds fun _ _ _ _ _ _ us hl => match us, hl with | [_], _ => rfl⟩
  have qc := eqc_ok (c.fx 3 (f := .eqc "Lot") rfl)
  let pd : Pd K mg := { f_is_fraction := ⟨_, _⟩, d_is_fraction := d4, f_is_part := ⟨_, _⟩, d_is_part := d5, f_is_less := ⟨_, _⟩, d_is_less := d6, f_mediant := ⟨_, _⟩, d_mediant := d7, f__first_wrong := ⟨_, _⟩, d__first_wrong := d8, f__is_piece := ⟨_, _⟩, d__is_piece := d9, f__cuts_at := ⟨_, _⟩, d__cuts_at := d10, f__is_ahead := ⟨_, _⟩, d__is_ahead := d11, f__lot_with := ⟨_, _⟩, d__lot_with := d12, f_int := ⟨_, _⟩, d_int := d0, f_low := ⟨_, _⟩, d_low := d1 }
  let cv : Cvd K mg := { f_co := ⟨_, _⟩, co := d2, f_cv := ⟨_, _⟩, cv := d3, by_ := ⟨_, (He.glo_ok X G (cd.fact 80 (f := .glo "_BEYOND") rfl)), cutV3_ok (cY.fc_ 2 (f := Fc.cut3 "_BEYOND" 2 1 0) rfl)⟩ }
  have bt : Bt mg := ⟨n12, _, _, v__GROUP, by decide +kernel⟩
  let lo : Lo l.prog w K mg base := { C := _, fI := _, fP := _, fE := _, fT := _, fdI := _, fdP := _, fdE := _, fdT := _, T := T, LI := ⟨qc.ca, gb1, gb2, qc.cm, qc.yes, qc.no⟩, B := bp, M := pd, Y := cv, FE := Im0, bE := Im0.binds fun _ _ _ _ _ _ us hl => match us, hl with | [_, _], _ => rfl, eS := qc.eS, eF := qc.eF, pt := ⟨pr1, prop_mk aq1 gP1 tP1 lpr1 epr1⟩, FT := FP1, bT := FP1.binds fun _ _ _ _ _ _ us hl => match us, hl with | [_], _ => rfl, bt := bt, fc := ⟨_, (He.glo_ok X G (cd.fact 79 (f := .glo "_FIRST_CUT") rfl)), cutV3_ok (cY.fc_ 1 (f := Fc.cut3 "_FIRST_CUT" 0 1 0) rfl)⟩, f_bo := ⟨_, _⟩, bo := d13, f_ei := ⟨_, _⟩, ei := d14, f_in_ := ⟨_, _⟩, in_ := d15, f_cl := ⟨_, _⟩, cl := d16, f_wl := ⟨_, _⟩, wl := d17, f_di := ⟨_, _⟩, di := d18, f_ft := ⟨_, _⟩, ft := d19, f_wo := ⟨_, _⟩, wo := d20, f_tx := ⟨_, _⟩, tx := d21 }
  let sf : Sf K mg := { f_wy := ⟨_, _⟩, wy := d22, f_tR := ⟨_, _⟩, tR := d23, f_oR := ⟨_, _⟩, oR := d24, f_wR := ⟨_, _⟩, wR := d25, f_fi := ⟨_, _⟩, fi := d26, f_tP := ⟨_, _⟩, tP := d27, f_oP := ⟨_, _⟩, oP := d28, f_wP := ⟨_, _⟩, wP := d29, f_wh := ⟨_, _⟩, wh := d30, f_pn := ⟨_, _⟩, pn := d31, f_lw := ⟨_, _⟩, lw := d32, f_lo := ⟨_, _⟩, lo := d33, f_cs := ⟨_, _⟩, cs := d34, f_ck := ⟨_, _⟩, ck := d35, f_is_ := ⟨_, _⟩, is_ := d36, f_am := ⟨_, _⟩, am := d37, f_iT := ⟨_, _⟩, iT := d38, f_iO := ⟨_, _⟩, iO := d39, f_iW := ⟨_, _⟩, iW := d40, f_le := ⟨_, _⟩, le := d6, f_pa := ⟨_, _⟩, pa := d5 }
  have sk : Sk mg := ⟨bc, n9, n11, n12, n13, ⟨_, v_MOST_MARK⟩, ⟨_, v_MOST_PART⟩⟩
  have bq : Bq mg := ⟨n10, n11, n6, b_lcm⟩
  let sh : Sh K mg := { f_nu := ⟨_, _⟩, nu := d49, f_ii := ⟨_, _⟩, ii := d0, f_fr := ⟨_, _⟩, fr := d4, f_low := ⟨_, _⟩, low := d1 }
  obtain ⟨es0, en0, kd0⟩ := cY.tab_ 0 (t := ((fun K => He.ga K "_RIGHT"), _)) rfl
  have w0 := (show He.valsB K (He.ga K "_RIGHT") _ = true from (cY.fc_ 3 (f := Fc.vals "_RIGHT" ((("turn" : PySem.Str), He.Dv.glo "_turn_is_right") :: (("on" : PySem.Str), He.Dv.glo "_on_is_right") :: (("within" : PySem.Str), He.Dv.glo "_within_is_right") :: [])) rfl))
  obtain ⟨qrT, qarT, qbrT⟩ := He.valsB_ok w0 (q := (("turn" : PySem.Str), He.Dv.glo "_turn_is_right")) (by simp)
  have erT : PySem.W.nsIn K (He.ga K "_RIGHT") "turn" = some (some (.ref (He.ga K "_turn_is_right"))) := by
    rw [qarT]
    exact congrArg (fun z => some (some z)) (show qrT = .ref (He.ga K "_turn_is_right") from qbrT)
  obtain ⟨qrO, qarO, qbrO⟩ := He.valsB_ok w0 (q := (("on" : PySem.Str), He.Dv.glo "_on_is_right")) (by simp)
  have erO : PySem.W.nsIn K (He.ga K "_RIGHT") "on" = some (some (.ref (He.ga K "_on_is_right"))) := by
    rw [qarO]
    exact congrArg (fun z => some (some z)) (show qrO = .ref (He.ga K "_on_is_right") from qbrO)
  obtain ⟨qrW, qarW, qbrW⟩ := He.valsB_ok w0 (q := (("within" : PySem.Str), He.Dv.glo "_within_is_right")) (by simp)
  have erW : PySem.W.nsIn K (He.ga K "_RIGHT") "within" = some (some (.ref (He.ga K "_within_is_right"))) := by
    rw [qarW]
    exact congrArg (fun z => some (some z)) (show qrW = .ref (He.ga K "_within_is_right") from qbrW)
  obtain ⟨es1, en1, kd1⟩ := cY.tab_ 1 (t := ((fun K => He.ga K "_POINTS"), _)) rfl
  have w1 := (show He.valsB K (He.ga K "_POINTS") _ = true from (cY.fc_ 4 (f := Fc.vals "_POINTS" ((("turn" : PySem.Str), He.Dv.glo "_turn_points") :: (("on" : PySem.Str), He.Dv.glo "_on_points") :: (("within" : PySem.Str), He.Dv.glo "_within_points") :: [])) rfl))
  obtain ⟨qpT, qapT, qbpT⟩ := He.valsB_ok w1 (q := (("turn" : PySem.Str), He.Dv.glo "_turn_points")) (by simp)
  have epT : PySem.W.nsIn K (He.ga K "_POINTS") "turn" = some (some (.ref (He.ga K "_turn_points"))) := by
    rw [qapT]
    exact congrArg (fun z => some (some z)) (show qpT = .ref (He.ga K "_turn_points") from qbpT)
  obtain ⟨qpO, qapO, qbpO⟩ := He.valsB_ok w1 (q := (("on" : PySem.Str), He.Dv.glo "_on_points")) (by simp)
  have epO : PySem.W.nsIn K (He.ga K "_POINTS") "on" = some (some (.ref (He.ga K "_on_points"))) := by
    rw [qapO]
    exact congrArg (fun z => some (some z)) (show qpO = .ref (He.ga K "_on_points") from qbpO)
  obtain ⟨qpW, qapW, qbpW⟩ := He.valsB_ok w1 (q := (("within" : PySem.Str), He.Dv.glo "_within_points")) (by simp)
  have epW : PySem.W.nsIn K (He.ga K "_POINTS") "within" = some (some (.ref (He.ga K "_within_points"))) := by
    rw [qapW]
    exact congrArg (fun z => some (some z)) (show qpW = .ref (He.ga K "_within_points") from qbpW)
  obtain ⟨es2, en2, kd2⟩ := cY.tab_ 2 (t := ((fun K => He.ga K "_FORMS"), _)) rfl
  have w2 := (show He.valsB K (He.ga K "_FORMS") _ = true from (cY.fc_ 5 (f := Fc.vals "_FORMS" ((("turn" : PySem.Str), He.Dv.glo "_is_turn") :: (("on" : PySem.Str), He.Dv.glo "_is_on") :: (("within" : PySem.Str), He.Dv.glo "_is_within") :: [])) rfl))
  obtain ⟨qfT, qafT, qbfT⟩ := He.valsB_ok w2 (q := (("turn" : PySem.Str), He.Dv.glo "_is_turn")) (by simp)
  have efT : PySem.W.nsIn K (He.ga K "_FORMS") "turn" = some (some (.ref (He.ga K "_is_turn"))) := by
    rw [qafT]
    exact congrArg (fun z => some (some z)) (show qfT = .ref (He.ga K "_is_turn") from qbfT)
  obtain ⟨qfO, qafO, qbfO⟩ := He.valsB_ok w2 (q := (("on" : PySem.Str), He.Dv.glo "_is_on")) (by simp)
  have efO : PySem.W.nsIn K (He.ga K "_FORMS") "on" = some (some (.ref (He.ga K "_is_on"))) := by
    rw [qafO]
    exact congrArg (fun z => some (some z)) (show qfO = .ref (He.ga K "_is_on") from qbfO)
  obtain ⟨qfW, qafW, qbfW⟩ := He.valsB_ok w2 (q := (("within" : PySem.Str), He.Dv.glo "_is_within")) (by simp)
  have efW : PySem.W.nsIn K (He.ga K "_FORMS") "within" = some (some (.ref (He.ga K "_is_within"))) := by
    rw [qafW]
    exact congrArg (fun z => some (some z)) (show qfW = .ref (He.ga K "_is_within") from qbfW)
  let sd : Sd K w mg sf := { R := ⟨(He.ga K "_RIGHT"), (He.glo_ok X G (cd.fact 81 (f := .glo "_RIGHT") rfl)), es0, en0, kd0⟩, rT := erT, rO := erO, rW := erW, P := ⟨(He.ga K "_POINTS"), (He.glo_ok X G (cd.fact 82 (f := .glo "_POINTS") rfl)), es1, en1, kd1⟩, pT := epT, pO := epO, pW := epW, F := ⟨(He.ga K "_FORMS"), (He.glo_ok X G (cd.fact 83 (f := .glo "_FORMS") rfl)), es2, en2, kd2⟩, fT := efT, fO := efO, fW := efW }
  let sg : Sg l.prog w K mg base := { L := lo, S := sf, B := sk, Bq := bq, N := sh, D := sd, ab := n2, cc := (He.cT K ("lot_of", none)).1, PP := (He.cT K ("lot_of", none)).2, ec := C33, TB := TB (He.cT K ("lot_of", none)) List.mem_cons_self, TT := [((He.cT K ("lot_of", none)).2, qO)], mT := List.mem_cons_self, oT := fun q hq _ => by obtain rfl := is1 hq; rfl }
  let dd : Do l.prog w K mg base := { M := sg, d8 := ⟨_, v__MOST_DOUBTED⟩, min := n7, f_lw := ⟨_, _⟩, lw := d41, f_lwi := ⟨_, _⟩, lwi := d42, f_fw := ⟨_, _⟩, fw := d43, f_sw := ⟨_, _⟩, sw := d44, f_sr := ⟨_, _⟩, sr := d45, f_cd := ⟨_, _⟩, cd := d46, f_ls := ⟨_, _⟩, ls := d47, f_cn := ⟨_, _⟩, cn := d48 }
  let la : La l.prog w K mg base := { D := dd, bl := bl, f_sp := ⟨_, _⟩, sp := d50 }
  let lc : Lc l.prog w K mg base la := { max := n8, all := n9, rl := ⟨_, _⟩, lr := d51, gr := ⟨_, _⟩, dg := d52 }
  exact ok_law F53 la lc
end My
open PySem PySem.W PyProof.Rows
set_option maxRecDepth 100000 in
set_option maxHeartbeats 0 in
theorem PySem.Challenge.cw_rimorders_k72_known_doubts_holds : PySem.Challenge.rw_rimorders_k72_known_doubts.Holds := by
  w_on; o_law
  refine HandSHeadRun.head_imp (r := OpenLaw.row PySem.Challenge.rw_rimorders_k72_known_doubts) (q := My.qvX) (H := My.hkX) (ob := My.obX) (M := 9000) (loose := My.namesX) (d := HandSHeadRun.topDef (OpenLaw.row PySem.Challenge.rw_rimorders_k72_known_doubts).prog 90) (kwd := []) My.obX_eq My.runX
    (by kernel_rfl) (by kernel_rfl) (by kernel_rfl) (by rfl) (by first | assumption | decide +kernel) (by decide +kernel) ⟨rfl, rfl, rfl, rfl, rfl, by decide +kernel⟩ ?hw ?hc
  case hw => w_witness2
  case hc =>
    refine My.walkGX (l := PySem.Challenge.rw_rimorders_k72_known_doubts) (n := 63) (k := 16) (x := "_law_script") (CX := fun _ => L2.CX0) rfl (by decide) (by kernel_rfl) ⟨rfl, by decide, by decide⟩ ?F (fun _ _ _ _ _ z => z)
    intro w mg fa h Y G hmg0
    obtain ⟨K, KX, c⟩ := Y
    have hmg : mg ("law" : PySem.Str) = some (.ref fa) := by
      have e : (HandSHeadRun.topDef (OpenLaw.row PySem.Challenge.rw_rimorders_k72_known_doubts).prog 90).name = ("law" : PySem.Str) := by kernel_rfl
      rw [← e]
      exact hmg0
    exact ⟨K, KX, My.all_mkX KX G hmg c⟩
