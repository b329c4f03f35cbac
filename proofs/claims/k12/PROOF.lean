import PyProof.Rows.All
import Wide.All
import OpenK.AllK
import Wide.FinOn
import HandS.ForMost
import HandS.ForExc
import HandS.Strs
import HandS.SetFor
import HandS.SetKeys
import HandS.TupAny
import HandS.Style
import HandS.Gcd
import HandS.Wide
import HandS.IsInst
import HandS.Conv
import HandS.Flow
import PyProof.ReprRoads
import HandS.More
import PyProof.ReprLen
import HandS.ExcInit
import HandS.ExcField
import HandS.ExcIs
import KE.KExcInit
import HandS.MakeKw
import KE.KTryMore
import HandS.HotCalls
import KE.KUnpack
import HandS.Lambda
import HandS.Words
import HandS.EndTab
import KE.KNest
import HandS.Defaults
import HandS.HeadHook1
import HandS.HeadHook2
import HandS.HeadHook3
import HandS.HeadHook4
import HandS.HeadNt
import HandS.Head0
import HandS.Head1
import HandS.Head2
import HandS.Head3
import HandS.HeadEnd
import HandS.SortInts
import KE.GoesEnum
import KE.KMathGC
import HandS.SetBool
import HandS.Zip
import HandS.Property
import HandS.ExcOwn
import HandS.ExcCtx
import HandS.MakeKwOnly
import KE.DataMinMax
import KE.SortData
import HandS.FStr
import HandS.Text
import PyProof.Fits
import HandS.List
import HandS.StrMore
import HandS.Iter
import HandS.Set
import HandS.Call
import HandS.ClsMeth
import HandS.OwnEq
import HandS.SlotsOwn
import PyProof.InstNe
import OpenK.KOwn
import PySem.Challenge.RW_rimorders_k12_whole_simplest_steps
set_option Elab.async false
set_option linter.all false
set_option maxRecDepth 100000
set_option maxHeartbeats 4000000
/-! general rules of mine: repr of data, set of a list of ints, t[:0:-1] -/
namespace Gn
open PySem PySem.Spec PyProof.Rows L2
section
variable {X : Cx}
/-! repr of lists and tuples -/
mutual
theorem dp_nodict {K : PySem.W.Frag} {H : Hp} : ∀ (d : PyData) (v : V), Dp K H v d → d.hasDict = false
  | .none, _, _ => by simp only [PyData.hasDict]
  | .bool _, _, _ => by simp only [PyData.hasDict]
  | .int _, _, _ => by simp only [PyData.hasDict]
  | .str _, _, _ => by simp only [PyData.hasDict]
  | .list ds, _, h => by
    cases h with
    | lst _ ha => simp only [PyData.hasDict]; exact dps_nodict ds _ ha
  | .tuple ds, _, h => by
    cases h with
    | tup _ ha => simp only [PyData.hasDict]; exact dps_nodict ds _ ha
  | .dict _, _, h => by cases h
theorem dps_nodict {K : PySem.W.Frag} {H : Hp} : ∀ (ds : List PyData) (vs : List V), DpAll K H vs ds → PyData.hasDictAll ds = false
  | [], _, _ => by simp only [PyData.hasDictAll]
  | d :: ds, _, h => by
    cases h with
    | cons h1 h2 => simp only [PyData.hasDictAll, dp_nodict d _ h1, dps_nodict ds _ h2, Bool.or_self]
end
/-- repr(x), x a list or a tuple of data -/
def rRepr (K : PySem.W.Frag) : List V → Hp → VK → Prop := fun xs H Q => ∃ a d, xs = [V.ref a] ∧ Dp K H (.ref a) d ∧ d.showable = true ∧ d.depth < 60 ∧ d.shown.length ≤ sizeLine ∧ Q (.str d.shown) H
theorem cr_repr (hg : X.A.guards = some []) (hu : X.A.units + 64 < cLine) : CallR X (.builtin "repr") (rRepr X.K) := by
  intro pins s σ H xs us Q I r h
  obtain ⟨a, d, rfl, hd, hs, hdp, hz, q⟩ := h
  rw [Vals.ref1 r]
  obtain ⟨as, rd⟩ := Dp.reads I d _ _ hd rfl
  exact repr_of_reads' rd hs (PySem.PyData.noDict_hsm (dp_nodict d _ hd)) hg (by omega) (fun _ _ e => e) (fun h' u tk k => ⟨.str d.shown, H, I.kept (t' := tk) k, ⟨u, rfl⟩, q⟩) hz
end
end Gn
set_option Elab.async false
set_option linter.all false
set_option maxRecDepth 100000
set_option maxHeartbeats 4000000
namespace Gn
open PySem PySem.Spec PyProof.Rows L2
/-- the empty set object as the machine lays it -/
abbrev eSet (w : World) : Obj := { cls := .type "set", dict := none, data := .set #[] 0 (.fresh 0 0 (!w.params.followText "set-order")) }
section
variable {P : Program} {w : World} {A : Around} {E : Value → Shared → Prop} {s : Shared}
/-- what the init leaves: a set of the ints ns at S, no older object changed -/
abbrev Filled (w : World) (ns : List Int) (s0 : Shared) (S : Addr) (s2 : Shared) : Prop := ∃ (h' : Heap) (tk c : Nat), s2 = { s0 with heap := h', toks := tk } ∧ SetR w h' S (fun j => decide (j ∈ ns)) c ∧ c ≤ ns.length ∧ ∀ b o, s0.heap.get? b = some o → h'.get? b = some o
set_option maxHeartbeats 6000000 in
/-- set(l), l a list of ints -/
theorem set_of_ints {l : Addr} {its : Array Value} (ns : List Int) {Q : Value → Shared → Prop} (hh : A.handled = none) (hl : s.heap.IsList l its) (hi : IntsAre its.toList ns) (hb : ns.length + 1 < scanBound)
    (h : ∀ s2, Filled w ns s s.heap.objs.size s2 → Q (.ref s.heap.objs.size) s2) : wpAny (model P w) A (call (.type "set") [.ref l]) Q E s := by
  have hN : its.size = ns.length := by have q := IntsAre.length hi; rw [Array.length_toList] at q; exact q
  obtain ⟨c, tl, hmro⟩ := F.called_set.mro; have hmade := F.called_set.made; have hsub := F.called_set.sub
  refine wpAny_call (codeAny_of_tree ?_); show wpAny _ _ (callAny (.type "set") _) _ _ _
  refine wpAny_pure ⟨Code.quiet_builtin _ (by decide +kernel), codeAny_builtin F.entry_type_call ?_⟩; rw [Around.under_plain (weight_type_call_type "set" [.ref l] []) rfl]
  have h1 := F.called_set.notType; have h2 := F.called_set.canCreate; have hct := F.typeCall_set_1 (.ref l)
  repeat (any_goals (first | assumption | wp_step))
  refine codeAny_mono (code_set_led1 (.ref l) (E := E) (Q₁ := fun v z => v = .ref s.heap.objs.size ∧ z = { s with heap := s.heap.push (eSet w) }) ⟨rfl, rfl⟩) fun r z hr => ?_
  cases r with
  | error e => exact hr
  | ok fl =>
    cases fl with
    | ret obj =>
      obtain ⟨rfl, rfl⟩ := hr
      have hS : (s.heap.push (eSet w)).get? s.heap.objs.size = some (eSet w) := Heap.get?_push_size _ rfl
      have hT : Shared.TypeIs { s with heap := s.heap.push (eSet w) } (.ref s.heap.objs.size) "set" := ⟨_, hS, rfl⟩
      have hli := F.called_set.init.lookup; have hbi := F.called_set.init.bind (.ref s.heap.objs.size)
      repeat (any_goals (first | assumption | wp_step))
      refine codeAny_mono (codeAny_call_builtin (R := wants (fun r z => r = .none ∧ Filled w ns s s.heap.objs.size z) E) F.called_set.init.plain F.entry_set_init (check_set_init_1 hT ?_)) fun r2 z2 hr2 => ?_
      · obtain ⟨⟨lc, ld, lx, ls⟩, hol, hcl, nl, hdl⟩ := hl
        simp only at hcl hdl
        subst hcl; subst hdl
        have hol' : (s.heap.push (eSet w)).get? l = some { cls := .type "list", dict := ld, data := .seq its nl, slots := ls } := Heap.get?_push_of_some _ hol
        have hsls := F.sub_list_set; have hslf := F.sub_list_frozenset; have hne : (Value.type "list" == Value.type "dict") = false := by decide
        have hl1 : (s.heap.push (eSet w)).IsList l its := ⟨_, hol', rfl, nl, rfl⟩
        unfold Builtin.«set.__init__» noKeywords Builtin.Frozenset.updateFrom
        generalize hPI : pyIter = PI
        wp_walk
        subst hPI
        refine wpAny_pyIter_list hl1 (wpAny_bind (wpAny_runValue ?_))
        have hlS : l < s.heap.objs.size := Heap.lt_size hol
        have h3 : A.in1.in1.in1.handled = none := by simp [hh]
        have z1 : (s.heap.push (eSet w)).objs.size = s.heap.objs.size + 1 := Heap.size_push ..
        have nI : l ≠ (s.heap.push (eSet w)).objs.size := by rw [z1]; exact Nat.ne_of_lt (Nat.lt_succ_of_lt hlS)
        have nF : s.heap.objs.size ∉ [(s.heap.push (eSet w)).objs.size, l] := by
          rw [z1]; intro q; rcases List.mem_cons.mp q with q | q
          · exact Nat.succ_ne_self _ q.symm
          · exact Nat.ne_of_gt hlS (List.mem_singleton.mp q)
        have hval : ∀ (i : Nat) (v : Value), its[i]? = some v → ∃ k t, ns[i]? = some k ∧ v = .int k t := fun i v hv => by
          have hil : i < ns.length := by rw [← hN]; exact (Array.getElem?_eq_some_iff.mp hv).1
          obtain ⟨t, e⟩ := IntsAre.int_at hi i v (by rw [Array.getElem?_toList]; exact hv)
          exact ⟨ns[i], t, List.getElem?_eq_getElem hil, by rw [e, List.getD_eq_getElem?_getD, List.getElem?_eq_getElem hil] <;> rfl⟩
        refine set_update_ints ((Walks.list h3 _ l nI its).toS) s.heap.objs.size nF ns hN hb hval (its.size - 0) 0 _ (by omega) (Nat.zero_le _) ⟨⟨_, Heap.get?_push_size _ rfl, rfl, rfl⟩, (hl1.push _)⟩ ⟨0, Nat.le_refl 0, setR_new_at (Heap.get?_push_of_some _ hS)⟩ ?_
        intro z' c' hm hc' hS'
        obtain ⟨h', g2, d', tk', os'⟩ := z'
        obtain rfl : g2 = s.gens := hm.gens
        obtain rfl : d' = s.drawn := hm.drawn
        obtain rfl : os' = s.os := hm.os
        show wpAny _ _ _ _ _ _
        refine wpAny_pure ?_; show wpAny _ _ (ret Value.none) _ _ _; rw [hN] at hc'
        refine wpAny_pure ⟨rfl, h', tk', c', rfl, hS', hc', fun b o e => ?_⟩
        have hb0 : b < s.heap.objs.size := Heap.lt_size e
        refine hm.heap b o (fun q => ?_) (Heap.get?_push_of_some _ (Heap.get?_push_of_some _ e))
        rcases List.mem_cons.mp q with q | q
        · exact Nat.ne_of_lt hb0 q
        · exact Nat.ne_of_lt (Nat.lt_succ_of_lt hb0) ((List.mem_singleton.mp q).trans z1)
      · cases r2 with
        | error e => exact hr2
        | ok fl2 =>
          cases fl2 with
          | ret r =>
            obtain ⟨rfl, h', tk, c', rfl, hS', hc', hk'⟩ := hr2
            repeat (any_goals (first | assumption | wp_step))
            exact h _ ⟨_, _, _, rfl, hS', hc', hk'⟩
          | _ => exact hr2.elim
    | _ => exact hr.elim
end
section
variable {X : Cx}
/-- set(l) of a list of fewer than 64 ints -/
def rSetI (K : PySem.W.Frag) (w : World) : List V → Hp → VK → Prop := fun xs H Q => ∃ (l : Addr) (ns : List Int), xs = [.ref l] ∧ SqL K H l (ns.map V.int) ∧ ns.length < 64 ∧ ∀ p c, H p = none → c ≤ ns.length → Q (.ref p) (upd H p (SetO w p (fun j => decide (j ∈ ns)) c))
theorem cr_setI (hc : X.calm = true) : CallR X (.type "set") (rSetI X.K X.w) := by
  intro pins s σ H xs us Q I r h
  obtain ⟨l, ns, rfl, hl, hf, q⟩ := h
  rw [Vals.ref1 r]
  obtain ⟨its, rv, pl, hz⟩ := I.list hl
  refine set_of_ints ns (I.ok.hd hc) pl.isList (by simpa using intsAre_of rv) (by unfold scanBound; omega) fun s2 hs => ?_
  obtain ⟨h', tk, c, rfl, hS, hcn, k⟩ := hs
  exact ⟨.ref s.heap.objs.size, _, I.laid (t' := tk) k (Nat.le_refl _) (setO_new hS), rfl, q _ c (I.hok.fresh (Nat.le_refl _)) hcn⟩
end
end Gn
set_option Elab.async false
set_option linter.all false
set_option maxRecDepth 100000
set_option maxHeartbeats 4000000
namespace Gn
open PySem PySem.Spec PyProof.Rows L2
/-! t[:0:-1], t a tuple -/
theorem back_adjust (n : Nat) : Builtin.Slice.slicePlaces (Builtin.Slice.sliceAdjust none (some 0) (-1) (n : Int)).1 (Builtin.Slice.sliceAdjust none (some 0) (-1) (n : Int)).2 (-1) = n - 1 ∧ (Builtin.Slice.sliceAdjust none (some 0) (-1) (n : Int)).1 = (n : Int) - 1 := by
  have a : (Builtin.Slice.sliceAdjust none (some 0) (-1) (n : Int)) = ((n : Int) - 1, min 0 ((n : Int) - 1)) := by
    simp only [Builtin.Slice.sliceAdjust, show ((-1 : Int) < 0) = True by decide, show ((0 : Int) < 0) = False by decide, if_true, if_false]
  rw [a]
  refine ⟨?_, rfl⟩
  unfold Builtin.Slice.slicePlaces
  simp only [show ((-1 : Int) > 0) = False by decide, if_false, show (-(-1) : Int) = 1 by decide, Int.ediv_one]
  split <;> omega
theorem back_pick (xs : Array Value) : ((List.range (xs.size - 1)).filterMap fun (m : Nat) => xs[(((xs.size : Nat) : Int) - 1 + (m : Int) * (-1)).toNat]?).toArray = (xs.toList.drop 1).reverse.toArray := by
  congr 1
  have g : ∀ k, k ≤ xs.size - 1 → ((List.range k).filterMap fun (m : Nat) => xs[(((xs.size : Nat) : Int) - 1 + (m : Int) * (-1)).toNat]?) = ((xs.toList.drop 1).reverse).take k := by
    intro k
    induction k with
    | zero => intro _; rfl
    | succ k ih =>
      intro hk
      have i1 : (((xs.size : Nat) : Int) - 1 + (k : Int) * (-1)).toNat = xs.size - 1 - k := by omega
      have i2 : xs.size - 1 - k < xs.size := by omega
      have hl : k < (xs.toList.drop 1).reverse.length := by rw [List.length_reverse, List.length_drop, Array.length_toList]; omega
      rw [List.range_succ, List.filterMap_append, ih (by omega), List.take_add_one, List.getElem?_eq_getElem hl]
      congr 1
      simp only [List.filterMap_cons, List.filterMap_nil, i1, Array.getElem?_eq_getElem i2, Option.toList]
      congr 1
      rw [List.getElem_reverse, List.getElem_drop]
      simp only [List.length_drop, Array.length_toList, Array.getElem_toList]
      congr 1
      omega
  rw [g _ (Nat.le_refl _)]
  refine List.take_of_length_le ?_
  rw [List.length_reverse, List.length_drop, Array.length_toList]
  exact Nat.le_refl _
section
variable {prog : Program} {w : World} {A : Around} {E : Value → Shared → Prop} {s : Shared}
theorem back_item {t sl : Addr} {its : Array Value} {vl vu vs : Value} {Q : Value → Shared → Prop} (ht : IsTup s.heap t its) (hs : s.heap.IsSliceOf sl vl vu vs) (pl : IsPart vl none) (pu : IsPart vu (some 0)) (ps : IsPart vs (some (-1)))
    (h : Q (.ref s.heap.objs.size) { s with heap := s.heap.push { cls := .type "tuple", data := .seq (its.toList.drop 1).reverse.toArray } }) (hz : its.size ≤ sizeLine) : wpAny (model prog w) A (getItem (.ref t) (.ref sl)) Q E s := by
  have hfit : sizeOk (.seq (its.toList.drop 1).reverse.toArray) := by
    show ((its.toList.drop 1).reverse).toArray.size ≤ sizeLine
    rw [List.size_toArray, List.length_reverse, List.length_drop, Array.length_toList]; omega
  obtain ⟨os, hos, hcs, hds⟩ := id hs
  unfold getItem
  try with_reducible refine wpAny_holding ?_
  first | refine wpAny_bind (wpAny_pure ?_) | skip
  refine wpAny_bind (wpAny_sequenceKey ht.typeIs (by decide) (wpAny_bind (wpAny_callSpecial?_slot (name := Str.ofString "__getitem__") ht.typeIs PyProof.Rows.slot_tuple_getitem (wpAny_call_entry PyProof.Rows.slot_tuple_getitem ht.typeIs PyProof.Rows.entry_tuple_getitem ?_ (PyProof.Rows.args_tuple_getitem _ _)))))
  show wpAny _ _ (Builtin.Tuple.tupleItemsOf (.ref t) >>= _) _ _ s
  refine wpAny_bind (PyProof.Rows.tupleItemsOf_ ht (wpAny_bind (wpAny_typeOf (show s.TypeIs (.ref sl) "slice" from ⟨os, hos, hcs⟩) ?_)))
  rw [if_pos (by decide)]
  refine wpAny_bind ?_
  unfold Builtin.Slice.sliceApplied Builtin.Slice.sliceFields
  refine wpAny_bind (wpAny_bind (wpAny_field hos hds (x := vl) rfl (wpAny_bind (wpAny_field hos hds (x := vu) rfl (wpAny_bind (wpAny_field hos hds (x := vs) rfl (wpAny_pure (wpAny_bind (HT.slicePart_ ps ?_)))))))))
  show wpAny _ _ (if ((-1 : Int) == 0) = true then _ else _) _ _ s
  rw [if_neg (by decide)]
  refine wpAny_bind (HT.slicePart_ pl (wpAny_bind (HT.slicePart_ pu (wpAny_bind (wpAny_pure ?_)))))
  have e1 := (back_adjust its.size).1
  have e2 := (back_adjust its.size).2
  show wpAny _ _ (pure ((Builtin.Slice.sliceAdjust none (some 0) (-1) (its.size : Int)).1, (-1 : Int), Builtin.Slice.slicePlaces (Builtin.Slice.sliceAdjust none (some 0) (-1) (its.size : Int)).1 (Builtin.Slice.sliceAdjust none (some 0) (-1) (its.size : Int)).2 (-1))) _ _ s
  rw [e1, e2]
  refine wpAny_pure ?_
  have no : ¬ ((((its.size : Nat) : Int) - 1 == 0 && (-1 : Int) == 1 && (its.size - 1) == its.size) = true) := by
    rw [show ((-1 : Int) == 1) = false by decide]; simp
  show wpAny _ _ (if ((((its.size : Nat) : Int) - 1 == 0 && (-1 : Int) == 1 && (its.size - 1) == its.size) = true) then _ else _) _ _ s
  rw [if_neg no, back_pick]
  first
    | exact wpAny_bind (m := Builtin.Tuple.tupleExact _) (wpAny_newObj_type (wpAny_pure ⟨_, rfl, wpAny_pure h⟩) hfit)
    | exact wpAny_bind (wpAny_bind (m := Builtin.Tuple.tupleExact _) (wpAny_newObj_type (wpAny_pure ⟨_, rfl, wpAny_pure h⟩) hfit))
    | exact wpAny_bind (wpAny_bind (m := Builtin.Tuple.tupleExact _) (wpAny_newObj_type (wpAny_pure (wpAny_pure ⟨_, rfl, wpAny_pure h⟩)) hfit))
end
def tBack (K : PySem.W.Frag) (te : TE) : TE := fun σ H Q => te σ H fun x H1 => ∃ a xs, x = .ref a ∧ SqT K H1 a xs ∧ ∀ p, H1 p = none → Q (.ref p) (upd H1 p (.tup (xs.drop 1).reverse))
section
variable {X : Cx}
theorem pe_back {e : Expr} {te : TE} {k k0 : Nat} {p0 p1 p2 p3 pos : Pos} (he : PE X e te) : PE X (.Subscript e (.Slice none (some (.Constant (.int 0) k0 p0)) (some (.UnaryOp .USub (.Constant (.int 1) k p1) p2)) p3) pos) (tBack X.K te) := by
  refine ⟨fun pins s σ H Q I h => ?_⟩
  refine Subscript_ (thn (he.run pins s σ H _ I h) fun v s1 ⟨x, H1, I1, r1, q1⟩ => ?_)
  obtain ⟨a, xs, ex, hx, q⟩ := q1
  subst ex
  cases r1
  have hup : PO X (some (.Constant (.int 0) k0 p0)) (tPart (tC (.int 0))) := po_some pe_int
  have hst : PO X (some (.UnaryOp .USub (.Constant (.int 1) k p1) p2)) (tPart (tUn (rU fun i => .int (-i)) (tC (.int 1)))) := po_some (pe_un un_neg pe_int)
  refine wpAny_Slice (thn (po_none.run pins s1 σ H1 (fun o H2 => o = none ∧ H2 = H1) I1 ⟨rfl, rfl⟩) fun vl s2 ⟨l, H2, I2, pl, el, e2⟩ => ?_)
  subst el e2
  refine thn (hup.run pins s2 σ H2 (fun o H3 => o = some 0 ∧ H3 = H2) I2 ⟨0, rfl, rfl, rfl⟩) fun vu s3 ⟨u, H3, I3, pu, eu, e3⟩ => ?_
  subst eu e3
  refine thn (hst.run pins s3 σ H3 (fun o H4 => o = some (-1) ∧ H4 = H3) I3 ⟨1, rfl, -1, rfl, rfl, rfl⟩) fun vs s4 ⟨o, H4, I4, ps, eo, e4⟩ => ?_
  subst eo e4
  have I5 : Inv X pins σ H4 { s4 with heap := s4.heap.push { cls := .type "slice", data := .fields #[vl, vu, vs] } } := I4.kept (t' := s4.toks) fun b ob q => Heap.get?_push_of_some _ q
  obtain ⟨its, r, ht, hz⟩ := I5.tuple hx
  have hlen := r.length
  show wpAny (model X.prog X.w) X.A (subscriptTail e (.Slice none (some (.Constant (.int 0) k0 p0)) (some (.UnaryOp .USub (.Constant (.int 1) k p1) p2)) p3) (.ref a) (.ref s4.heap.objs.size)) (EP X pins σ Q) X.xe { s4 with heap := s4.heap.push { cls := .type "slice", data := .fields #[vl, vu, vs] } }
  refine tail_any (ops := [.ref a, .ref s4.heap.objs.size]) ht.typeIs (PyProof.Rows.slot_tuple_getitem.lookup) ?_ (by with_unfolding_all rfl)
  refine back_item ht (Heap.IsSliceOf.new _ vl vu vs) pl pu ps ?_ (by rw [List.size_toArray]; omega)
  refine ⟨.ref _, _, I5.laid (t' := s4.toks) (o := .tup (xs.drop 1).reverse) (fun b ob q => Heap.get?_push_of_some _ q) (Nat.le_refl _) ?_, rfl, q _ (I5.hok.fresh (Nat.le_refl _))⟩
  exact ⟨by rw [List.length_reverse, List.length_drop]; omega, _, (Vals.drop 1 r).reverse, ⟨_, Heap.get?_push_size _ rfl, rfl, _, rfl⟩⟩
end
end Gn
set_option Elab.async false
set_option linter.all false
set_option maxRecDepth 100000
set_option maxHeartbeats 4000000
namespace Gn
open PySem PySem.Spec PyProof.Rows L2
/-- a def's promise where no repr runs around (the guards are known to be none) -/
structure FnG (P : Program) (w : World) (K : PySem.W.Frag) (mg : Str → Option Value) (base : Heap) (CX : CXT) (k : Nat) (f : Addr) (fd : FuncData) (ps : List Str) (sp : Sp) : Prop where
  len : ∀ vs H Q E, sp vs H Q E → vs.length = ps.length
  run : ∀ (A : Around) (outer : List Env) (s : Shared) (H : Hp) (args : Args) (us : List Value) (vs : List V) (Q : VK) (E : XK), A.guards = some [] → Room k A → Env0 P w K mg base A outer s H → BindsTo s fd args (ps.zip us) → Vals vs us → sp vs H Q E →
    codeAny (model P w) A (.call (.ref f) args) (CR CX outer P w H s Q E) s
section
variable {P : Program} {w : World} {K : PySem.W.Frag} {mg : Str → Option Value} {base : Heap}
theorem FnG.of {CX : CXT} {k : Nat} {f : Addr} {fd : FuncData} {ps : List Str} {sp : Sp} (F : FnOk P w K mg base CX k f fd ps sp) : FnG P w K mg base CX k f fd ps sp := ⟨F.len, fun A o s H a us vs Q E _ => F.run A o s H a us vs Q E⟩
theorem funG {CX : CXT} {x qual : Str} {st : Stmt} {f : Addr} {fd : FuncData} {N ps : List Str} {k : Nat} {sp : Sp} (F : Fun K x qual st f fd) (S : FnScope N ps (defScope st)) (len : ∀ vs H Q E, sp vs H Q E → vs.length = ps.length)
    (hbody : ∀ (cdv : Value) (A : Around) (outer : List Env) (s : Shared) (H : Hp) (vs : List V) (Q : VK) (E : XK), (A.deeper (envOfC qual (defScope st) s.heap.objs.size f cdv)).guards = some [] → Room k (A.deeper (envOfC qual (defScope st) s.heap.objs.size f cdv)) → sp vs H Q E →
      ∃ t, PSs (cxOf CX P w K mg base N qual (defScope st) f cdv A outer s H E) (defBody st) t ∧ t { nx := fun _ H' => Q .non H', rt := Q } (start N vs) H) : FnG P w K mg base CX (k + 1) f fd ps sp := by
  obtain ⟨oc, od, kV, doc, pm, an, cdv, ct, osl, rfl, lk, hcd⟩ := F.ex
  refine ⟨len, fun A outer s H args us vs Q E hg hr e0 hb r hsp => ?_⟩
  have KX : K.In s.heap := e0.mod.kin.keeps fun b o e => (e0.bs b o e).1
  have hkind : ∀ y ∈ ps.zip us, (defScope st).names.lookup y.1 = some .local ∨ ((defScope st).names.lookup y.1 = some .cell ∧ ((cellsFrom (s.heap.objs.size + 1) (defScope st).names []).lookup y.1).isSome = true) := fun y hy =>
    (S.par y.1 (List.of_mem_zip hy).1).elim .inl fun q => .inr ⟨q, PySem.W.cellsFrom_some _ _ _ (.inl q)⟩
  refine codeAny_call_function hr.depth (KX _ _ lk) rfl S.co S.gen rfl (PySem.W.codeRec_of KX hcd) (hb _ _ _ _ (wpAny_newFunctionEnv_cells S.kind hkind fun env he s1 x => ?_))
  subst he
  refine ⟨(e0.mod.nolimit.keeps fun b o e => (e0.bs b o e).1).keeps x.toInCall.keep, codeAny_func ?_⟩
  obtain ⟨t, ht, hq⟩ := hbody cdv A outer s H vs Q E hg (hr.deeper _) hsp
  have I : Inv (cxOf CX P w K mg base N qual (defScope st) f cdv A outer s H E) [] (start N vs) H s1 := inv_start S hr.hd e0 (len _ _ _ _ hsp) r x
  refine wpAny_mono (ht.run [] s1 (start N vs) H _ I hq) (fun fl s' hs => ?_) fun _ _ hs => hs
  cases fl with
  | ret u => obtain ⟨v, σ', H', J, rv, q⟩ := hs; exact ⟨v, H', J.os, J.bare, J.base, J.hok, rv, q⟩
  | next => obtain ⟨σ', H', J, q⟩ := hs; exact ⟨V.non, H', J.os, J.bare, J.base, J.hok, rfl, q⟩
  | brk => obtain ⟨_, _, _, q⟩ := hs; exact False.elim q
  | cont => obtain ⟨_, _, _, q⟩ := hs; exact False.elim q
/-- as Fun.ok: nothing leaves the def -/
theorem funG0 {x qual : Str} {st : Stmt} {f : Addr} {fd : FuncData} {N ps : List Str} {k : Nat} {sp : Sp} (F : Fun K x qual st f fd) (S : FnScope N ps (defScope st)) (len : ∀ vs H Q E, sp vs H Q E → vs.length = ps.length)
    (hbody : ∀ (cdv : Value) (A : Around) (outer : List Env) (s : Shared) (H : Hp) (vs : List V) (Q : VK) (E : XK), (A.deeper (envOfC qual (defScope st) s.heap.objs.size f cdv)).guards = some [] → Room k (A.deeper (envOfC qual (defScope st) s.heap.objs.size f cdv)) → sp vs H Q E →
      ∃ t, PSs (cxOf CX0 P w K mg base N qual (defScope st) f cdv A outer s H E).nox (defBody st) t ∧ t { nx := fun _ H' => Q .non H', rt := Q } (start N vs) H) : FnG P w K mg base CX0 (k + 1) f fd ps sp :=
  funG F S len fun cdv A outer s H vs Q E hg hr hsp => by
    obtain ⟨t, h, q⟩ := hbody cdv A outer s H vs Q E hg hr hsp
    exact ⟨t, h.nox, q⟩
end
section
variable {X : Cx} {CX : CXT} {k : Nat} {f : Addr} {fd : FuncData} {ps ks : List Str} {sp : Sp} {dvs : List V} {ds : List Value} {E : XK} {x : Str} {p pos : Pos} {e : Expr} {es : List Expr} {kws : List Keyword} {t tk : TA}
theorem back_of {pins : List (Addr × Obj)} {σ : L2.St} {H : Hp} {s s' : Shared} {Q : VK} (hx : Passes CX X E) (I : Inv X pins σ H s) {r : Result} (h : CR CX X.stack X.prog X.w H s Q E r s') :
    match r with | .ok (.ret u) => EP X pins σ Q u s' | .ok _ => False | .error e => X.xe e s' := by
  cases r with
  | error e => exact hx pins σ H s e s' I h
  | ok fl => cases fl with
    | ret u => exact I.after h
    | next => exact h
    | brk => exact h
    | cont => exact h
theorem run_fnG {pins : List (Addr × Obj)} {σ : L2.St} {H : Hp} {s : Shared} {Q : VK} {us : List Value} {vs : List V} (F : FnG X.prog X.w X.K X.mg X.base CX k f fd ps sp) (hg : X.A.guards = some []) (hr : Room k X.A) (hb : Binds X.K fd ps ds) (hd : Vals dvs ds) (hx : Passes CX X E)
    (I : Inv X pins σ H s) (r : Vals vs us) (h : sp (vs ++ dvs) H Q E) : wpAny (model X.prog X.w) X.A (call (.ref f) us) (EP X pins σ Q) X.xe s := by
  have r2 : Vals (vs ++ dvs) (us ++ ds) := r.append hd
  refine wpAny_call (codeAny_mono (F.run X.A X.stack s H ⟨us, []⟩ (us ++ ds) (vs ++ dvs) Q E hg hr I.env0 (hb s us I.kIn (by rw [← r2.length]; exact F.len _ _ _ _ h)) r2 h) fun r s' hq => ?_)
  have z := back_of hx I hq
  cases r with
  | error e => exact z
  | ok fl => cases fl with
    | ret u => exact z
    | next => exact z.elim
    | brk => exact z.elim
    | cont => exact z.elim
theorem pe_callG (F : FnG X.prog X.w X.K X.mg X.base CX k f fd ps sp) (hgu : X.A.guards = some []) (hr : Room k X.A) (hg : Gl X x) (hm : X.mg x = some (.ref f)) (hk : PySem.W.keepIn X.K (.ref f) = true) (hb : Binds X.K fd ps ds) (hd : Vals dvs ds) (hx : Passes CX X E)
    (ha : PA X (e :: es) t) (hdb : (x == ("__debug__" : Str)) = false := by decide) (he : starEach (e :: es) X.env = (false, eval e X.env) :: starEach es X.env := by rfl) (hpl : (backTo pos (starEach es X.env)).any (·.1) = false := by rfl) :
    PE X (.Call (.Name x p) (e :: es) [] pos) (tCall sp dvs E t) := ⟨fun pins s σ H Q I h =>
  wpAny_Call_Name_kw (ld_glob I hg hm (PySem.W.callWith_K (h₀ := X.base) I.ok.mod.kin hk (thn (ha.run pos pins s σ H _ I h) fun us s1 ⟨vs, H1, I1, r, q⟩ => ⟨I1.kIn, run_fnG F hgu hr hb hd hx I1 r q⟩) he hpl) hdb)⟩
end
/-! the end of a law -/
section
variable {P : Program} {w : World} {K : PySem.W.Frag} {mg mb : Str → Option Value}
theorem lawG {CX : CXT} {k : Nat} {fa a : Addr} {fd : FuncData} {x : Str} {sp : Sp} {s₁ : Shared} {vs : List Value} {ns : List Int}
    (KX : K.In s₁.heap) (hns : s₁.heap.Ns mainGlobals mg) (hb : s₁.heap.Ns builtinsNs mb) (hbb : ∀ x : Str, x ≠ "__name__" → mb x = bootBuiltins x) (hlim : s₁.heap.NoLimit) (hg : s₁.gens = #[])
    (ha : s₁.heap.get? a = some { cls := .type "list", data := .seq vs.toArray }) (hi : IntsAre vs ns) (hl : ns.length ≤ sizeLine) (hr : Room k callerA)
    (F : ∀ base : Heap, K.In base → base.Ns mainGlobals mg → FnG P w K mg base CX k fa fd [x] sp) (hbind : ∀ (s : Shared) (u : Value), BindsTo s fd ⟨[u], []⟩ [(x, u)])
    (hsp : ∀ H : Hp, Only H → SqL K H a (ns.map V.int) → sp [.ref a] H (fun v _ => v = .bl true) fun _ _ _ => False) (hCX : ∀ H e s', CX [] H s₁ (fun _ _ _ => False) e s' → False) :
    codeAny (model P w) callerA (.call (.ref fa) ⟨[.ref a], []⟩) (fun r s' => r = .ok (.ret (.bool true)) ∧ OldK s₁.heap s'.heap ∧ s'.os = s₁.os ∧ AllBare s'.gens) s₁ := by
  have rv := vals_ints hi
  have main : ∀ H : Hp, Only H → SqL K H a (ns.map V.int) → HOk P w H s₁.heap → (∀ b, H b ≠ none → b = a ∧ K.lookup a = none) →
      codeAny (model P w) callerA (.call (.ref fa) ⟨[.ref a], []⟩) (fun r s' => r = .ok (.ret (.bool true)) ∧ OldK s₁.heap s'.heap ∧ s'.os = s₁.os ∧ AllBare s'.gens) s₁ := by
    intro H hO hS hok hA
    have untr : ∀ {b : Addr}, b ≠ a ∨ K.lookup a ≠ none → H b = none := fun {b} h => by
      cases q : H b with
      | none => rfl
      | some u => have z := hA b (by rw [q]; simp); exact (h.elim (fun n => n z.1) fun n => n z.2).elim
    have ns_of : ∀ {b : Addr} {m : Str → Option Value}, s₁.heap.Ns b m → (hidT s₁.heap H).Ns b m := fun {b m} ⟨o, es, ep, e, d, r⟩ => ⟨o, es, ep, hidT_get e (untr (.inl fun z => by
      subst z
      rw [ha] at e
      cases e
      exact absurd (show Data.seq vs.toArray _ = Data.dict es ep from d) (fun z => by cases z))), d, r⟩
    have kb : K.In (hidT s₁.heap H) := fun b o e => hidT_get (KX b o e) (by
      by_cases z : b = a
      · exact untr (.inr fun y => by subst z; rw [y] at e; cases e)
      · exact untr (.inl z))
    have md : Mod K mg (hidT s₁.heap H) := ⟨kb, ns_of hns, ⟨mb, ns_of hb, hbb⟩, let ⟨mc, h1, h2⟩ := hlim; ⟨mc, ns_of h1, h2⟩⟩
    have e0 : Env0 P w K mg (hidT s₁.heap H) callerA [] s₁ H := ⟨rfl, md, fun b o e => of_hidT e, Nat.le_of_eq (hidT_size _ _), trivial, fun b hb => absurd (show b ∈ ([] : List Addr) from hb) (by simp), hok, .of_eq hg⟩
    refine codeAny_mono ((F _ kb (ns_of hns)).run callerA [] s₁ H ⟨[.ref a], []⟩ [.ref a] [.ref a] _ _ rfl hr e0 (hbind s₁ (.ref a)) (.cons rfl .nil) (hsp H hO hS)) fun r s' h => ?_
    cases r with
    | error e => exact (hCX H e s' h).elim
    | ok fl => cases fl with
      | next => exact False.elim h
      | brk => exact False.elim h
      | cont => exact False.elim h
      | ret u =>
        obtain ⟨v, H', os, bare, un, hok', r', q⟩ := h
        obtain rfl : v = .bl true := q
        obtain rfl : u = Value.bool true := r'
        refine ⟨rfl, OldK.of_keep fun b o e => ?_, os, bare⟩
        rcases hO b with z | ⟨ob, xs, z⟩
        · exact un.keep b o e z (fun y => nomatch y) (fun y => nomatch y)
        · obtain ⟨e1, _⟩ := hok b _ z
          obtain ⟨e2, _⟩ := hok' b _ (un.frzs b ob _ z)
          exact e2.trans (e1.symm.trans e)
  cases hk : K.lookup a with
  | some o =>
    have e := KX a o hk
    rw [ha] at e
    cases e
    exact main (fun _ => none) (fun _ => .inl rfl) (.inr ⟨_, vs.toArray, _, hk, rfl, rfl, rfl, by rw [List.size_toArray, hi.length]; exact hl, by simpa using rv⟩) (fun b u z => by cases (show (none : Option HO) = some u from z)) fun b z => absurd rfl z
  | none =>
    have at_ : ∀ {b : Addr} {u : HO}, (if b = a then some (HO.frz { cls := .type "list", data := .seq vs.toArray } (.lst (ns.map V.int))) else none) = some u → b = a ∧ u = .frz { cls := .type "list", data := .seq vs.toArray } (.lst (ns.map V.int)) := fun {b u} z => by
      by_cases y : b = a
      · rw [if_pos y] at z; exact ⟨y, (Option.some.inj z).symm⟩
      · rw [if_neg y] at z; cases z
    refine main (fun b => if b = a then some (.frz { cls := .type "list", data := .seq vs.toArray } (.lst (ns.map V.int))) else none) (fun b => ?_) (.inl (.inr ⟨{ cls := .type "list", data := .seq vs.toArray }, if_pos rfl⟩)) (fun b u z => ?_) fun b z => ⟨?_, hk⟩
    · by_cases y : b = a
      · exact .inr ⟨_, _, if_pos y⟩
      · exact .inl (if_neg y)
    · obtain ⟨rfl, rfl⟩ := at_ z
      exact ⟨ha, by rw [List.length_map]; exact hl, vs, _, rv, ha⟩
    · by_cases y : b = a
      · exact y
      · exact absurd (if_neg y) z
theorem walkG {l : PySem.W.OpenLaw} {n k : Nat} {q : Program} {loose : List Str} {XP : (Str → Option Value) → Heap → Prop} {YP : World → Heap → Prop} {d : DefRec} {K : Params → PySem.W.Frag} {CX : World → CXT} {sp : World → Sp} {x : Str}
    (hn : l.most = some n) (hn2 : n ≤ sizeLine) (hdf : d.params.defaults = []) (hr : Room k callerA) (hY : ∀ (w : World) (h : Heap), YP w h → (K w.params).In h)
    (F : ∀ (w : World) (mg : Str → Option Value) (fa : Addr) (h : Heap), (K w.params).In h → h.Ns mainGlobals mg → mg d.name = some (.ref fa) →
      ∃ fd : FuncData, (∀ (s : Shared) (u : Value), BindsTo s fd ⟨[u], []⟩ [(x, u)]) ∧ ∀ base : Heap, (K w.params).In base → base.Ns mainGlobals mg → FnG l.prog w (K w.params) mg base (CX w) k fa fd [x] (sp w))
    (hsp : ∀ (w : World) (H : Hp) (a : Addr) (ns : List Int), ns.length ≤ n → Only H → SqL (K w.params) H a (ns.map V.int) → sp w [.ref a] H (fun v _ => v = .bl true) fun _ _ _ => False)
    (hCX : ∀ (w : World) (H : Hp) (s : Shared) (e : Value) (s' : Shared), CX w [] H s (fun _ _ _ => False) e s' → False) : PySem.W.WalkO q loose XP YP l.row.toRowW d [] (fun f vs => PySem.call f vs) :=
  Att.attach_call hn hdf fun w s₀ s₁ mg mb fa o pm cd doc a vs ns G Y ho hd hcd hmg hobj hints hlen hg => by
    obtain ⟨fd, hb, hF⟩ := F w mg fa _ (hY w _ Y) G.T.g hmg
    exact lawG (hY w _ Y) G.T.g G.T.b G.T.builtins G.T.nolimit hg hobj hints (Nat.le_trans hlen hn2) hr hF hb (fun H hO hS => hsp w H a ns hlen hO hS) fun H e s' => hCX w H s₁ e s'
end
end Gn
set_option Elab.async false
set_option linter.all false
set_option maxRecDepth 100000
set_option maxHeartbeats 4000000
namespace Gn
open PySem PySem.Spec PyProof.Rows L2
section
variable {X : Cx} {CX : CXT} {k : Nat} {f : Addr} {fd : FuncData} {ps ks : List Str} {sp : Sp} {E : XK} {x : Str} {p pos : Pos} {kws : List Keyword} {tk : TA} {g : List Value → List Value → List Value} {gV : List V → List V → List V}
/-- f(k = v, ..): keywords alone -/
theorem pe_callK0 (F : FnOk X.prog X.w X.K X.mg X.base CX k f fd ps sp) (hr : Room k X.A) (hg : Gl X x) (hm : X.mg x = some (.ref f)) (hk : PySem.W.keepIn X.K (.ref f) = true) (hb : KBinds X.K fd ps ks g gV) (hx : Passes CX X E) (hkw : PK X kws tk)
    (hall : (backToKw pos (keywordEach kws X.env)).all (·.1.isSome) = true := by rfl) (hks : (backToKw pos (keywordEach kws X.env)).filterMap (·.1) = ks := by rfl) (hdb : (x == ("__debug__" : Str)) = false := by decide)
    (hpl : ((backTo pos (starEach [] X.env)).any (·.1) || (backToKw pos (keywordEach kws X.env)).any (·.1.isNone)) = false := by rfl) : PE X (.Call (.Name x p) [] kws pos) (tCallK sp gV E tNil tk) := ⟨fun pins s σ H Q I h =>
  wpAny_Call_Name_kw (ld_glob I hg hm (PySem.W.callWith_KW0 (h₀ := X.base) I.ok.mod.kin hk hall (thn (hkw.run pos pins s σ H _ I h) fun ws s2 ⟨zs, H2, I2, rz, q2⟩ => ⟨I2.kIn, by
    rw [hks]
    exact run_fnk (us := []) (vs := []) F hr hb hx I2 .nil rz q2⟩) hpl) hdb)⟩
end
/-! keywords in the parameters' order, and two the other way round -/
def kw1 {α : Type} : List α → List α → List α
  | [], [a] => [a]
  | _, _ => []
def kw2 {α : Type} : List α → List α → List α
  | [], [a, b] => [a, b]
  | _, _ => []
def kw2s {α : Type} : List α → List α → List α
  | [], [a, b] => [b, a]
  | _, _ => []
section
variable {K : PySem.W.Frag} {fd : FuncData} {ps ks : List Str}
theorem kb1 {p : Str} (h : ∀ a : Value, bindArgs fd ⟨[], [(p, a)]⟩ = pure [(p, a)]) : KBinds K fd [p] [p] kw1 kw1 :=
  ⟨fun s us ws _ hl => match us, ws, hl with
    | [], [a], _ => .of_eq (h a)
    | [], [], z => (nomatch z)
    | [], _ :: _ :: _, z => (nomatch z)
    | _ :: _, _, z => (nomatch z), fun {vs us zs ws} r rz => by
    cases r with
    | nil => cases rz with
      | nil => exact .nil
      | cons a b => cases b with
        | nil => exact .cons a .nil
        | cons _ _ => exact .nil
    | cons _ _ => exact .nil⟩
theorem kb2 {p q : Str} (h : ∀ a b : Value, bindArgs fd ⟨[], [(p, a), (q, b)]⟩ = pure [(p, a), (q, b)]) : KBinds K fd [p, q] [p, q] kw2 kw2 :=
  ⟨fun s us ws _ hl => match us, ws, hl with
    | [], [a, b], _ => .of_eq (h a b)
    | [], [], z => (nomatch z)
    | [], [_], z => (nomatch z)
    | [], _ :: _ :: _ :: _, z => (nomatch z)
    | _ :: _, _, z => (nomatch z), fun {vs us zs ws} r rz => by
    cases r with
    | nil => cases rz with
      | nil => exact .nil
      | cons a b => cases b with
        | nil => exact .nil
        | cons c d => cases d with
          | nil => exact .cons a (.cons c .nil)
          | cons _ _ => exact .nil
    | cons _ _ => exact .nil⟩
theorem kb2s {p q : Str} (h : ∀ a b : Value, bindArgs fd ⟨[], [(q, b), (p, a)]⟩ = pure [(p, a), (q, b)]) : KBinds K fd [p, q] [q, p] kw2s kw2s :=
  ⟨fun s us ws _ hl => match us, ws, hl with
    | [], [b, a], _ => .of_eq (h a b)
    | [], [], z => (nomatch z)
    | [], [_], z => (nomatch z)
    | [], _ :: _ :: _ :: _, z => (nomatch z)
    | _ :: _, _, z => (nomatch z), fun {vs us zs ws} r rz => by
    cases r with
    | nil => cases rz with
      | nil => exact .nil
      | cons a b => cases b with
        | nil => exact .nil
        | cons c d => cases d with
          | nil => exact .cons c (.cons a .nil)
          | cons _ _ => exact .nil
    | cons _ _ => exact .nil⟩
end
end Gn
namespace Gn
open PySem PySem.Spec PyProof.Rows L2
/-- a conditional expression whose two ways change nothing -/
theorem tif {c : Bool} {ta tb : TE} {σ : L2.St} {H : Hp} {Q : VK} (v1 v2 : V) (h1 : c = true → ∀ R : VK, R v1 H → ta σ H R) (h2 : c = false → ∀ R : VK, R v2 H → tb σ H R) (k : ∀ v, (c = true → v = v1) → (c = false → v = v2) → Q v H) : if c = true then ta σ H Q else tb σ H Q := by
  cases c with
  | true => exact iteT (h1 rfl Q (k v1 (fun _ => rfl) (fun z => nomatch z)))
  | false => exact iteF (h2 rfl Q (k v2 (fun z => nomatch z) (fun _ => rfl)))
theorem cut_mem {xs : List V} {lo hi : Option Int} {x : V} (h : x ∈ cutV xs lo hi) : x ∈ xs := by
  unfold cutV at h
  exact List.mem_of_mem_drop (List.mem_of_mem_take h)
theorem int_at {ns : List Int} {x : V} (h : x ∈ ns.map V.int) : ∃ z, x = V.int z := by
  obtain ⟨z, _, e⟩ := List.mem_map.mp h
  exact ⟨z, e.symm⟩
theorem same_put {H : Hp} {p : Addr} {o : HO} (h : H p = none) : Same H (upd H p o) := fun b x e => by
  rw [upd_ne (ne_of_none e h)]
  exact e
theorem fmod_ge {a b : Int} (h : 0 < b) : 0 ≤ a.fmod b := by
  rw [Int.fmod_eq_emod_of_nonneg _ (by omega)]; exact Int.emod_nonneg _ (by omega)
theorem fmod_lt {a b : Int} (h : 0 < b) : a.fmod b < b := by
  rw [Int.fmod_eq_emod_of_nonneg _ (by omega)]; exact Int.emod_lt_of_pos _ h
end Gn
set_option Elab.async false
set_option linter.all false
set_option maxRecDepth 100000
set_option maxHeartbeats 4000000
namespace Gn
open PySem PySem.Spec PyProof.Rows L2
/-- tuple(xs) of a list: a new tuple -/
def rTupL (K : PySem.W.Frag) : List V → Hp → VK → Prop := fun xs H Q => ∃ p ys, xs = [V.ref p] ∧ SqL K H p ys ∧ ∀ l, H l = none → Q (.ref l) (upd H l (.tup ys))
theorem cr_tupL {X : Cx} : CallR X (.type "tuple") (rTupL X.K) := by
  intro pins s σ H xs us Q I r h
  obtain ⟨p, ys, e, h1, h2⟩ := h
  exact call_tuple_of pins s σ H xs us Q I r ⟨p, ys, e, .inl ⟨h1, h2⟩⟩
end Gn
set_option Elab.async false
set_option linter.all false
set_option maxRecDepth 100000
set_option maxHeartbeats 4000000
namespace Gn
open PySem PySem.Spec PyProof.Rows L2
/-- small data: may be shown, may be compared; its text has at most c signs, its depth is at most e -/
structure Sm (c e : Nat) (d : PyData) : Prop where
  sh : d.showable = true
  ln : d.shown.length ≤ c
  dp : d.depth ≤ e
  cl : d.canLay0 = true
theorem sum_le {c : Nat} : ∀ {ts : List Str}, (∀ t ∈ ts, t.length ≤ c) → (ts.map (·.length)).sum ≤ ts.length * c
  | [], _ => by simp
  | t :: ts, h => by
    have h1 := h t List.mem_cons_self
    have h2 := sum_le fun x hx => h x (List.mem_cons_of_mem t hx)
    rw [List.map_cons, List.sum_cons, List.length_cons, Nat.succ_mul]
    omega
theorem Sm.all {c e : Nat} : ∀ {ds : List PyData}, (∀ d ∈ ds, Sm c e d) → PyData.showableAll ds = true ∧ (∀ t ∈ PyData.shownAll ds, t.length ≤ c) ∧ (PyData.shownAll ds).length = ds.length ∧ PyData.depthAll ds ≤ e ∧ PyData.canLayAll0 ds = true
  | [], _ => ⟨rfl, (fun t h => by simp [PyData.shownAll] at h), rfl, Nat.zero_le _, rfl⟩
  | d :: ds, h => by
    have a := h d List.mem_cons_self
    obtain ⟨b1, b2, b3, b4, b5⟩ := Sm.all fun x hx => h x (List.mem_cons_of_mem d hx)
    refine ⟨by simp only [PyData.showableAll, a.sh, b1, Bool.and_self], fun t ht => ?_, by simp only [PyData.shownAll, List.length_cons, b3], by simp only [PyData.depthAll]; exact Nat.max_le.mpr ⟨a.dp, b4⟩, by simp only [PyData.canLayAll0, a.cl, b5, Bool.and_self]⟩
    simp only [PyData.shownAll] at ht
    rcases List.mem_cons.mp ht with rfl | ht
    · exact a.ln
    · exact b2 t ht
theorem Sm.tup {c e n : Nat} {ds : List PyData} (h : ∀ d ∈ ds, Sm c e d) (hn : ds.length ≤ n) : Sm (n * (c + 2) + 3) (e + 1) (.tuple ds) := by
  obtain ⟨b1, b2, b3, b4, b5⟩ := Sm.all h
  refine ⟨by simpa only [PyData.showable] using b1, ?_, by simp only [PyData.depth]; omega, by simpa only [PyData.canLay0] using b5⟩
  simp only [PyData.shown]
  have z := tupleText_len_le (PyData.shownAll ds)
  have y := sum_le b2
  rw [b3] at z y
  have w := Nat.mul_le_mul_right (c + 2) hn
  rw [Nat.mul_add] at w
  omega
theorem Sm.lst {c e n : Nat} {ds : List PyData} (h : ∀ d ∈ ds, Sm c e d) (hn : ds.length ≤ n) : Sm (n * (c + 2) + 3) (e + 1) (.list ds) := by
  obtain ⟨b1, b2, b3, b4, b5⟩ := Sm.all h
  refine ⟨by simpa only [PyData.showable] using b1, ?_, by simp only [PyData.depth]; omega, by simpa only [PyData.canLay0] using b5⟩
  simp only [PyData.shown]
  have z := listText_len_le (PyData.shownAll ds)
  have y := sum_le b2
  rw [b3] at z y
  have w := Nat.mul_le_mul_right (c + 2) hn
  rw [Nat.mul_add] at w
  omega
theorem Sm.int {i : Int} (h : i.natAbs < 2 ^ 1000) : Sm 1921 0 (.int i) := by
  have hl : i.natAbs.log2 < 1920 := Nat.lt_trans (PySem.Flt.log2_lt_of (by decide) h) (by decide)
  exact ⟨by simp only [PyData.showable, hl, decide_true], by simp only [PyData.shown]; exact int_text_len_1921 hl, by simp only [PyData.depth]; exact Nat.le_refl 0, rfl⟩
theorem Sm.shaped {c e : Nat} {d : PyData} (h : Sm c e d) (he : e ≤ 64) : SeqAt.shaped d = true := by
  unfold SeqAt.shaped
  rw [h.cl, decide_eq_true (Nat.le_trans h.dp he)]; rfl
theorem Sm.ints {n : Nat} {ns : List Int} (h : ∀ i ∈ ns, i.natAbs < 2 ^ 1000) (hn : ns.length ≤ n) : Sm (n * 1923 + 3) 1 (.tuple (ns.map PyData.int)) :=
  Sm.tup (c := 1921) (e := 0) (fun d hd => by
    obtain ⟨i, hi, rfl⟩ := List.mem_map.mp hd
    exact Sm.int (h i hi)) (by rw [List.length_map]; exact hn)
end Gn
set_option Elab.async false
set_option linter.all false
set_option maxRecDepth 100000
set_option maxHeartbeats 4000000
namespace Gn
open PySem PySem.Spec PyProof.Rows L2
/-- a conditional expression whose two ways give the same data -/
theorem tIf_dp {tt : TT} {ta tb : TE} {σ : L2.St} {H : Hp} {Q : VK} {K : PySem.W.Frag} {d : PyData} (c : Bool) (ht : ∀ R : Bool → Hp → Prop, R c H → tt σ H R)
    (h1 : c = true → ∀ R : VK, (∀ v H', Same H H' → Dp K H' v d → R v H') → ta σ H R) (h2 : c = false → ∀ R : VK, (∀ v H', Same H H' → Dp K H' v d → R v H') → tb σ H R)
    (k : ∀ v H', Same H H' → Dp K H' v d → Q v H') : tIf tt ta tb σ H Q := by
  refine ht _ ?_
  cases c with
  | true => exact iteT (h1 rfl Q k)
  | false => exact iteF (h2 rfl Q k)
/-- t[lo:hi], whether it is all of t or not -/
theorem slA_of {K : PySem.W.Frag} {a : Addr} {xs : List V} {lo hi : Option Int} {H : Hp} {Q : VK} (h : SqT K H a xs) (k : ∀ b H', Same H H' → SqT K H' b (cutV xs lo hi) → Q (.ref b) H') : rSlA K (.ref a) lo hi H Q := by
  refine ⟨a, xs, rfl, h, fun hw => k a H (Same.refl H) ?_, fun _ p hp => k p _ (same_put hp) (SqT.of upd_same)⟩
  have e : cutV xs lo hi = xs := by
    unfold cutV
    rw [hw.1, hw.2, List.drop_zero, Nat.sub_zero, List.take_length]
  rw [e]; exact h
/-- t + u, whether one of them is empty or not -/
theorem catA_of {K : PySem.W.Frag} {a b : Addr} {xs ys : List V} {H : Hp} {Q : VK} (h1 : SqT K H a xs) (h2 : SqT K H b ys) (hz : xs.length + ys.length ≤ sizeLine) (k : ∀ c H', Same H H' → SqT K H' c (xs ++ ys) → Q (.ref c) H') : rCatA K (.ref a) (.ref b) H Q := by
  refine ⟨a, b, xs, ys, rfl, rfl, h1, h2, hz, fun e => k b H (Same.refl H) ?_, fun _ e => k a H (Same.refl H) ?_, fun _ _ p hp => k p _ (same_put hp) (SqT.of upd_same)⟩
  · rw [e]; exact h2
  · rw [e, List.append_nil]; exact h1
theorem cut_one (xs : List V) : cutV xs none (some 1) = xs.take 1 := by
  unfold cutV
  rw [show HT.sIx xs.length 0 none = 0 from HT.sIx_none .., show HT.sIx xs.length xs.length (some 1) = min 1 xs.length from HT.sIx_nat xs.length xs.length 1, List.drop_zero, Nat.sub_zero]
  cases xs with
  | nil => rfl
  | cons x r => rw [show min 1 (x :: r).length = 1 by rw [List.length_cons]; omega]
/-- keywords of a def of the text -/
theorem kwOf1 {K : PySem.W.Frag} {x qual : Str} {st : Stmt} {f : Addr} {fd : FuncData} {p : Str} (F : Fun K x qual st f fd)
    (h : ∀ (kV doc pm : Value) (an : Option Addr) (cdv ct a : Value), bindArgs (PySem.W.fnOf x qual (defArgs st) (defBody st) (defScope st) .none kV doc pm an cdv ct) ⟨[], [(p, a)]⟩ = pure [(p, a)]) : KBinds K fd [p] [p] kw1 kw1 := by
  obtain ⟨oc, od, kV, doc, pm, an, cdv, ct, osl, rfl, lk, hcd⟩ := F.ex
  exact kb1 fun a => h kV doc pm an cdv ct a
theorem kwOf2 {K : PySem.W.Frag} {x qual : Str} {st : Stmt} {f : Addr} {fd : FuncData} {p q : Str} (F : Fun K x qual st f fd)
    (h : ∀ (kV doc pm : Value) (an : Option Addr) (cdv ct a b : Value), bindArgs (PySem.W.fnOf x qual (defArgs st) (defBody st) (defScope st) .none kV doc pm an cdv ct) ⟨[], [(p, a), (q, b)]⟩ = pure [(p, a), (q, b)]) : KBinds K fd [p, q] [p, q] kw2 kw2 := by
  obtain ⟨oc, od, kV, doc, pm, an, cdv, ct, osl, rfl, lk, hcd⟩ := F.ex
  exact kb2 fun a b => h kV doc pm an cdv ct a b
theorem kwOf2s {K : PySem.W.Frag} {x qual : Str} {st : Stmt} {f : Addr} {fd : FuncData} {p q : Str} (F : Fun K x qual st f fd)
    (h : ∀ (kV doc pm : Value) (an : Option Addr) (cdv ct a b : Value), bindArgs (PySem.W.fnOf x qual (defArgs st) (defBody st) (defScope st) .none kV doc pm an cdv ct) ⟨[], [(q, b), (p, a)]⟩ = pure [(p, a), (q, b)]) : KBinds K fd [p, q] [q, p] kw2s kw2s := by
  obtain ⟨oc, od, kV, doc, pm, an, cdv, ct, osl, rfl, lk, hcd⟩ := F.ex
  exact kb2s fun a b => h kV doc pm an cdv ct a b
end Gn
set_option Elab.async false
set_option linter.all false
set_option maxRecDepth 100000
set_option maxHeartbeats 4000000
namespace Gn
open PySem PySem.Spec PyProof.Rows L2
/-- for x in reversed(xs): what holds behind i turns -/
theorem for_rv {K : PySem.W.Frag} {a : Addr} {xs : List V} {g : TG} {tb : TS} {D : Ends} {σ : L2.St} {H : Hp} (Pv : Nat → L2.St → Hp → Prop) (h0 : Pv 0 σ H) (hl : ∀ i σ H, i ≤ xs.length → Pv i σ H → SqL K H a xs)
    (hs : ∀ i x σ H, i < xs.length → xs[xs.length - 1 - i]? = some x → Pv i σ H → g x σ H fun σ2 H2 => tb { D with nx := Pv (i + 1), ct := Pv (i + 1), bk := D.nx } σ2 H2) (hd : ∀ σ H, Pv xs.length σ H → D.nx σ H) :
    ∃ W : Nat → Nat → L2.St → Hp → Prop, (∃ m, W 0 m σ H) ∧ ∀ i m σ H, W i m σ H →
      ((Itv K a xs.length).stop i H ∧ D.nx σ H) ∨ ((Itv K a xs.length).go i H ∧ ∃ N : L2.St → Hp → Prop, (∀ σ' H', N σ' H' → ∃ m', m' < m ∧ W (i + 1) m' σ' H') ∧ ∀ x H', (Itv K a xs.length).yld i H x H' → g x σ H' fun σ2 H2 => tb { D with nx := N, ct := N, bk := D.nx } σ2 H2) := by
  refine ⟨fun i m σ H => m = xs.length - i ∧ i ≤ xs.length ∧ Pv i σ H, ⟨xs.length, by simp, Nat.zero_le _, h0⟩, fun i m σ H ⟨em, hi, p⟩ => ?_⟩
  subst em
  have q := hl i σ H hi p
  rcases Nat.lt_or_ge i xs.length with c | c
  · have c2 : xs.length - 1 - i < xs.length := by omega
    refine .inr ⟨⟨c, xs, xs[xs.length - 1 - i], q, List.getElem?_eq_getElem c2⟩, Pv (i + 1), fun σ' H' p' => ⟨xs.length - (i + 1), by omega, rfl, c, p'⟩, fun x H' y => ?_⟩
    obtain ⟨rfl, y⟩ := y
    exact hs i x σ _ c (y xs q) p
  · obtain rfl : i = xs.length := by omega
    exact .inl ⟨Nat.le_refl _, hd σ H p⟩
end Gn
namespace Gn
open PySem PySem.Spec PyProof.Rows L2
/-- a test and a second one, their answers as one -/
theorem and_join {c : Bool} {t : TT} {σ : L2.St} {H : Hp} {Q : Bool → Hp → Prop} (e : Bool) (h1 : c = true → ∀ R : Bool → Hp → Prop, R e H → t σ H R) (h2 : c = false → e = false) (k : Q e H) : if c = true then t σ H Q else Q false H := by
  cases c with
  | true => exact iteT (h1 rfl Q k)
  | false => rw [h2 rfl] at k; exact iteF k
end Gn
set_option Elab.async false
set_option linter.all false
set_option maxRecDepth 100000
set_option maxHeartbeats 4000000
/-! own exceptions over any built-in base: kept as values -/
namespace Gn
open PySem PySem.Spec PyProof.Rows L2
/-- own classes, then a tail -/
inductive Past (t : List Value) : List Value → Prop
  | base : Past t t
  | own {c : Addr} {r : List Value} : Past t r → Past t (.ref c :: r)
section
variable {t l : List Value}
theorem Past.has (h : Past t l) (n : String) : l.contains (.type n) = t.contains (.type n) := by
  induction h with
  | base => rfl
  | own _ ih =>
    rw [List.contains_cons, ih]
    rfl
theorem Past.pass (h : Past t l) {u : Value} {x : Str} (ht : refuseLoop u x t = pure ()) : refuseLoop u x l = pure () := by
  induction h with
  | base => exact ht
  | own _ ih => exact (refuseLoop_ref u x _ _).trans ih
end
/-- what is built in of a base class -/
structure Bas (B nw it : String) (t : List Value) : Prop where
  ex : ExcBaseFacts B nw it t
  st : StoreFacts B t "object.__setattr__" "object"
theorem basV : Bas "ValueError" "ValueError.__new__" "ValueError.__init__" [.type "ValueError", .type "Exception", .type "BaseException", .type "object"] := ⟨F.excBase_ValueError, F.store_ValueError⟩
theorem basL : Bas "LookupError" "LookupError.__new__" "LookupError.__init__" [.type "LookupError", .type "Exception", .type "BaseException", .type "object"] := ⟨F.excBase_LookupError, F.store_LookupError⟩
theorem basA : Bas "ArithmeticError" "ArithmeticError.__new__" "ArithmeticError.__init__" [.type "ArithmeticError", .type "Exception", .type "BaseException", .type "object"] := ⟨F.excBase_ArithmeticError, F.store_ArithmeticError⟩
/-- what the written part says of an own class over such a base -/
structure OwC (K : PySem.W.Frag) (C : Addr) : Prop where
  cls : ∃ (nm q : Str) (N : Addr) (bs bm : List Value) (sn : List Str) (sub : List Value) (ab : Bool) (col : Option Bool) (dd : Option Addr) (k0 k1 k2 k3 k5 : Option Value) (B nw it : String) (tl : List Value),
    K.lookup C = some (excClassObj nm q C N bs bm true sn sub ab col dd k0 k1 k2 k3 k5 nw) ∧ Past tl bm ∧ Bas B nw it tl
  sa : PySem.W.findIn K (.ref C) "__setattr__" = some (some (.builtin "object.__setattr__"))
  exC : PySem.W.subIn K (.ref C) (.type "BaseException") = some true
  tyC : PySem.W.typeIn K (.ref C) = some (.type "type")
  kC : PySem.W.keepIn K (.ref C) = true
section
open Builtin Builtin.ObjectAttr
variable {P : Program} {w : World} {A : Around} {R : Result → Shared → Prop} {hp : Heap} {g : Array GenState} {d : Drawn} {t : Nat} {os : OsState} {K : PySem.W.Frag}
  {f : Str} {tk : Tok} {v : Value} {x C dx : Addr} {fv : Array Value} {cd : ClassData} {m0 : Str → Option Value} {nl : List Str} {tl : List Value} {B nw it : String}
theorem hasO (T : Bas B nw it tl) : tl.contains (.type "object") = true := T.st.hasOwner
/-- x.f = v, x without a dict -/
theorem own_put (T : Bas B nw it tl) (KX : K.In hp) (ox : hp.get? x = some { cls := .ref C, data := .fields fv }) (oc : PySem.W.clsIn K C = some cd)
    (om : Past tl cd.mro) (od : cd.hasDict = true) (on : PySem.W.findIn K (.ref C) f = some none)
    (fin : ∀ h' k' dx, (∀ b o, b ≠ x → hp.get? b = some o → h'.get? b = some o) → hp.objs.size ≤ dx → dx ≠ x →
      h'.get? x = some { cls := .ref C, dict := some dx, data := .fields fv } → h'.Ns1 dx (fun y => if y = f then some v else none) → R (.ok (.ret .none)) ⟨h', g, d, k', os⟩) :
    codeAny (model P w) A (.call (.builtin "object.__setattr__") ⟨[.ref x, .str f tk, v], []⟩) R ⟨hp, g, d, t, os⟩ := by
  have J : PySem.W.InstAt hp x { cls := .ref C, data := .fields fv } C none := ⟨ox, rfl, rfl, trivial⟩
  have S0 := F.store_object
  have hob : cd.mro.contains (.type "object") = true := (om.has "object").trans (hasO T)
  have nem : cd.mro.isEmpty = false := by
    cases e : cd.mro with
    | nil =>
      rw [e] at hob
      cases hob
    | cons _ _ => rfl
  have xs : x ≠ hp.objs.size := Nat.ne_of_lt (Heap.lt_size ox)
  have isO : PySem.W.Looks (model P w) hp (isInstance (.ref x) (.type "object")) true := J.type.andThen (PySem.W.looks_mroIn KX (by
    unfold PySem.W.mroIn
    rw [oc, Option.bind_some, if_neg (by rw [nem]; decide), hob]))
  refine codeAny_call_builtin S0.slot.plain S0.entry (@PySem.W.check_slot (model P w) _ _ ⟨hp, g, d, t, os⟩ "object.__setattr__" "object" "__setattr__"
    (.ref x) [.str f tk, v] [] _ S0.kind S0.split isO (S0.args (.ref x) (.str f tk) v) ?_)
  have l1 : PySem.W.Looks (model P w) hp (mroOf (.ref C)) cd.mro := (PySem.W.looks_clsIn KX oc).andThen .now
  have l2 : PySem.W.Looks (model P w) hp (storeTaker? none) none := .now
  have l3 : PySem.W.Looks (model P w) hp (classData C) cd := PySem.W.looks_clsIn KX oc
  rw [PySem.W.osa_eq, refuse_eq]
  refine wpAny_bind (wpAny_bind (J.type.at (wpAny_bind (l1.at ?_))))
  rw [om.pass (T.st.passes _)]
  refine wpAny_pure (wpAny_bind (J.type.at (wpAny_bind ((PySem.W.looks_findIn KX on).at (wpAny_bind (l2.at ?_))))))
  show wpAny _ _ (storeInOwnDict (.ref x) (.ref C) (.str f tk) f v false) _ _ _
  obtain ⟨c1, c2, c3, c4, c5, c6, c7, c8, c9, c10, c11⟩ := cd
  dsimp only at od
  subst od
  unfold storeInOwnDict ownDictForStores
  repeat (first
    | with_reducible refine PySem.HandSPX.store_in_new ?_ ?_
    | with_reducible refine wpAny_loadPart_at ox ?_
    | with_reducible refine l3.at ?_
    | wp_step)
  · exact ⟨_, #[], _, (Heap.get?_update_ne _ _ _ _ xs.symm).trans (Heap.get?_push_at rfl rfl), rfl, fun e z => absurd z (by simp), fun _ => rfl⟩
  · intro h' k' hn hs
    have ox1 : (hp.push { cls := .type "dict", data := .dict #[] }).get? x = some { cls := .ref C, data := .fields fv } := Heap.get?_push_of_some _ ox
    refine fin h' k' hp.objs.size (fun b o hb q => ?_) (Nat.le_refl _) xs.symm ?_ hn
    · exact (hs.2 b (Nat.ne_of_lt (Heap.lt_size q))).trans ((Heap.get?_update_ne _ _ _ _ hb).trans (Heap.get?_push_of_some _ q))
    · exact (hs.2 x xs).trans (Heap.get?_update_self _ ox1 rfl)
/-- x.f = v, x with its dict -/
theorem own_put2 (T : Bas B nw it tl) (KX : K.In hp) (ox : hp.get? x = some { cls := .ref C, dict := some dx, data := .fields fv }) (hns : hp.Ns1 dx m0) (hw : Within m0 nl) (hz : nl.length ≤ 1000)
    (oc : PySem.W.clsIn K C = some cd) (om : Past tl cd.mro) (od : cd.hasDict = true) (on : PySem.W.findIn K (.ref C) f = some none)
    (fin : ∀ h' k', (∀ b o, b ≠ dx → hp.get? b = some o → h'.get? b = some o) → h'.Ns1 dx (fun y => if y = f then some v else m0 y) → R (.ok (.ret .none)) ⟨h', g, d, k', os⟩) :
    codeAny (model P w) A (.call (.builtin "object.__setattr__") ⟨[.ref x, .str f tk, v], []⟩) R ⟨hp, g, d, t, os⟩ := by
  obtain ⟨oD, _, _, qD, _, _⟩ := hns.count hw
  have J : PySem.W.InstAt hp x { cls := .ref C, dict := some dx, data := .fields fv } C (some oD) := ⟨ox, rfl, rfl, qD⟩
  have S0 := F.store_object
  have hob : cd.mro.contains (.type "object") = true := (om.has "object").trans (hasO T)
  have nem : cd.mro.isEmpty = false := by
    cases e : cd.mro with
    | nil =>
      rw [e] at hob
      cases hob
    | cons _ _ => rfl
  have isO : PySem.W.Looks (model P w) hp (isInstance (.ref x) (.type "object")) true := J.type.andThen (PySem.W.looks_mroIn KX (by
    unfold PySem.W.mroIn
    rw [oc, Option.bind_some, if_neg (by rw [nem]; decide), hob]))
  refine codeAny_call_builtin S0.slot.plain S0.entry (@PySem.W.check_slot (model P w) _ _ ⟨hp, g, d, t, os⟩ "object.__setattr__" "object" "__setattr__"
    (.ref x) [.str f tk, v] [] _ S0.kind S0.split isO (S0.args (.ref x) (.str f tk) v) ?_)
  have l1 : PySem.W.Looks (model P w) hp (mroOf (.ref C)) cd.mro := (PySem.W.looks_clsIn KX oc).andThen .now
  have l2 : PySem.W.Looks (model P w) hp (storeTaker? none) none := .now
  have l3 : PySem.W.Looks (model P w) hp (classData C) cd := PySem.W.looks_clsIn KX oc
  rw [PySem.W.osa_eq, refuse_eq]
  refine wpAny_bind (wpAny_bind (J.type.at (wpAny_bind (l1.at ?_))))
  rw [om.pass (T.st.passes _)]
  refine wpAny_pure (wpAny_bind (J.type.at (wpAny_bind ((PySem.W.looks_findIn KX on).at (wpAny_bind (l2.at ?_))))))
  show wpAny _ _ (storeInOwnDict (.ref x) (.ref C) (.str f tk) f v false) _ _ _
  obtain ⟨c1, c2, c3, c4, c5, c6, c7, c8, c9, c10, c11⟩ := cd
  dsimp only at od
  subst od
  unfold storeInOwnDict ownDictForStores
  repeat (first
    | with_reducible refine PySem.OEX.store_in_old hns hw hz ?_
    | with_reducible refine wpAny_loadPart_at ox ?_
    | with_reducible refine l3.at ?_
    | wp_step)
  intro h' k' hn hs
  exact fin h' k' (fun b o hb q => (hs.2 b hb).trans q) hn
end
end Gn
set_option Elab.async false
set_option linter.all false
set_option maxRecDepth 100000
set_option maxHeartbeats 4000000
namespace Gn
open PySem PySem.Spec PyProof.Rows L2
section
variable {X : Cx} {pins : List (Addr × Obj)} {σ : L2.St} {H : Hp} {s : Shared} {a C dx : Addr} {f : Str} {y : V} {u : Value} {fs : List (Str × V)} {Q : Unit → Shared → Prop} {E : Value → Shared → Prop} {A : Around}
theorem put_new (T : OwC X.K C) (I : Inv X pins σ H s) (ea : H a = some (exo a C none)) (on : PySem.W.findIn X.K (.ref C) f = some none) (ry : RelV y u)
    (fin : ∀ dx s', H dx = none → dx ≠ a → Inv X pins σ (upd (upd H dx (exd dx [(f, y)])) a (exo a C (some dx))) s' → Q () s') : wpAny (model X.prog X.w) A (setAttr (.ref a) f u) Q E s := by
  obtain ⟨nm, q, N, bs, bm, sn, sub, ab, col, dd, k0, k1, k2, k3, k5, B, nw, it, tl, lk, pt, TB⟩ := T.cls
  have oc : PySem.W.clsIn X.K C = some { name := nm, bases := bs, mro := .ref C :: bm, ns := N, qualname := q, hasDict := true, slotNames := sn, subclasses := sub, abstract := ab, collection := col, hasDel := false } := by
    unfold PySem.W.clsIn
    rw [lk] <;> rfl
  obtain ⟨t1, ho⟩ := exo_at I.hok ea
  obtain ⟨hp, g, d, t, os⟩ := s
  refine PySem.W.set_plain I.kIn (ox := { cls := .ref C, dict := none, data := .fields #[.ref t1, .none, .none, .none, .bool false, .none] }) (od := none) ⟨ho, rfl, rfl, trivial⟩ T.sa ?_
  refine own_put TB I.kIn ho oc (.own pt) rfl on fun h' t' dx kp dn dne hx hn => ?_
  have fd : H dx = none := I.hok.fresh dn
  have old : ∀ {b : Addr} {o : Obj}, hp.get? b = some o → b ≠ dx := fun {b o} z => Nat.ne_of_lt (Nat.lt_of_lt_of_le (Heap.lt_size z) dn)
  have noa : ∀ {b : Addr}, H b = none → b ≠ a := fun {b} n z => by
    rw [z, ea] at n
    cases n
  have U : Un X.fs [] H (upd (upd H dx (exd dx [(f, y)])) a (exo a C (some dx))) hp h' := {
    keep := fun b o z n _ _ => kp b o (noa n) z
    slot := fun b o z n _ _ => ⟨o.slots, kp b o (noa n) z⟩
    free := fun b o z n _ => by
      rw [upd_ne (noa n), upd_ne (old z)]
      exact n
    there := fun b o z _ => by
      by_cases hb : b = a
      · exact ⟨_, by rw [hb]; exact hx⟩
      · exact ⟨o, kp b o hb z⟩
    tups := fun b xs z => by
      rw [upd_ne (at_ne ea z exo_tup), upd_ne (ne_of_none z fd)]
      exact z
    frzs := fun b o v z => by
      rw [upd_ne (at_ne ea z exo_frz), upd_ne (ne_of_none z fd)]
      exact z
    tbls := fun b ps z => ⟨#[], by
      rw [upd_ne (at_ne ea z exo_tbl), upd_ne (ne_of_none z fd), z]
      simp⟩ }
  refine fin dx _ fd dne (I.un (t' := t') U fun b o z => ?_)
  by_cases ba : b = a
  · subst ba
    rw [upd_same] at z
    cases z
    exact exo_ok hx
  · rw [upd_ne ba] at z
    by_cases bd : b = dx
    · subst bd
      rw [upd_same] at z
      cases z
      exact exd_ok hn (relO_put (fs := []) ry fun g => True.intro)
    · rw [upd_ne bd] at z
      refine (I.hok b o z).stay (fun c v hc q => kp c v ?_ q) (fun c hc => ?_) fun c xs hc => ?_
      · rcases hc with hc | hc
        · rw [hc]
          exact ba
        · exact at_ne ea hc exo_own
      · rw [upd_ne (at_ne ea hc exo_own), upd_ne (ne_of_none hc fd)]
        exact hc
      · rw [upd_ne (at_ne ea hc exo_tup), upd_ne (ne_of_none hc fd)]
        exact hc
theorem put_old (T : OwC X.K C) (I : Inv X pins σ H s) (ea : H a = some (exo a C (some dx))) (ed : H dx = some (exd dx fs)) (hl : fs.length ≤ 900) (on : PySem.W.findIn X.K (.ref C) f = some none) (ry : RelV y u)
    (fin : ∀ s', Inv X pins σ (upd H dx (exd dx ((f, y) :: fs))) s' → Q () s') : wpAny (model X.prog X.w) A (setAttr (.ref a) f u) Q E s := by
  obtain ⟨nm, q, N, bs, bm, sn, sub, ab, col, dd, k0, k1, k2, k3, k5, B, nw, it, tl, lk, pt, TB⟩ := T.cls
  have oc : PySem.W.clsIn X.K C = some { name := nm, bases := bs, mro := .ref C :: bm, ns := N, qualname := q, hasDict := true, slotNames := sn, subclasses := sub, abstract := ab, collection := col, hasDel := false } := by
    unfold PySem.W.clsIn
    rw [lk] <;> rfl
  obtain ⟨t1, ho⟩ := exo_at I.hok ea
  obtain ⟨mA, hns, rel⟩ := exd_at I.hok ed
  have hw := within_of rel
  obtain ⟨hp, g, d, t, os⟩ := s
  obtain ⟨oD, _, _, qD, _, _⟩ := hns.count hw
  refine PySem.W.set_plain I.kIn (ox := { cls := .ref C, dict := some dx, data := .fields #[.ref t1, .none, .none, .none, .bool false, .none] }) (od := some oD) ⟨ho, rfl, rfl, qD⟩ T.sa ?_
  have small : (fs.map (·.1)).length ≤ 1000 := by
    rw [List.length_map]
    omega
  refine own_put2 TB I.kIn ho hns hw small oc (.own pt) rfl on fun h' t' kp hn => ?_
  have hd : ∃ o, h'.get? dx = some o := by
    obtain ⟨o, _, _, z, _⟩ := hn
    exact ⟨o, z⟩
  exact fin _ (I.write (t' := t') (x := dx) (e := dx) (o := exd dx ((f, y) :: fs)) (by rw [ed]; exact True.intro) (.inl rfl) kp hd (exd_ok hn (relO_put ry rel)))
end
/-- self.f = e -/
def tPut (K : PySem.W.Frag) (f : Str) (to te : TE) : TS := fun D σ H => te σ H fun y H1 => to σ H1 fun x H2 => ∃ a C : Addr, x = .ref a ∧ OwC K C ∧ PySem.W.findIn K (.ref C) f = some none ∧
  ((H2 a = some (exo a C none) ∧ ∀ d, H2 d = none → d ≠ a → D.nx σ (upd (upd H2 d (exd d [(f, y)])) a (exo a C (some d)))) ∨
    ∃ (d : Addr) (fs : List (Str × V)), H2 a = some (exo a C (some d)) ∧ H2 d = some (exd d fs) ∧ fs.length ≤ 900 ∧ D.nx σ (upd H2 d (exd d ((f, y) :: fs))))
/-- C(e, ..) kept -/
def tOwn (C : Addr) (sp : Sp) (dvs : List V) (ta : TA) : TE := fun σ H Q => ta σ H fun vs H1 => vs.length ≤ 1000 ∧ ∀ a, H1 a = none →
  sp (.ref a :: (vs ++ dvs)) (upd H1 a (exo a C none)) (fun v H2 => v = .non ∧ Q (.ref a) H2) (fun _ _ _ => False)
section
variable {X : Cx} {o e : Expr} {es : List Expr} {to te : TE} {ta : TA} {f : Str} {p p' pos : Pos}
theorem ps_put (ho : PE X o to) (he : PE X e te) (hs : swapsWith e (some (.Attribute o f p')) pos.line X.env = pure false := by rfl) : PS X (.Assign [.Attribute o f p'] e pos) (tPut X.K f to te) := by
  refine ⟨fun pins s σ H D I h => ?_⟩
  refine plainObj_wpAny_Assign_Attribute (thn (he.run pins s σ H _ I h) fun v s1 ⟨y, H1, I1, r1, q1⟩ => ?_) hs
  refine thn (ho.run pins s1 σ H1 _ I1 q1) fun u s2 ⟨x, H2, I2, r2, a, C, ex, T, on, q⟩ => ?_
  subst ex
  obtain rfl : u = Value.ref a := r2
  rcases q with ⟨ea, q⟩ | ⟨dx, fs, ea, ed, hl, q⟩
  · exact put_new T I2 ea on r1 fun dx s' n ne J => ⟨σ, _, J, q dx n ne⟩
  · exact put_old T I2 ea ed hl on r1 fun s' J => ⟨σ, _, J, q⟩
theorem own_made {CX : CXT} {C fI : Addr} {k : Nat} {fd : FuncData} {ps : List Str} {sp : Sp} {ds us : List Value} {dvs vs : List V} {pins : List (Addr × Obj)} {σ : L2.St} {H1 : Hp} {s1 : Shared} {Q : VK} (T : OwC X.K C)
    (iC : PySem.W.findIn X.K (.ref C) "__init__" = some (some (.ref fI))) (tI : PySem.W.typeIn X.K (.ref fI) = some (.type "function")) (F1 : FnOk X.prog X.w X.K X.mg X.base CX k fI fd ps sp) (hr : Room (k + 1) X.A) (hb : Binds X.K fd ps ds) (hd : Vals dvs ds)
    (hx : Passes CX X (fun _ _ _ => False)) (I1 : Inv X pins σ H1 s1) (r1 : Vals vs us) (q1 : ∀ a, H1 a = none → sp (.ref a :: (vs ++ dvs)) (upd H1 a (exo a C none)) (fun v H2 => v = .non ∧ Q (.ref a) H2) (fun _ _ _ => False)) (hz : vs.length ≤ 1000) :
    wpAny (model X.prog X.w) X.A (call (.ref C) us) (EP X pins σ Q) X.xe s1 := by
  obtain ⟨nm, q, N, bs, bm, sn, sub, ab, col, dd, k0, k1, k2, k3, k5, B, nw, it, tl, lk, pt, TB⟩ := T.cls
  obtain ⟨hp, g, dr, tk, os⟩ := s1
  have up : hp.objs.size ≤ hp.objs.size + 1 := Nat.le_succ _
  have hn : H1 (hp.objs.size + 1) = none := I1.hok.fresh up
  have hq := q1 (hp.objs.size + 1) hn
  have kk : ∀ b o, hp.get? b = some o → ((hp.push (PySem.W.kdv_tup us)).push (PySem.HandSPX.excO C hp.objs.size)).get? b = some o := fun b o z =>
    Heap.get?_push_of_some _ (Heap.get?_push_of_some _ z)
  have got : ((hp.push (PySem.W.kdv_tup us)).push (PySem.HandSPX.excO C hp.objs.size)).get? (hp.objs.size + 1) = some (PySem.HandSPX.excO C hp.objs.size) := by heap_get
  have I2 := I1.laid (t' := tk) (a := hp.objs.size + 1) (o := exo (hp.objs.size + 1) C none) kk up (exo_ok got)
  have r2 : Vals (V.ref (hp.objs.size + 1) :: (vs ++ dvs)) (Value.ref (hp.objs.size + 1) :: (us ++ ds)) := .cons rfl (r1.append hd)
  have hl : (Value.ref (hp.objs.size + 1) :: us ++ ds).length = ps.length := by
    have z := r2.length
    rw [F1.len _ _ _ _ hq] at z
    exact z.symm
  have few : us.length ≤ sizeLine := by
    rw [← Paired.length r1, sizeLine_eq]
    omega
  refine wpAny_call (PySem.HandSPX.call_own TB.ex (fun n => pt.has n) (I1.kIn _ _ lk) (PySem.W.looks_findIn I1.kIn iC) (fun me => PySem.W.bind_fn I1.kIn me tI) few (codeAny_mono
    (F1.run _ X.stack _ _ ⟨Value.ref (hp.objs.size + 1) :: us, []⟩ (Value.ref (hp.objs.size + 1) :: (us ++ ds)) _ _ (fun _ _ _ => False) (hr.make C us []) (I2.env0.make C us []) (hb _ (Value.ref (hp.objs.size + 1) :: us) I2.kIn hl) r2 hq) fun r s' z => ?_))
  cases r with
  | error er => exact hx pins σ _ _ er s' I2 z
  | ok fl =>
    cases fl with
    | ret u =>
      obtain ⟨v, H2, os2, bare2, un2, hok2, rv, ev, q2⟩ := z
      subst ev
      obtain ⟨h2, g2, d2, t2, os'⟩ := s'
      exact ⟨rv, .ref (hp.objs.size + 1), H2, I1.call' (ch := []) os2 ((Un.laid kk up hn).trans un2) hok2 bare2 (fun b y => absurd y (by simp)), rfl, q2⟩
    | next => exact False.elim z
    | brk => exact False.elim z
    | cont => exact False.elim z
theorem pe_own {CX : CXT} {x : Str} {C fI : Addr} {k : Nat} {fd : FuncData} {ps : List Str} {sp : Sp} {ds : List Value} {dvs : List V} (T : OwC X.K C) (iC : PySem.W.findIn X.K (.ref C) "__init__" = some (some (.ref fI)))
    (tI : PySem.W.typeIn X.K (.ref fI) = some (.type "function")) (F1 : FnOk X.prog X.w X.K X.mg X.base CX k fI fd ps sp) (hr : Room (k + 1) X.A) (hb : Binds X.K fd ps ds) (hd : Vals dvs ds) (hx : Passes CX X (fun _ _ _ => False)) (hg : Gl X x)
    (hm : X.mg x = some (.ref C)) (ha : PA X (e :: es) ta) (hdb : (x == ("__debug__" : Str)) = false := by decide) (he : starEach (e :: es) X.env = (false, eval e X.env) :: starEach es X.env := by rfl) (hpl : (backTo pos (starEach es X.env)).any (·.1) = false := by rfl) :
    PE X (.Call (.Name x p) (e :: es) [] pos) (tOwn C sp dvs ta) := ⟨fun pins s σ H Q I h =>
  wpAny_Call_Name_kw (ld_glob I hg hm (PySem.W.callWith_K (h₀ := X.base) I.ok.mod.kin T.kC (thn (ha.run pos pins s σ H _ I h) fun us s1 ⟨vs, H1, I1, r1, hz, q1⟩ => ⟨I1.kIn, own_made T iC tI F1 hr hb hd hx I1 r1 q1 hz⟩) he hpl) hdb)⟩
theorem pe_own0 {CX : CXT} {x : Str} {C fI : Addr} {k : Nat} {fd : FuncData} {ps : List Str} {sp : Sp} {ds : List Value} {dvs : List V} (T : OwC X.K C) (iC : PySem.W.findIn X.K (.ref C) "__init__" = some (some (.ref fI)))
    (tI : PySem.W.typeIn X.K (.ref fI) = some (.type "function")) (F1 : FnOk X.prog X.w X.K X.mg X.base CX k fI fd ps sp) (hr : Room (k + 1) X.A) (hb : Binds X.K fd ps ds) (hd : Vals dvs ds) (hx : Passes CX X (fun _ _ _ => False)) (hg : Gl X x)
    (hm : X.mg x = some (.ref C)) (hdb : (x == ("__debug__" : Str)) = false := by decide) : PE X (.Call (.Name x p) [] [] pos) (tOwn C sp dvs tNil) := ⟨fun pins s σ H Q I h =>
  wpAny_Call_Name_kw (ld_glob I hg hm (PySem.W.callWith_K0 I.kIn T.kC (own_made (us := []) (vs := []) T iC tI F1 hr hb hd hx I .nil h.2 h.1)) hdb)⟩
end
end Gn
set_option Elab.async false
set_option linter.all false
set_option maxRecDepth 100000
set_option maxHeartbeats 4000000
namespace Gn
open PySem PySem.Spec PyProof.Rows L2
section
variable {X : Cx} {e : Expr} {es : List Expr} {ta : TA} {p pos : Pos}
/-- the exception without a dict is let go -/
theorem bare_gone {pins : List (Addr × Obj)} {σ : L2.St} {H1 H2 : Hp} {Q : XK} {hp hp2 h2 : Heap} {g1 g2 : Array GenState} {d1 d2 : Drawn} {t1 t2 : Nat} {os1 os2 : OsState} {a C : Addr} (T : Raises X (.ref C)) (I1 : Inv X pins σ H1 ⟨hp, g1, d1, t1, os1⟩)
    (ha : hp.objs.size ≤ a) (kp : ∀ b o, hp.get? b = some o → hp2.get? b = some o) (un : Un (frs X.stack) [] (upd H1 a (exo a C none)) H2 hp2 h2) (hok : HOk X.prog X.w H2 h2) (ho : os2 = os1) (hb : AllBare g2)
    (ea : H2 a = some (exo a C none)) (q : Q (.ref C) none (del H2 a)) : MkP X pins σ Q (.ref a) ⟨h2, g2, d2, t2, os2⟩ := by
  obtain ⟨t0, hoe⟩ := exo_at hok ea
  have hn : H1 a = none := I1.hok.fresh ha
  obtain ⟨G, y1, y2⟩ := restrict h2 fun b => decide (b ≠ a)
  have gk : ∀ b, b ≠ a → G.get? b = h2.get? b := fun b z => y1 b (decide_eq_true z)
  have ge : G.get? a = none := y2 a (by simp)
  have old : ∀ {b : Addr} {o : Obj}, hp.get? b = some o → b ≠ a := fun {b o} z => Nat.ne_of_lt (Nat.lt_of_lt_of_le (Heap.lt_size z) ha)
  have fr : ∀ {b : Addr}, b ≠ a → H1 b = none → upd H1 a (exo a C none) b = none := fun {b} z n => (upd_ne z).trans n
  have U : Un (frs X.stack) [] H1 (del H2 a) hp G := {
    keep := fun b o z n hf hx => (gk b (old z)).trans (un.keep b o (kp b o z) (fr (old z) n) hf hx)
    slot := fun b o z n hf hx => by
      rw [gk b (old z)]
      exact un.slot b o (kp b o z) (fr (old z) n) hf hx
    free := fun b o z n hx => (del_ne (old z)).trans (un.free b o (kp b o z) (fr (old z) n) hx)
    there := fun b o z hx => by
      rw [gk b (old z)]
      exact un.there b o (kp b o z) hx
    tups := fun b xs z => (del_ne (ne_of_none z hn)).trans (un.tups b xs ((upd_ne (ne_of_none z hn)).trans z))
    frzs := fun b o v z => (del_ne (ne_of_none z hn)).trans (un.frzs b o v ((upd_ne (ne_of_none z hn)).trans z))
    tbls := fun b ps z => by
      rw [del_ne (ne_of_none z hn)]
      exact un.tbls b ps ((upd_ne (ne_of_none z hn)).trans z) }
  have hok3 : HOk X.prog X.w (del H2 a) G := fun b o z => by
    have ba : b ≠ a := fun e => by
      rw [e, del_same] at z
      cases z
    rw [del_ne ba] at z
    have noa : ∀ {c : Addr}, H2 c = some (.own b) → c ≠ a := fun {c} hc => at_ne ea hc exo_own
    refine (hok b o z).stay (fun c v hc y => ?_) (fun c hc => (del_ne (noa hc)).trans hc) fun c xs hc => (del_ne (at_ne ea hc exo_tup)).trans hc
    have ca : c ≠ a := by
      rcases hc with hc | hc
      · rw [hc]
        exact ba
      · exact noa hc
    exact (gk c ca).trans y
  have J : Inv X pins σ (del H2 a) ⟨G, g2, d2, t2, os2⟩ := I1.call' (ch := []) ho U hok3 hb (fun b z => absurd z (by simp))
  refine ⟨a, _, _, ⟨G, g2, d2, t2, os2⟩, _, .ref C, none, rfl, J, fun b o z => ?_, ge, hoe, ⟨rfl, rfl⟩, rfl, rfl, del_same, rfl, hb, T, q⟩
  by_cases ba : b = a
  · rw [ba, ge] at z
    cases z
  · exact (gk b ba).symm.trans z
/-- C(e, ..) raised -/
def tThr (C : Addr) (sp : Sp) (dvs : List V) (ta : TA) : L2.St → Hp → XK → Prop := fun σ H Q => ta σ H fun vs H1 => vs.length ≤ 1000 ∧ ∀ a, H1 a = none →
  sp (.ref a :: (vs ++ dvs)) (upd H1 a (exo a C none)) (fun v H2 => v = .non ∧
    ((∃ (d : Addr) (fs : List (Str × V)), H2 a = some (exo a C (some d)) ∧ H2 d = some (exd d fs) ∧ H1 d = none ∧ Q (.ref C) (some d) (upd (del H2 a) d (.xd fs))) ∨ (H2 a = some (exo a C none) ∧ Q (.ref C) none (del H2 a)))) (fun _ _ _ => False)
theorem own_thrown {CX : CXT} {C fI : Addr} {k : Nat} {fd : FuncData} {ps : List Str} {sp : Sp} {ds us : List Value} {dvs vs : List V} {pins : List (Addr × Obj)} {σ : L2.St} {H1 : Hp} {s1 : Shared} {Q : XK} (T : OwC X.K C)
    (iC : PySem.W.findIn X.K (.ref C) "__init__" = some (some (.ref fI))) (tI : PySem.W.typeIn X.K (.ref fI) = some (.type "function")) (F1 : FnOk X.prog X.w X.K X.mg X.base CX k fI fd ps sp) (hr : Room (k + 1) X.A) (hb : Binds X.K fd ps ds) (hd : Vals dvs ds)
    (hx : Passes CX X (fun _ _ _ => False)) (I1 : Inv X pins σ H1 s1) (r1 : Vals vs us) (hz : vs.length ≤ 1000)
    (q1 : ∀ a, H1 a = none → sp (.ref a :: (vs ++ dvs)) (upd H1 a (exo a C none)) (fun v H2 => v = .non ∧
      ((∃ (d : Addr) (fs : List (Str × V)), H2 a = some (exo a C (some d)) ∧ H2 d = some (exd d fs) ∧ H1 d = none ∧ Q (.ref C) (some d) (upd (del H2 a) d (.xd fs))) ∨ (H2 a = some (exo a C none) ∧ Q (.ref C) none (del H2 a)))) (fun _ _ _ => False)) :
    wpAny (model X.prog X.w) X.A (call (.ref C) us) (MkP X pins σ Q) X.xe s1 := by
  obtain ⟨nm, q, N, bs, bm, sn, sub, ab, col, dd, k0, k1, k2, k3, k5, B, nw, it, tl, lk, pt, TB⟩ := T.cls
  obtain ⟨hp, g, dr, tk, os⟩ := s1
  have up : hp.objs.size ≤ hp.objs.size + 1 := Nat.le_succ _
  have hn : H1 (hp.objs.size + 1) = none := I1.hok.fresh up
  have hq := q1 (hp.objs.size + 1) hn
  have kk : ∀ b o, hp.get? b = some o → ((hp.push (PySem.W.kdv_tup us)).push (PySem.HandSPX.excO C hp.objs.size)).get? b = some o := fun b o z =>
    Heap.get?_push_of_some _ (Heap.get?_push_of_some _ z)
  have got : ((hp.push (PySem.W.kdv_tup us)).push (PySem.HandSPX.excO C hp.objs.size)).get? (hp.objs.size + 1) = some (PySem.HandSPX.excO C hp.objs.size) := by heap_get
  have I2 := I1.laid (t' := tk) (a := hp.objs.size + 1) (o := exo (hp.objs.size + 1) C none) kk up (exo_ok got)
  have r2 : Vals (V.ref (hp.objs.size + 1) :: (vs ++ dvs)) (Value.ref (hp.objs.size + 1) :: (us ++ ds)) := .cons rfl (r1.append hd)
  have hl : (Value.ref (hp.objs.size + 1) :: us ++ ds).length = ps.length := by
    have z := r2.length
    rw [F1.len _ _ _ _ hq] at z
    exact z.symm
  have few : us.length ≤ sizeLine := by
    rw [← Paired.length r1, sizeLine_eq]
    omega
  refine wpAny_call (PySem.HandSPX.call_own TB.ex (fun n => pt.has n) (I1.kIn _ _ lk) (PySem.W.looks_findIn I1.kIn iC) (fun me => PySem.W.bind_fn I1.kIn me tI) few (codeAny_mono
    (F1.run _ X.stack _ _ ⟨Value.ref (hp.objs.size + 1) :: us, []⟩ (Value.ref (hp.objs.size + 1) :: (us ++ ds)) _ _ (fun _ _ _ => False) (hr.make C us []) (I2.env0.make C us []) (hb _ (Value.ref (hp.objs.size + 1) :: us) I2.kIn hl) r2 hq) fun r s' z => ?_))
  cases r with
  | error er => exact hx pins σ _ _ er s' I2 z
  | ok fl =>
    cases fl with
    | ret u =>
      obtain ⟨v, H2, os2, bare2, un2, hok2, rv, ev, z2⟩ := z
      subst ev
      obtain ⟨h2, g2, d2, t2, os'⟩ := s'
      rcases z2 with ⟨dq, fs, ea, ed, hd1, q2⟩ | ⟨ea, q2⟩
      · exact ⟨rv, mk_end (raises_own T.exC T.tyC) I1 up kk un2 hok2 os2 bare2 ea ed hd1 q2⟩
      · exact ⟨rv, bare_gone (raises_own T.exC T.tyC) I1 up kk un2 hok2 os2 bare2 ea q2⟩
    | next => exact False.elim z
    | brk => exact False.elim z
    | cont => exact False.elim z
/-- raise C(e, ..) -/
theorem pmk_exo {CX : CXT} {x : Str} {C fI : Addr} {k : Nat} {fd : FuncData} {ps : List Str} {sp : Sp} {ds : List Value} {dvs : List V} (T : OwC X.K C) (iC : PySem.W.findIn X.K (.ref C) "__init__" = some (some (.ref fI)))
    (tI : PySem.W.typeIn X.K (.ref fI) = some (.type "function")) (F1 : FnOk X.prog X.w X.K X.mg X.base CX k fI fd ps sp) (hr : Room (k + 1) X.A) (hb : Binds X.K fd ps ds) (hd : Vals dvs ds) (hx : Passes CX X (fun _ _ _ => False)) (hg : Gl X x)
    (hm : X.mg x = some (.ref C)) (ha : PA X (e :: es) ta) (hdb : (x == ("__debug__" : Str)) = false := by decide) (he : starEach (e :: es) X.env = (false, eval e X.env) :: starEach es X.env := by rfl) (hpl : (backTo pos (starEach es X.env)).any (·.1) = false := by rfl) :
    PMk X (.Call (.Name x p) (e :: es) [] pos) (tThr C sp dvs ta) := fun pins s σ H Q I h =>
  wpAny_Call_Name_kw (ld_glob I hg hm (PySem.W.callWith_K (h₀ := X.base) I.ok.mod.kin T.kC (thn (ha.run pos pins s σ H _ I h) fun us s1 ⟨vs, H1, I1, r1, hz, q1⟩ => ⟨I1.kIn, own_thrown T iC tI F1 hr hb hd hx I1 r1 hz q1⟩) he hpl) hdb)
/-- raise C() -/
theorem pmk_exo0 {CX : CXT} {x : Str} {C fI : Addr} {k : Nat} {fd : FuncData} {ps : List Str} {sp : Sp} {ds : List Value} {dvs : List V} (T : OwC X.K C) (iC : PySem.W.findIn X.K (.ref C) "__init__" = some (some (.ref fI)))
    (tI : PySem.W.typeIn X.K (.ref fI) = some (.type "function")) (F1 : FnOk X.prog X.w X.K X.mg X.base CX k fI fd ps sp) (hr : Room (k + 1) X.A) (hb : Binds X.K fd ps ds) (hd : Vals dvs ds) (hx : Passes CX X (fun _ _ _ => False)) (hg : Gl X x)
    (hm : X.mg x = some (.ref C)) (hdb : (x == ("__debug__" : Str)) = false := by decide) : PMk X (.Call (.Name x p) [] [] pos) (tThr C sp dvs tNil) := fun pins s σ H Q I h =>
  wpAny_Call_Name_kw (ld_glob I hg hm (PySem.W.callWith_K0 I.kIn T.kC (own_thrown (us := []) (vs := []) T iC tI F1 hr hb hd hx I .nil h.1 h.2)) hdb)
end
/-! ### such a value: its fields, and of which classes it is -/
/-- e.f -/
def tFld (K : PySem.W.Frag) (f : Str) (te : TE) : TE := fun σ H Q => te σ H fun x H1 => ∃ (a C d : Addr) (fs : List (Str × V)) (v : V), x = .ref a ∧ H1 a = some (exo a C (some d)) ∧ H1 d = some (exd d fs) ∧ XfC K C ∧ PySem.W.findIn K (.ref C) f = some none ∧ fs.lookup f = some v ∧ Q v H1
theorem inst_at {X : Cx} {pins : List (Addr × Obj)} {σ : L2.St} {H : Hp} {s : Shared} {a C d : Addr} (I : Inv X pins σ H s) (ea : H a = some (exo a C (some d))) {fs : List (Str × V)} (ed : H d = some (exd d fs)) :
    ∃ (ox od : Obj), PySem.W.InstAt s.heap a ox C (some od) ∧ ∀ n, ∃ o, PySem.W.lookIn n od = some o ∧ RelO (fs.lookup n) o := by
  obtain ⟨t1, ho⟩ := exo_at I.hok ea
  obtain ⟨mA, hns, rel⟩ := exd_at I.hok ed
  obtain ⟨od, hd, hl⟩ := lookIn_ns hns
  exact ⟨_, od, ⟨ho, rfl, rfl, hd⟩, fun n => ⟨_, hl n, rel n⟩⟩
theorem pe_fld {X : Cx} {e : Expr} {te : TE} {pos : Pos} {f : Str} (he : PE X e te) (hb : attributeBase e f X.env (eval e X.env) = eval e X.env := by rfl) : PE X (.Attribute e f pos) (tFld X.K f te) := by
  refine ⟨fun pins s σ H Q I h => ?_⟩
  refine attr_of hb (thn (he.run pins s σ H _ I h) fun u s1 ⟨x, H1, I1, rx, a, C, d, fs, v, ex, ea, ed, T, on, lf, q⟩ => ?_)
  subst ex
  obtain rfl : u = Value.ref a := rx
  obtain ⟨ox, od, J, rel⟩ := inst_at I1 ea ed
  obtain ⟨o1, l1, r1⟩ := rel f
  obtain ⟨y, hy, ry⟩ := RelO.some_of (v := v) (o := o1) (by rw [← lf]; exact r1)
  subst hy
  exact HandSPX.exc_get I1.kIn J T.ga T.gg T.exC (PySem.W.findObj_own T.hdC on rfl l1) (handed_of ry) ⟨v, H1, I1.tok _, ry, q⟩
end Gn
set_option Elab.async false
set_option linter.all false
set_option maxRecDepth 100000
set_option maxHeartbeats 4000000
/-! isinstance of such a value, with a dict or none -/
namespace PySem.W
open PySem PySem.Spec PySem.Calls PyProof.Rows
section
variable {P : Program} {w : World} {A : Around} {E : Value → Shared → Prop} {s : Shared} {K : Frag} {x D : Addr} {ox : Obj} {od : Option Obj}
theorem gn_found {C : Addr} {n : Str} {a g : Value} (hc : (clsIn K C).isSome = true) (ha : findIn K (.ref C) n = some (some a)) (hg : specialIn K a "__get__" = some (some g)) (ht : takesIn K a = some true) : findObj K C od n = some (.bind g a) := by
  obtain ⟨cd, hc⟩ := Option.isSome_iff_exists.mp hc
  unfold findObj
  simp [hc, ha, hg, ht]
theorem gn_class {Q : Option Value → Shared → Prop} (C : L2.ExcC K D) (X : K.In s.heap) (I : InstAt s.heap x ox D od) (h : Q (some (.ref D)) { s with toks := s.toks + 1 }) : wpAny (model P w) A (getAttr? (.ref x) "__class__") Q E s := by
  obtain ⟨hga, hgt, hsub, hdct, ha, hn, htk, hm⟩ := C
  have fd : findObj K D od "__class__" = some (.bind (.builtin "getset_descriptor.__get__") (.builtin "object.__class__")) :=
    gn_found (by
      obtain ⟨cd, z, _⟩ := any_some hdct
      rw [z]
      rfl) ha hn htk
  obtain ⟨hp, g, d, t, os⟩ := s
  have T0 := I.type (M := model P w)
  have T1 := looks_findIn (M := model P w) X hga
  have T2 := looks_findIn (M := model P w) X hgt
  have T3 := looks_find (M := model P w) X I fd
  have isB : Looks (model P w) hp (isInstance (.ref x) (.type "BaseException")) true := T0.andThen (looks_subIn X hsub)
  have n0 : (false && onTheHeap (Value.builtin "BaseException.__getattribute__")) = false := rfl
  have n2 : (Value.builtin "BaseException.__getattribute__" == Value.builtin "object.__getattribute__") = false := by decide +kernel
  have n1 : (onTheHeap (Value.ref D) && Value.builtin "BaseException.__getattribute__" == Value.builtin "object.__getattribute__") = false := by
    rw [n2]
    rfl
  unfold getAttr? getAttrBy? getAttrBy
  refine wpAny_bind (wpAny_mkText (wpAny_bind (wpAny_attempt (wpAny_holding (wpAny_bind (T0.at (wpAny_bind (T1.at ?_))))))))
  show wpAny _ _ (if (onTheHeap (Value.ref D) && Value.builtin "BaseException.__getattribute__" == Value.builtin "object.__getattribute__") = true then _ else _) _ _ _
  rw [n1, if_neg Bool.false_ne_true]
  unfold getAttrByItsOwn hookBefore
  refine wpAny_bind ?_
  rw [if_pos (show onTheHeap (Value.ref D) = true from rfl)]
  refine T2.at ?_
  refine wpAny_bind (wpAny_attempt (wpAny_holding ?_))
  unfold callGetattribute
  rw [n0, if_neg Bool.false_ne_true]
  unfold boundAndCalled
  rw [PySem.F.excAttr_ValueError.ga.bind (.ref x)]
  refine wpAny_bind (wpAny_pure ?_)
  show wpAny _ _ (call (.builtin "BaseException.__getattribute__") [.ref x, .str "__class__" t]) _ _ _
  refine wpAny_call (codeAny_call_builtin PySem.F.excAttr_ValueError.ga.plain PySem.F.entry_bexc_ga ?_)
  refine @check_slot (model P w) _ _ ⟨hp, g, d, t + 1, os⟩ "BaseException.__getattribute__" "BaseException" "__getattribute__" (.ref x)
    [.str "__class__" t] [] _ (by decide +kernel) (by decide +kernel) isB (PySem.F.args_bexc_ga (.ref x) (.str "__class__" t)) ?_
  unfold Builtin.«object.__getattribute__»
  refine wpAny_bind (wpAny_of_eq (a := ((Value.ref x : Value), [Value.str "__class__" t])) (by first
    | rfl
    | (simp only [slotArgs]; rfl)) ?_)
  refine wpAny_bind (wpAny_pure (wpAny_bind (T0.at (wpAny_bind (T3.at ?_)))))
  show wpAny _ _ (holding [Value.builtin "object.__class__"] (call (.builtin "getset_descriptor.__get__") [.builtin "object.__class__", .ref x, .ref D]) >>= ret) _ _ _
  refine wpAny_bind (wpAny_holding (wpAny_call (class_get (s := ⟨hp, g, d, t + 1, os⟩) (ox := ox) (od := od) X I hm ?_)))
  refine wpAny_pure ?_
  show wpAny _ _ (handedOut (.ref D)) _ _ _
  rw [handedOut_of (v := .ref D) rfl]
  first
    | exact wpAny_pure (wpAny_pure h)
    | exact wpAny_pure h
    | exact wpAny_pure (wpAny_bind (wpAny_pure (wpAny_pure h)))
theorem gn_kit (C : L2.ExcC K D) : KitX K (.ref x) (.ref D) (fun h => ∃ ox od, InstAt h x ox D od) where
  ty := fun _ _ _ ⟨_, _, I⟩ => I.type
  it := fun _ _ X _ => by
    obtain ⟨cdD, z, _⟩ := any_some C.hd
    unfold clsIn at z
    split at z
    · rename_i c' d' cd' sl' ho
      intro A' Q' E' s' k q
      unfold isType loadHead
      exact wpAny_bind (wpAny_loadPart (k _ _ (X _ _ ho)) (wpAny_pure q))
    · cases z
  ne := fun h tp dd its n sl X htp => by
    obtain ⟨cdD, z, _⟩ := any_some C.hd
    refine Bool.eq_false_iff.mpr fun q => ?_
    have e : D = tp := Value.ref.inj (beq_iff_eq.mp q)
    subst e
    unfold clsIn at z
    split at z
    · rename_i c' d' cd' sl' ho
      have y := (X _ _ ho).symm.trans htp
      cases y
    · cases z
  ca := fun X ⟨_, _, I⟩ k => gn_class C X I k
end
end PySem.W
namespace Gn
open PySem PySem.Spec PyProof.Rows L2
theorem inst_any {X : Cx} {pins : List (Addr × Obj)} {σ : L2.St} {H : Hp} {s : Shared} {a C : Addr} {d : Option Addr} (I : Inv X pins σ H s) (ea : H a = some (exo a C d)) (hd : ∀ y, d = some y → ∃ fs, H y = some (exd y fs)) :
    ∃ ox od, PySem.W.InstAt s.heap a ox C od := by
  cases d with
  | none =>
    obtain ⟨t1, ho⟩ := exo_at I.hok ea
    exact ⟨_, none, ho, rfl, rfl, trivial⟩
  | some y =>
    obtain ⟨fs, ed⟩ := hd y rfl
    obtain ⟨ox, od, J, _⟩ := inst_at I ea ed
    exact ⟨ox, _, J⟩
/-- isinstance(e, c), e an own exception that is kept -/
def rIsO (K : PySem.W.Frag) : List V → Hp → VK → Prop := fun xs H Q => ∃ (a D : Addr) (d : Option Addr) (c : V) (cv : Value) (b : Bool), xs = [.ref a, c] ∧ ExcC K D ∧ H a = some (exo a D d) ∧ (∀ y, d = some y → ∃ fs, H y = some (exd y fs)) ∧
  (∀ u, RelV c u → u = cv) ∧ PySem.W.kitOne K (.ref D) cv = some b ∧ Q (.bl b) H
theorem cr_isO {X : Cx} : CallR X (.builtin "isinstance") (rIsO X.K) := by
  intro pins s σ H xs us Q I r h
  obtain ⟨a, D, d, c, cv, b, rfl, C, ea, hd, hcv, e, q⟩ := h
  cases r with
  | cons rx rr =>
    cases rr with
    | cons rt rr =>
      cases rr
      cases rx
      have ec := hcv _ rt
      subst ec
      exact PySem.W.kia_one (PySem.W.gn_kit C) I.kIn (inst_any I ea hd) e (fun z => nomatch z) fun tk => ⟨.bl b, H, I.kept (t' := tk) fun _ _ z => z, rfl, q⟩
/-- isinstance(e, c), e the exception that the suite holds, with a dict or none -/
def rIsH (K : PySem.W.Frag) (D a : Addr) (d : Option Addr) : List V → Hp → VK → Prop := fun xs H Q => ∃ (c : V) (cv : Value) (b : Bool), xs = [.ref a, c] ∧ (∀ y, d = some y → ∃ fs, H y = some (.xd fs)) ∧ (∀ u, RelV c u → u = cv) ∧ PySem.W.kitOne K (.ref D) cv = some b ∧ Q (.bl b) H
theorem cr_isH {X : Cx} {a D : Addr} {d : Option Addr} {oe : Obj} {pn : List (Addr × Obj)} (C : ExcC X.K D) (hz : Zc (.ref D) d oe) (hf : ∃ vs, oe.data = .fields vs) : CallR (X.suite a ((a, oe) :: pn)) (.builtin "isinstance") (rIsH X.K D a d) := by
  intro pins s σ H xs us Q I r h
  obtain ⟨c, cv, b, rfl, hd, hcv, e, q⟩ := h
  cases r with
  | cons rx rr =>
    cases rr with
    | cons rt rr =>
      cases rr
      cases rx
      have ec := hcv _ rt
      subst ec
      obtain ⟨at0, _⟩ := I.pin (a, oe) (List.mem_append.mpr (.inl List.mem_cons_self))
      obtain ⟨vs, hv⟩ := hf
      have J : ∃ ox od, PySem.W.InstAt s.heap a ox D od := by
        obtain ⟨oc, dd, oda, osl⟩ := oe
        obtain ⟨h1, h2⟩ := hz
        dsimp only at h1 h2 hv
        subst h1 h2 hv
        cases dd with
        | none => exact ⟨_, none, at0, rfl, rfl, trivial⟩
        | some y =>
          obtain ⟨fs, ed⟩ := hd y rfl
          obtain ⟨mA, hns, _⟩ := (show ObjOk X.prog X.w H s.heap y (.xd fs) from I.hok y _ ed)
          obtain ⟨od, ho, _⟩ := lookIn_ns hns
          exact ⟨_, some od, at0, rfl, rfl, ho⟩
      exact PySem.W.kia_one (PySem.W.gn_kit C) I.kIn J e (fun z => nomatch z) fun tk => ⟨.bl b, H, I.kept (t' := tk) fun _ _ z => z, rfl, q⟩
end Gn
set_option Elab.async false
set_option linter.all false
set_option maxRecDepth 100000
set_option maxHeartbeats 4000000
/-! the same made by keywords -/
namespace Gn
open PySem PySem.Spec PyProof.Rows L2
section
variable {M : Model} {A : Around} {E : Value → Shared → Prop} {h : Heap} {g : Array GenState} {d : Drawn} {t : Nat} {os : OsState}
variable {nm q : Str} {C N : Addr} {bs bm tl : List Value} {hd : Bool} {sn : List Str} {sub : List Value} {ab : Bool} {col : Option Bool} {dd : Option Addr} {k0 k1 k2 k3 k5 : Option Value} {B nw it : String} {rest : List Value} {kw : List (Str × Value)}
theorem kw_new_check (T : ExcBaseFacts B nw it tl) (pt : ∀ n : String, bm.contains (.type n) = tl.contains (.type n)) {Q : Unit → Shared → Prop}
    (lk : h.get? C = some (excClassObj nm q C N bs bm hd sn sub ab col dd k0 k1 k2 k3 k5 nw)) (fin : Q () ⟨h, g, d, t, os⟩) : wpAny M A (checkBuiltinCall nw ⟨.ref C :: rest, kw⟩) Q E ⟨h, g, d, t, os⟩ := by
  have inB : (Value.ref C :: bm).contains (.type B) = true := by
    rw [List.contains_cons, pt, T.hasB, Bool.or_true]
  have ns := T.noStar
  simp only [checkBuiltinCall, T.newKind, T.newSplit, T.newRow]
  repeat (first
    | refine wpAny_loadPart_at lk ?_
    | (refine wpAny_isSubtype_exc lk ?_; rw [inB])
    | refine wpAny_staticBase_exc lk ?_
    | refine wpAny_madeBy_exc lk ?_
    | simp only [bne_self_eq_false, Bool.false_eq_true, if_false]
    | wp_step)
  exact fin
end
section
variable {P : Program} {w : World} {A : Around} {E : Value → Shared → Prop} {R : Result → Shared → Prop} {h : Heap} {g : Array GenState} {d : Drawn} {t : Nat} {os : OsState}
variable {nm q : Str} {C N : Addr} {bs bm tl : List Value} {hd : Bool} {sn : List Str} {sub : List Value} {ab : Bool} {col : Option Bool} {dd : Option Addr} {k0 k1 k2 k3 k5 : Option Value} {B nw it : String} {rest : List Value} {kw : List (Str × Value)} {fI : Addr}
theorem kw_new (T : ExcBaseFacts B nw it tl) (pt : ∀ n : String, bm.contains (.type n) = tl.contains (.type n)) (lk : h.get? C = some (excClassObj nm q C N bs bm hd sn sub ab col dd k0 k1 k2 k3 k5 nw))
    (fin : R (.ok (.ret (.ref (h.objs.size + 1)))) ⟨(h.push (PySem.W.kdv_tup rest)).push (PySem.HandSPX.excO C h.objs.size), g, d, t, os⟩) (few : rest.length ≤ sizeLine) : codeAny (model P w) A (.builtin nw ⟨.ref C :: rest, kw⟩) R ⟨h, g, d, t, os⟩ := by
  have y0 := T.ends
  have y1 : (Value.ref C :: bm).contains (.type B) = true := by
    rw [List.contains_cons, pt, T.hasB, Bool.or_true]
  have y2 : (Value.ref C :: bm).contains (.type "AttributeError") = false := by
    rw [List.contains_cons, pt, T.noAttr]
    rfl
  have y3 : (Value.ref C :: bm).contains (.type "NameError") = false := by
    rw [List.contains_cons, pt, T.noName]
    rfl
  refine codeAny_builtinAt T.entry ?_
  unfold Builtin.«BaseException.__new__»
  refine PySem.wpAt_bind ?_
  show PySem.wpAt _ _ _ (stack >>= _) _ _ _
  refine PySem.wpAt_bind (PySem.wpAt_stack fun p below => PySem.wpAt_of_wpAny ?_)
  wp_walk
  refine PySem.wpAt_of_wpAny ?_
  rw [T.owner]
  repeat (first
    | with_reducible refine wpAny_madeHere_exc T.canon lk ?_
    | with_reducible refine wpAny_loadPart_at lk ?_
    | (with_reducible refine wpAny_isSubtype_exc lk ?_; first | rw [y1] | rw [y2] | rw [y3])
    | wp_step)
  show R _ _
  rw [Heap.size_push]
  exact fin
theorem kw_type_call (T : ExcBaseFacts B nw it tl) (pt : ∀ n : String, bm.contains (.type n) = tl.contains (.type n)) {Q : Fin → Shared → Prop} (lk : h.get? C = some (excClassObj nm q C N bs bm hd sn sub ab col dd k0 k1 k2 k3 k5 nw))
    (li : PySem.W.Looks (model P w) h (typeLookup (.ref C) "__init__") (some (.ref fI))) (lb : ∀ me, PySem.W.Looks (model P w) h (bindSpecial (.ref fI) me) (.ref fI, [me])) (few : rest.length ≤ sizeLine)
    (fin : codeAny (model P w) A (.call (.ref fI) ⟨.ref (h.objs.size + 1) :: rest, kw⟩) (fun r s' => match r with | .ok (.ret v) => v = .none ∧ Q (.done (.ret (.ref (h.objs.size + 1)))) s' | .ok _ => False | .error e => E e s')
      ⟨(h.push (PySem.W.kdv_tup rest)).push (PySem.HandSPX.excO C h.objs.size), g, d, t, os⟩) : wpAny (model P w) A (Builtin.«type.__call__» ⟨.ref C :: rest, kw⟩) Q E ⟨h, g, d, t, os⟩ := by
  repeat (first
    | with_reducible refine wpAny_loadPart_at lk ?_
    | with_reducible refine wpAny_madeBy_exc lk ?_
    | wp_step)
  refine codeAny_call_builtin_code (Code.quiet_builtin _ T.quiet) (kw_new_check T pt lk ?_)
  refine kw_new T pt lk ?_ few
  show wpAny _ _ _ _ _ _
  have kp : ∀ b o, h.get? b = some o → ((h.push (PySem.W.kdv_tup rest)).push (PySem.HandSPX.excO C h.objs.size)).get? b = some o := fun b o z =>
    Heap.get?_push_of_some _ (Heap.get?_push_of_some _ z)
  have lk1 := kp _ _ lk
  have at1 : ((h.push (PySem.W.kdv_tup rest)).push (PySem.HandSPX.excO C h.objs.size)).get? (h.objs.size + 1) = some (PySem.HandSPX.excO C h.objs.size) := by heap_get
  have inC : (Value.ref C :: bm).contains (.ref C) = true := by simp
  have i1 := li.keeps kp
  have b1 := (lb (.ref (h.objs.size + 1))).keeps kp
  unfold isInstance
  repeat (first
    | with_reducible refine wpAny_loadPart_at at1 ?_
    | (with_reducible refine wpAny_isSubtype_exc lk1 ?_; rw [inC])
    | wp_step)
  show wpAny _ _ (typeLookup (.ref C) _) _ _ _
  refine i1.at ?_
  refine wpAny_holding (wpAny_bind (b1.at ?_))
  refine wpAny_bind (wpAny_call (codeAny_mono fin fun r s' z => ?_))
  rcases r with e | (v | _ | _ | _)
  · exact z
  all_goals first
    | exact False.elim z
    | skip
  obtain ⟨rfl, z⟩ := z
  first
    | exact wpAny_pure (wpAny_pure z)
    | (wp_walk; exact z)
theorem kw_call (T : ExcBaseFacts B nw it tl) (pt : ∀ n : String, bm.contains (.type n) = tl.contains (.type n)) (lk : h.get? C = some (excClassObj nm q C N bs bm hd sn sub ab col dd k0 k1 k2 k3 k5 nw))
    (li : PySem.W.Looks (model P w) h (typeLookup (.ref C) "__init__") (some (.ref fI))) (lb : ∀ me, PySem.W.Looks (model P w) h (bindSpecial (.ref fI) me) (.ref fI, [me])) (few : rest.length ≤ sizeLine)
    (fin : codeAny (model P w) (A.under (.builtin "type.__call__" ⟨.ref C :: rest, kw⟩)) (.call (.ref fI) ⟨.ref (h.objs.size + 1) :: rest, kw⟩) (PySem.W.InitBack (h.objs.size + 1) R) ⟨(h.push (PySem.W.kdv_tup rest)).push (PySem.HandSPX.excO C h.objs.size), g, d, t, os⟩) :
    codeAny (model P w) A (.call (.ref C) ⟨rest, kw⟩) R ⟨h, g, d, t, os⟩ := by
  have f1 := tc_lookup
  have f2 := tc_bind (.ref C)
  have ty : (⟨h, g, d, t, os⟩ : Shared).TypeIs (.ref C) "type" := ⟨_, lk, rfl⟩
  have isT : PySem.W.Looks (model P w) h (isInstance (.ref C) (.type "type")) true := by
    intro A' Q' E' s' k q
    have lk2 := k _ _ lk
    have f3 := tc_sub
    unfold isInstance
    obtain ⟨h', g', d', t', os'⟩ := s'
    repeat (first
      | assumption
      | with_reducible refine wpAny_loadPart_at lk2 ?_
      | wp_step)
  refine codeAny_of_tree ?_
  show wpAny _ _ (callAny (.ref C) _) _ _ _
  repeat (any_goals (first
    | assumption
    | with_reducible refine wpAny_loadPart_at lk ?_
    | wp_step))
  refine ⟨rfl, ?_⟩
  refine codeAny_call_builtin_at (Code.quiet_builtin _ (by decide +kernel)) entry_typeCall (@PySem.W.check_slot (model P w) _ _ _ "type.__call__" "type" "__call__" (.ref C) rest kw _ tc_kind tc_split isT (PySem.W.tc_args _ _ _) (kw_type_call T pt lk li lb few ?_))
  refine codeAny_mono fin fun r s' z => ?_
  rcases r with e | (v | _ | _ | _) <;> exact z
end
end Gn
set_option Elab.async false
set_option linter.all false
set_option maxRecDepth 100000
set_option maxHeartbeats 4000000
namespace Gn
open PySem PySem.Spec PyProof.Rows L2
/-- C(k = e, ..) kept -/
def tOwnK (C : Addr) (m : Nat) (sp : Sp) (gV : List V → List V → List V) (tk : TA) : TE := fun σ H Q => tk σ H fun zs H1 => zs.length = m ∧ ∀ a, H1 a = none →
  sp (gV [.ref a] zs) (upd H1 a (exo a C none)) (fun v H2 => v = .non ∧ Q (.ref a) H2) (fun _ _ _ => False)
section
variable {X : Cx} {tk : TA} {kws : List Keyword} {p pos : Pos}
theorem own_madeK {CX : CXT} {C fI : Addr} {k : Nat} {fd : FuncData} {ps ks : List Str} {sp : Sp} {ws : List Value} {zs : List V} {g : List Value → List Value → List Value} {gV : List V → List V → List V} {pins : List (Addr × Obj)} {σ : L2.St} {H1 : Hp} {s1 : Shared} {Q : VK} (T : OwC X.K C)
    (iC : PySem.W.findIn X.K (.ref C) "__init__" = some (some (.ref fI))) (tI : PySem.W.typeIn X.K (.ref fI) = some (.type "function")) (F1 : FnOk X.prog X.w X.K X.mg X.base CX k fI fd ps sp) (hr : Room (k + 1) X.A) (hb : KBn X.K fd ps 1 ks g gV)
    (hx : Passes CX X (fun _ _ _ => False)) (I1 : Inv X pins σ H1 s1) (rz : Vals zs ws) (lz : zs.length = ks.length) (q1 : ∀ a, H1 a = none → sp (gV [.ref a] zs) (upd H1 a (exo a C none)) (fun v H2 => v = .non ∧ Q (.ref a) H2) (fun _ _ _ => False)) :
    wpAny (model X.prog X.w) X.A (call (.ref C) [] (ks.zip ws)) (EP X pins σ Q) X.xe s1 := by
  obtain ⟨nm, q, N, bs, bm, sn, sub, ab, col, dd, k0, k1, k2, k3, k5, B, nw, it, tl, lk, pt, TB⟩ := T.cls
  obtain ⟨hp, gg, dr, tok, os⟩ := s1
  have up : hp.objs.size ≤ hp.objs.size + 1 := Nat.le_succ _
  have hn : H1 (hp.objs.size + 1) = none := I1.hok.fresh up
  have hq := q1 (hp.objs.size + 1) hn
  have kk : ∀ b o, hp.get? b = some o → ((hp.push (PySem.W.kdv_tup [])).push (PySem.HandSPX.excO C hp.objs.size)).get? b = some o := fun b o z =>
    Heap.get?_push_of_some _ (Heap.get?_push_of_some _ z)
  have got : ((hp.push (PySem.W.kdv_tup [])).push (PySem.HandSPX.excO C hp.objs.size)).get? (hp.objs.size + 1) = some (PySem.HandSPX.excO C hp.objs.size) := by heap_get
  have I2 := I1.laid (t' := tok) (a := hp.objs.size + 1) (o := exo (hp.objs.size + 1) C none) kk up (exo_ok got)
  have rs : Vals [V.ref (hp.objs.size + 1)] [Value.ref (hp.objs.size + 1)] := .cons rfl .nil
  have r2 := hb.rel rs rz
  have l2 : ws.length = ks.length := rz.length.symm.trans lz
  refine wpAny_call (kw_call TB.ex (fun n => pt.has n) (I1.kIn _ _ lk) (PySem.W.looks_findIn I1.kIn iC) (fun me => PySem.W.bind_fn I1.kIn me tI) (by rw [sizeLine_eq]; decide) (codeAny_mono
    (F1.run _ X.stack _ _ ⟨[Value.ref (hp.objs.size + 1)], ks.zip ws⟩ (g [Value.ref (hp.objs.size + 1)] ws) _ _ (fun _ _ _ => False) (hr.make C [] (ks.zip ws)) (I2.env0.make C [] (ks.zip ws)) (hb.to _ [Value.ref (hp.objs.size + 1)] ws I2.kIn rfl l2) r2 hq) fun r s' z => ?_))
  cases r with
  | error er => exact hx pins σ _ _ er s' I2 z
  | ok fl =>
    cases fl with
    | ret u =>
      obtain ⟨v, H2, os2, bare2, un2, hok2, rv, ev, q2⟩ := z
      subst ev
      obtain ⟨h2, g2, d2, t2, os'⟩ := s'
      exact ⟨rv, .ref (hp.objs.size + 1), H2, I1.call' (ch := []) os2 ((Un.laid kk up hn).trans un2) hok2 bare2 (fun b y => absurd y (by simp)), rfl, q2⟩
    | next => exact False.elim z
    | brk => exact False.elim z
    | cont => exact False.elim z
theorem pe_ownK {CX : CXT} {x : Str} {C fI : Addr} {k : Nat} {fd : FuncData} {ps ks : List Str} {sp : Sp} {g : List Value → List Value → List Value} {gV : List V → List V → List V} (T : OwC X.K C) (iC : PySem.W.findIn X.K (.ref C) "__init__" = some (some (.ref fI)))
    (tI : PySem.W.typeIn X.K (.ref fI) = some (.type "function")) (F1 : FnOk X.prog X.w X.K X.mg X.base CX k fI fd ps sp) (hr : Room (k + 1) X.A) (hb : KBn X.K fd ps 1 ks g gV) (hx : Passes CX X (fun _ _ _ => False)) (hg : Gl X x)
    (hm : X.mg x = some (.ref C)) (hkw : PK X kws tk) (hall : (backToKw pos (keywordEach kws X.env)).all (·.1.isSome) = true := by rfl) (hks : (backToKw pos (keywordEach kws X.env)).filterMap (·.1) = ks := by rfl) (hdb : (x == ("__debug__" : Str)) = false := by decide)
    (hpl : ((backTo pos (starEach [] X.env)).any (·.1) || (backToKw pos (keywordEach kws X.env)).any (·.1.isNone)) = false := by rfl) :
    PE X (.Call (.Name x p) [] kws pos) (tOwnK C ks.length sp gV tk) := ⟨fun pins s σ H Q I h =>
  wpAny_Call_Name_kw (ld_glob I hg hm (PySem.W.callWith_KW0 (h₀ := X.base) I.ok.mod.kin T.kC hall (thn (hkw.run pos pins s σ H _ I h) fun ws s2 ⟨zs, H2, I2, rz, lz, q2⟩ => ⟨I2.kIn, by
    rw [hks]
    exact own_madeK T iC tI F1 hr hb hx I2 rz lz q2⟩) hpl) hdb)⟩
end
/-! one keyword, and two the other way round, behind the object itself -/
def kq1 {α : Type} : List α → List α → List α
  | [s], [a] => [s, a]
  | _, _ => []
def kq2s {α : Type} : List α → List α → List α
  | [s], [a, b] => [s, b, a]
  | _, _ => []
section
variable {K : PySem.W.Frag} {fd : FuncData}
theorem kn1 {p0 p : Str} (h : ∀ s a : Value, bindArgs fd ⟨[s], [(p, a)]⟩ = pure [(p0, s), (p, a)]) : KBn K fd [p0, p] 1 [p] kq1 kq1 :=
  ⟨fun s us ws _ l1 l2 => match us, ws, l1, l2 with
    | [x], [a], _, _ => .of_eq (h x a), fun {vs us zs ws} r rz => by
    cases r with
    | nil => exact .nil
    | cons a b => cases b with
      | nil => cases rz with
        | nil => exact .nil
        | cons c d => cases d with
          | nil => exact .cons a (.cons c .nil)
          | cons _ _ => exact .nil
      | cons _ _ => exact .nil⟩
theorem kn2s {p0 p q : Str} (h : ∀ s a b : Value, bindArgs fd ⟨[s], [(q, b), (p, a)]⟩ = pure [(p0, s), (p, a), (q, b)]) : KBn K fd [p0, p, q] 1 [q, p] kq2s kq2s :=
  ⟨fun s us ws _ l1 l2 => match us, ws, l1, l2 with
    | [x], [b, a], _, _ => .of_eq (h x a b), fun {vs us zs ws} r rz => by
    cases r with
    | nil => exact .nil
    | cons a b => cases b with
      | nil => cases rz with
        | nil => exact .nil
        | cons c d => cases d with
          | nil => exact .nil
          | cons e f => cases f with
            | nil => exact .cons a (.cons e (.cons c .nil))
            | cons _ _ => exact .nil
      | cons _ _ => exact .nil⟩
end
end Gn
set_option Elab.async false
set_option linter.all false
set_option maxRecDepth 100000
set_option maxHeartbeats 4000000
/-! own exceptions whose __init__ keeps what is passed -/
namespace Gn
open PySem PySem.Spec PyProof.Rows L2
/-- at a: an exception of the class at C that has these fields -/
def Kept (H : Hp) (a C : Addr) (fs : List (Str × V)) : Prop := (fs = [] ∧ H a = some (exo a C none)) ∨ ∃ d, H a = some (exo a C (some d)) ∧ H d = some (exd d fs)
theorem Kept.same {H H' : Hp} {a C : Addr} {fs : List (Str × V)} (h : Kept H a C fs) (e : Same H H') : Kept H' a C fs := by
  rcases h with ⟨z, h⟩ | ⟨d, h1, h2⟩
  · exact .inl ⟨z, e _ _ h⟩
  · exact .inr ⟨d, e _ _ h1, e _ _ h2⟩
/-- the same, its dict new -/
def NewE (H H' : Hp) (a C : Addr) (fs : List (Str × V)) : Prop := (fs = [] ∧ H' a = some (exo a C none)) ∨ ∃ d, H d = none ∧ H' a = some (exo a C (some d)) ∧ H' d = some (exd d fs)
theorem NewE.kept {H H' : Hp} {a C : Addr} {fs : List (Str × V)} (h : NewE H H' a C fs) : Kept H' a C fs := by
  rcases h with h | ⟨d, _, h⟩
  · exact .inl h
  · exact .inr ⟨d, h⟩
/-- all but a is as it was -/
def But (H H' : Hp) (a : Addr) : Prop := ∀ b o, b ≠ a → H b = some o → H' b = some o
def spIni (K : PySem.W.Frag) (fl : List Str) : Sp := fun vs H Q _ => ∃ (a C : Addr) (xs : List V), vs = .ref a :: xs ∧ xs.length = fl.length ∧ OwC K C ∧ (∀ f ∈ fl, PySem.W.findIn K (.ref C) f = some none) ∧ H a = some (exo a C none) ∧
  ∀ H', But H H' a → NewE H H' a C (fl.zip xs).reverse → Q .non H'
section
variable {P : Program} {w : World} {K : PySem.W.Frag} {mg : Str → Option Value} {base : Heap} {f : Addr} {fd : FuncData} {qual : Str} {st : Stmt}
theorem but_put {H : Hp} {a d : Addr} {o o' : HO} (hd : H d = none) : But H (upd (upd H d o) a o') a := fun b u hb z => by
  rw [upd_ne hb, upd_ne (ne_of_none z hd)]
  exact z
theorem ini0 {pos : Pos} (F : Fun K "__init__" qual st f fd) (S : FnScope ["self"] ["self"] (defScope st)) (hb : defBody st = [.Pass pos]) : FnOk P w K mg base CX0 1 f fd ["self"] (spIni K []) := by
  refine F.ok S (fun vs H Q E h => ?_) (fun cdv A outer s H vs Q E hr h => ?_)
  · obtain ⟨a, C, xs, rfl, l, _⟩ := h
    cases xs with
    | nil => rfl
    | cons _ _ => cases l
  · obtain ⟨a, C, xs, rfl, l, _, _, ea, q⟩ := h
    rw [hb]
    match xs, l with
    | [], _ => exact ⟨_, pss_one ps_pass, q H (fun b o _ z => z) (.inl ⟨rfl, ea⟩)⟩
theorem ini1 {n : Str} {p1 p2 p3 pos : Pos} (F : Fun K "__init__" qual st f fd) (S : FnScope ["self", n] ["self", n] (defScope st)) (hb : defBody st = [.Assign [.Attribute (.Name "self" p1) n p2] (.Name n p3) pos])
    (v0 : Vis (defScope st) "self") (v1 : Vis (defScope st) n) (d1 : (n == ("__debug__" : Str)) = false) (c1 : (n == ("__classdict__" : Str)) = false) :
    FnOk P w K mg base CX0 1 f fd ["self", n] (spIni K [n]) := by
  refine F.ok S (fun vs H Q E h => ?_) (fun cdv A outer s H vs Q E hr h => ?_)
  · obtain ⟨a, C, xs, rfl, l, _⟩ := h
    rw [List.length_cons, l]
    rfl
  · obtain ⟨a, C, xs, rfl, l, T, no, ea, q⟩ := h
    rw [hb]
    match xs, l with
    | [x], _ =>
      refine ⟨_, pss_one (ps_put (pv 0 rfl v0) (pv 1 rfl v1 d1 c1)), ?_⟩
      exact ⟨_, rfl, _, rfl, a, C, rfl, T, no n (List.mem_singleton.mpr rfl), .inl ⟨ea, fun d hd ne => q _ (but_put hd) (.inr ⟨d, hd, upd_same, by rw [upd_ne ne, upd_same]; rfl⟩)⟩⟩
theorem ini2 {n m : Str} {p1 p2 p3 p4 p5 p6 pos pos' : Pos} (F : Fun K "__init__" qual st f fd) (S : FnScope ["self", n, m] ["self", n, m] (defScope st))
    (hb : defBody st = [.Assign [.Attribute (.Name "self" p1) n p2] (.Name n p3) pos, .Assign [.Attribute (.Name "self" p4) m p5] (.Name m p6) pos'])
    (v0 : Vis (defScope st) "self") (v1 : Vis (defScope st) n) (d1 : (n == ("__debug__" : Str)) = false) (c1 : (n == ("__classdict__" : Str)) = false) (v2 : Vis (defScope st) m) (d2 : (m == ("__debug__" : Str)) = false) (c2 : (m == ("__classdict__" : Str)) = false) :
    FnOk P w K mg base CX0 1 f fd ["self", n, m] (spIni K [n, m]) := by
  refine F.ok S (fun vs H Q E h => ?_) (fun cdv A outer s H vs Q E hr h => ?_)
  · obtain ⟨a, C, xs, rfl, l, _⟩ := h
    rw [List.length_cons, l]
    rfl
  · obtain ⟨a, C, xs, rfl, l, T, no, ea, q⟩ := h
    rw [hb]
    match xs, l with
    | [x, y], _ =>
      refine ⟨_, pss_cons (ps_put (pv 0 rfl v0) (pv 1 rfl v1 d1 c1)) (pss_one (ps_put (pv 0 rfl v0) (pv 2 rfl v2 d2 c2))), ?_⟩
      refine ⟨_, rfl, _, rfl, a, C, rfl, T, no n (by simp), .inl ⟨ea, fun d hd ne => ?_⟩⟩
      refine ⟨_, rfl, _, rfl, a, C, rfl, T, no m (by simp), .inr ⟨d, _, upd_same, by rw [upd_ne ne, upd_same], by show 1 ≤ 900; decide, ?_⟩⟩
      refine q _ (fun b o hb z => ?_) (.inr ⟨d, hd, by rw [upd_ne (Ne.symm ne), upd_same], upd_same⟩)
      rw [upd_ne (ne_of_none z hd), upd_ne hb, upd_ne (ne_of_none z hd)]
      exact z
end
/-- such a class of the text: its name, the fields in the order of its parameters -/
structure OwE (P : Program) (w : World) (K : PySem.W.Frag) (mg : Str → Option Value) (base : Heap) (nm : Str) (fl : List Str) (C f : Addr) (fd : FuncData) : Prop where
  own : OwC K C
  ini : PySem.W.findIn K (.ref C) "__init__" = some (some (.ref f))
  ty : PySem.W.typeIn K (.ref f) = some (.type "function")
  xf : XfC K C
  ex : ExcC K C
  no : ∀ n ∈ fl, PySem.W.findIn K (.ref C) n = some none
  g : mg nm = some (.ref C)
  run : FnOk P w K mg base CX0 1 f fd ("self" :: fl) (spIni K fl)
  b : Binds K fd ("self" :: fl) []
def tMk (C : Addr) (fl : List Str) (ta : TA) : TE := fun σ H Q => ta σ H fun vs H1 => vs.length = fl.length ∧ ∀ a H2, Same H1 H2 → Kept H2 a C (fl.zip vs).reverse → Q (.ref a) H2
def tMkK (C : Addr) (fl : List Str) (gV : List V → List V) (n : Nat) (ta : TA) : TE := fun σ H Q => ta σ H fun zs H1 => zs.length = n ∧ ∀ a H2, Same H1 H2 → Kept H2 a C (fl.zip (gV zs)).reverse → Q (.ref a) H2
theorem PE.imp {X : Cx} {e : Expr} {t t' : TE} (h : PE X e t) (k : ∀ σ H Q, t' σ H Q → t σ H Q) : PE X e t' := ⟨fun pins s σ H Q I z => h.run pins s σ H Q I (k σ H Q z)⟩
theorem same_but {H H2 : Hp} {a : Addr} {o : HO} (ha : H a = none) (h : But (upd H a o) H2 a) : Same H H2 := fun b u z => h b u (ne_of_none z ha) (by rw [upd_ne (ne_of_none z ha)]; exact z)
section
variable {X : Cx} {nm : Str} {fl : List Str} {C f : Addr} {fd : FuncData} {e : Expr} {es : List Expr} {ta : TA} {p pos : Pos}
theorem pe_mk (T : OwE X.prog X.w X.K X.mg X.base nm fl C f fd) (hl : fl.length ≤ 1000) (hr : Room 2 X.A) (hg : Gl X nm) (hx : Passes CX0 X (fun _ _ _ => False)) (ha : PA X (e :: es) ta) (hdb : (nm == ("__debug__" : Str)) = false := by decide)
    (he : starEach (e :: es) X.env = (false, eval e X.env) :: starEach es X.env := by rfl) (hpl : (backTo pos (starEach es X.env)).any (·.1) = false := by rfl) : PE X (.Call (.Name nm p) (e :: es) [] pos) (tMk C fl ta) :=
  ⟨fun pins s σ H Q I h => wpAny_Call_Name_kw (ld_glob I hg T.g (PySem.W.callWith_K (h₀ := X.base) I.ok.mod.kin T.own.kC (thn (ha.run pos pins s σ H _ I h) fun us s1 ⟨vs, H1, I1, r1, l, k⟩ => ⟨I1.kIn,
    own_made (dvs := []) T.own T.ini T.ty T.run hr T.b .nil hx I1 r1 (fun a n => ⟨a, C, vs, by rw [List.append_nil], l, T.own, T.no, upd_same, fun H2 bt kt => ⟨rfl, k a H2 (same_but n bt) kt.kept⟩⟩) (by omega)⟩) he hpl) hdb)⟩
theorem pe_mk0 (T : OwE X.prog X.w X.K X.mg X.base nm [] C f fd) (hr : Room 2 X.A) (hg : Gl X nm) (hx : Passes CX0 X (fun _ _ _ => False)) (hdb : (nm == ("__debug__" : Str)) = false := by decide) :
    PE X (.Call (.Name nm p) [] [] pos) (tMk C [] tNil) :=
  ⟨fun pins s σ H Q I h => wpAny_Call_Name_kw (ld_glob I hg T.g (PySem.W.callWith_K0 I.kIn T.own.kC
    (own_made (us := []) (vs := []) (dvs := []) T.own T.ini T.ty T.run hr T.b .nil hx I .nil (fun a n => ⟨a, C, [], rfl, rfl, T.own, T.no, upd_same, fun H2 bt kt => ⟨rfl, h.2 a H2 (same_but n bt) kt.kept⟩⟩) (by decide))) hdb)⟩
theorem pe_mkK {kws : List Keyword} {tk : TA} {ks : List Str} {g : List Value → List Value → List Value} {gV : List V → List V → List V} (T : OwE X.prog X.w X.K X.mg X.base nm fl C f fd) (hb : KBn X.K fd ("self" :: fl) 1 ks g gV) (hr : Room 2 X.A) (hg : Gl X nm)
    (hgV : ∀ (s : V) (zs : List V), zs.length = ks.length → ∃ ys, gV [s] zs = s :: ys ∧ ys.length = fl.length ∧ ∀ s', gV [s'] zs = s' :: ys) (hx : Passes CX0 X (fun _ _ _ => False)) (hkw : PK X kws tk)
    (hall : (backToKw pos (keywordEach kws X.env)).all (·.1.isSome) = true := by rfl) (hks : (backToKw pos (keywordEach kws X.env)).filterMap (·.1) = ks := by rfl) (hdb : (nm == ("__debug__" : Str)) = false := by decide)
    (hpl : ((backTo pos (starEach [] X.env)).any (·.1) || (backToKw pos (keywordEach kws X.env)).any (·.1.isNone)) = false := by rfl) :
    PE X (.Call (.Name nm p) [] kws pos) (tMkK C fl (fun zs => (gV [.non] zs).tail) ks.length tk) :=
  ⟨fun pins s σ H Q I h => wpAny_Call_Name_kw (ld_glob I hg T.g (PySem.W.callWith_KW0 (h₀ := X.base) I.ok.mod.kin T.own.kC hall (thn (hkw.run pos pins s σ H _ I h) fun ws s2 ⟨zs, H2, I2, rz, lz, q2⟩ => ⟨I2.kIn, by
    rw [hks]
    obtain ⟨ys, e0, l0, e1⟩ := hgV .non zs lz
    exact own_madeK T.own T.ini T.ty T.run hr hb hx I2 rz lz fun a n => ⟨a, C, ys, e1 _, l0, T.own, T.no, upd_same, fun H3 bt kt => ⟨rfl, q2 a H3 (same_but n bt) (by show Kept H3 a C (fl.zip (gV [V.non] zs).tail).reverse; rw [e0]; exact kt.kept)⟩⟩⟩) hpl) hdb)⟩
/-- the rest of what is asked of such a value -/
theorem Kept.at {H : Hp} {a C : Addr} {fs : List (Str × V)} (h : Kept H a C fs) : ∃ d, H a = some (exo a C d) ∧ ∀ y, d = some y → ∃ fs, H y = some (exd y fs) := by
  rcases h with ⟨_, h⟩ | ⟨d, h1, h2⟩
  · exact ⟨none, h, fun y z => nomatch z⟩
  · exact ⟨some d, h1, fun y z => by cases z; exact ⟨_, h2⟩⟩
end
/-- such a one raised: what a handler gets -/
theorem thr_of {K : PySem.W.Frag} {C : Addr} {n : Str} {i : Nat} {x : V} {σ : L2.St} {H : Hp} {Q : XK} (T : OwC K C) (no : PySem.W.findIn K (.ref C) n = some none) (hs : σ[i]? = some (some x))
    (k : ∀ d H', Same H H' → H d = none → H' d = some (.xd [(n, x)]) → Q (.ref C) (some d) H') : tThr C (spIni K [n]) [] (tCons (tVar i) tNil) σ H Q := by
  refine ⟨x, hs, Nat.le_of_ble_eq_true rfl, fun a ha => ⟨a, C, [x], rfl, rfl, T, fun f hf => by rw [List.mem_singleton.mp hf]; exact no, upd_same, fun H2 bt kt => ⟨rfl, .inl ?_⟩⟩⟩
  rcases kt with ⟨z, _⟩ | ⟨d, hd, h1, h2⟩
  · cases z
  · have da : d ≠ a := fun z => by
      rw [z, upd_same] at hd
      cases hd
    have hd1 : H d = none := by
      rw [upd_ne da] at hd
      exact hd
    refine ⟨d, _, h1, h2, hd1, k d _ (fun b o z => ?_) hd1 upd_same⟩
    rw [upd_ne (ne_of_none z hd1), del_ne (ne_of_none z ha)]
    exact bt b o (ne_of_none z ha) (by rw [upd_ne (ne_of_none z ha)]; exact z)
end Gn
set_option Elab.async false
set_option linter.all false
set_option maxRecDepth 100000
set_option maxHeartbeats 4000000
/-! a handler for three classes, whose exception has a name -/
namespace L2
open PySem PySem.Spec PyProof.Rows
/-- what such a handler wants where its body raises -/
def wTri (K : PySem.W.Frag) (cs : List Value) (j : Nat) (su : Addr → Value → Option Addr → TS) (Wo : WX) (D : Ends) : WX := fun C d τ G =>
  ∃ hit, PySem.W.exmAny K C cs = some hit ∧
    (hit = true → ∀ x, G x = none → su x C d { rt := D.rt, nx := fun τ' G' => D.nx (τ'.set j none) G', ct := fun τ' G' => D.ct (τ'.set j none) G', bk := fun τ' G' => D.bk (τ'.set j none) G' } (τ.set j (some (.ref x))) G) ∧
    (hit = false → Wo C d τ G)
def triO (u v z : Value) : Obj := { cls := .type "tuple", data := .seq [u, v, z].toArray }
section
variable {X : Cx} {pins : List (Addr × Obj)} {τ : St} {G : Hp} {t0 t1 : Shared}
theorem ev_named {Q E : Value → Shared → Prop} {x : Str} {c : Value} {ps : Pos} (J : Inv X pins τ G t1) (nm : Names X x c) (z : Q c t1) : wpAny (model X.prog X.w) X.A (eval (.Name x ps) X.env) Q E t1 := by
  obtain ⟨g, nd, m⟩ := nm
  rcases m with e | ⟨e, b, o⟩
  · exact ld_glob J g e z nd
  · exact ld_blt J g e b z o nd
theorem ev_tri {Q E : Value → Shared → Prop} {x y z : Str} {u v r : Value} {p1 p2 p3 pt : Pos} {kk : Nat} (J : Inv X pins τ G t1) (n1 : Names X x u) (n2 : Names X y v) (n3 : Names X z r)
    (q : Q (.ref t1.heap.objs.size) { t1 with heap := t1.heap.push (triO u v r) }) : wpAny (model X.prog X.w) X.A (eval (.Tuple [.Name x p1, .Name y p2, .Name z p3] kk pt) X.env) Q E t1 :=
  wpAny_Tuple (wpAny_items_cons (ev_named J n1 (wpAny_items_cons (ev_named J n2 (wpAny_items_cons (ev_named J n3 (wpAny_items_nil ⟨by size_fits, q⟩)))))))
/-- the handler's side: x flies, as it was told, and all else stands -/
structure Down (X : Cx) (pins : List (Addr × Obj)) (τ : St) (G : Hp) (t0 t1 : Shared) (B : Heap) (x : Addr) (C : Value) (d : Option Addr) : Prop where
  was : Inv X pins τ G t0
  nb : ∀ b o, t0.heap.get? b = some o → b ∉ frs X.stack → B.get? b = some o
  up : t0.heap.UpToSlots t1.heap
  fly : HandSPX.FlyingZ B (X.env :: X.outer) x (Zc C d) t1.heap
  new : G x = none
  os : t1.os = t0.os
  ag : AllBare t1.gens
variable {B : Heap} {x : Addr} {C : Value} {d : Option Addr}
theorem Down.inv (S : Down X pins τ G t0 t1 B x C d) : Inv X pins τ G t1 := S.was.landed S.nb S.fly.1 S.up S.os S.ag
theorem Down.on (S : Down X pins τ G t0 t1 B x C d) {h : Heap} (f : HandSPX.FlyingZ B (X.env :: X.outer) x (Zc C d) h) (u : t1.heap.UpToSlots h) : Down X pins τ G t0 { t1 with heap := h } B x C d :=
  ⟨S.was, S.nb, S.up.trans u, f, S.new, S.os, S.ag⟩
theorem Down.more (S : Down X pins τ G t0 t1 B x C d) (o : Obj) : Down X pins τ G t0 { t1 with heap := t1.heap.push o } B x C d := by
  have k : ∀ b u, t1.heap.get? b = some u → (t1.heap.push o).get? b = some u := fun _ _ z => Heap.get?_push_of_some _ z
  refine S.on ?_ (Heap.UpToSlots.of_keeps k)
  obtain ⟨a1, a2, a3, oe, w, T, oT, r, g1, g2, g3, g4, g5, g6, g7, g8⟩ := S.fly
  exact ⟨fun b u z => k b u (a1 b u z), a2, a3.of_keeps fun b u z _ => ⟨u, k b u z, rfl⟩, oe, w, T, oT, r, k _ _ g1, g2, g3, g4, g5, g6, k _ _ g7, g8⟩
theorem Down.suite (S : Down X pins τ G t0 t1 B x C d) (es : X.stack = X.env :: X.outer) (ef : X.env.frame = some X.env.locals) :
    ∃ oe, t1.heap.get? x = some oe ∧ Zc C d oe ∧ (∃ w, oe.data = .fields w) ∧ Inv (X.suite x ((x, oe) :: (X.pn ++ pins))) [] τ G t1 := by
  obtain ⟨oe, w, g, z, dt⟩ := S.fly.there
  have off : x ∉ frs (X.env :: X.outer) := fun m => by
    obtain ⟨_, o', e, nf⟩ := S.fly.2.2.1.mem m
    cases g.symm.trans e
    exact nf _ dt
  refine ⟨oe, g, z, ⟨w, dt⟩, S.inv.suite g dt S.new (fun e => off ?_) fun m => off ?_⟩
  · exact List.mem_filterMap.mpr ⟨X.env, by simp, by rw [ef, e]⟩
  · obtain ⟨v, m1, m2⟩ := List.mem_filterMap.mp m
    exact List.mem_filterMap.mpr ⟨v, List.mem_cons.mpr (.inr m1), m2⟩
end
section
variable {X : Cx} {y1 y2 y3 n : Str} {u1 u2 u3 : Value} {j : Nat} {bd su : List Stmt} {s₀ : Stmt} {q1 q2 q3 qt qh qq : Pos} {kk : Nat} {tb : WX → TS} {ts : Addr → Value → Option Addr → TS} {Wo : WX}
theorem ps_try_tri (es : X.stack = X.env :: X.outer) (ef : X.env.frame = some X.env.locals) (nd : X.N.Nodup) (at_ : X.N[j]? = some n) (lo : X.env.kindOf n = some .local) (m1 : Names X y1 u1) (m2 : Names X y2 u2) (m3 : Names X y3 u3) (tk : Takes X Wo)
    (B : ∀ (W : WX) (pn : List (Addr × Obj)) (xe : Value → Shared → Prop), Takes (X.tr pn xe) W → PassesOwn (model X.prog X.w) X.A X.env xe → PSs (X.tr pn xe) bd (tb W))
    (S : ∀ (x : Addr) (oe : Obj) (C : Value) (d : Option Addr) (pn : List (Addr × Obj)), Zc C d oe → (∃ w, oe.data = .fields w) → PSs (X.suite x ((x, oe) :: pn)) (s₀ :: su) (ts x C d)) :
    PS X (.Try bd [.ExceptHandler (some (.Tuple [.Name y1 q1, .Name y2 q2, .Name y3 q3] kk qt)) (some n) (s₀ :: su) qh] [] [] qq) (fun D τ G => tb (wTri X.K [u1, u2, u3] j ts Wo D) D τ G) := by
  constructor
  intro pins t τ G D J want
  have ok := J.ok
  have frames : X.A.frames = some (X.env :: X.outer) := ok.frames.trans (by rw [es])
  let hs := [ExceptHandler.ExceptHandler (some (.Tuple [.Name y1 q1, .Name y2 q2, .Name y3 q3] kk qt)) (some n) (s₀ :: su) qh]
  let after : Value → Shared → Prop := fun e t1 => wpAny (model X.prog X.w) X.A (noteFrame e X.env) (fun _ t2 => wpAny (model X.prog X.w) X.A (setFlight e none) (fun _ t3 => wpAny (model X.prog X.w) X.A (handleBy e X.env hs) (SP X pins D) X.xe t3) X.xe t2) X.xe t1
  have look : Takes (X.tr (X.pn ++ pins) after) (wTri X.K [u1, u2, u3] j ts Wo D) := by
    rintro e t1 ⟨x, H0, sI, pi, τ1, G1, C, d, rfl, J1, nb, up, sky, new, os, ag, hit, hm, yes, no⟩
    show wpAny (model X.prog X.w) X.A (noteFrame (.ref x) X.env) _ _ _
    rw [show X.stack = X.env :: X.outer from es] at sky
    refine Sky.land Zc.steady frames ef sky fun h fl u => ?_
    have D1 : Down X pins τ1 G1 sI { t1 with heap := h } H0 x C d := ⟨J1.ofTry ok, nb, up.trans u, fl, new, os, ag⟩
    obtain ⟨oe, ge, gz, gd, I1⟩ := D1.suite es ef
    refine wpAny_handleBy_cons (codeAny_handlers_test (ev_tri I1 m1 m2 m3 ?_)) (by intro z; cases z)
    have D2 := D1.more (triO u1 u2 u3)
    have there : (h.push (triO u1 u2 u3)).get? x = some oe := Heap.get?_push_of_some _ ge
    have LT : PySem.W.Looks (model X.prog X.w) (h.push (triO u1 u2 u3)) (typeOf (.ref x)) C := fun A Q E s k z => wpAny_typeOf_ref (k _ _ there) (by rw [gz.1]; exact z)
    refine (PySem.W.exm_tup3 D2.inv.kIn LT (Heap.get?_push_size h rfl) hm).here ?_
    cases hit
    · show wpAny _ X.A (handleBy (.ref x) X.env []) _ _ _
      refine wpAny_handleBy_nil ?_
      obtain ⟨_, _, _, o2, w, T, _, _, g1, _, g3, g4, _⟩ := id D2.fly
      have away : wpAny (model X.prog X.w) X.A (setFlight (.ref x) X.env.frame) (fun _ t5 => wpAny (model X.prog X.w) X.A (throw (.ref x) : Sem Flow) (SP X pins D) X.xe t5) X.xe { t1 with heap := h.push (triO u1 u2 u3) } := by
        rw [ef]
        exact HandSPX.setFlight_upZ D2.fly fun h' held u' => wpAny_throw (tk _ _ ⟨x, H0, sI, pins, τ1, G1, C, d, rfl, D2.was, nb, D2.up.trans u', .inr (.inr (by rw [es]; exact held)), new, os, ag, no rfl⟩)
      unfold PySem.passOn
      refine wpAny_bind (wpAny_field g1 g3 g4 ?_)
      rw [if_neg (by simp : ¬ ((Value.ref T == Value.none) = true))]
      first
        | exact wpAny_bind (wpAny_pure (wpAny_bind away))
        | exact wpAny_bind away
    · refine codeAny_handlers_suite_as (HandSPX.lands_againZ D2.fly fun h' fl' u' => ?_)
      obtain ⟨o3, _, z3, d3, I3⟩ := (D2.on fl' u').suite es ef
      refine store_ok (X := X.suite x ((x, o3) :: (X.pn ++ pins))) (v := .ref x) I3 nd at_ (.inl lo) rfl (fun t5 I5 => ?_) (.inr lo)
      have off : ∀ {τ6 : St} {G6 : Hp} {t6 : Shared} {Q : Shared → Prop}, Inv (X.suite x ((x, o3) :: (X.pn ++ pins))) [] τ6 G6 t6 → (∀ t7, Inv X pins (τ6.set j none) G6 t7 → Q t7) →
          wpAny (model X.prog X.w) X.A (do bindName X.env n .none; unbindBehindTheSuite X.env n qh) (fun _ t7 => Q t7) X.xe t6 := fun I6 go => gone_ok (I6.unsuite ok) nd at_ lo go
      refine wpAny_mono ((S x o3 C d (X.pn ++ pins) z3 d3).run [] t5 _ G1 _ I5 (yes rfl x new)) (fun fl t6 out => ?_) fun _ _ z => z.elim
      cases fl <;> first
        | (obtain ⟨τ6, G6, I6, w6⟩ := out; exact off I6 fun t7 I7 => ⟨_, _, I7, w6⟩)
        | (obtain ⟨v6, τ6, G6, I6, e6, w6⟩ := out; exact off I6 fun t7 I7 => ⟨_, _, _, I7, e6, w6⟩)
  refine wpAny_Try_except (wpAny_mono ((B _ _ after look PassesOwn.looking).run [] t τ G D (J.toTry _) want) (fun fl t1 out => ?_) fun _ _ z => z)
  cases fl <;> first
    | (obtain ⟨τ1, G1, I1, w1⟩ := out; exact wpAny_execs_nil ⟨τ1, G1, I1.ofTry ok, w1⟩)
    | (obtain ⟨τ1, G1, I1, w1⟩ := out; exact ⟨τ1, G1, I1.ofTry ok, w1⟩)
    | (obtain ⟨v1, τ1, G1, I1, e1, w1⟩ := out; exact ⟨v1, τ1, G1, I1.ofTry ok, e1, w1⟩)
end
end L2
set_option Elab.async false
set_option linter.all false
set_option maxRecDepth 100000
set_option maxHeartbeats 4000000
/-! within a handler: a walk over a list comes to its end; a comprehension over a list -/
namespace HotX
open PySem PySem.Spec PyProof.Rows
section
variable {prog : Program} {w : World} {A : Around} {E : Value → Shared → Prop} {s : Shared}
theorem list_ends {j l y : Addr} {i : Nat} {vs : Array Value} {Q : Option Value → Shared → Prop} (hot : HotAt A y s.heap) (ne : y ≠ j) (J : s.heap.IsListIter j l i) (L : s.heap.IsList l vs) (out : vs[i]? = none)
    (q : ∀ h, (∀ b o, b ≠ j → s.heap.get? b = some o → h.get? b = some o) → Q none { s with heap := h }) : wpAny (model prog w) A (pyNext (.ref j)) Q E s := by
  obtain ⟨o, ho, hc, hd⟩ := id J
  obtain ⟨ol, hol, _, nl, hdl⟩ := L
  obtain ⟨hh, oy, ys, h1, d1, c1⟩ := hot
  unfold pyNext
  refine wpAny_bind (wpAny_attempt (wpAny_callSpecial?_slot (name := Str.ofString "__next__") J.typeIs slot_listiter_next (wpAny_call_entry slot_listiter_next J.typeIs entry_listiter_next ?_ (args_listiter_next _))))
  change wpAny _ _ (field (.ref j) 0 >>= _) _ _ s
  refine wpAny_bind (wpAny_field ho hd (x := .ref l) rfl ?_)
  show wpAny _ _ (ite ((Value.ref l == Value.none) = true) _ _) _ _ _
  rw [if_neg (fun z => nomatch z : ¬ ((Value.ref l == Value.none) = true))]
  change wpAny _ _ (field (.ref j) 1 >>= _) _ _ s
  refine wpAny_bind (wpAny_field ho hd (x := .int i 0) rfl ?_)
  change wpAny _ _ (seqItems? (.ref l) >>= _) _ _ s
  refine wpAny_bind (wpAny_seqItems hol hdl ?_)
  simp only [Int.toNat_natCast, out]
  refine wpAny_bind (wpAny_rule (wpAny_bind (wpAny_setField ho hd (by simp) ?_)))
  change wpAny _ _ (newExc (.type "StopIteration") [] >>= _) _ _ _
  refine wpAny_bind ?_
  simp only [newExc, newTuple]
  have k1 : ∀ b u, b ≠ j → s.heap.get? b = some u → (s.heap.update j (Obj.mapFields (·.setIfInBounds 0 Value.none))).get? b = some u := fun b u n e => (Heap.get?_update_other _ _ n.symm).trans e
  refine wpAny_bind (wpAny_newObj_type ?_ (by size_fits))
  refine wpAny_bind (m := firstArgMember _ _) (wpAny_of_eq (a := Value.none) (by first | rfl | (simp only [firstArgMember]; rfl)) ?_)
  refine wpAny_newObj_type ?_ (by size_fits)
  have top := Heap.get?_push_of_some { cls := .type "tuple", data := .seq ([] : List Value).toArray } (k1 y oy ne h1)
  refine raiseNew_hot ⟨hh, oy, ys, Heap.get?_push_of_some _ top, d1, c1⟩ (Nat.ne_of_lt (Heap.lt_size top)) (Heap.get?_push_size _ rfl) rfl (by first | (simp; done) | (simp; omega)) ?_
  refine wpAny_bind (wpAny_isInstance (T := "StopIteration") (b := true) ⟨_, Heap.get?_update_self _ (Heap.get?_push_size _ rfl) rfl, rfl⟩ isSubtype_stop (wpAny_pure (q _ fun b u n e => ?_)))
  have z := Heap.get?_push_of_some { cls := .type "tuple", data := .seq ([] : List Value).toArray } (k1 b u n e)
  rw [Heap.get?_update_other _ _ (Nat.ne_of_gt (Heap.lt_size z))]
  exact Heap.get?_push_of_some _ z
/-- all items of a list, taken one by one -/
theorem list_items {l y : Addr} {vs : Array Value} {Q : List Value → Shared → Prop} (hot : HotAt A y s.heap) (L : s.heap.IsList l vs) (q : ∀ h, Heap.ExtBut s.heap.objs.size s.heap h → Q vs.toList { s with heap := h }) :
    wpAny (model prog w) A (unpackItems (.ref l) vs.size none) Q E s := by
  have lj : l ≠ s.heap.objs.size := by
    obtain ⟨o, e, _⟩ := L
    exact Nat.ne_of_lt (Heap.lt_size e)
  obtain ⟨hh, oy, ys, h1, d1, c1⟩ := hot
  have yj : y ≠ s.heap.objs.size := Nat.ne_of_lt (Heap.lt_size h1)
  unfold unpackItems
  refine wpAny_bind ?_
  unfold notIterableAtAll
  refine wpAny_bind (wpAny_specialOf L.typeIs slot_list_iter.lookup (wpAny_pure ?_))
  simp only [Bool.false_eq_true, if_false]
  refine wpAny_bind (wpAny_holding (wpAny_pyIter_list L (wpAny_bind (wpAny_holding (PySem.W.kun_draw lj vs.size 0 _ _ ⟨_, Heap.get?_push_size _ rfl, rfl, rfl⟩ (L.push _) (by omega) fun h2 i2 s2 => ?_)))))
  have all : List.take vs.size (List.drop 0 vs.toList) = vs.toList := by
    rw [List.drop_zero]
    exact List.take_of_length_le (by simp)
  rw [all, if_neg (by simp)]
  have k2 : ∀ b o, b ≠ s.heap.objs.size → s.heap.get? b = some o → h2.get? b = some o := fun b o n e => s2.extBut b o n (Heap.get?_push_of_some _ e)
  refine wpAny_bind (wpAny_holding (list_ends ⟨hh, oy, ys, k2 _ _ yj h1, d1, c1⟩ yj i2 ((L.push _).extBut s2.extBut lj) (by simp) fun h3 k3 => ?_))
  simp only [Option.isSome_none, Bool.false_eq_true, if_false]
  exact wpAny_pure (q h3 fun b o n e => k3 b o n (k2 b o n e))
end
end HotX
namespace L2
open PySem PySem.Spec PyProof.Rows HotX L2H
section
variable {X : Cx} {pins : List (Addr × Obj)} {τ : St} {G : Hp} {t : Shared} {Q : VK} {elt tg src : Expr} {ifs : List Expr} {sc : Scope} {own : List (Str × Nat)} {pa pb : Pos} {ti te : TE} {g : TG} {tt : TT} {use : Option (Value → Sem Unit)} {Qf : Value → Shared → Prop}
/-- what is handled stood there when the context was entered -/
structure Seen (Y : Cx) (p : Addr × Obj) : Prop where
  hot : Hot1 Y.A p
  get : Y.s_0.heap.get? p.1 = some p.2
  free : Y.H_0 p.1 = none
  nofs : p.1 ∉ Y.fs
  noex : p.1 ∉ Y.ex
theorem Seen.at {Y : Cx} {p : Addr × Obj} {pins : List (Addr × Obj)} {τ : St} {G : Hp} {t : Shared} (S : Seen Y p) (I : Inv Y pins τ G t) : HotAt Y.A p.1 t.heap := by
  obtain ⟨h, v, d, c⟩ := S.hot
  exact ⟨h, p.2, v, I.base.keep p.1 p.2 S.get S.free S.nofs S.noex, d, c⟩
/-- a, b = a list of two, and so on -/
theorem pg_lstH {Y : Cx} {p : Addr × Obj} {es : List Expr} {k : Nat} {u : TGs} {n : Nat} {pos : Pos} (S : Seen Y p) (h : PGs Y es u) (hn : (assignEach es Y.env).length = n := by rfl) (ns : (assignEach es Y.env).findIdx? (·.1) = none := by rfl) : PG Y (.Tuple es k pos) (gLst Y.K n u) := by
  constructor
  rintro pins t τ G v w0 Q I r ⟨a, xs, rfl, hq, hl, want⟩
  cases r
  obtain ⟨its, rv, pl, hz⟩ := I.list hq
  rw [PyProof.Rows.assign_Tuple]
  refine wpAny_bind (wpAny_standAt ?_)
  unfold unpack
  rw [show (assignEach es Y.env).length = its.toArray.size by simp [hn, ← hl, rv.length], ns]
  refine wpAny_bind (wpAny_holding (list_items (S.at I) pl.isList fun h' hx => ?_))
  exact h.run pins _ τ G xs _ Q (I.kept (t' := t.toks) fun b o e => hx b o (Nat.ne_of_lt (Heap.lt_size e)) e) (by simpa using rv) want
/-- a comprehension over a list, within a handler: what is wished is as tLc has it -/
theorem lc_hot {p : Addr × Obj} (hot : Hot1 X.A p) (pm : p ∈ X.pn) (nd : X.N.Nodup) (I : Inv X pins τ G t) (hi : PE X src ti) (ok : BlkOk X.N X.env.scope sc own)
    (hg : ∀ (s : Shared) (H : Hp) (C : Addr) (cl : List (Str × Addr)) (fp : List Addr), Seen (X.blk s H sc (compEnvC sc cl C X.env) fp) p → PG (X.blk s H sc (compEnvC sc cl C X.env) fp) tg g)
    (ht : ∀ (s : Shared) (H : Hp) (C : Addr) (cl : List (Str × Addr)) (fp : List Addr), Seen (X.blk s H sc (compEnvC sc cl C X.env) fp) p → PTs (X.blk s H sc (compEnvC sc cl C X.env) fp) ifs tt)
    (he : ∀ (s : Shared) (H : Hp) (C : Addr) (cl : List (Str × Addr)) (fp : List Addr), Seen (X.blk s H sc (compEnvC sc cl C X.env) fp) p → PE (X.blk s H sc (compEnvC sc cl C X.env) fp) elt te)
    (fo : ∀ x, foldedSetIterable src X.env x = pure x) (want : tLc (iList X.K ti) g tt te (own.map (·.2)) τ G Q)
    (out : ∀ D C t' m G', Inv X pins τ G' t' → Q (.ref D) G' → t'.heap.Ns C m → FpOk X pins G' C → compPost (model X.prog X.w) X.A X.xe use Qf (.ref D) C (.ok .next) t') :
    wpAny (model X.prog X.w) X.A (comprehension (.ListComp elt [⟨tg, src, ifs, 0⟩] sc pa) sc X.env pb (newList []) false (eval src X.env) use) Qf X.xe t := by
  have cap : ∀ y ∈ sc.names, y.2 = .free → ∃ c, X.env.cells.lookup y.1 = some c := fun y m e => I.ok.has _ (ok.free y m e)
  refine wpAny_comprehension_free (use := use) rfl fo (closure_ok cap) ok.kind (fun y m e => by rw [ok.uniq y m, e]) (thn (hi.run pins t τ G _ I want) fun v t1 q1 => ?_)
  obtain ⟨x, G1, I1, r1, l, rfl, ⟨xs, hl⟩, q1⟩ := q1
  obtain rfl : v = Value.ref l := r1
  obtain ⟨_, _, pl, _⟩ := I1.list hl
  refine wpAny_pyIter_list pl.isList ?_
  -- the walk j, the new list D
  obtain ⟨j, ej⟩ : ∃ j, j = t1.heap.objs.size := ⟨_, rfl⟩
  rw [← ej]
  obtain ⟨t2, e2⟩ : ∃ t2 : Shared, t2 = { t1 with heap := t1.heap.push { cls := .type "list_iterator", data := .fields #[.ref l, .int 0 0] } } := ⟨_, rfl⟩
  rw [← e2]
  have I2 : Inv X pins τ G1 t2 := by rw [e2]; exact I1.kept (t' := t1.toks) fun b o e => Heap.get?_push_of_some _ e
  have at2 : t2.heap.IsListIter j l 0 := by rw [e2, ej]; exact ⟨_, Heap.get?_push_size _ rfl, rfl, rfl⟩
  have ok2 : FpOk X pins G1 j := by rw [ej]; exact I1.fpOk (Nat.le_refl _) (I1.hok.fresh (Nat.le_refl _))
  refine wpAny_newObj_type (newEnv_comp ?_) (by show 0 ≤ sizeLine; decide)
  obtain ⟨D, eD⟩ : ∃ D, D = t2.heap.objs.size := ⟨_, rfl⟩
  rw [← eD]
  have nD : G1 D = none := I2.hok.fresh (by rw [eD]; exact Nat.le_refl _)
  have jD : j < D := by rw [eD]; obtain ⟨o, e, _⟩ := at2; exact Heap.lt_size e
  obtain ⟨W, ⟨m0, w0⟩, turn⟩ := q1 D nD
  obtain ⟨t3, e3⟩ : ∃ t3 : Shared, t3 = { t2 with heap := t2.heap.push { cls := .type "list", data := .seq ([] : List Value).toArray } } := ⟨_, rfl⟩
  obtain ⟨G3, eG⟩ : ∃ G3, G3 = upd G1 D (.lst []) := ⟨_, rfl⟩
  rw [← eG] at w0
  have I3 : Inv X pins τ G3 t3 := by
    rw [e3, eG]
    exact I2.laid (t' := t2.toks) (fun b o e => Heap.get?_push_of_some _ e) (by rw [eD]; exact Nat.le_refl _) ⟨Nat.zero_le _, [], 0, .nil, by rw [eD]; exact Heap.get?_push_size _ rfl⟩
  have at3 : t3.heap.IsListIter j l 0 := by rw [e3]; exact at2.at fun o e => Heap.get?_push_of_some _ e
  have j3 : G3 j = none := by rw [eG, upd_ne (Nat.ne_of_lt jD)]; exact ok2.1
  have ok3 : FpOk X pins G3 j := ⟨j3, ok2.2⟩
  have lt3 : j < t3.heap.objs.size := by obtain ⟨o, e, _⟩ := at3; exact Heap.lt_size e
  -- the thing that is handled, seen from within
  obtain ⟨ph, pv, pd, pc⟩ := id hot
  obtain ⟨pg3, pn3, pL, pF, _⟩ := I3.pin p (List.mem_append_left _ pm)
  have pS : p.1 ∉ frs X.stack := fun m => (List.mem_cons.mp (I3.stkSub p.1 m)).elim pL pF
  have pj : p.1 ≠ j := ok3.2.2.2.2.2 p (List.mem_append_left _ pm)
  have B := block_start I3 ok nd (fp := [j]) fun b m => by
    obtain rfl := List.mem_singleton.mp m
    exact ⟨ok3, lt3⟩
  have seen : Seen (X.blk t3 G3 sc (compEnvC sc (cellsFrom (t3.heap.objs.size + 1) sc.names (cloFrom X.env.cells sc.names [])) t3.heap.objs.size X.env) [j]) p := ⟨hot, pg3, pn3, pS, by simpa using pj⟩
  have g' := hg t3 G3 t3.heap.objs.size (cellsFrom (t3.heap.objs.size + 1) sc.names (cloFrom X.env.cells sc.names [])) [j] seen
  have t' := ht t3 G3 t3.heap.objs.size (cellsFrom (t3.heap.objs.size + 1) sc.names (cloFrom X.env.cells sc.names [])) [j] seen
  have e' := he t3 G3 t3.heap.objs.size (cellsFrom (t3.heap.objs.size + 1) sc.names (cloFrom X.env.cells sc.names [])) [j] seen
  rw [← e3]
  show codeAny _ _ (.compStart (.ListComp elt [⟨tg, src, ifs, 0⟩] sc pa) 0 (.ref j) (.ref D) (compEnvC sc (cellsFrom (t3.heap.objs.size + 1) sc.names (cloFrom X.env.cells sc.names [])) t3.heap.objs.size X.env)) (compPost (model X.prog X.w) X.A X.xe use Qf (.ref D) t3.heap.objs.size) { t3 with heap := pushCells (t3.heap.push { cls := .type "dict", data := .dict #[] }) sc.names }
  obtain ⟨ce, ec⟩ : ∃ ce, ce = compEnvC sc (cellsFrom (t3.heap.objs.size + 1) sc.names (cloFrom X.env.cells sc.names [])) t3.heap.objs.size X.env := ⟨_, rfl⟩
  have cl : ce.locals = t3.heap.objs.size := by rw [ec]; rfl
  rw [← ec] at B g' t' e' ⊢
  obtain ⟨t4, e4⟩ : ∃ t4 : Shared, t4 = { t3 with heap := pushCells (t3.heap.push { cls := .type "dict", data := .dict #[] }) sc.names } := ⟨_, rfl⟩
  rw [← e4] at B ⊢
  have at4 : t4.heap.IsListIter j l 0 := by rw [e4]; exact at3.at fun o e => pushCells_keeps _ _ _ _ (Heap.get?_push_of_some _ e)
  have fpB : ∀ {τ' : St} {G' : Hp} {s' : Shared}, Inv (X.blk t3 G3 sc ce [j]) [] τ' G' s' → G' j = none → FpOk (X.blk t3 G3 sc ce [j]) [] G' j := fun I' n =>
    ⟨n, (I'.ok.exf j (by simp)).1, I'.ok.exfs j (by simp), .inl (by simp), fun x c e => (I'.ok.exf j (by simp)).2 x c e, fun p hp => nomatch (show p ∈ ([] : List (Addr × Obj)) ++ [] from hp)⟩
  refine codeAny_compStart_list ?loop (wpAny_pyIter_listiter at4 ?loop)
  refine compLoop_any (fun n s' => ∃ i G', Inv (X.blk t3 G3 sc ce [j]) [] (wipe τ (own.map (·.2))) G' s' ∧ s'.heap.IsListIter j l i ∧ G' j = none ∧ W i n G') ?_ m0 ⟨0, G3, B, at4, j3, w0⟩
  rintro n s5 ⟨i, G5, I5, at5, n5, w5⟩
  have F5 := fpB I5 n5
  rcases turn i n G5 w5 with ⟨⟨ys, hy, le⟩, qq⟩ | ⟨⟨ys, y, hy, hyi⟩, Nx, again, step⟩
  · obtain ⟨its, rv, py, _⟩ := I5.list hy
    have p5 : s5.heap.get? p.1 = some p.2 := I5.base.keep p.1 p.2 pg3 pn3 pS (by simpa using pj)
    refine list_ends (A := X.A) ⟨ph, p.2, pv, p5, pd, pc⟩ pj at5 py.isList (by have := rv.length; simp; omega) fun h k => ?_
    have I6 : Inv (X.blk t3 G3 sc ce [j]) [] (wipe τ (own.map (·.2))) G5 { s5 with heap := h } := I5.turned (t' := s5.toks) k F5.1 F5.2.1 F5.2.2.2.1 F5.2.2.2.2.1 F5.2.2.2.2.2
    obtain ⟨m, hm, _⟩ := I6.loc
    have hm : ({ s5 with heap := h } : Shared).heap.Ns ce.locals m := hm
    have nC : G5 ce.locals = none := I6.free
    rw [cl] at hm nC
    have I7 : Inv X pins τ G5 { s5 with heap := h } := I3.call' (ch := [j]) I6.os I6.base I6.hok I6.bare fun b hb => by
      obtain rfl := List.mem_singleton.mp hb
      exact ⟨ok3.2.2.2.1, ok3.2.1, ok3.2.2.2.2.1, ok3.2.2.2.2.2⟩
    exact out D _ _ m G5 I7 qq hm (I3.fpOk (Nat.le_refl _) nC)
  · obtain ⟨its, rv, py, _⟩ := I5.list hy
    obtain ⟨u, hu, ru⟩ := rv.get hyi
    refine wpAny_pyNext_list_item at5 py.isList (x := u) (by simpa using hu) fun h at6 sb => ?_
    have I6 : Inv (X.blk t3 G3 sc ce [j]) [] (wipe τ (own.map (·.2))) G5 { s5 with heap := h } := I5.turned (t' := s5.toks) (fun b o n e => (sb.2 b n).trans e) F5.1 F5.2.1 F5.2.2.2.1 F5.2.2.2.2.1 F5.2.2.2.2.2
    obtain ⟨oj, gj, cj, dj⟩ := id at6
    refine go_of (s := { s5 with heap := h }) gj cj dj (by decide) ?_
    have I6' : Inv (X.blk t3 G3 sc ce [j]) ([] ++ [(j, oj)]) (wipe τ (own.map (·.2))) G5 { s5 with heap := h } := I6.pins_of fun q hq => by
      obtain rfl : q = (j, oj) := by simpa using hq
      exact ⟨gj, n5, F5.2.1, F5.2.2.1, fun v z => by rw [dj] at z; cases z⟩
    refine thnF (g'.run _ _ _ G5 y u _ I6' ru (step y G5 ⟨rfl, fun zs hz => by rw [I5.list_inj hz hy]; exact hyi⟩)) fun _ s8 ⟨τ8, G8, I8, w8, q8⟩ => ?_
    refine thnF (t'.run _ s8 τ8 G8 _ I8 q8) fun b s9 ⟨G9, I9, q9⟩ => ?_
    have fin : ∀ {s' : Shared} {G' : Hp}, Inv (X.blk t3 G3 sc ce [j]) ([] ++ [(j, oj)]) τ8 G' s' → Nx G' → ∃ m, m < n ∧ ∃ i G', Inv (X.blk t3 G3 sc ce [j]) [] (wipe τ (own.map (·.2))) G' s' ∧ s'.heap.IsListIter j l i ∧ G' j = none ∧ W i m G' := fun {s' G'} J nx => by
      obtain ⟨m', lm, w'⟩ := again G' nx
      have pj' := J.pin (j, oj) (by simp)
      refine ⟨m', lm, i + 1, G', (J.unpinned (pins := [])).weak (by rw [← w8, wipe_length]) (fun k v e => ?_), ⟨oj, pj'.1, cj, dj⟩, pj'.2.1, w'⟩
      rw [← w8] at e
      exact (wipe_some e).1
    cases b
    · simp only [Bool.false_eq_true, if_false] at q9 ⊢
      exact fin I9 q9
    · simp only [if_true] at q9 ⊢
      exact thnF (e'.run _ s9 τ8 G9 _ I9 q9) fun z s10 ⟨yv, G10, I10, r10, acc, d10, z10, nx⟩ => app_ok (X := X.blk t3 G3 sc ce [j]) I10 d10 z10 r10 fun s11 I11 => fin I11 nx
end
end L2
set_option Elab.async false
set_option linter.all false
set_option maxRecDepth 100000
set_option maxHeartbeats 4000000
/-! own exceptions raised, and caught by one of three classes: their context is known to be None, so that the handler may call -/
namespace Gn
open PySem PySem.Spec PyProof.Rows L2
section
variable {X : Cx} {e : Expr} {es : List Expr} {ta : TA} {p pos : Pos}
/-- the exception without a dict is let go -/
theorem bare_goneN {pins : List (Addr × Obj)} {σ : L2.St} {H1 H2 : Hp} {Q : XK} {hp hp2 h2 : Heap} {g1 g2 : Array GenState} {d1 d2 : Drawn} {t1 t2 : Nat} {os1 os2 : OsState} {a C : Addr} (T : Raises X (.ref C)) (I1 : Inv X pins σ H1 ⟨hp, g1, d1, t1, os1⟩)
    (ha : hp.objs.size ≤ a) (kp : ∀ b o, hp.get? b = some o → hp2.get? b = some o) (un : Un (frs X.stack) [] (upd H1 a (exo a C none)) H2 hp2 h2) (hok : HOk X.prog X.w H2 h2) (ho : os2 = os1) (hb : AllBare g2)
    (ea : H2 a = some (exo a C none)) (q : Q (.ref C) none (del H2 a)) : L2N.MkP X pins σ Q (.ref a) ⟨h2, g2, d2, t2, os2⟩ := by
  obtain ⟨t0, hoe⟩ := exo_at hok ea
  have hn : H1 a = none := I1.hok.fresh ha
  obtain ⟨G, y1, y2⟩ := restrict h2 fun b => decide (b ≠ a)
  have gk : ∀ b, b ≠ a → G.get? b = h2.get? b := fun b z => y1 b (decide_eq_true z)
  have ge : G.get? a = none := y2 a (by simp)
  have old : ∀ {b : Addr} {o : Obj}, hp.get? b = some o → b ≠ a := fun {b o} z => Nat.ne_of_lt (Nat.lt_of_lt_of_le (Heap.lt_size z) ha)
  have fr : ∀ {b : Addr}, b ≠ a → H1 b = none → upd H1 a (exo a C none) b = none := fun {b} z n => (upd_ne z).trans n
  have U : Un (frs X.stack) [] H1 (del H2 a) hp G := {
    keep := fun b o z n hf hx => (gk b (old z)).trans (un.keep b o (kp b o z) (fr (old z) n) hf hx)
    slot := fun b o z n hf hx => by
      rw [gk b (old z)]
      exact un.slot b o (kp b o z) (fr (old z) n) hf hx
    free := fun b o z n hx => (del_ne (old z)).trans (un.free b o (kp b o z) (fr (old z) n) hx)
    there := fun b o z hx => by
      rw [gk b (old z)]
      exact un.there b o (kp b o z) hx
    tups := fun b xs z => (del_ne (ne_of_none z hn)).trans (un.tups b xs ((upd_ne (ne_of_none z hn)).trans z))
    frzs := fun b o v z => (del_ne (ne_of_none z hn)).trans (un.frzs b o v ((upd_ne (ne_of_none z hn)).trans z))
    tbls := fun b ps z => by
      rw [del_ne (ne_of_none z hn)]
      exact un.tbls b ps ((upd_ne (ne_of_none z hn)).trans z) }
  have hok3 : HOk X.prog X.w (del H2 a) G := fun b o z => by
    have ba : b ≠ a := fun e => by
      rw [e, del_same] at z
      cases z
    rw [del_ne ba] at z
    have noa : ∀ {c : Addr}, H2 c = some (.own b) → c ≠ a := fun {c} hc => at_ne ea hc exo_own
    refine (hok b o z).stay (fun c v hc y => ?_) (fun c hc => (del_ne (noa hc)).trans hc) fun c xs hc => (del_ne (at_ne ea hc exo_tup)).trans hc
    have ca : c ≠ a := by
      rcases hc with hc | hc
      · rw [hc]
        exact ba
      · exact noa hc
    exact (gk c ca).trans y
  have J : Inv X pins σ (del H2 a) ⟨G, g2, d2, t2, os2⟩ := I1.call' (ch := []) ho U hok3 hb (fun b z => absurd z (by simp))
  refine ⟨a, _, _, ⟨G, g2, d2, t2, os2⟩, _, .ref C, none, rfl, J, fun b o z => ?_, ge, hoe, ⟨rfl, rfl, fun vs z => by cases z; rfl⟩, rfl, rfl, del_same, rfl, hb, T, q⟩
  by_cases ba : b = a
  · rw [ba, ge] at z
    cases z
  · exact (gk b ba).symm.trans z
theorem own_thrownN {CX : CXT} {C fI : Addr} {k : Nat} {fd : FuncData} {ps : List Str} {sp : Sp} {ds us : List Value} {dvs vs : List V} {pins : List (Addr × Obj)} {σ : L2.St} {H1 : Hp} {s1 : Shared} {Q : XK} (T : OwC X.K C)
    (iC : PySem.W.findIn X.K (.ref C) "__init__" = some (some (.ref fI))) (tI : PySem.W.typeIn X.K (.ref fI) = some (.type "function")) (F1 : FnOk X.prog X.w X.K X.mg X.base CX k fI fd ps sp) (hr : Room (k + 1) X.A) (hb : Binds X.K fd ps ds) (hd : Vals dvs ds)
    (hx : Passes CX X (fun _ _ _ => False)) (I1 : Inv X pins σ H1 s1) (r1 : Vals vs us) (hz : vs.length ≤ 1000)
    (q1 : ∀ a, H1 a = none → sp (.ref a :: (vs ++ dvs)) (upd H1 a (exo a C none)) (fun v H2 => v = .non ∧
      ((∃ (d : Addr) (fs : List (Str × V)), H2 a = some (exo a C (some d)) ∧ H2 d = some (exd d fs) ∧ H1 d = none ∧ Q (.ref C) (some d) (upd (del H2 a) d (.xd fs))) ∨ (H2 a = some (exo a C none) ∧ Q (.ref C) none (del H2 a)))) (fun _ _ _ => False)) :
    wpAny (model X.prog X.w) X.A (call (.ref C) us) (L2N.MkP X pins σ Q) X.xe s1 := by
  obtain ⟨nm, q, N, bs, bm, sn, sub, ab, col, dd, k0, k1, k2, k3, k5, B, nw, it, tl, lk, pt, TB⟩ := T.cls
  obtain ⟨hp, g, dr, tk, os⟩ := s1
  have up : hp.objs.size ≤ hp.objs.size + 1 := Nat.le_succ _
  have hn : H1 (hp.objs.size + 1) = none := I1.hok.fresh up
  have hq := q1 (hp.objs.size + 1) hn
  have kk : ∀ b o, hp.get? b = some o → ((hp.push (PySem.W.kdv_tup us)).push (PySem.HandSPX.excO C hp.objs.size)).get? b = some o := fun b o z =>
    Heap.get?_push_of_some _ (Heap.get?_push_of_some _ z)
  have got : ((hp.push (PySem.W.kdv_tup us)).push (PySem.HandSPX.excO C hp.objs.size)).get? (hp.objs.size + 1) = some (PySem.HandSPX.excO C hp.objs.size) := by heap_get
  have I2 := I1.laid (t' := tk) (a := hp.objs.size + 1) (o := exo (hp.objs.size + 1) C none) kk up (exo_ok got)
  have r2 : Vals (V.ref (hp.objs.size + 1) :: (vs ++ dvs)) (Value.ref (hp.objs.size + 1) :: (us ++ ds)) := .cons rfl (r1.append hd)
  have hl : (Value.ref (hp.objs.size + 1) :: us ++ ds).length = ps.length := by
    have z := r2.length
    rw [F1.len _ _ _ _ hq] at z
    exact z.symm
  have few : us.length ≤ sizeLine := by
    rw [← Paired.length r1, sizeLine_eq]
    omega
  refine wpAny_call (PySem.HandSPX.call_own TB.ex (fun n => pt.has n) (I1.kIn _ _ lk) (PySem.W.looks_findIn I1.kIn iC) (fun me => PySem.W.bind_fn I1.kIn me tI) few (codeAny_mono
    (F1.run _ X.stack _ _ ⟨Value.ref (hp.objs.size + 1) :: us, []⟩ (Value.ref (hp.objs.size + 1) :: (us ++ ds)) _ _ (fun _ _ _ => False) (hr.make C us []) (I2.env0.make C us []) (hb _ (Value.ref (hp.objs.size + 1) :: us) I2.kIn hl) r2 hq) fun r s' z => ?_))
  cases r with
  | error er => exact hx pins σ _ _ er s' I2 z
  | ok fl =>
    cases fl with
    | ret u =>
      obtain ⟨v, H2, os2, bare2, un2, hok2, rv, ev, z2⟩ := z
      subst ev
      obtain ⟨h2, g2, d2, t2, os'⟩ := s'
      rcases z2 with ⟨dq, fs, ea, ed, hd1, q2⟩ | ⟨ea, q2⟩
      · exact ⟨rv, by
          obtain ⟨t0, G, J, kG, ge, hoe, na⟩ := mk_end0 (d2 := d2) (t2 := t2) I1 up kk un2 hok2 os2 bare2 ea ed hd1
          exact ⟨_, _, _, ⟨G, g2, d2, t2, os'⟩, _, .ref C, some dq, rfl, J, kG, ge, hoe, ⟨rfl, rfl, fun vs z => by cases z; rfl⟩, rfl, rfl, na, rfl, bare2, raises_own T.exC T.tyC, q2⟩⟩
      · exact ⟨rv, bare_goneN (raises_own T.exC T.tyC) I1 up kk un2 hok2 os2 bare2 ea q2⟩
    | next => exact False.elim z
    | brk => exact False.elim z
    | cont => exact False.elim z
/-- raise C(e, ..) -/
theorem pmk_exoN {CX : CXT} {x : Str} {C fI : Addr} {k : Nat} {fd : FuncData} {ps : List Str} {sp : Sp} {ds : List Value} {dvs : List V} (T : OwC X.K C) (iC : PySem.W.findIn X.K (.ref C) "__init__" = some (some (.ref fI)))
    (tI : PySem.W.typeIn X.K (.ref fI) = some (.type "function")) (F1 : FnOk X.prog X.w X.K X.mg X.base CX k fI fd ps sp) (hr : Room (k + 1) X.A) (hb : Binds X.K fd ps ds) (hd : Vals dvs ds) (hx : Passes CX X (fun _ _ _ => False)) (hg : Gl X x)
    (hm : X.mg x = some (.ref C)) (ha : PA X (e :: es) ta) (hdb : (x == ("__debug__" : Str)) = false := by decide) (he : starEach (e :: es) X.env = (false, eval e X.env) :: starEach es X.env := by rfl) (hpl : (backTo pos (starEach es X.env)).any (·.1) = false := by rfl) :
    L2N.PMk X (.Call (.Name x p) (e :: es) [] pos) (tThr C sp dvs ta) := fun pins s σ H Q I h =>
  wpAny_Call_Name_kw (ld_glob I hg hm (PySem.W.callWith_K (h₀ := X.base) I.ok.mod.kin T.kC (thn (ha.run pos pins s σ H _ I h) fun us s1 ⟨vs, H1, I1, r1, hz, q1⟩ => ⟨I1.kIn, own_thrownN T iC tI F1 hr hb hd hx I1 r1 hz q1⟩) he hpl) hdb)
/-- raise C() -/
theorem pmk_exoN0 {CX : CXT} {x : Str} {C fI : Addr} {k : Nat} {fd : FuncData} {ps : List Str} {sp : Sp} {ds : List Value} {dvs : List V} (T : OwC X.K C) (iC : PySem.W.findIn X.K (.ref C) "__init__" = some (some (.ref fI)))
    (tI : PySem.W.typeIn X.K (.ref fI) = some (.type "function")) (F1 : FnOk X.prog X.w X.K X.mg X.base CX k fI fd ps sp) (hr : Room (k + 1) X.A) (hb : Binds X.K fd ps ds) (hd : Vals dvs ds) (hx : Passes CX X (fun _ _ _ => False)) (hg : Gl X x)
    (hm : X.mg x = some (.ref C)) (hdb : (x == ("__debug__" : Str)) = false := by decide) : L2N.PMk X (.Call (.Name x p) [] [] pos) (tThr C sp dvs tNil) := fun pins s σ H Q I h =>
  wpAny_Call_Name_kw (ld_glob I hg hm (PySem.W.callWith_K0 I.kIn T.kC (own_thrownN (us := []) (vs := []) T iC tI F1 hr hb hd hx I .nil h.1 h.2)) hdb)
end
end Gn
namespace L2
open PySem PySem.Spec PyProof.Rows
section
variable {X : Cx} {pins : List (Addr × Obj)} {τ : St} {G : Hp} {t0 t1 : Shared}
/-- the handler's side: x flies, as it was told, and all else stands -/
structure DownN (X : Cx) (pins : List (Addr × Obj)) (τ : St) (G : Hp) (t0 t1 : Shared) (B : Heap) (x : Addr) (C : Value) (d : Option Addr) : Prop where
  was : Inv X pins τ G t0
  nb : ∀ b o, t0.heap.get? b = some o → b ∉ frs X.stack → B.get? b = some o
  up : t0.heap.UpToSlots t1.heap
  fly : HandSPX.FlyingZ B (X.env :: X.outer) x (L2N.Zn C d) t1.heap
  new : G x = none
  os : t1.os = t0.os
  ag : AllBare t1.gens
variable {B : Heap} {x : Addr} {C : Value} {d : Option Addr}
theorem DownN.inv (S : DownN X pins τ G t0 t1 B x C d) : Inv X pins τ G t1 := S.was.landed S.nb S.fly.1 S.up S.os S.ag
theorem DownN.on (S : DownN X pins τ G t0 t1 B x C d) {h : Heap} (f : HandSPX.FlyingZ B (X.env :: X.outer) x (L2N.Zn C d) h) (u : t1.heap.UpToSlots h) : DownN X pins τ G t0 { t1 with heap := h } B x C d :=
  ⟨S.was, S.nb, S.up.trans u, f, S.new, S.os, S.ag⟩
theorem DownN.more (S : DownN X pins τ G t0 t1 B x C d) (o : Obj) : DownN X pins τ G t0 { t1 with heap := t1.heap.push o } B x C d := by
  have k : ∀ b u, t1.heap.get? b = some u → (t1.heap.push o).get? b = some u := fun _ _ z => Heap.get?_push_of_some _ z
  refine S.on ?_ (Heap.UpToSlots.of_keeps k)
  obtain ⟨a1, a2, a3, oe, w, T, oT, r, g1, g2, g3, g4, g5, g6, g7, g8⟩ := S.fly
  exact ⟨fun b u z => k b u (a1 b u z), a2, a3.of_keeps fun b u z _ => ⟨u, k b u z, rfl⟩, oe, w, T, oT, r, k _ _ g1, g2, g3, g4, g5, g6, k _ _ g7, g8⟩
theorem DownN.suite (S : DownN X pins τ G t0 t1 B x C d) (es : X.stack = X.env :: X.outer) (ef : X.env.frame = some X.env.locals) :
    ∃ oe, t1.heap.get? x = some oe ∧ L2N.Zn C d oe ∧ (∃ w, oe.data = .fields w) ∧ Inv (X.suite x ((x, oe) :: (X.pn ++ pins))) [] τ G t1 := by
  obtain ⟨oe, w, g, z, dt⟩ := S.fly.there
  have off : x ∉ frs (X.env :: X.outer) := fun m => by
    obtain ⟨_, o', e, nf⟩ := S.fly.2.2.1.mem m
    cases g.symm.trans e
    exact nf _ dt
  refine ⟨oe, g, z, ⟨w, dt⟩, S.inv.suite g dt S.new (fun e => off ?_) fun m => off ?_⟩
  · exact List.mem_filterMap.mpr ⟨X.env, by simp, by rw [ef, e]⟩
  · obtain ⟨v, m1, m2⟩ := List.mem_filterMap.mp m
    exact List.mem_filterMap.mpr ⟨v, List.mem_cons.mpr (.inr m1), m2⟩
end
section
variable {X : Cx} {y1 y2 y3 n : Str} {u1 u2 u3 : Value} {j : Nat} {bd su : List Stmt} {s₀ : Stmt} {q1 q2 q3 qt qh qq : Pos} {kk : Nat} {tb : WX → TS} {ts : Addr → Value → Option Addr → TS} {Wo : WX}
theorem ps_try_triN (es : X.stack = X.env :: X.outer) (ef : X.env.frame = some X.env.locals) (nd : X.N.Nodup) (at_ : X.N[j]? = some n) (lo : X.env.kindOf n = some .local) (m1 : Names X y1 u1) (m2 : Names X y2 u2) (m3 : Names X y3 u3) (tk : L2N.Takes X Wo)
    (B : ∀ (W : WX) (pn : List (Addr × Obj)) (xe : Value → Shared → Prop), L2N.Takes (X.tr pn xe) W → PassesOwn (model X.prog X.w) X.A X.env xe → PSs (X.tr pn xe) bd (tb W))
    (S : ∀ (x : Addr) (oe : Obj) (C : Value) (d : Option Addr) (pn : List (Addr × Obj)), L2N.Zn C d oe → (∃ w, oe.data = .fields w) → PSs (X.suite x ((x, oe) :: pn)) (s₀ :: su) (ts x C d)) :
    PS X (.Try bd [.ExceptHandler (some (.Tuple [.Name y1 q1, .Name y2 q2, .Name y3 q3] kk qt)) (some n) (s₀ :: su) qh] [] [] qq) (fun D τ G => tb (wTri X.K [u1, u2, u3] j ts Wo D) D τ G) := by
  constructor
  intro pins t τ G D J want
  have ok := J.ok
  have frames : X.A.frames = some (X.env :: X.outer) := ok.frames.trans (by rw [es])
  let hs := [ExceptHandler.ExceptHandler (some (.Tuple [.Name y1 q1, .Name y2 q2, .Name y3 q3] kk qt)) (some n) (s₀ :: su) qh]
  let after : Value → Shared → Prop := fun e t1 => wpAny (model X.prog X.w) X.A (noteFrame e X.env) (fun _ t2 => wpAny (model X.prog X.w) X.A (setFlight e none) (fun _ t3 => wpAny (model X.prog X.w) X.A (handleBy e X.env hs) (SP X pins D) X.xe t3) X.xe t2) X.xe t1
  have look : L2N.Takes (X.tr (X.pn ++ pins) after) (wTri X.K [u1, u2, u3] j ts Wo D) := by
    rintro e t1 ⟨x, H0, sI, pi, τ1, G1, C, d, rfl, J1, nb, up, sky, new, os, ag, hit, hm, yes, no⟩
    show wpAny (model X.prog X.w) X.A (noteFrame (.ref x) X.env) _ _ _
    rw [show X.stack = X.env :: X.outer from es] at sky
    refine L2N.Sky.land L2N.Zn.steady frames ef sky fun h fl u => ?_
    have D1 : DownN X pins τ1 G1 sI { t1 with heap := h } H0 x C d := ⟨J1.ofTry ok, nb, up.trans u, fl, new, os, ag⟩
    obtain ⟨oe, ge, gz, gd, I1⟩ := D1.suite es ef
    refine wpAny_handleBy_cons (codeAny_handlers_test (ev_tri I1 m1 m2 m3 ?_)) (by intro z; cases z)
    have D2 := D1.more (triO u1 u2 u3)
    have there : (h.push (triO u1 u2 u3)).get? x = some oe := Heap.get?_push_of_some _ ge
    have LT : PySem.W.Looks (model X.prog X.w) (h.push (triO u1 u2 u3)) (typeOf (.ref x)) C := fun A Q E s k z => wpAny_typeOf_ref (k _ _ there) (by rw [gz.1]; exact z)
    refine (PySem.W.exm_tup3 D2.inv.kIn LT (Heap.get?_push_size h rfl) hm).here ?_
    cases hit
    · show wpAny _ X.A (handleBy (.ref x) X.env []) _ _ _
      refine wpAny_handleBy_nil ?_
      obtain ⟨_, _, _, o2, w, T, _, _, g1, _, g3, g4, _⟩ := id D2.fly
      have away : wpAny (model X.prog X.w) X.A (setFlight (.ref x) X.env.frame) (fun _ t5 => wpAny (model X.prog X.w) X.A (throw (.ref x) : Sem Flow) (SP X pins D) X.xe t5) X.xe { t1 with heap := h.push (triO u1 u2 u3) } := by
        rw [ef]
        exact HandSPX.setFlight_upZ D2.fly fun h' held u' => wpAny_throw (tk _ _ ⟨x, H0, sI, pins, τ1, G1, C, d, rfl, D2.was, nb, D2.up.trans u', .inr (.inr (by rw [es]; exact held)), new, os, ag, no rfl⟩)
      unfold PySem.passOn
      refine wpAny_bind (wpAny_field g1 g3 g4 ?_)
      rw [if_neg (by simp : ¬ ((Value.ref T == Value.none) = true))]
      first
        | exact wpAny_bind (wpAny_pure (wpAny_bind away))
        | exact wpAny_bind away
    · refine codeAny_handlers_suite_as (HandSPX.lands_againZ D2.fly fun h' fl' u' => ?_)
      obtain ⟨o3, _, z3, d3, I3⟩ := (D2.on fl' u').suite es ef
      refine store_ok (X := X.suite x ((x, o3) :: (X.pn ++ pins))) (v := .ref x) I3 nd at_ (.inl lo) rfl (fun t5 I5 => ?_) (.inr lo)
      have off : ∀ {τ6 : St} {G6 : Hp} {t6 : Shared} {Q : Shared → Prop}, Inv (X.suite x ((x, o3) :: (X.pn ++ pins))) [] τ6 G6 t6 → (∀ t7, Inv X pins (τ6.set j none) G6 t7 → Q t7) →
          wpAny (model X.prog X.w) X.A (do bindName X.env n .none; unbindBehindTheSuite X.env n qh) (fun _ t7 => Q t7) X.xe t6 := fun I6 go => gone_ok (I6.unsuite ok) nd at_ lo go
      refine wpAny_mono ((S x o3 C d (X.pn ++ pins) z3 d3).run [] t5 _ G1 _ I5 (yes rfl x new)) (fun fl t6 out => ?_) fun _ _ z => z.elim
      cases fl <;> first
        | (obtain ⟨τ6, G6, I6, w6⟩ := out; exact off I6 fun t7 I7 => ⟨_, _, I7, w6⟩)
        | (obtain ⟨v6, τ6, G6, I6, e6, w6⟩ := out; exact off I6 fun t7 I7 => ⟨_, _, _, I7, e6, w6⟩)
  refine wpAny_Try_except (wpAny_mono ((B _ _ after look PassesOwn.looking).run [] t τ G D (J.toTry _) want) (fun fl t1 out => ?_) fun _ _ z => z)
  cases fl <;> first
    | (obtain ⟨τ1, G1, I1, w1⟩ := out; exact wpAny_execs_nil ⟨τ1, G1, I1.ofTry ok, w1⟩)
    | (obtain ⟨τ1, G1, I1, w1⟩ := out; exact ⟨τ1, G1, I1.ofTry ok, w1⟩)
    | (obtain ⟨v1, τ1, G1, I1, e1, w1⟩ := out; exact ⟨v1, τ1, G1, I1.ofTry ok, e1, w1⟩)
end
/-- such a handler is hot -/
theorem hot_suite {X : Cx} {x : Addr} {oe : Obj} {C : Value} {d : Option Addr} {pn : List (Addr × Obj)} (z : L2N.Zn C d oe) (h : ∃ w, oe.data = .fields w) : L2H.HotC (X.suite x ((x, oe) :: pn)) := by
  obtain ⟨w, hw⟩ := h
  exact ⟨(x, oe), ⟨rfl, w, hw, z.2.2 w hw⟩, by simp⟩
end L2
set_option Elab.async false
set_option linter.all false
set_option maxRecDepth 100000
set_option maxHeartbeats 4000000
/-! what a handler asks of the exception that it holds, by itself or in a def that it calls -/
namespace Gn
open PySem PySem.Spec PyProof.Rows L2 L2H
/-! ### a list of truths: how often one stands in it -/
def isB (b : Bool) : Value → Bool
  | .bool c => c == b
  | _ => false
theorem isB_at {b : Bool} {A : Around} {s : Shared} : ∀ {us : List Value} {bs : List Bool}, Vals (bs.map V.bl) us → ∀ y ∈ us, SeqAt.EqAt A s y (.bool b) (isB b y)
  | [], _, _, y, m => nomatch m
  | u :: us, [], r, y, m => nomatch r
  | u :: us, c :: bs, .cons r1 r2, y, m => by
    obtain rfl : u = Value.bool c := r1
    rcases List.mem_cons.mp m with e | m
    · rw [e]; exact SeqAt.EqAt.bool_bool c b
    · exact isB_at r2 y m
theorem isB_count {b : Bool} : ∀ {us : List Value} {bs : List Bool}, Vals (bs.map V.bl) us → us.countP (isB b) = bs.count b
  | [], [], _ => rfl
  | [], _ :: _, r => nomatch r
  | u :: us, [], r => nomatch r
  | u :: us, c :: bs, .cons r1 r2 => by
    obtain rfl : u = Value.bool c := r1
    rw [List.countP_cons, List.count_cons, isB_count r2]; rfl
def rCntB (K : PySem.W.Frag) : V → List V → Hp → VK → Prop := fun x xs H Q => ∃ (p : Addr) (bs : List Bool) (b : Bool), x = .ref p ∧ xs = [.bl b] ∧ SqL K H p (bs.map V.bl) ∧ Q (.int (bs.count b : Nat)) H
theorem mt_countB {X : Cx} : MtR X "list.count" (rCntB X.K) := by
  intro pins s σ H x xs v us Q I rx rxs h
  obtain ⟨p, bs, b, rfl, rfl, hs, q⟩ := h
  cases rx
  obtain ⟨u, rfl, ru⟩ := rxs.one
  obtain rfl : u = Value.bool b := ru
  obtain ⟨its, rv, ⟨⟨cls, dd, data, sl⟩, n, ho, hc, hdn, hd⟩, _⟩ := I.list hs
  dsimp only at hc hd
  subst hc hd
  refine call_meets PySem.F.slot_list_count ⟨_, ho, rfl⟩ PySem.F.entry_list_count (PySem.F.args_list_count_2 _ _) (SeqAt.list_countAt p its.toArray n dd sl (.bool b) (isB b)) ⟨ho, fun y hy => isB_at rv y (by simpa using hy), ⟨.int (bs.count b : Nat), H, I.tok _, ⟨s.toks, ?_⟩, q⟩⟩
  rw [show its.toArray.toList = its from rfl, isB_count rv]
/-! ### the exception that is held: of which classes it is, what it has -/
section
variable {X : Cx} {a : Addr} {cls : Value} {d : Option Addr} {oe : Obj}
theorem held_inst {pins : List (Addr × Obj)} {σ : L2.St} {H : Hp} {s : Shared} {D : Addr} (m : (a, oe) ∈ X.pn) (hz : Zc (.ref D) d oe) (hf : ∃ vs, oe.data = .fields vs) (I : Inv X pins σ H s) (hd : ∀ y, d = some y → ∃ fs, H y = some (.xd fs)) : ∃ ox od, PySem.W.InstAt s.heap a ox D od := by
  obtain ⟨at0, _⟩ := I.pin (a, oe) (List.mem_append.mpr (.inl m))
  obtain ⟨vs, hv⟩ := hf
  obtain ⟨oc, dd, oda, osl⟩ := oe
  obtain ⟨h1, h2⟩ := hz
  dsimp only at h1 h2 hv
  subst h1 h2 hv
  cases dd with
  | none => exact ⟨_, none, at0, rfl, rfl, trivial⟩
  | some y =>
    obtain ⟨fs, ed⟩ := hd y rfl
    obtain ⟨mA, hns, _⟩ := (show ObjOk X.prog X.w H s.heap y (.xd fs) from I.hok y _ ed)
    obtain ⟨od, ho, _⟩ := lookIn_ns hns
    exact ⟨_, some od, at0, rfl, rfl, ho⟩
/-- isinstance(e, c) -/
def rIsP (K : PySem.W.Frag) (cls : Value) (a : Addr) (d : Option Addr) : List V → Hp → VK → Prop := fun xs H Q => ∃ (D : Addr) (c : V) (cv : Value) (b : Bool), cls = .ref D ∧ ExcC K D ∧ xs = [.ref a, c] ∧ (∀ y, d = some y → ∃ fs, H y = some (.xd fs)) ∧ (∀ u, RelV c u → u = cv) ∧ PySem.W.kitOne K (.ref D) cv = some b ∧ Q (.bl b) H
theorem cr_isP (m : (a, oe) ∈ X.pn) (hz : Zc cls d oe) (hf : ∃ vs, oe.data = .fields vs) : CallR X (.builtin "isinstance") (rIsP X.K cls a d) := by
  intro pins s σ H xs us Q I r h
  obtain ⟨D, c, cv, b, rfl, C, rfl, hd, hcv, e, q⟩ := h
  obtain ⟨u1, u2, rfl, r1, r2⟩ := vals2 r
  obtain rfl := hcv _ r2
  cases r1
  exact PySem.W.kia_one (PySem.W.gn_kit C) I.kIn (held_inst m hz hf I hd) e (fun z => nomatch z) fun tk => ⟨.bl b, H, I.tok tk, rfl, q⟩
/-- isinstance(e, (A, B, ..)) -/
def rIsPT (K : PySem.W.Frag) (cls : Value) (a : Addr) (d : Option Addr) : List V → Hp → VK → Prop := fun xs H Q => ∃ (D tp : Addr) (cs : List V) (us : List Value) (b : Bool), cls = .ref D ∧ ExcC K D ∧ xs = [.ref a, .ref tp] ∧ H tp = some (.tup cs) ∧ Paired ClsV cs us ∧ (∀ y, d = some y → ∃ fs, H y = some (.xd fs)) ∧ PySem.W.kitAny K (.ref D) us = some b ∧ Q (.bl b) H
theorem cr_isPT (m : (a, oe) ∈ X.pn) (hz : Zc cls d oe) (hf : ∃ vs, oe.data = .fields vs) : CallR X (.builtin "isinstance") (rIsPT X.K cls a d) := by
  intro pins s σ H xs us Q I r h
  obtain ⟨D, tp, cs, ws, b, rfl, C, rfl, hT, k, hd, e, q⟩ := h
  obtain ⟨u1, u2, rfl, r1, r2⟩ := vals2 r
  cases r1
  cases r2
  obtain ⟨oc, its, rv, o, h1, h2, n, h3⟩ := (show ObjOk X.prog X.w H s.heap tp (.tup cs) from I.hok tp _ hT)
  obtain rfl := ClsV.all k rv
  obtain ⟨ocl, od, dt, sl⟩ := o
  dsimp only at h2 h3
  subst h2 h3
  exact PySem.W.kia_tup (PySem.W.gn_kit C) I.kIn (held_inst m hz hf I hd) h1 e (fun z => nomatch z) fun tk => ⟨.bl b, H, I.tok tk, rfl, q⟩
/-- e.f -/
def tXfP (K : PySem.W.Frag) (a : Addr) (cls : Value) (d : Option Addr) (f : Str) (te : TE) : TE := fun σ H Q => te σ H fun x H1 => ∃ (D dd : Addr) (fs : List (Str × V)) (v : V), x = .ref a ∧ cls = .ref D ∧ XfC K D ∧ PySem.W.findIn K (.ref D) f = some none ∧ d = some dd ∧ H1 dd = some (.xd fs) ∧ fs.lookup f = some v ∧ Q v H1
theorem pe_xfP {e : Expr} {te : TE} {pos : Pos} {f : Str} (m : (a, oe) ∈ X.pn) (hz : Zc cls d oe) (hf : ∃ vs, oe.data = .fields vs) (he : PE X e te) (hb : attributeBase e f X.env (eval e X.env) = eval e X.env := by rfl) : PE X (.Attribute e f pos) (tXfP X.K a cls d f te) := by
  constructor
  intro pins s σ H Q I h
  refine attr_of hb (thn (he.run pins s σ H _ I h) fun u s1 ⟨x, H1, I1, rx, D, dd, fs, v, ex, ec, T, no, ed, ea, l, q⟩ => ?_)
  subst ex ec ed
  obtain rfl : u = Value.ref a := rx
  obtain ⟨at0, _⟩ := I1.pin (a, oe) (List.mem_append.mpr (.inl m))
  obtain ⟨vs, hv⟩ := hf
  obtain ⟨mA, hns, rel⟩ := (show ObjOk X.prog X.w H1 s1.heap dd (.xd fs) from I1.hok dd _ ea)
  obtain ⟨od, ho, hl⟩ := lookIn_ns hns
  obtain ⟨y, hy, ry⟩ := RelO.some_of (v := v) (o := mA f) (by rw [← l]; exact rel f)
  have J : PySem.W.InstAt s1.heap a oe D (some od) := ⟨at0, hz.1, by unfold PySem.W.notCls; rw [hv] <;> rfl, by rw [hz.2]; exact ho⟩
  exact HandSPX.exc_get I1.kIn J T.ga T.gg T.exC (PySem.W.findObj_own T.hdC no rfl (by rw [hl, hy])) (handed_of ry) ⟨v, H1, I1.tok _, ry, q⟩
end
/-! ### a def that is called with the exception that is held: its promise knows it -/
structure FnP (P : Program) (w : World) (K : PySem.W.Frag) (mg : Str → Option Value) (base : Heap) (CX : CXT) (k : Nat) (f : Addr) (fd : FuncData) (ps : List Str) (sp : Addr × Obj → Sp) : Prop where
  len : ∀ p vs H Q E, sp p vs H Q E → vs.length = ps.length
  run : ∀ (A : Around) (outer : List Env) (s : Shared) (H : Hp) (args : Args) (us : List Value) (vs : List V) (Q : VK) (E : XK) (p : Addr × Obj), RoomH k A → Hot1 A p → PinOk outer H s p → Env0 P w K mg base A outer s H → BindsTo s fd args (ps.zip us) → Vals vs us → sp p vs H Q E →
    codeAny (model P w) A (.call (.ref f) args) (CR CX outer P w H s Q E) s
section
variable {P : Program} {w : World} {K : PySem.W.Frag} {mg : Str → Option Value} {base : Heap}
theorem funP {CX : CXT} {x qual : Str} {st : Stmt} {f : Addr} {fd : FuncData} {N ps : List Str} {k : Nat} {sp : Addr × Obj → Sp} (F : Fun K x qual st f fd) (S : FnScope N ps (defScope st)) (len : ∀ p vs H Q E, sp p vs H Q E → vs.length = ps.length)
    (hbody : ∀ (cdv : Value) (A : Around) (outer : List Env) (s : Shared) (H : Hp) (vs : List V) (Q : VK) (E : XK) (p : Addr × Obj), Hot1 A p → RoomH k (A.deeper (envOfC qual (defScope st) s.heap.objs.size f cdv)) → sp p vs H Q E →
      ∃ t, PSs (cxH CX P w K mg base N qual (defScope st) f cdv A outer s H E p) (defBody st) t ∧ t { nx := fun _ H' => Q .non H', rt := Q } (start N vs) H) : FnP P w K mg base CX (k + 1) f fd ps sp := by
  obtain ⟨oc, od, kV, doc, pm, an, cdv, ct, osl, rfl, lk, hcd⟩ := F.ex
  refine ⟨len, fun A outer s H args us vs Q E p hr hot pin e0 hb r hsp => ?_⟩
  have KX : K.In s.heap := e0.mod.kin.keeps fun b o e => (e0.bs b o e).1
  have hkind : ∀ y ∈ ps.zip us, (defScope st).names.lookup y.1 = some .local ∨ ((defScope st).names.lookup y.1 = some .cell ∧ ((cellsFrom (s.heap.objs.size + 1) (defScope st).names []).lookup y.1).isSome = true) := fun y hy =>
    (S.par y.1 (List.of_mem_zip hy).1).elim .inl fun q => .inr ⟨q, PySem.W.cellsFrom_some _ _ _ (.inl q)⟩
  refine codeAny_call_function hr.depth (KX _ _ lk) rfl S.co S.gen rfl (PySem.W.codeRec_of KX hcd) (hb _ _ _ _ (wpAny_newFunctionEnv_cells S.kind hkind fun env he s1 x => ?_))
  subst he
  refine ⟨(e0.mod.nolimit.keeps fun b o e => (e0.bs b o e).1).keeps x.toInCall.keep, codeAny_func ?_⟩
  obtain ⟨t, ht, hq⟩ := hbody cdv A outer s H vs Q E p hot (hr.deeper _) hsp
  have I : Inv (cxH CX P w K mg base N qual (defScope st) f cdv A outer s H E p) [] (start N vs) H s1 := inv_startH S pin e0 (len _ _ _ _ _ hsp) r x
  refine wpAny_mono (ht.run [] s1 (start N vs) H _ I hq) (fun fl s' hs => ?_) fun _ _ hs => hs
  cases fl with
  | ret u => obtain ⟨v, σ', H', J, rv, q⟩ := hs; exact ⟨v, H', J.os, J.bare, J.base, J.hok, rv, q⟩
  | next => obtain ⟨σ', H', J, q⟩ := hs; exact ⟨V.non, H', J.os, J.bare, J.base, J.hok, rfl, q⟩
  | brk => obtain ⟨_, _, _, q⟩ := hs; exact False.elim q
  | cont => obtain ⟨_, _, _, q⟩ := hs; exact False.elim q
end
section
variable {X : Cx} {CX : CXT} {k : Nat} {f : Addr} {fd : FuncData} {ps : List Str} {sp : Addr × Obj → Sp} {E : XK} {x : Str} {p pos : Pos} {e : Expr} {es : List Expr} {t : TA} {q : Addr × Obj}
theorem pe_callP (F : FnP X.prog X.w X.K X.mg X.base CX k f fd ps sp) (hr : RoomH k X.A) (m : q ∈ X.pn) (hot : Hot1 X.A q) (hg : Gl X x) (hm : X.mg x = some (.ref f)) (hk : PySem.W.keepIn X.K (.ref f) = true) (hb : Binds X.K fd ps []) (hx : Passes CX X E)
    (ha : PA X (e :: es) t) (hdb : (x == ("__debug__" : Str)) = false := by decide) (he : starEach (e :: es) X.env = (false, eval e X.env) :: starEach es X.env := by rfl) (hpl : (backTo pos (starEach es X.env)).any (·.1) = false := by rfl) :
    PE X (.Call (.Name x p) (e :: es) [] pos) (tCall (sp q) [] E t) := by
  constructor
  intro pins s σ H Q I h
  refine wpAny_Call_Name_kw (ld_glob I hg hm (PySem.W.callWith_K (h₀ := X.base) I.ok.mod.kin hk (thn (ha.run pos pins s σ H _ I h) fun us s1 ⟨vs, H1, I1, r, z⟩ => ⟨I1.kIn, ?_⟩) he hpl) hdb)
  have z : sp q (vs ++ []) H1 Q E := z
  rw [List.append_nil] at z
  have b := hb s1 us I1.kIn (by rw [List.append_nil, ← r.length]; exact F.len _ _ _ _ _ z)
  rw [List.append_nil] at b
  obtain ⟨p1, p2, p3, p4, p5⟩ := I1.pin q (List.mem_append.mpr (.inl m))
  refine wpAny_call (codeAny_mono (F.run X.A X.stack s1 H1 ⟨us, []⟩ us vs Q E q hr hot ⟨p1, p2, fun hm => (List.mem_cons.mp (I1.stkSub q.1 hm)).elim p3 p4, p5⟩ I1.env0 b r z) fun r s' hq => ?_)
  have y := back_of hx I1 hq
  cases r with
  | error e => exact y
  | ok fl => cases fl with
    | ret u => exact y
    | next => exact y.elim
    | brk => exact y.elim
    | cont => exact y.elim
end
end Gn
set_option Elab.async false
set_option linter.all false
set_option maxRecDepth 100000
set_option maxHeartbeats 4000000
/-! y = [..] within a handler -/
namespace L2
open PySem PySem.Spec PyProof.Rows HotX L2H
section
variable {X : Cx} {i : Nat} {y : Str} {elt tg src : Expr} {ifs : List Expr} {sc : Scope} {own : List (Str × Nat)} {py pa ps : Pos} {ti te : TE} {g : TG} {tt : TT}
theorem ps_setLcH {p : Addr × Obj} (hot : Hot1 X.A p) (pm : p ∈ X.pn) (nd : X.N.Nodup) (hy : X.N[i]? = some y) (lo : X.env.scope.names.lookup y = some .local) (sw : swapsWith (.ListComp elt [⟨tg, src, ifs, 0⟩] sc pa) (some (.Name y py)) ps.line X.env = pure true) (hi : PE X src ti) (ok : BlkOk X.N X.env.scope sc own)
    (hg : ∀ (s : Shared) (H : Hp) (C : Addr) (cl : List (Str × Addr)) (fp : List Addr), Seen (X.blk s H sc (compEnvC sc cl C X.env) fp) p → PG (X.blk s H sc (compEnvC sc cl C X.env) fp) tg g)
    (ht : ∀ (s : Shared) (H : Hp) (C : Addr) (cl : List (Str × Addr)) (fp : List Addr), Seen (X.blk s H sc (compEnvC sc cl C X.env) fp) p → PTs (X.blk s H sc (compEnvC sc cl C X.env) fp) ifs tt)
    (he : ∀ (s : Shared) (H : Hp) (C : Addr) (cl : List (Str × Addr)) (fp : List Addr), Seen (X.blk s H sc (compEnvC sc cl C X.env) fp) p → PE (X.blk s H sc (compEnvC sc cl C X.env) fp) elt te)
    (fo : ∀ x, foldedSetIterable src X.env x = pure x := by intro _; rfl) : PS X (.Assign [.Name y py] (.ListComp elt [⟨tg, src, ifs, 0⟩] sc pa) ps) (tAsg (tLc (iList X.K ti) g tt te (own.map (·.2))) (gName i)) := by
  constructor
  intro pins t τ G D J want
  have want : tLc (iList X.K ti) g tt te (own.map (·.2)) τ G (fun x G1 => gName i x τ G1 D.nx) := want
  rw [exec_Assign_Name_used _ _ _ _ sw]
  refine wpAny_bind (wpAny_standAt (wpAny_bind ?_))
  change wpAny _ X.A (comprehension (.ListComp elt [⟨tg, src, ifs, 0⟩] sc pa) sc X.env (firstIterPos [⟨tg, src, ifs, 0⟩] pa) (newList []) false (eval src X.env) (some (assign (.Name y py) X.env)) >>= _) _ _ t
  refine wpAny_bind (thn (lc_hot (Qf := fun _ u => SP X pins D .next u) hot pm nd J hi ok hg ht he fo want fun L C u m G' J' q hn fr => ?_) fun _ u z => wpAny_pure (wpAny_pure z))
  change wpAny _ _ (assign (.Name y py) X.env (.ref L)) _ _ _
  refine wpAny_assign_Name (store_ok2 (v := V.ref L) J' nd hy (.inl lo) rfl (fun u2 J2 ⟨b, sb, hb⟩ => ?_) (.inr lo))
  have off : C ≠ b := hb.elim (fun z => z ▸ fr.2.1) fun z e => fr.2.2.2.2.1 y b z e.symm
  exact ⟨m, hn.sameBut sb off, fun h3 sb3 => ⟨_, G', J2.turned (t' := u2.toks) (fun c o n e => (sb3.2 c n).trans e) fr.1 fr.2.1 fr.2.2.2.1 fr.2.2.2.2.1 fr.2.2.2.2.2, q⟩⟩
end
end L2
set_option Elab.async false
set_option linter.all false
set_option maxRecDepth 100000
set_option maxHeartbeats 4000000
/-! a lambda handed to a def that tries it: what it raises has a known context -/
namespace Gn
open PySem PySem.Spec PyProof.Rows L2
section
variable {P : Program} {w : World} {K : PySem.W.Frag} {mg : Str → Option Value} {base : Heap}
/-- a def that may raise -/
theorem okN {x qual : Str} {st : Stmt} {f : Addr} {fd : FuncData} {N ps : List Str} {k : Nat} {sp : Sp} (F : Fun K x qual st f fd) (S : FnScope N ps (defScope st)) (len : ∀ vs H Q E, sp vs H Q E → vs.length = ps.length)
    (body : ∀ (cdv : Value) (A : Around) (outer : List Env) (s : Shared) (H : Hp) (vs : List V) (Q : VK) (E : XK), Room k (A.deeper (envOfC qual (defScope st) s.heap.objs.size f cdv)) → sp vs H Q E →
      ∃ t, PSs (cxOf (L2N.CX P w) P w K mg base N qual (defScope st) f cdv A outer s H E) (defBody st) t ∧ t { nx := fun _ G => Q .non G, rt := Q } (start N vs) H) : FnOk P w K mg base (L2N.CX P w) (k + 1) f fd ps sp := by
  obtain ⟨_, _, _, _, _, _, cdv, _, _, rfl, lk, hcd⟩ := F.ex
  exact fn_of lk hcd S len fun A o s H vs Q E => body cdv A o s H vs Q E
end
/-- the lambda's body, entered at s -/
abbrev lamN (X : Cx) (A : Around) (outer : List Env) (s : Shared) (H : Hp) (E : XK) (sc : Scope) (f c : Addr) : Cx :=
  (LamX.lamCx X A outer s H E sc f c).wish fun e t => wpAny (model X.prog X.w) (A.deeper (LamX.lamEnv X sc s.heap.objs.size f c)) (leaving (LamX.lamEnv X sc s.heap.objs.size f c) e) (fun _ t' => L2N.CX X.prog X.w outer H s E e t') (fun e' t' => L2N.CX X.prog X.w outer H s E e' t') t
section
variable {X : Cx} {pins : List (Addr × Obj)} {σ : L2.St} {H : Hp} {s : Shared}
/-- what leaves the body -/
theorem lamN_takes {A : Around} {outer : List Env} {E : XK} {sc : Scope} {f c : Addr} : L2N.Takes (lamN X A outer s H E sc f c) fun C d _ G => E C d G :=
  L2N.takes_of (E₁ := fun e' t' => L2N.CX X.prog X.w outer H s E e' t') rfl rfl rfl rfl
/-- a(), in the def that got the lambda -/
theorem pe_actN {CXg : CXT} {Eg : XK} {Ng : List Str} {qg : Str} {sg sc : Scope} {g f c : Addr} {cdg pm ctv : Value} {pr : Arguments} {bo : Expr} {k i : Nat} {a : Str} {pn : List (Addr × Obj)} {xe : Value → Shared → Prop} {W : WX} {tb : XK → TE} {p1 p2 : Pos}
    (I : Inv X pins σ H s) (L : LamX.LamS X.env.scope sc) (gf : s.heap.get? f = some (PySem.W.kla_obj "<lambda>" (X.env.qual ++ "<lambda>") pr bo sc (cloFrom X.env.cells sc.names []) pm c ctv)) (nf : H f = none) (off : f ∉ frs X.stack)
    (bi : bindArgs (PySem.W.kla_fn "<lambda>" (X.env.qual ++ "<lambda>") pr bo sc (cloFrom X.env.cells sc.names []) pm (.ref c) ctv) ⟨[], []⟩ = pure [])
    (tk : L2N.Takes ((cxOf CXg X.prog X.w X.K X.mg X.base Ng qg sg g cdg X.A X.stack s H Eg).tr pn xe) W) (hr : Room (k + 1) (X.A.deeper (envOfC qg sg s.heap.objs.size g cdg)))
    (body : ∀ (A : Around) (outer : List Env) (s : Shared) (H : Hp) (E : XK), Room k (A.deeper (LamX.lamEnv X sc s.heap.objs.size f c)) → PE (lamN X A outer s H E sc f c) bo (tb E))
    (at_ : Ng[i]? = some a) (vi : Vis sg a) (nd : (a == ("__debug__" : Str)) = false := by decide) (nc : (a == ("__classdict__" : Str)) = false := by decide) :
    PE ((cxOf CXg X.prog X.w X.K X.mg X.base Ng qg sg g cdg X.A X.stack s H Eg).tr pn xe) (.Call (.Name a p1) [] [] p2)
      (fun τ G Q => τ[i]? = some (some (.ref f)) ∧ G c = some (LamX.CodeO c (X.env.qual ++ "<lambda>")) ∧ tb (fun C d G' => W C d τ G') σ G Q) := by
  constructor
  rintro pi t τ G Q J ⟨slot, co, want⟩
  refine wpAny_Call_Name_kw (thn ((pe_var (pos := p1) (i := i) at_ vi nd nc).run pi t τ G (fun v G1 => v = .ref f ∧ G1 = G) J ⟨.ref f, slot, rfl, rfl⟩) fun u t1 ⟨v, G1, J1, rv, ev, eG⟩ => ?_)
  subst ev eG
  obtain rfl : u = Value.ref f := rv
  have g1 := J1.base.keep f _ gf nf off (fun z => nomatch (show f ∈ ([] : List Addr) from z))
  have un : Un (frs X.stack) [] H G1 s.heap t1.heap := J1.base
  obtain ⟨⟨oc, vs, tn, goc, gd, gv⟩, _, _⟩ := J1.hok c _ co
  have run : codeAny (model X.prog X.w) (X.A.deeper (envOfC qg sg s.heap.objs.size g cdg)) (.call (.ref f) ⟨[], []⟩) (CR (L2N.CX X.prog X.w) (envOfC qg sg s.heap.objs.size g cdg :: X.stack) X.prog X.w G1 t1 Q fun C d G' => W C d τ G') t1 := by
    refine PySem.W.kla_callFunE hr.depth g1 rfl L.co L.gen rfl ⟨c, oc, vs, tn, rfl, goc, gd, gv⟩ ?_
    rw [bi]
    refine wpAny_pure (wpAny_newFunctionEnv (fun y m => (L.own y m).2) (fun y m => absurd m (by simp)) (fun h ns sb => ⟨J1.nolimit.fresh _ sb, ?_⟩) L.kind)
    change codeAny _ _ (.expr bo (LamX.lamEnv X sc t1.heap.objs.size f c)) _ _
    have start := LamX.lam_start2 (A := X.A.deeper (envOfC qg sg s.heap.objs.size g cdg)) (outer := envOfC qg sg s.heap.objs.size g cdg :: X.stack) (E := fun C d G' => W C d τ G') (c' := c) (f := f) (tk := t1.toks + ([] : List (Str × Value)).length) I L J1.env0 hr.hd un ns fun b o e => sb.extBut b o (Nat.ne_of_lt (Heap.lt_size e)) (Heap.get?_push_of_some _ e)
    refine PySem.W.kla_codeExpr (wpAny_mono ((body _ _ t1 G1 _ (hr.deeper _)).run [] _ σ G1 Q (start.wish _) want) (fun v t2 ⟨y, G2, J2, ry, q⟩ => ?_) fun _ _ z => z)
    exact ⟨y, G2, J2.os, J2.bare, J2.base, J2.hok, ry, q⟩
  refine PySem.W.callWith_F0 ⟨_, _, _, _, g1⟩ (wpAny_call (codeAny_mono run fun r t2 z => ?_))
  cases r with
  | error e => exact tk e t2 (L2N.XE.of_call J1 (fun C d G' h => h) z)
  | ok fl => cases fl with
    | ret u => exact J1.after z
    | next => exact z.elim
    | brk => exact z.elim
    | cont => exact z.elim
/-- the def that tries what it got: TT, what it makes of the lambda's reading -/
def GivesN (X : Cx) (Ng : List Str) (x : Str) (sg : Scope) (g : Addr) (cdg : Value) (bg : List Stmt) (a : Str) (q : Str) (k : Nat) (TT : (XK → Hp → VK → Prop) → Hp → VK → Prop) : Prop :=
  ∀ (f c : Addr) (s : Shared) (H : Hp) (Q : VK) (tl : XK → Hp → VK → Prop),
    (∀ (W : WX) (pn : List (Addr × Obj)) (xe : Value → Shared → Prop) (p1 p2 : Pos), L2N.Takes ((cxOf CX0 X.prog X.w X.K X.mg X.base Ng x sg g cdg X.A X.stack s H E0).tr pn xe) W →
      PE ((cxOf CX0 X.prog X.w X.K X.mg X.base Ng x sg g cdg X.A X.stack s H E0).tr pn xe) (.Call (.Name a p1) [] [] p2) (fun τ G Q => τ[0]? = some (some (.ref f)) ∧ G c = some (LamX.CodeO c q) ∧ tl (fun C d G' => W C d τ G') G Q)) →
    H c = some (LamX.CodeO c q) → Room (k + 1) (X.A.deeper (envOfC x sg s.heap.objs.size g cdg)) → TT tl H Q →
    ∃ t, PSs (cxOf CX0 X.prog X.w X.K X.mg X.base Ng x sg g cdg X.A X.stack s H E0).nox bg t ∧ t { nx := fun _ G => Q .non G, rt := Q } (L2.start Ng [.ref f]) H
/-- x(lambda: bo) -/
theorem pe_lamN {T : List (Addr × Str)} {TT : (XK → Hp → VK → Prop) → Hp → VK → Prop} {x a : Str} {g c P : Addr} {k : Nat} {st : Stmt} {fd : FuncData} {Ng : List Str} {pr : Arguments} {bo : Expr} {sc : Scope} {t : XK → TE} {p lp pos : Pos}
    (hg : Gl X x) (hm : X.mg x = some (.ref g)) (F : Fun X.K x x st g fd) (kp : PySem.W.keepIn X.K (.ref g) = true) (hb : Binds X.K fd [a] []) (Sg : FnScope Ng [a] (defScope st)) (at_ : Ng[0]? = some a) (vi : Vis (defScope st) a)
    (hG : ∀ cdv, GivesN X Ng x (defScope st) g cdv (defBody st) a (X.env.qual ++ "<lambda>") k TT)
    (TB : LamX.TabB X.base X.mg c P) (ec : X.env.code = .ref c) (mT : (P, X.env.qual ++ "<lambda>") ∈ T) (one : ∀ q ∈ T, q.1 = P → q.2 = X.env.qual ++ "<lambda>") (hr : Room (k + 2) X.A) (L : LamX.LamS X.env.scope sc) (df : defaultsOf pr X.env = ([], []))
    (bi : ∀ (q : Str) (cl : List (Str × Addr)) (pm cv ctv : Value), bindArgs (PySem.W.kla_fn "<lambda>" q pr bo sc cl pm cv ctv) ⟨[], []⟩ = pure [])
    (body : ∀ (A : Around) (outer : List Env) (s : Shared) (H : Hp) (E : XK) (f c' : Addr), Room k (A.deeper (LamX.lamEnv X sc s.heap.objs.size f c')) → PE (lamN X A outer s H E sc f c') bo (t E))
    (nx : (x == ("__debug__" : Str)) = false := by decide) (nd : (a == ("__debug__" : Str)) = false := by decide) (nc : (a == ("__classdict__" : Str)) = false := by decide) :
    PE X (.Call (.Name x p) [.Lambda pr bo sc lp] [] pos) (LamX.tLam T TT t) := by
  obtain ⟨_, _, _, _, _, _, cdv, _, _, rfl, lk, hcd⟩ := F.ex
  constructor
  rintro pins s σ H Q I ⟨tabs, want⟩
  refine wpAny_Call_Name_kw (ld_glob I hg hm (PySem.W.callWith_K (h₀ := X.base) I.ok.mod.kin kp ?_ (by rfl) (by rfl)) nx)
  change wpAny _ _ (spliced ((false, eval (.Lambda pr bo sc lp) X.env) :: backTo pos (starEach [] X.env))) _ _ s
  refine Calls.spliced_cons (LamX.lam_make2 I TB ec mT one tabs df (L.has I.ok) fun f c' pm ctv H1 s1 I1 eN T1 gf nf off co => Calls.spliced_nil ⟨I1.kIn, ?_⟩)
  have run : codeAny (model X.prog X.w) X.A (.call (.ref g) ⟨[.ref f], []⟩) (CR CX0 X.stack X.prog X.w H1 s1 Q E0) s1 := by
    refine LamX.run_ofS (N := Ng) (ps := [a]) (us := [.ref f]) (vs := [.ref f]) lk hcd Sg hr I1.env0 (hb s1 [.ref f] I1.kIn rfl) (.cons rfl .nil) rfl fun hr' => ?_
    obtain ⟨u, hu, q⟩ := hG cdv f c' s1 H1 Q (fun E G Q' => t E σ G Q') (fun W pn xe p1 p2 tk => pe_actN (i := 0) I1 L gf nf off (bi _ _ _ _ _) tk hr' (fun A o s2 H2 E hr2 => body A o s2 H2 E f c' hr2) at_ vi nd nc) co hr' (want H1 eN T1)
    exact ⟨u, hu.nox, q⟩
  refine wpAny_call (codeAny_mono run fun r s2 z => ?_)
  cases r with
  | error e => exact (show False from z).elim
  | ok fl => cases fl with
    | ret u => exact I1.after z
    | next => exact z.elim
    | brk => exact z.elim
    | cont => exact z.elim
end
end Gn
set_option Elab.async false
set_option linter.all false
set_option maxRecDepth 100000
set_option maxHeartbeats 4000000
/-! the end of a law whose defs make lambdas, no guards known ahead -/
namespace Gn
open PySem PySem.Spec PyProof.Rows L2
section
variable {P : Program} {w : World} {K : PySem.W.Frag} {mg mb : Str → Option Value}
/-- a table of code objects that is empty yet -/
def tabO : Obj := { cls := .none, data := .fields #[] }
theorem lawGT {CX : CXT} {k : Nat} {fa a : Addr} {cs : List (Addr × Addr)} {fd : FuncData} {x : Str} {sp : Sp} {s₁ : Shared} {vs : List Value} {ns : List Int}
    (KX : K.In s₁.heap) (hns : s₁.heap.Ns mainGlobals mg) (hb : s₁.heap.Ns builtinsNs mb) (hbb : ∀ x : Str, x ≠ "__name__" → mb x = bootBuiltins x) (hlim : s₁.heap.NoLimit) (hg : s₁.gens = #[])
    (T0 : ∀ p ∈ cs, s₁.heap.get? p.2 = some tabO) (T1 : ∀ p ∈ cs, K.lookup p.2 = none) (T2 : ∀ p ∈ cs, PySem.W.CodeHd s₁.heap p.1 p.2)
    (bm : ∃ (m : Addr) (o : Obj), mg "__builtins__" = some (.ref m) ∧ m ≠ builtinsNs ∧ s₁.heap.get? m = some o ∧ o.cls = .type "module" ∧ o.dict = some builtinsNs ∧ o.data = .plain)
    (ha : s₁.heap.get? a = some { cls := .type "list", data := .seq vs.toArray }) (hi : IntsAre vs ns) (hl : ns.length ≤ sizeLine) (hr : Room k callerA)
    (F : ∀ base : Heap, K.In base → base.Ns mainGlobals mg → (∀ p ∈ cs, LamX.TabB base mg p.1 p.2) → FnG P w K mg base CX k fa fd [x] sp) (hbind : ∀ (s : Shared) (u : Value), BindsTo s fd ⟨[u], []⟩ [(x, u)])
    (hsp : ∀ H : Hp, (∀ p ∈ cs, H p.2 = some (.tbl #[])) → SqL K H a (ns.map V.int) → sp [.ref a] H (fun v _ => v = .bl true) fun _ _ _ => False) (hCX : ∀ H e s', CX [] H s₁ (fun _ _ _ => False) e s' → False) :
    codeAny (model P w) callerA (.call (.ref fa) ⟨[.ref a], []⟩) (fun r s' => r = .ok (.ret (.bool true)) ∧ OldK s₁.heap s'.heap ∧ s'.os = s₁.os ∧ AllBare s'.gens) s₁ := by
  have rv := vals_ints hi
  have isT : ∀ b, b ∈ cs.map (·.2) → s₁.heap.get? b = some tabO := fun b m => by
    obtain ⟨p, pm, rfl⟩ := List.mem_map.mp m
    exact T0 p pm
  have nA : a ∉ cs.map (·.2) := fun m => by
    have z := (isT a m).symm.trans ha
    have z' := congrArg Obj.data (Option.some.inj z)
    cases z'
  have mT : ∀ p ∈ cs, p.2 ∈ cs.map (·.2) := fun p m => List.mem_map.mpr ⟨p, m, rfl⟩
  -- what is tracked at first: the tables, and the script where the kit's frame doesn't hold it
  let H0 : Hp := fun b => if b ∈ cs.map (·.2) then some (.tbl #[]) else if b = a ∧ K.lookup a = none then some (.frz { cls := .type "list", data := .seq vs.toArray } (.lst (ns.map V.int))) else none
  have HT : ∀ p ∈ cs, H0 p.2 = some (.tbl #[]) := fun p m => if_pos (mT p m)
  have HN : ∀ b, b ∉ cs.map (·.2) → ¬ (b = a ∧ K.lookup a = none) → H0 b = none := fun b m n => by
    show (if b ∈ cs.map (·.2) then _ else _) = _
    rw [if_neg m, if_neg n]
  have HA : K.lookup a = none → H0 a = some (.frz { cls := .type "list", data := .seq vs.toArray } (.lst (ns.map V.int))) := fun n => by
    show (if a ∈ cs.map (·.2) then _ else _) = _
    rw [if_neg nA, if_pos ⟨rfl, n⟩]
  have hS : SqL K H0 a (ns.map V.int) := by
    cases q : K.lookup a with
    | none => exact .inl (.inr ⟨_, HA q⟩)
    | some o =>
      have e := KX a o q
      rw [ha] at e
      cases e
      exact .inr ⟨_, vs.toArray, _, q, rfl, rfl, rfl, by rw [List.size_toArray, hi.length]; exact hl, by simpa using rv⟩
  have hok : HOk P w H0 s₁.heap := fun b u e => by
    by_cases m : b ∈ cs.map (·.2)
    · have e' : (some (HO.tbl #[]) : Option HO) = some u := (if_pos m).symm.trans e
      cases e'
      exact isT b m
    · by_cases n : b = a ∧ K.lookup a = none
      · obtain ⟨rfl, n⟩ := n
        cases (HA n).symm.trans e
        exact ⟨ha, by rw [List.length_map]; exact hl, vs, _, rv, ha⟩
      · cases (HN b m n).symm.trans e
  -- what is not tracked lies in the base
  have low : ∀ {b : Addr} {o : Obj}, s₁.heap.get? b = some o → (∀ vs n, o.data ≠ .seq vs n) → o.data ≠ .fields #[] → (hidT s₁.heap H0).get? b = some o := fun {b o} e h1 h2 => hidT_get e (HN b (fun m => by
      rw [isT b m] at e
      cases e
      exact h2 rfl) fun n => by
      rw [n.1, ha] at e
      cases e
      exact h1 _ _ rfl)
  have lowN : ∀ {b : Addr} {m : Str → Option Value}, s₁.heap.Ns b m → (hidT s₁.heap H0).Ns b m := fun {b m} ⟨o, es, ep, e, d, r⟩ => ⟨o, es, ep, low e (fun vs n z => by rw [d] at z; cases z) (fun z => by rw [d] at z; cases z), d, r⟩
  have kb : K.In (hidT s₁.heap H0) := fun b o e => hidT_get (KX b o e) (HN b (fun m => by
      obtain ⟨p, pm, rfl⟩ := List.mem_map.mp m
      rw [T1 p pm] at e
      cases e) fun n => by
      rw [n.1, n.2] at e
      cases e)
  have md : Mod K mg (hidT s₁.heap H0) := ⟨kb, lowN hns, ⟨mb, lowN hb, hbb⟩, let ⟨mc, h1, h2⟩ := hlim; ⟨mc, lowN h1, h2⟩⟩
  have TB : ∀ p ∈ cs, LamX.TabB (hidT s₁.heap H0) mg p.1 p.2 := fun p m => by
    have tp := T0 p m
    refine ⟨?_, ?_, fun z => ?_⟩
    · obtain ⟨o, us, c1, c2, c3, c4, c5, c6, c7, e, r1, r2, r3, r⟩ := T2 p m
      refine ⟨o, us, c1, c2, c3, c4, c5, c6, c7, low e (fun vs n z => ?_) (fun z => ?_), r1, r2, r3, r⟩
      · rw [r2] at z
        cases z
      · rw [r2] at z
        cases z
        simp at r3
    · obtain ⟨m0, o, b1, b2, b3, b4, b5, b6⟩ := bm
      refine ⟨m0, o, b1, b2, fun q => ?_, fun q => ?_, low b3 (fun vs n z => by rw [b6] at z; cases z) (fun z => by rw [b6] at z; cases z), b4, b5, b6⟩
      · obtain ⟨_, _, _, e, d, _⟩ := hns
        rw [q, e] at b3
        cases b3
        rw [d] at b6
        cases b6
      · rw [q, tp] at b3
        cases b3
        cases b6
    · obtain ⟨_, _, _, e, d, _⟩ := hns
      rw [z, tp] at e
      cases e
      cases d
  have e0 : Env0 P w K mg (hidT s₁.heap H0) callerA [] s₁ H0 := ⟨rfl, md, fun b o e => of_hidT e, Nat.le_of_eq (hidT_size _ _), trivial, fun b m => absurd (show b ∈ ([] : List Addr) from m) (by simp), hok, .of_eq hg⟩
  refine codeAny_mono ((F _ kb (lowN hns) TB).run callerA [] s₁ H0 ⟨[.ref a], []⟩ [.ref a] [.ref a] _ _ rfl hr e0 (hbind s₁ (.ref a)) (.cons rfl .nil) (hsp H0 HT hS)) fun r s' h => ?_
  cases r with
  | error e => exact (hCX H0 e s' h).elim
  | ok fl => cases fl with
    | next => exact False.elim h
    | brk => exact False.elim h
    | cont => exact False.elim h
    | ret u =>
      obtain ⟨v, H', os, bare, un, hok', r', q⟩ := h
      obtain rfl : v = .bl true := q
      obtain rfl : u = Value.bool true := r'
      have same : ∀ b o, b ∉ cs.map (·.2) → s₁.heap.get? b = some o → s'.heap.get? b = some o := fun b o m e => by
        by_cases n : b = a ∧ K.lookup a = none
        · obtain ⟨rfl, n⟩ := n
          obtain ⟨e1, _⟩ := hok b _ (HA n)
          obtain ⟨e2, _⟩ := hok' b _ (un.frzs b _ _ (HA n))
          exact e2.trans (e1.symm.trans e)
        · exact un.keep b o e (HN b m n) (fun z => nomatch z) (fun z => nomatch z)
      have more : ∀ p ∈ cs, ∃ ps : Array Value, s'.heap.get? p.2 = some { cls := .none, data := .fields ps } := fun p m => by
        obtain ⟨ps, z⟩ := un.tbls p.2 #[] (HT p m)
        exact ⟨_, hok' p.2 _ z⟩
      refine ⟨rfl, ⟨fun b o e => ?_, fun b o e => ?_⟩, os, bare⟩
      · by_cases m : b ∈ cs.map (·.2)
        · obtain ⟨p, pm, rfl⟩ := List.mem_map.mp m
          obtain ⟨ps, z⟩ := more p pm
          cases (T0 p pm).symm.trans e
          exact .inr (.inl ⟨((T2 p pm).tab (T0 p pm)).isCodeTable, rfl, #[], ps, rfl, by rw [Array.empty_append]; exact z⟩)
        · exact .inl (same b o m e)
      · by_cases m : b ∈ cs.map (·.2)
        · obtain ⟨p, pm, rfl⟩ := List.mem_map.mp m
          obtain ⟨ps, z⟩ := more p pm
          exact ⟨_, z⟩
        · exact ⟨o, same b o m e⟩
/-- what the head gives of the law -/
def LawAtG (l : PySem.W.OpenLaw) (w : World) (K : PySem.W.Frag) (CX : CXT) (k n : Nat) (x : Str) (mg : Str → Option Value) (fa : Addr) (h : Heap) : Prop :=
  ∃ (fd : FuncData) (cs : List (Addr × Addr)) (sp : Sp), (∀ p ∈ cs, h.get? p.2 = some tabO ∧ K.lookup p.2 = none ∧ PySem.W.CodeHd h p.1 p.2) ∧ (∀ (s : Shared) (u : Value), BindsTo s fd ⟨[u], []⟩ [(x, u)]) ∧
    (∀ (H : Hp) (a : Addr) (ns : List Int), ns.length ≤ n → (∀ p ∈ cs, H p.2 = some (.tbl #[])) → SqL K H a (ns.map V.int) → sp [.ref a] H (fun v _ => v = .bl true) fun _ _ _ => False) ∧
    ∀ base : Heap, K.In base → base.Ns mainGlobals mg → (∀ p ∈ cs, LamX.TabB base mg p.1 p.2) → FnG l.prog w K mg base CX k fa fd [x] sp
theorem walkGT {l : PySem.W.OpenLaw} {n k : Nat} {q : Program} {loose : List Str} {XP : (Str → Option Value) → Heap → Prop} {YP : World → Heap → Prop} {d : DefRec} {K : Params → PySem.W.Frag} {CX : World → CXT} {x : Str}
    (hn : l.most = some n) (hn2 : n ≤ sizeLine) (hdf : d.params.defaults = []) (hr : Room k callerA) (hY : ∀ (w : World) (h : Heap), YP w h → (K w.params).In h)
    (F : ∀ (w : World) (mg : Str → Option Value) (fa : Addr) (h : Heap), (∀ (y : Str) (e : DefRec) (c P : Addr), (recsOf q).find? (fun r => r.name == y) = some e → PySem.W.tabIn (K w.params) y = some (c, P) → PySem.W.CodeHd h c P ∧ h.get? P = some tabO) → (K w.params).In h → h.Ns mainGlobals mg → mg d.name = some (.ref fa) → LawAtG l w (K w.params) (CX w) k n x mg fa h)
    (hCX : ∀ (w : World) (H : Hp) (s : Shared) (e : Value) (s' : Shared), CX w [] H s (fun _ _ _ => False) e s' → False) : PySem.W.WalkO q loose XP YP l.row.toRowW d [] (fun f vs => PySem.call f vs) :=
  Att.attach_call hn hdf fun w s₀ s₁ mg mb fa o pm cd doc a vs ns G Y ho hd hcd hmg hobj hints hlen hg => by
    obtain ⟨fd, cs, sp, T, hb, hsp, hF⟩ := F w mg fa _ (fun y e c P h1 h2 => PySem.W.tab_of G.T (hY w _ Y) h1 h2) (hY w _ Y) G.T.g hmg
    exact lawGT (hY w _ Y) G.T.g G.T.b G.T.builtins G.T.nolimit hg (fun p m => (T p m).1) (fun p m => (T p m).2.1) (fun p m => (T p m).2.2) G.T.bmain hobj hints (Nat.le_trans hlen hn2) hr hF hb (fun H h1 h2 => hsp H a ns hlen h1 h2) fun H e s' => hCX w H s₁ e s'
end
end Gn
namespace Gn
open PySem PySem.Spec PyProof.Rows L2
/-- as funG0, the code object told -/
theorem funGC {P : Program} {w : World} {K : PySem.W.Frag} {mg : Str → Option Value} {base : Heap} {x qual : Str} {st : Stmt} {f : Addr} {fd : FuncData} {N ps : List Str} {k : Nat} {sp : Sp} (F : Fun K x qual st f fd) (S : FnScope N ps (defScope st)) (len : ∀ vs H Q E, sp vs H Q E → vs.length = ps.length)
    (hbody : ∀ (A : Around) (outer : List Env) (s : Shared) (H : Hp) (vs : List V) (Q : VK) (E : XK), (A.deeper (envOfC qual (defScope st) s.heap.objs.size f fd.code)).guards = some [] → Room k (A.deeper (envOfC qual (defScope st) s.heap.objs.size f fd.code)) → sp vs H Q E →
      ∃ t, PSs (cxOf CX0 P w K mg base N qual (defScope st) f fd.code A outer s H E).nox (defBody st) t ∧ t { nx := fun _ H' => Q .non H', rt := Q } (start N vs) H) : FnG P w K mg base CX0 (k + 1) f fd ps sp := by
  obtain ⟨oc, od, kV, doc, pm, an, cdv, ct, osl, rfl, lk, hcd⟩ := F.ex
  refine ⟨len, fun A outer s H args us vs Q E hg hr e0 hb r hsp => ?_⟩
  have KX : K.In s.heap := e0.mod.kin.keeps fun b o e => (e0.bs b o e).1
  have hkind : ∀ y ∈ ps.zip us, (defScope st).names.lookup y.1 = some .local ∨ ((defScope st).names.lookup y.1 = some .cell ∧ ((cellsFrom (s.heap.objs.size + 1) (defScope st).names []).lookup y.1).isSome = true) := fun y hy =>
    (S.par y.1 (List.of_mem_zip hy).1).elim .inl fun q => .inr ⟨q, PySem.W.cellsFrom_some _ _ _ (.inl q)⟩
  refine codeAny_call_function hr.depth (KX _ _ lk) rfl S.co S.gen rfl (PySem.W.codeRec_of KX hcd) (hb _ _ _ _ (wpAny_newFunctionEnv_cells S.kind hkind fun env he s1 x => ?_))
  subst he
  refine ⟨(e0.mod.nolimit.keeps fun b o e => (e0.bs b o e).1).keeps x.toInCall.keep, codeAny_func ?_⟩
  obtain ⟨t, ht, hq⟩ := hbody A outer s H vs Q E hg (hr.deeper _) hsp
  have I : Inv (cxOf CX0 P w K mg base N qual (defScope st) f cdv A outer s H E) [] (start N vs) H s1 := inv_start S hr.hd e0 (len _ _ _ _ hsp) r x
  refine wpAny_mono (ht.nox.run [] s1 (start N vs) H _ I hq) (fun fl s' hs => ?_) fun _ _ hs => hs
  cases fl with
  | ret u => obtain ⟨v, σ', H', J, rv, q⟩ := hs; exact ⟨v, H', J.os, J.bare, J.base, J.hok, rv, q⟩
  | next => obtain ⟨σ', H', J, q⟩ := hs; exact ⟨V.non, H', J.os, J.bare, J.base, J.hok, rfl, q⟩
  | brk => obtain ⟨_, _, _, q⟩ := hs; exact False.elim q
  | cont => obtain ⟨_, _, _, q⟩ := hs; exact False.elim q
end Gn
set_option Elab.async false
set_option linter.all false
set_option maxRecDepth 100000
set_option maxHeartbeats 8000000
/-! the head by facts, widened: own exceptions, a class's property, what lies deeper in a class -/
namespace Gn
open PySem PySem.Spec PyProof.Rows L2
/-- some steps further from these -/
def deep (g : Addr → Option Obj) : Nat → List Addr → List Addr
  | 0, l => l
  | n + 1, l => deep g n (He.growD g l)
/-- n steps from the module's names, and m more from what some of the names stand for -/
def asY (g : Addr → Option Obj) (n m : Nat) (xs : List Str) : List Addr := (fun l => l ++ deep g m (xs.map (He.ga (He.frG g l))) ++ [PySem.cStatics]) (He.asD g n)
/-- a property's function -/
def prF (K : PySem.W.Frag) (C : Addr) (f : Str) : Addr := match K.lookup (He.ma K C f) with
  | some ⟨_, _, .fields vs, _⟩ => (match vs.toList with
    | .ref a :: _ => a
    | _ => 0)
  | _ => 0
structure PrD where
  cls : Str
  name : Str
  qual : Str
  params : Arguments
  body : List Stmt
  scope : Scope
  cm : Bool
def PrD.at_ (K : PySem.W.Frag) (d : PrD) : Addr := if d.cm = true then He5.wf K (He.ga K d.cls) "classmethod" d.name else prF K (He.ga K d.cls) d.name
def PrD.val (d : PrD) : He.FnW := some (d.name, d.qual, d.params, .stmts d.body, d.scope, mainGlobals, [], builtinsNs)
def PrD.obs (K : PySem.W.Frag) (d : PrD) : He.FnW := match K.lookup (d.at_ K) with
  | some ⟨_, _, .func fd, _⟩ => some (fd.name, fd.qualname, fd.params, fd.body, fd.scope, fd.globals, fd.closure, fd.builtins)
  | _ => none
def PrD.fnB (K : PySem.W.Frag) (d : PrD) : Bool := PySem.W.keepIn K (.ref (d.at_ K)) && (match K.lookup (d.at_ K) with
  | some ⟨_, _, .func fd, _⟩ => PySem.W.codeIn K fd.code d.qual && (match fd.defaults, fd.kwdefaults with
    | .none, _ => true
    | _, _ => false)
  | _ => false)
/-- the property itself, or the classmethod -/
def PrD.prP (K : PySem.W.Frag) (d : PrD) : Bool := He.eqO (PySem.W.findIn K (.ref (He.ga K d.cls)) d.name) (some (some (.ref (He.ma K (He.ga K d.cls) d.name)))) &&
  (He.eqO (PySem.W.specialIn K (.ref (He.ma K (He.ga K d.cls) d.name)) "__get__") (some (some (.builtin "property.__get__"))) && (decide (PySem.W.takesIn K (.ref (He.ma K (He.ga K d.cls) d.name)) = some true) &&
  (match K.lookup (He.ma K (He.ga K d.cls) d.name) with
    | some ⟨.type t, _, .fields vs, _⟩ => decide (t = "property") && (match vs.toList with
      | .ref _ :: _ => true
      | _ => false)
    | _ => false)))
def PrD.prC (K : PySem.W.Frag) (d : PrD) : Bool := PySem.W.readsIn K (He.ga K d.cls) (.type "type") && (He.eqO (PySem.W.specialIn K (.ref (He.ga K d.cls)) "__getattribute__") (some (some (.builtin "type.__getattribute__"))) &&
  (He5.wrapB K (He.ga K d.cls) "classmethod" "classmethod.__get__" d.name && PySem.W.fnIn K (d.at_ K)))
def PrD.prB (K : PySem.W.Frag) (d : PrD) : Bool := if d.cm = true then d.prC K else d.prP K
theorem PrD.cmr {K : PySem.W.Frag} {d : PrD} (c : d.prB K = true) (k : d.cm = true) : ClX.CRead K (He.ga K d.cls) (.type "type") ∧ ClX.CMet K (He.ga K d.cls) (.type "type") d.name (He.ma K (He.ga K d.cls) d.name) (d.at_ K) := by
  unfold PrD.prB at c
  rw [if_pos k] at c
  obtain ⟨h1, c⟩ := He.ba c
  obtain ⟨h2, c⟩ := He.ba c
  obtain ⟨h3, h4⟩ := He.ba c
  unfold PrD.at_ at h4 ⊢
  rw [if_pos k] at h4 ⊢
  exact ⟨⟨h1, He.eqO_ok h2⟩, He5.cmet_of h3 h4⟩
theorem PrD.fn {K : PySem.W.Frag} {d : PrD} (e : d.obs K = d.val) (c : d.fnB K = true) : ∃ (oc : Value) (od : Option Addr) (kV doc pm : Value) (an : Option Addr) (cdv ct : Value) (osl : Array (Option Value)),
    K.lookup (d.at_ K) = some ⟨oc, od, .func (PySem.W.fnOf d.name d.qual d.params d.body d.scope .none kV doc pm an cdv ct), osl⟩ ∧ PySem.W.codeIn K cdv d.qual = true ∧ PySem.W.keepIn K (.ref (d.at_ K)) = true := by
  obtain ⟨kp, c2⟩ := He.ba c
  unfold PrD.obs at e
  split at e
  · rename_i oc od fd osl q
    rw [q] at c2
    obtain ⟨c3, c4⟩ := He.ba (show (PySem.W.codeIn K fd.code d.qual && (match fd.defaults, fd.kwdefaults with
      | .none, _ => true
      | _, _ => false)) = true from c2)
    obtain ⟨n1, n2, n3, n4, n5, n6, n7, n8, n9, n10, n11, n12, n13, n14, n15⟩ := fd
    have e2 : (some (n1, n2, n3, n4, n5, n6, n7, n15) : He.FnW) = some (d.name, d.qual, d.params, .stmts d.body, d.scope, mainGlobals, [], builtinsNs) := e
    simp only [Option.some.injEq, Prod.mk.injEq] at e2
    obtain ⟨h1, h2, h3, h4, h5, h6, h7, h8⟩ := e2
    subst h1 h2 h3 h4 h5 h6 h7 h8
    dsimp only at c4
    cases n8 with
    | none => exact ⟨oc, od, n9, n10, n11, n12, n13, n14, osl, q, c3, kp⟩
    | _ => cases c4
  · cases e
theorem PrD.pr {K : PySem.W.Frag} {d : PrD} (c : d.prB K = true) (k : d.cm = false := by rfl) : ∃ (p : Addr) (od : Option Addr) (vs : Array Value) (sl : Array (Option Value)) (rest : List Value), PySem.W.findIn K (.ref (He.ga K d.cls)) d.name = some (some (.ref p)) ∧
    PySem.W.specialIn K (.ref p) "__get__" = some (some (.builtin "property.__get__")) ∧ PySem.W.takesIn K (.ref p) = some true ∧ K.lookup p = some ⟨.type "property", od, .fields vs, sl⟩ ∧ vs.toList = .ref (d.at_ K) :: rest := by
  unfold PrD.prB at c
  rw [if_neg (by rw [k]; decide)] at c
  obtain ⟨c1, c⟩ := He.ba c
  obtain ⟨c2, c⟩ := He.ba c
  obtain ⟨c3, c⟩ := He.ba c
  split at c
  · rename_i t od vs sl q
    obtain ⟨c4, c5⟩ := He.ba c
    cases of_decide_eq_true c4
    split at c5
    · rename_i a rest ev
      have ea : d.at_ K = a := by
        unfold PrD.at_ prF
        rw [if_neg (by rw [k]; decide), q]
        dsimp only
        rw [ev]
      exact ⟨_, od, vs, sl, rest, He.eqO_ok c1, He.eqO_ok c2, of_decide_eq_true c3, q, by rw [ea]; exact ev⟩
    · cases c5
  · cases c
/-! ### further facts -/
inductive Fb where
  | bi (x : Str) (id : String)
  | own (x R : Str)
  | kit (x y : Str) (b : Bool)
  | kitT (x : Str) (t : String) (b : Bool)
  | glob
  | cut (x : Str)
  | ne (p q : He.Defn)
  | eqc (x : Str)
  | ownA (x R : Str)
def cutB (K : PySem.W.Frag) (a : Addr) : Bool := match K.lookup a with
  | some ⟨.type c, _, .seq ia _, _⟩ => decide (c = "tuple") && (match ia.toList with
    | [.ref b, .int i _] => decide (i = 0) && (match K.lookup b with
      | some ⟨.type c2, _, .seq ib _, _⟩ => decide (c2 = "tuple") && (match ib.toList with
        | [.int p _, .int q _] => decide (p = 1) && decide (q = 1)
        | _ => false)
      | _ => false)
    | _ => false)
  | _ => false
theorem cutB_ok {K : PySem.W.Frag} {a : Addr} (h : cutB K a = true) : ∃ (b : Addr) (oa ob : Option Addr) (sa sb : Array (Option Value)) (ia ib : Array Value) (na nb : Nat) (t0 t1 t2 : Tok),
    K.lookup a = some ⟨.type "tuple", oa, .seq ia na, sa⟩ ∧ ia.toList = [.ref b, .int 0 t0] ∧ K.lookup b = some ⟨.type "tuple", ob, .seq ib nb, sb⟩ ∧ ib.toList = [.int 1 t1, .int 1 t2] := by
  unfold cutB at h
  split at h
  · rename_i c oa ia na sa la
    obtain ⟨h1, ha⟩ := He.ba h
    cases of_decide_eq_true h1
    clear h h1
    split at ha
    · rename_i b i t0 ea
      obtain ⟨h2, hb⟩ := He.ba ha
      cases of_decide_eq_true h2
      clear ha h2
      split at hb
      · rename_i c2 ob ib nb sb lb
        obtain ⟨h3, hc⟩ := He.ba hb
        cases of_decide_eq_true h3
        clear hb h3
        split at hc
        · rename_i p t1 q t2 eb
          obtain ⟨h4, h5⟩ := He.ba hc
          cases of_decide_eq_true h4
          cases of_decide_eq_true h5
          exact ⟨b, oa, ob, sa, sb, ia, ib, na, nb, t0, t1, t2, la, ea, lb, eb⟩
        · cases hc
      · cases hb
    · cases ha
  · cases h
/-- an own class over ValueError by a class of ours -/
def ownB (K : PySem.W.Frag) (C R : Addr) : Bool := match K.lookup C with
  | some ⟨.type m, _, .cls cd, sl⟩ => decide (m = "type") && (match cd.mro, sl.toList with
    | .ref C' :: .ref R' :: tl, [_, _, _, _, some (.builtin n), _] => decide (C' = C) && (decide (R' = R) && (decide (n = "ValueError.__new__") && (!cd.hasDel && (cd.hasDict && decide (tl = He.veBase)))))
    | _, _ => false)
  | _ => false
theorem ownB_ok {K : PySem.W.Frag} {C R : Addr} (h : ownB K C R = true) : ∃ (nm q : Str) (N : Addr) (bs : List Value) (sn : List Str) (sub : List Value) (ab : Bool) (col : Option Bool) (dd : Option Addr) (k0 k1 k2 k3 k5 : Option Value),
    K.lookup C = some (excClassObj nm q C N bs (.ref R :: He.veBase) true sn sub ab col dd k0 k1 k2 k3 k5 "ValueError.__new__") := by
  unfold ownB at h
  split at h
  · rename_i m dd cd sl lk
    obtain ⟨h1, ha⟩ := He.ba h
    cases of_decide_eq_true h1
    clear h h1
    split at ha
    · rename_i C' R' tl k0 k1 k2 k3 n k5 em es
      obtain ⟨h2, hb⟩ := He.ba ha
      obtain ⟨h3, hc⟩ := He.ba hb
      obtain ⟨h4, hd⟩ := He.ba hc
      obtain ⟨h5, he⟩ := He.ba hd
      obtain ⟨h6, h7⟩ := He.ba he
      cases of_decide_eq_true h2
      cases of_decide_eq_true h3
      cases of_decide_eq_true h4
      cases of_decide_eq_true h7
      clear ha hb hc hd he h2 h3 h4 h7
      obtain ⟨nm, bs, mro, ns, qn, hd, sn, sub, ab, col, del⟩ := cd
      dsimp only at em h5 h6
      have h5 : del = false := by cases del; rfl; cases h5
      subst em h5 h6
      have esl : sl = #[k0, k1, k2, k3, some (.builtin "ValueError.__new__"), k5] := by
        obtain ⟨l⟩ := sl
        dsimp only at es
        rw [es]
      subst esl
      exact ⟨nm, qn, ns, bs, sn, sub, ab, col, dd, k0, k1, k2, k3, k5, lk⟩
    · cases ha
  · cases h
def ownC (K : PySem.W.Frag) (C R : Addr) : Bool := ownB K C R && (He.eqO (PySem.W.findIn K (.ref C) "__setattr__") (some (some (.builtin "object.__setattr__"))) && (decide (PySem.W.typeIn K (.ref C) = some (.type "type")) && (PySem.W.keepIn K (.ref C) && (xfB K C &&
  (He.eqO (PySem.W.findIn K (.ref C) "__class__") (some (some (.builtin "object.__class__"))) && (decide (PySem.W.mroIn K C (.type "object") = some true) && (He.eqO (PySem.W.findIn K (.ref C) "__init__") (some (some (.ref (He.ma K C "__init__")))) &&
  decide (PySem.W.typeIn K (.ref (He.ma K C "__init__")) = some (.type "function")))))))))
def aeBase : List Value := [.type "ArithmeticError", .type "Exception", .type "BaseException", .type "object"]
/-- an own class over ArithmeticError by a class of ours -/
def ownE (K : PySem.W.Frag) (C R : Addr) : Bool := match K.lookup C with
  | some ⟨.type m, _, .cls cd, sl⟩ => decide (m = "type") && (match cd.mro, sl.toList with
    | .ref C' :: .ref R' :: tl, [_, _, _, _, some (.builtin n), _] => decide (C' = C) && (decide (R' = R) && (decide (n = "ArithmeticError.__new__") && (!cd.hasDel && (cd.hasDict && decide (tl = aeBase)))))
    | _, _ => false)
  | _ => false
theorem ownE_ok {K : PySem.W.Frag} {C R : Addr} (h : ownE K C R = true) : ∃ (nm q : Str) (N : Addr) (bs : List Value) (sn : List Str) (sub : List Value) (ab : Bool) (col : Option Bool) (dd : Option Addr) (k0 k1 k2 k3 k5 : Option Value),
    K.lookup C = some (excClassObj nm q C N bs (.ref R :: aeBase) true sn sub ab col dd k0 k1 k2 k3 k5 "ArithmeticError.__new__") := by
  unfold ownE at h
  split at h
  · rename_i m dd cd sl lk
    obtain ⟨h1, ha⟩ := He.ba h
    cases of_decide_eq_true h1
    clear h h1
    split at ha
    · rename_i C' R' tl k0 k1 k2 k3 n k5 em es
      obtain ⟨h2, hb⟩ := He.ba ha
      obtain ⟨h3, hc⟩ := He.ba hb
      obtain ⟨h4, hd⟩ := He.ba hc
      obtain ⟨h5, he⟩ := He.ba hd
      obtain ⟨h6, h7⟩ := He.ba he
      cases of_decide_eq_true h2
      cases of_decide_eq_true h3
      cases of_decide_eq_true h4
      cases of_decide_eq_true h7
      clear ha hb hc hd he h2 h3 h4 h7
      obtain ⟨nm, bs, mro, ns, qn, hd, sn, sub, ab, col, del⟩ := cd
      dsimp only at em h5 h6
      have h5 : del = false := by cases del; rfl; cases h5
      subst em h5 h6
      have esl : sl = #[k0, k1, k2, k3, some (.builtin "ArithmeticError.__new__"), k5] := by
        obtain ⟨l⟩ := sl
        dsimp only at es
        rw [es]
      subst esl
      exact ⟨nm, qn, ns, bs, sn, sub, ab, col, dd, k0, k1, k2, k3, k5, lk⟩
    · cases ha
  · cases h
def ownD (K : PySem.W.Frag) (C R : Addr) : Bool := ownE K C R && (He.eqO (PySem.W.findIn K (.ref C) "__setattr__") (some (some (.builtin "object.__setattr__"))) && (decide (PySem.W.typeIn K (.ref C) = some (.type "type")) && (PySem.W.keepIn K (.ref C) && (xfB K C &&
  (He.eqO (PySem.W.findIn K (.ref C) "__class__") (some (some (.builtin "object.__class__"))) && (decide (PySem.W.mroIn K C (.type "object") = some true) && (He.eqO (PySem.W.findIn K (.ref C) "__init__") (some (some (.ref (He.ma K C "__init__")))) &&
  decide (PySem.W.typeIn K (.ref (He.ma K C "__init__")) = some (.type "function")))))))))
def globB (K : PySem.W.Frag) : Bool := He.eqO (PySem.W.specialIn K (.builtin "object.__class__") "__get__") (some (some (.builtin "getset_descriptor.__get__"))) && decide (PySem.W.takesIn K (.builtin "object.__class__") = some true)
/-- a class over object with an own __eq__, at f, and no __ne__ -/
def neB (K : PySem.W.Frag) (C f : Addr) : Bool := match K.lookup C with
  | some ⟨.type m, _, .cls cd, sl⟩ => decide (m = "type") && (match cd.mro, sl.toList with
    | [.ref C', .type o], [_, _, _, _, some (.builtin n), _] => decide (C' = C) && (decide (o = "object") && (!cd.hasDel && (PySem.W.nsOkIn K cd.ns && (He.eqO (PySem.W.nsIn K cd.ns "__eq__") (some (some (.ref f))) && He.eqO (PySem.W.nsIn K cd.ns "__ne__") (some none)))))
    | _, _ => false)
  | _ => false
/-- what a class with an own __eq__ and __repr__ has, and has not -/
def eqcB (K : PySem.W.Frag) (C : Addr) : Bool := He.eqO (PySem.W.findIn K (.ref C) "__class__") (some (some (.builtin "object.__class__"))) && (decide (PySem.W.mroIn K C (.type "object") = some true) && (decide (PySem.W.kitOne K (.ref C) (.ref C) = some true) && (decide (PySem.W.kitOne K (.type "tuple") (.ref C) = some false) &&
  (He.eqO (PySem.W.findIn K (.ref C) "__eq__") (some (some (.ref (He.ma K C "__eq__")))) && (PySem.W.isFn K (.ref (He.ma K C "__eq__")) && (PySem.W.notFirst K C (.type "tuple") && (neB K C (He.ma K C "__eq__") &&
  (He.eqO (PySem.W.findIn K (.ref C) "__repr__") (some (some (.ref (He.ma K C "__repr__")))) && (PySem.W.isFn K (.ref (He.ma K C "__repr__")) && (He.eqO (PySem.W.findIn K (.ref C) "__bool__") (some none) && He.eqO (PySem.W.findIn K (.ref C) "__len__") (some none)))))))))))
def Fb.ok (K : PySem.W.Frag) : Fb → Bool
  | .bi x id => He.eqO (PySem.W.nsIn K mainGlobals x) (some (some (.builtin id)))
  | .own x R => ownC K (He.ga K x) (He.ga K R)
  | .kit x y b => decide (PySem.W.kitOne K (.ref (He.ga K x)) (.ref (He.ga K y)) = some b)
  | .kitT x t b => decide (PySem.W.kitOne K (.ref (He.ga K x)) (.type t) = some b)
  | .glob => globB K
  | .cut x => cutB K (He.ga K x)
  | .ne p q => decide ((He.cT K p).2 ≠ (He.cT K q).2)
  | .eqc x => eqcB K (He.ga K x)
  | .ownA x R => ownD K (He.ga K x) (He.ga K R)
theorem glob_ok {K : PySem.W.Frag} (h : Fb.glob.ok K = true) : PySem.W.specialIn K (.builtin "object.__class__") "__get__" = some (some (.builtin "getset_descriptor.__get__")) ∧ PySem.W.takesIn K (.builtin "object.__class__") = some true := by
  obtain ⟨h1, h2⟩ := He.ba (show globB K = true from h)
  exact ⟨He.eqO_ok h1, of_decide_eq_true h2⟩
theorem kit_ok {K : PySem.W.Frag} {x y : Str} {b : Bool} (h : (Fb.kit x y b).ok K = true) : PySem.W.kitOne K (.ref (He.ga K x)) (.ref (He.ga K y)) = some b := of_decide_eq_true h
theorem kitT_ok {K : PySem.W.Frag} {x : Str} {t : String} {b : Bool} (h : (Fb.kitT x t b).ok K = true) : PySem.W.kitOne K (.ref (He.ga K x)) (.type t) = some b := of_decide_eq_true h
theorem ne_ok {K : PySem.W.Frag} {p q : He.Defn} (h : (Fb.ne p q).ok K = true) : (He.cT K p).2 ≠ (He.cT K q).2 := of_decide_eq_true h
theorem bi_ok {K : PySem.W.Frag} {h : Heap} {mg : Str → Option Value} (X : K.In h) (G : h.Ns mainGlobals mg) {x : Str} {id : String} (c : (Fb.bi x id).ok K = true) : mg x = some (.builtin id) := PySem.W.mg_of X G (He.eqO_ok c)
/-- what stands of an own exception class -/
theorem own_ok {K : PySem.W.Frag} {C R : Addr} (g : globB K = true) (h : ownC K C R = true) : OwC K C ∧ XfC K C ∧ ExcC K C ∧ PySem.W.findIn K (.ref C) "__init__" = some (some (.ref (He.ma K C "__init__"))) ∧ PySem.W.typeIn K (.ref (He.ma K C "__init__")) = some (.type "function") := by
  obtain ⟨h1, h⟩ := He.ba h
  obtain ⟨h2, h⟩ := He.ba h
  obtain ⟨h3, h⟩ := He.ba h
  obtain ⟨h4, h⟩ := He.ba h
  obtain ⟨h5, h⟩ := He.ba h
  obtain ⟨h6, h⟩ := He.ba h
  obtain ⟨h7, h⟩ := He.ba h
  obtain ⟨h8, h9⟩ := He.ba h
  obtain ⟨g1, g2⟩ := He.ba g
  have xf := xfB_ok h5
  obtain ⟨nm, q, N, bs, sn, sub, ab, col, dd, k0, k1, k2, k3, k5, lk⟩ := ownB_ok h1
  exact ⟨⟨⟨nm, q, N, bs, .ref R :: He.veBase, sn, sub, ab, col, dd, k0, k1, k2, k3, k5, _, _, _, He.veBase, lk, .own .base, basV⟩, He.eqO_ok h2, xf.exC, of_decide_eq_true h3, h4⟩, xf, ⟨xf.ga, xf.gg, xf.exC, xf.hdC, He.eqO_ok h6, He.eqO_ok g1, of_decide_eq_true g2, of_decide_eq_true h7⟩, He.eqO_ok h8, of_decide_eq_true h9⟩
/-- what stands of an own exception class -/
theorem ownA_ok {K : PySem.W.Frag} {C R : Addr} (g : globB K = true) (h : ownD K C R = true) : OwC K C ∧ XfC K C ∧ ExcC K C ∧ PySem.W.findIn K (.ref C) "__init__" = some (some (.ref (He.ma K C "__init__"))) ∧ PySem.W.typeIn K (.ref (He.ma K C "__init__")) = some (.type "function") := by
  obtain ⟨h1, h⟩ := He.ba h
  obtain ⟨h2, h⟩ := He.ba h
  obtain ⟨h3, h⟩ := He.ba h
  obtain ⟨h4, h⟩ := He.ba h
  obtain ⟨h5, h⟩ := He.ba h
  obtain ⟨h6, h⟩ := He.ba h
  obtain ⟨h7, h⟩ := He.ba h
  obtain ⟨h8, h9⟩ := He.ba h
  obtain ⟨g1, g2⟩ := He.ba g
  have xf := xfB_ok h5
  obtain ⟨nm, q, N, bs, sn, sub, ab, col, dd, k0, k1, k2, k3, k5, lk⟩ := ownE_ok h1
  exact ⟨⟨⟨nm, q, N, bs, .ref R :: aeBase, sn, sub, ab, col, dd, k0, k1, k2, k3, k5, _, _, _, aeBase, lk, .own .base, basA⟩, He.eqO_ok h2, xf.exC, of_decide_eq_true h3, h4⟩, xf, ⟨xf.ga, xf.gg, xf.exC, xf.hdC, He.eqO_ok h6, He.eqO_ok g1, of_decide_eq_true g2, of_decide_eq_true h7⟩, He.eqO_ok h8, of_decide_eq_true h9⟩
/-! ### the Hook -/
structure SaysZ (fa : List He.Fa) (fn : List He.DefD) (tf : List He.Defn) (fb : List Fb) (ps : List PrD) (w : World) (h : Heap) (K : PySem.W.Frag) : Prop where
  d : He.SaysD fa fn K
  more : ∀ f ∈ fb, f.ok K = true
  prb : ∀ p ∈ ps, p.fnB K = true ∧ p.prB K = true
  pro : ps.map (PrD.obs K) = ps.map PrD.val
  hd : ∀ p ∈ tf, PySem.W.codeHdIn K (He.cT K p).1 (He.cT K p).2 = true
  out : ∀ p ∈ tf, K.lookup (He.cT K p).2 = none
  empty : ∀ p ∈ tf, h.get? (He.cT K p).2 = some tabO
abbrev AlZ : Type := (He.AlD × List He.FnW) × Bool
def exZ (fb : List Fb) (ps : List PrD) (tf : List He.Defn) (g : Addr → Option Obj) (K : PySem.W.Frag) : Bool := (fb.all fun f => f.ok K) && ((ps.all fun p => p.fnB K && p.prB K) && He.tabsB g tf K)
def obsK (fa : List He.Fa) (fn : List He.DefD) (tf : List He.Defn) (fb : List Fb) (ps : List PrD) (g : Addr → Option Obj) (K : PySem.W.Frag) : AlZ := ((He.obsD fa fn K, ps.map (PrD.obs K)), exZ fb ps tf g K)
def obsZ (n m : Nat) (xs : List Str) (fa : List He.Fa) (fn : List He.DefD) (tf : List He.Defn) (fb : List Fb) (ps : List PrD) (g : Addr → Option Obj) : AlZ := obsK fa fn tf fb ps g (He.frT g (asY g n m xs))
def valZ (fn : List He.DefD) (ps : List PrD) : AlZ := ((He.valD fn, ps.map PrD.val), true)
theorem saysZ_of {as : List Addr} {fa : List He.Fa} {fn : List He.DefD} {tf : List He.Defn} {fb : List Fb} {ps : List PrD} {w : World} {h : Heap} (e : obsK fa fn tf fb ps h.get? (He.frT h.get? as) = valZ fn ps) : SaysZ fa fn tf fb ps w h (He.frT h.get? as) := by
  have e0 : (He.obsD fa fn (He.frT h.get? as), ps.map (PrD.obs (He.frT h.get? as))) = (He.valD fn, ps.map PrD.val) := congrArg (fun z : AlZ => z.1) e
  have e3 : exZ fb ps tf h.get? (He.frT h.get? as) = true := congrArg (fun z : AlZ => z.2) e
  obtain ⟨e1, e2⟩ := Prod.mk.inj e0
  obtain ⟨a1, a2⟩ := He.ba e3
  obtain ⟨a3, a4⟩ := He.ba a2
  have T : ∀ p ∈ tf, PySem.W.codeHdIn (He.frT h.get? as) (He.cT (He.frT h.get? as) p).1 (He.cT (He.frT h.get? as) p).2 = true ∧ (match h.get? (He.cT (He.frT h.get? as) p).2 with
      | some o => He.emptyTab o
      | none => false) = true := fun p hp => He.ba (List.all_eq_true.mp a4 p hp)
  have T2 : ∀ p ∈ tf, ∃ o, h.get? (He.cT (He.frT h.get? as) p).2 = some o ∧ He.emptyTab o = true := fun p hp => by
    have z := (T p hp).2
    split at z
    · rename_i o q
      exact ⟨o, q, z⟩
    · cases z
  refine ⟨e1, fun f hf => List.all_eq_true.mp a1 f hf, fun p hp => He.ba (List.all_eq_true.mp a3 p hp), e2, fun p hp => (T p hp).1, fun p hp => ?_, fun p hp => ?_⟩
  · obtain ⟨o, q, z⟩ := T2 p hp
    exact He.frT_none q z
  · obtain ⟨o, q, z⟩ := T2 p hp
    rw [q, He.emptyTab_eq z]
    rfl
def hookZ (n m : Nat) (xs : List Str) (fa : List He.Fa) (fn : List He.DefD) (tf : List He.Defn) (fb : List Fb) (ps : List PrD) : PySem.W.Hook where
  α := AlZ
  obs := fun s => obsZ n m xs fa fn tf fb ps s.heap.get?
  val := fun _ => valZ fn ps
  says := fun w h => ∃ K : PySem.W.Frag, K.In h ∧ SaysZ fa fn tf fb ps w h K
  of := fun _ _ e => ⟨_, He.frT_in, saysZ_of e⟩
  keeps := fun _ _ _ z k => z.elim fun K y => ⟨K, PySem.W.Frag.In.keeps y.1 k, ⟨y.2.d, y.2.more, y.2.prb, y.2.pro, y.2.hd, y.2.out, fun p hp => k _ _ (y.2.empty p hp)⟩⟩
theorem obsZ_eq {n m : Nat} {xs : List Str} {fa : List He.Fa} {fn : List He.DefD} {tf : List He.Defn} {fb : List Fb} {ps : List PrD} {g : Addr → Option Obj} {s : Shared} (h : ∀ a, g a = s.heap.get? a) : obsZ n m xs fa fn tf fb ps g = (hookZ n m xs fa fn tf fb ps).obs s := by
  have e : g = s.heap.get? := funext h
  subst e
  rfl
section
variable {fa : List He.Fa} {fn : List He.DefD} {tf : List He.Defn} {fb : List Fb} {ps : List PrD} {w : World} {h : Heap} {K : PySem.W.Frag}
theorem SaysZ.fx (c : SaysZ fa fn tf fb ps w h K) (i : Nat) {f : Fb} (e : fb[i]? = some f := by rfl) : f.ok K = true := c.more f (List.mem_of_getElem? e)
theorem SaysZ.prop (c : SaysZ fa fn tf fb ps w h K) (i : Nat) {p : PrD} (e : ps[i]? = some p := by rfl) : p.obs K = p.val ∧ p.fnB K = true ∧ p.prB K = true := by
  have m := List.mem_of_getElem? e
  refine ⟨?_, c.prb p m⟩
  have e2 : (ps.map (PrD.obs K))[i]? = (ps.map PrD.val)[i]? := by rw [c.pro]
  rw [List.getElem?_map, List.getElem?_map, e] at e2
  exact Option.some.inj e2
theorem SaysZ.tab (c : SaysZ fa fn tf fb ps w h K) (X : K.In h) {p : He.Defn} (m : p ∈ tf) : h.get? (He.cT K p).2 = some tabO ∧ K.lookup (He.cT K p).2 = none ∧ PySem.W.CodeHd h (He.cT K p).1 (He.cT K p).2 := ⟨c.empty p m, c.out p m, PySem.W.codeHd_of_K X (c.hd p m)⟩
end
/-- a def without defaults, its code object told -/
theorem funZ {K : PySem.W.Frag} {x qual : Str} {st : Stmt} {p : He.Defn} {fd : FuncData} (F : FunD K x qual (defArgs st) (defBody st) (defScope st) [] [] (He.fAd K p) fd) : Fun K x qual st (He.fAd K p) fd ∧ fd.code = .ref (He.cT K p).1 := by
  obtain ⟨oc, od, dV, kV, doc, pm, an, cdv, ct, osl, e, lk, hcd, hD, _⟩ := F.ex
  obtain ⟨c, hc⟩ := He.codeIn_ref hcd
  rcases hD with ⟨_, rfl⟩ | ⟨e', _⟩
  · refine ⟨⟨⟨oc, od, kV, doc, pm, an, cdv, ct, osl, e, lk, hcd⟩, F.kp⟩, ?_⟩
    have z : fd.code = .ref c := by rw [e]; exact hc
    rw [z]
    exact congrArg Value.ref (He.codeOf_eq lk z).symm
  · exact absurd rfl e'
end Gn
set_option Elab.async false
set_option linter.all false
set_option maxRecDepth 100000
set_option maxHeartbeats 8000000
namespace My
open PySem PySem.Spec PyProof.Rows L2 Gn
def topX (i : Nat) : Stmt := PySem.Challenge.pw_rimorders_k12_whole_simplest_steps.main.body.getD i (.Pass ⟨0, 0, 0, 0⟩)
/-- the first statement of a class -/
def innX : Stmt → Stmt
  | .ClassDef _ _ _ (s :: _) _ _ _ _ _ _ _ => s
  | s => s
def nmX0 : List PySem.Str := ("gcd" : PySem.Str) :: ("_wall" : PySem.Str) :: ("NotRight" : PySem.Str) :: ("InvalidText" : PySem.Str) :: ("InvalidNumber" : PySem.Str) :: ("InvalidIndex" : PySem.Str) :: ("InvalidStep" : PySem.Str) :: ("InvalidArc" : PySem.Str) :: ("InvalidSighting" : PySem.Str) :: ("NotALot" : PySem.Str) :: ("InvalidPieces" : PySem.Str) :: ("InvalidOrder" : PySem.Str) :: ("InvalidSightings" : PySem.Str) :: ("NotKnown" : PySem.Str) :: ("NotPossible" : PySem.Str) :: ("NoStep" : PySem.Str) :: ("TooMany" : PySem.Str) :: ("Broken" : PySem.Str) :: ("is_integer" : PySem.Str) :: ("is_fraction" : PySem.Str) :: ("is_step" : PySem.Str) :: ("is_part" : PySem.Str) :: ("is_less" : PySem.Str) :: ("check_step" : PySem.Str) :: ("simplest_in" : PySem.Str) :: ("_least_whole" : PySem.Str) :: ("_is_within" : PySem.Str) :: ("_turned" : PySem.Str) :: ("_LAST_CUT" : PySem.Str) :: ("_DIGITS" : PySem.Str) :: ("_GROUP" : PySem.Str) :: ("Lot" : PySem.Str) :: ("has" : PySem.Str) :: ("simplest" : PySem.Str) :: ("check_lot" : PySem.Str) :: []
def nmX1 : List PySem.Str := ("fraction_text" : PySem.Str) :: ("_first_wrong" : PySem.Str) :: ("_is_piece" : PySem.Str) :: ("_cuts_at" : PySem.Str) :: ("_is_ahead" : PySem.Str) :: ("_text_of" : PySem.Str) :: ("_word_of" : PySem.Str) :: ("_digits_of" : PySem.Str) :: ("_read_pieces" : PySem.Str) :: ("_read_fraction" : PySem.Str) :: ("_are_digits" : PySem.Str) :: ("_read_digits" : PySem.Str) :: ("_law_tin" : PySem.Str) :: ("_law_sip" : PySem.Str) :: ("_law_pick" : PySem.Str) :: ("_law_far" : PySem.Str) :: ("_law_gcd" : PySem.Str) :: ("_law_low" : PySem.Str) :: ("_law_under" : PySem.Str) :: ("_law_lies" : PySem.Str) :: ("_law_pieces" : PySem.Str) :: ("_law_is_number" : PySem.Str) :: ("_law_is_part" : PySem.Str) :: ("_law_is_step" : PySem.Str) :: ("_law_error" : PySem.Str) :: ("_law_class" : PySem.Str) :: ("_law_field" : PySem.Str) :: ("_law_first" : PySem.Str) :: ("_law_narrow" : PySem.Str) :: ("_law_right" : PySem.Str) :: []
def namesX : List PySem.Str := nmX0 ++ nmX1
def ddX0 : He.DefD := ⟨("is_integer", none), "is_integer", "is_integer", defArgs (topX 20), defBody (topX 20), defScope (topX 20), [], []⟩
def ddX1 : He.DefD := ⟨("is_fraction", none), "is_fraction", "is_fraction", defArgs (topX 21), defBody (topX 21), defScope (topX 21), [], []⟩
def ddX2 : He.DefD := ⟨("is_part", none), "is_part", "is_part", defArgs (topX 23), defBody (topX 23), defScope (topX 23), [], []⟩
def ddX3 : He.DefD := ⟨("is_less", none), "is_less", "is_less", defArgs (topX 24), defBody (topX 24), defScope (topX 24), [], []⟩
def ddX4 : He.DefD := ⟨("_first_wrong", none), "_first_wrong", "_first_wrong", defArgs (topX 40), defBody (topX 40), defScope (topX 40), [], []⟩
def ddX5 : He.DefD := ⟨("_is_piece", none), "_is_piece", "_is_piece", defArgs (topX 41), defBody (topX 41), defScope (topX 41), [], []⟩
def ddX6 : He.DefD := ⟨("_cuts_at", none), "_cuts_at", "_cuts_at", defArgs (topX 42), defBody (topX 42), defScope (topX 42), [], []⟩
def ddX7 : He.DefD := ⟨("_is_ahead", none), "_is_ahead", "_is_ahead", defArgs (topX 43), defBody (topX 43), defScope (topX 43), [], []⟩
def ddX8 : He.DefD := ⟨("is_step", none), "is_step", "is_step", defArgs (topX 22), defBody (topX 22), defScope (topX 22), [], []⟩
def ddX9 : He.DefD := ⟨("check_step", none), "check_step", "check_step", defArgs (topX 25), defBody (topX 25), defScope (topX 25), [], []⟩
def ddX10 : He.DefD := ⟨("check_lot", none), "check_lot", "check_lot", defArgs (topX 38), defBody (topX 38), defScope (topX 38), [], []⟩
def ddX11 : He.DefD := ⟨("simplest_in", none), "simplest_in", "simplest_in", defArgs (topX 27), defBody (topX 27), defScope (topX 27), [], []⟩
def ddX12 : He.DefD := ⟨("_least_whole", none), "_least_whole", "_least_whole", defArgs (topX 28), defBody (topX 28), defScope (topX 28), [], []⟩
def ddX13 : He.DefD := ⟨("_is_within", none), "_is_within", "_is_within", defArgs (topX 29), defBody (topX 29), defScope (topX 29), [], []⟩
def ddX14 : He.DefD := ⟨("_turned", none), "_turned", "_turned", defArgs (topX 30), defBody (topX 30), defScope (topX 30), [], []⟩
def ddX15 : He.DefD := ⟨("_are_digits", none), "_are_digits", "_are_digits", defArgs (topX 49), defBody (topX 49), defScope (topX 49), [], []⟩
def ddX16 : He.DefD := ⟨("_read_digits", none), "_read_digits", "_read_digits", defArgs (topX 50), defBody (topX 50), defScope (topX 50), [], []⟩
def ddX17 : He.DefD := ⟨("_read_fraction", none), "_read_fraction", "_read_fraction", defArgs (topX 48), defBody (topX 48), defScope (topX 48), [], []⟩
def ddX18 : He.DefD := ⟨("_read_pieces", none), "_read_pieces", "_read_pieces", defArgs (topX 47), defBody (topX 47), defScope (topX 47), [], []⟩
def ddX19 : He.DefD := ⟨("_digits_of", none), "_digits_of", "_digits_of", defArgs (topX 46), defBody (topX 46), defScope (topX 46), [], []⟩
def ddX20 : He.DefD := ⟨("fraction_text", none), "fraction_text", "fraction_text", defArgs (topX 39), defBody (topX 39), defScope (topX 39), [], []⟩
def ddX21 : He.DefD := ⟨("_word_of", none), "_word_of", "_word_of", defArgs (topX 45), defBody (topX 45), defScope (topX 45), [], []⟩
def ddX22 : He.DefD := ⟨("_text_of", none), "_text_of", "_text_of", defArgs (topX 44), defBody (topX 44), defScope (topX 44), [], []⟩
def ddX23 : He.DefD := ⟨("simplest", none), "simplest", "simplest", defArgs (topX 37), defBody (topX 37), defScope (topX 37), [], []⟩
def ddX24 : He.DefD := ⟨("has", none), "has", "has", defArgs (topX 36), defBody (topX 36), defScope (topX 36), [], []⟩
def ddX25 : He.DefD := ⟨("_law_sip", none), "_law_sip", "_law_sip", defArgs (topX 53), defBody (topX 53), defScope (topX 53), [], []⟩
def ddX26 : He.DefD := ⟨("_law_pick", none), "_law_pick", "_law_pick", defArgs (topX 54), defBody (topX 54), defScope (topX 54), [], []⟩
def ddX27 : He.DefD := ⟨("_law_far", none), "_law_far", "_law_far", defArgs (topX 55), defBody (topX 55), defScope (topX 55), [], []⟩
def ddX28 : He.DefD := ⟨("_law_gcd", none), "_law_gcd", "_law_gcd", defArgs (topX 56), defBody (topX 56), defScope (topX 56), [], []⟩
def ddX29 : He.DefD := ⟨("_law_low", none), "_law_low", "_law_low", defArgs (topX 57), defBody (topX 57), defScope (topX 57), [], []⟩
def ddX30 : He.DefD := ⟨("_law_under", none), "_law_under", "_law_under", defArgs (topX 58), defBody (topX 58), defScope (topX 58), [], []⟩
def ddX31 : He.DefD := ⟨("_law_lies", none), "_law_lies", "_law_lies", defArgs (topX 59), defBody (topX 59), defScope (topX 59), [], []⟩
def ddX32 : He.DefD := ⟨("_law_pieces", none), "_law_pieces", "_law_pieces", defArgs (topX 60), defBody (topX 60), defScope (topX 60), [], []⟩
def ddX33 : He.DefD := ⟨("_law_is_number", none), "_law_is_number", "_law_is_number", defArgs (topX 61), defBody (topX 61), defScope (topX 61), [], []⟩
def ddX34 : He.DefD := ⟨("_law_is_part", none), "_law_is_part", "_law_is_part", defArgs (topX 62), defBody (topX 62), defScope (topX 62), [], []⟩
def ddX35 : He.DefD := ⟨("_law_is_step", none), "_law_is_step", "_law_is_step", defArgs (topX 63), defBody (topX 63), defScope (topX 63), [], []⟩
def ddX36 : He.DefD := ⟨("_law_error", none), "_law_error", "_law_error", defArgs (topX 64), defBody (topX 64), defScope (topX 64), [], []⟩
def ddX37 : He.DefD := ⟨("_law_class", none), "_law_class", "_law_class", defArgs (topX 65), defBody (topX 65), defScope (topX 65), [], []⟩
def ddX38 : He.DefD := ⟨("_law_field", none), "_law_field", "_law_field", defArgs (topX 66), defBody (topX 66), defScope (topX 66), [], []⟩
def ddX39 : He.DefD := ⟨("_law_first", none), "_law_first", "_law_first", defArgs (topX 67), defBody (topX 67), defScope (topX 67), [], []⟩
def ddX40 : He.DefD := ⟨("_law_narrow", none), "_law_narrow", "_law_narrow", defArgs (topX 68), defBody (topX 68), defScope (topX 68), [], []⟩
def ddX41 : He.DefD := ⟨("_law_tin", none), "_law_tin", "_law_tin", defArgs (topX 52), defBody (topX 52), defScope (topX 52), [], []⟩
def ddX42 : He.DefD := ⟨("_law_right", none), "_law_right", "_law_right", defArgs (topX 69), defBody (topX 69), defScope (topX 69), [], []⟩
def ddX43 : He.DefD := ⟨("law", none), "law", "law", defArgs (topX 70), defBody (topX 70), defScope (topX 70), [], []⟩
def ddX44 : He.DefD := ⟨("Lot", some "__init__"), "__init__", "Lot.__init__", defArgs (inClass (topX 35) 0), defBody (inClass (topX 35) 0), defScope (inClass (topX 35) 0), [], []⟩
def ddX45 : He.DefD := ⟨("InvalidPieces", some "__init__"), "__init__", "InvalidPieces.__init__", defArgs (innX (topX 11)), defBody (innX (topX 11)), defScope (innX (topX 11)), [], []⟩
def ddX46 : He.DefD := ⟨("NoStep", some "__init__"), "__init__", "NoStep.__init__", defArgs (innX (topX 16)), defBody (innX (topX 16)), defScope (innX (topX 16)), [], []⟩
def fnsX : List He.DefD := ddX0 :: ddX1 :: ddX2 :: ddX3 :: ddX4 :: ddX5 :: ddX6 :: ddX7 :: ddX8 :: ddX9 :: ddX10 :: ddX11 :: ddX12 :: ddX13 :: ddX14 :: ddX15 :: ddX16 :: ddX17 :: ddX18 :: ddX19 :: ddX20 :: ddX21 :: ddX22 :: ddX23 :: ddX24 :: ddX25 :: ddX26 :: ddX27 :: ddX28 :: ddX29 :: ddX30 :: ddX31 :: ddX32 :: ddX33 :: ddX34 :: ddX35 :: ddX36 :: ddX37 :: ddX38 :: ddX39 :: ddX40 :: ddX41 :: ddX42 :: ddX43 :: ddX44 :: ddX45 :: ddX46 :: []
def prX0 : PrD := ⟨"Lot", "pieces", "Lot.pieces", defArgs (inClass (topX 35) 2), defBody (inClass (topX 35) 2), defScope (inClass (topX 35) 2), false⟩
def prX1 : PrD := ⟨"Lot", "read", "Lot.read", defArgs (inClass (topX 35) 1), defBody (inClass (topX 35) 1), defScope (inClass (topX 35) 1), true⟩
def prsX : List PrD := prX0 :: prX1 :: []
def faX0 : List He.Fa := (He.Fa.glo "is_integer") :: (He.Fa.glo "is_fraction") :: (He.Fa.glo "is_part") :: (He.Fa.glo "is_less") :: (He.Fa.glo "_first_wrong") :: (He.Fa.glo "_is_piece") :: (He.Fa.glo "_cuts_at") :: (He.Fa.glo "_is_ahead") :: (He.Fa.glo "is_step") :: (He.Fa.glo "check_step") :: (He.Fa.glo "check_lot") :: (He.Fa.glo "simplest_in") :: (He.Fa.glo "_least_whole") :: (He.Fa.glo "_is_within") :: (He.Fa.glo "_turned") :: (He.Fa.glo "_are_digits") :: (He.Fa.glo "_read_digits") :: (He.Fa.glo "_read_fraction") :: (He.Fa.glo "_read_pieces") :: (He.Fa.glo "_digits_of") :: (He.Fa.glo "fraction_text") :: (He.Fa.glo "_word_of") :: (He.Fa.glo "_text_of") :: (He.Fa.glo "simplest") :: (He.Fa.glo "has") :: (He.Fa.glo "_law_sip") :: (He.Fa.glo "_law_pick") :: (He.Fa.glo "_law_far") :: (He.Fa.glo "_law_gcd") :: (He.Fa.glo "_law_low") :: (He.Fa.glo "_law_under") :: (He.Fa.glo "_law_lies") :: (He.Fa.glo "_law_pieces") :: (He.Fa.glo "_law_is_number") :: (He.Fa.glo "_law_is_part") :: []
def faX1 : List He.Fa := (He.Fa.glo "_law_is_step") :: (He.Fa.glo "_law_error") :: (He.Fa.glo "_law_class") :: (He.Fa.glo "_law_field") :: (He.Fa.glo "_law_first") :: (He.Fa.glo "_law_narrow") :: (He.Fa.glo "_law_tin") :: (He.Fa.glo "_law_right") :: (He.Fa.glo "law") :: (He.Fa.glo "NotRight") :: (He.Fa.glo "NotKnown") :: (He.Fa.glo "NotPossible") :: (He.Fa.glo "InvalidText") :: (He.Fa.glo "InvalidNumber") :: (He.Fa.glo "InvalidStep") :: (He.Fa.glo "InvalidArc") :: (He.Fa.glo "InvalidSighting") :: (He.Fa.glo "InvalidSightings") :: (He.Fa.glo "NotALot") :: (He.Fa.glo "InvalidPieces") :: (He.Fa.glo "InvalidOrder") :: (He.Fa.glo "InvalidIndex") :: (He.Fa.glo "NoStep") :: (He.Fa.glo "TooMany") :: (He.Fa.glo "Broken") :: (He.Fa.free "len") :: (He.Fa.free "int") :: (He.Fa.free "abs") :: (He.Fa.free "isinstance") :: (He.Fa.free "bool") :: (He.Fa.free "tuple") :: (He.Fa.free "range") :: (He.Fa.free "min") :: (He.Fa.free "max") :: (He.Fa.free "all") :: []
def faX2 : List He.Fa := (He.Fa.free "sorted") :: (He.Fa.free "set") :: (He.Fa.free "str") :: (He.Fa.free "enumerate") :: (He.Fa.free "zip") :: (He.Fa.free "reversed") :: (He.Fa.free "ValueError") :: (He.Fa.free "LookupError") :: (He.Fa.free "ArithmeticError") :: (He.Fa.int "_DIGITS" (600)) :: (He.Fa.int "_GROUP" (Int.ofNat (10 ^ 600))) :: (He.Fa.exm "InvalidPieces" "NotRight" true) :: (He.Fa.exm "InvalidPieces" "NotKnown" false) :: (He.Fa.exm "InvalidPieces" "NotPossible" false) :: (He.Fa.exm "NoStep" "NotRight" false) :: (He.Fa.exm "NoStep" "NotKnown" false) :: (He.Fa.exm "NoStep" "NotPossible" true) :: (He.Fa.glo "Lot") :: (He.Fa.cls "Lot") :: (He.Fa.mkr "Lot") :: (He.Fa.noat "Lot" "_pieces") :: (He.Fa.noat "InvalidPieces" "index") :: (He.Fa.glo "_LAST_CUT") :: []
def fasX : List He.Fa := faX0 ++ faX1 ++ faX2
def fbX0 : List Fb := (.glob) :: (.bi "gcd" "math.gcd") :: (.own "InvalidPieces" "NotRight") :: (.kit "InvalidPieces" "InvalidText" false) :: (.kit "InvalidPieces" "InvalidNumber" false) :: (.kit "InvalidPieces" "InvalidStep" false) :: (.kit "InvalidPieces" "InvalidArc" false) :: (.kit "InvalidPieces" "InvalidSighting" false) :: (.kit "InvalidPieces" "InvalidSightings" false) :: (.kit "InvalidPieces" "NotALot" false) :: (.kit "InvalidPieces" "InvalidPieces" true) :: (.kit "InvalidPieces" "InvalidOrder" false) :: (.kit "InvalidPieces" "InvalidIndex" false) :: (.kit "InvalidPieces" "NoStep" false) :: (.kit "InvalidPieces" "TooMany" false) :: (.kit "InvalidPieces" "Broken" false) :: (.kit "InvalidPieces" "NotRight" true) :: (.kit "InvalidPieces" "NotKnown" false) :: (.kit "InvalidPieces" "NotPossible" false) :: (.kitT "InvalidPieces" "ValueError" true) :: (.kitT "InvalidPieces" "LookupError" false) :: (.kitT "InvalidPieces" "ArithmeticError" false) :: (.ownA "NoStep" "NotPossible") :: (.kit "NoStep" "InvalidText" false) :: (.kit "NoStep" "InvalidNumber" false) :: (.kit "NoStep" "InvalidStep" false) :: (.kit "NoStep" "InvalidArc" false) :: (.kit "NoStep" "InvalidSighting" false) :: (.kit "NoStep" "InvalidSightings" false) :: (.kit "NoStep" "NotALot" false) :: (.kit "NoStep" "InvalidPieces" false) :: (.kit "NoStep" "InvalidOrder" false) :: (.kit "NoStep" "InvalidIndex" false) :: (.kit "NoStep" "NoStep" true) :: (.kit "NoStep" "TooMany" false) :: []
def fbX1 : List Fb := (.kit "NoStep" "Broken" false) :: (.kit "NoStep" "NotRight" false) :: (.kit "NoStep" "NotKnown" false) :: (.kit "NoStep" "NotPossible" true) :: (.kitT "NoStep" "ValueError" false) :: (.kitT "NoStep" "LookupError" false) :: (.kitT "NoStep" "ArithmeticError" true) :: (.cut "_LAST_CUT") :: (.eqc "Lot") :: []
def fbsX : List Fb := fbX0 ++ fbX1
def tfX : List He.Defn := ("_law_right", none) :: []
def dnX : List PySem.Str := ("Lot" : PySem.Str) :: ("InvalidPieces" : PySem.Str) :: ("NoStep" : PySem.Str) :: ("_LAST_CUT" : PySem.Str) :: []
abbrev RRX : PySem.W.OpenRow := PySem.W.OpenLaw.row PySem.Challenge.rw_rimorders_k12_whole_simplest_steps
abbrev hkX : PySem.W.Hook := hookZ 2 5 dnX fasX fnsX tfX fbsX prsX
def obX (s : PySem.W.SharedT) : hkX.α := obsZ 2 5 dnX fasX fnsX tfX fbsX prsX (HandSHeadRun.getT s)
theorem obX_eq (s : PySem.W.SharedT) : obX s = hkX.obs s.abs := obsZ_eq (HandSHeadRun.getT_eq s)
abbrev qvX : Program := PySem.W.view RRX.prog [0, 70]
theorem runX_false (w : World) : HandSHeadRun.RunEqI RRX qvX hkX obX 9000 namesX (w.withFollow "special-get-raises" false) := by
  delta HandSHeadRun.RunEqI
  kernel_rfl
theorem runX_true (w : World) : HandSHeadRun.RunEqI RRX qvX hkX obX 9000 namesX (w.withFollow "special-get-raises" true) := by
  delta HandSHeadRun.RunEqI
  kernel_rfl
theorem runX (w : World) : HandSHeadRun.RunEqI RRX qvX hkX obX 9000 namesX w := PySem.W.byRow2 "special-get-raises" runX_false runX_true w
end My
set_option Elab.async false
set_option linter.all false
set_option maxRecDepth 100000
set_option maxHeartbeats 4000000
namespace My
open PySem PySem.Spec PyProof.Rows L2 Gn
def top (i : Nat) : Stmt := PySem.Challenge.pw_rimorders_k12_whole_simplest_steps.main.body.getD i (.Pass ⟨0, 0, 0, 0⟩)
abbrev sTin : Stmt := top 52
abbrev sSip : Stmt := top 53
abbrev sPick : Stmt := top 54
abbrev sFar : Stmt := top 55
abbrev sGcd : Stmt := top 56
abbrev sLow : Stmt := top 57
theorem scTin : FnScope ["_law_script", "_law_turn", "_law_entry", "_law_stirred", "_law_each"] ["_law_script", "_law_turn"] (defScope sTin) := ⟨rfl, rfl, rfl, by decide +kernel, rfl, by decide +kernel, by decide +kernel⟩
theorem scSip : FnScope ["_law_tin_here", "_law_top", "_law_digit"] ["_law_tin_here", "_law_top"] (defScope sSip) := ⟨rfl, rfl, rfl, by decide +kernel, rfl, by decide +kernel, by decide +kernel⟩
theorem scPick : FnScope ["_law_tin_here", "_law_menu"] ["_law_tin_here", "_law_menu"] (defScope sPick) := ⟨rfl, rfl, rfl, by decide +kernel, rfl, by decide +kernel, by decide +kernel⟩
theorem scFar : FnScope ["_law_tin_here", "_law_most", "_law_scale"] ["_law_tin_here", "_law_most"] (defScope sFar) := ⟨rfl, rfl, rfl, by decide +kernel, rfl, by decide +kernel, by decide +kernel⟩
theorem scGcd : FnScope ["_law_one", "_law_two"] ["_law_one", "_law_two"] (defScope sGcd) := ⟨rfl, rfl, rfl, by decide +kernel, rfl, by decide +kernel, by decide +kernel⟩
theorem scLow : FnScope ["_law_top", "_law_bottom", "_law_same"] ["_law_top", "_law_bottom"] (defScope sLow) := ⟨rfl, rfl, rfl, by decide +kernel, rfl, by decide +kernel, by decide +kernel⟩
/-- the built-ins that the text calls are still the built-ins -/
structure Bl (mg : Str → Option Value) : Prop where
  len : mg "len" = none
  int : mg "int" = none
  abs : mg "abs" = none
/-- a tin at t: what is left of the number, the stirred one, how often it was sipped from -/
def Tin (H : Hp) (t : Addr) : Prop := ∃ a b c : Int, H t = some (.lst [.int a, .int b, .int c]) ∧ 0 ≤ a ∧ 0 ≤ b ∧ b < 2147483647
/-- all but t is as it was, t is a tin -/
def Sipped (H H' : Hp) (t : Addr) : Prop := Tin H' t ∧ ∀ b o, H b = some o → b ≠ t → H' b = some o
def spTin (K : PySem.W.Frag) : Sp := fun vs H Q _ => ∃ (a : Addr) (ns : List Int) (t : Int), vs = [.ref a, .int t] ∧ SqL K H a (ns.map V.int) ∧ 0 ≤ t ∧ t ≤ 100 ∧
  ∀ p H', Same H H' → H p = none → Tin H' p → Q (.ref p) H'
def spSip : Sp := fun vs H Q _ => ∃ (t : Addr) (n : Int), vs = [.ref t, .int n] ∧ Tin H t ∧ 0 < n ∧ n.natAbs < 2 ^ 100 ∧ ∀ d H', 0 ≤ d → d < n → Sipped H H' t → Q (.int d) H'
theorem nz1 : (999931 : Int) ≠ 0 := by decide
theorem nz2 : (2147483647 : Int) ≠ 0 := by decide
section
variable {P : Program} {w : World} {K : PySem.W.Frag} {mg : Str → Option Value} {base : Heap}
theorem ok_tin {f : Addr} {fd : FuncData} (F : Fun K "_law_tin" "_law_tin" sTin f fd) (B : Bl mg) : FnOk P w K mg base CX0 1 f fd ["_law_script", "_law_turn"] (spTin K) := by
  refine F.ok scTin (fun vs H Q E h => ?_) (fun cdv A outer s H vs Q E hr h => ?_)
  · obtain ⟨a, ns, t, rfl, _⟩ := h
    rfl
  · obtain ⟨a, ns, t, rfl, hS, t0, t1, q⟩ := h
    refine ⟨_, pss_cons (ps_set (i := 2) scTin.nd rfl (.inl rfl) (pe_ifExp (pt_cmpR op_lt (pv 1) (pe_callB call_len_seq (by rfl) B.len PySem.boot_len (pa_cons (pv 0) pa_nil)) (nomark _))
        (pe_callTy call_int1 (by rfl) B.int (by decide +kernel) (pa_cons (pe_ix ix_list (pv 0) (pv 1) (fun _ _ => rfl)) pa_nil)) (pe_op op_add (pe_op op_mul pe_int (pv 1)) pe_int)))
      (pss_cons (ps_set (i := 3) scTin.nd rfl (.inl rfl) (pe_op op_add pe_int (pe_op op_mul pe_int (pv 1))))
      (pss_cons (ps_for PassesOwn.never rfl (pi_list (pe_slice sl_list (pv 0) po_none (po_some pe_int))) (pg_name (i := 4) scTin.nd rfl (.inl rfl))
        (pss_one (ps_set (i := 3) scTin.nd rfl (.inl rfl) (pe_op op_modN (pe_callTy call_int1 (by rfl) B.int (by decide +kernel) (pa_cons
          (pe_op op_add (pe_op op_add (pe_op op_mul (pv 3) pe_int) (pe_op op_modN (pe_callTy call_int1 (by rfl) B.int (by decide +kernel) (pa_cons (pv 4) pa_nil)) pe_int)) (pv 1)) pa_nil)) pe_int))))
      (pss_cons (ps_set (i := 3) scTin.nd rfl (.inl rfl) (pe_op op_modN (pe_callTy call_int1 (by rfl) B.int (by decide +kernel) (pa_cons
          (pe_op op_add (pe_op op_mul (pv 3) pe_int) (pe_op op_modN (pe_callTy call_int1 (by rfl) B.int (by decide +kernel) (pa_cons (pv 2) pa_nil)) pe_int)) pa_nil)) pe_int))
      (pss_one (ps_ret (pe_lst (pa_cons (pe_ifExp (pt_cmpR op_ge (pe_callB call_abs (by rfl) B.abs (by decide +kernel) (pa_cons (pv 2) pa_nil)) (pe_op op_pow pe_int pe_int) (nomark _)) (pe_callB call_abs (by rfl) B.abs (by decide +kernel) (pa_cons (pv 2) pa_nil)) pe_int)
          (pa_cons (pv 3) (pa_cons pe_int pa_nil))))))))), ?_⟩
    refine ⟨_, rfl, _, rfl, a, _, rfl, .inl hS, _, _, rfl, rfl, _, rfl, ?_⟩
    refine tif (.int (ns.getD t.toNat 0)) (.int (73 * t + 23)) (fun hc R z => ?_) (fun _ R z => ?_) (fun v e1 e2 => ?_)
    · have hl : t.toNat < ns.length := by have := of_decide_eq_true hc; rw [List.length_map] at this; omega
      refine ⟨_, rfl, _, rfl, a, _, t, .int (ns.getD t.toNat 0), rfl, rfl, hS, ?_, .inl ⟨_, rfl, z⟩⟩
      exact at_of (j := t.toNat) (by omega) (by rw [List.getElem?_map, List.getElem?_eq_getElem hl, List.getD_eq_getElem?_getD, List.getElem?_eq_getElem hl]; rfl)
    · exact ⟨_, rfl, _, _, rfl, rfl, .inl ⟨by decide, by decide⟩, _, _, rfl, rfl, z⟩
    obtain ⟨e, rfl⟩ : ∃ e, v = V.int e := by
      rcases Bool.eq_false_or_eq_true (decide (t < ↑(List.map V.int ns).length)) with z | z
      · exact ⟨_, e1 z⟩
      · exact ⟨_, e2 z⟩
    refine ⟨_, rfl, _, _, rfl, rfl, .inl ⟨by decide, by decide⟩, _, _, rfl, rfl, ?_⟩
    refine ⟨_, rfl, 8, rfl, a, _, rfl, hS, fun p hp => ⟨p, rfl, ⟨_, .inl (.inl upd_same)⟩, ?_⟩⟩
    have sm := same_put (o := .lst (cutV (ns.map V.int) none (some 8))) hp
    refine for_list (K := K) (a := p) (xs := cutV (ns.map V.int) none (some 8)) (fun i σ H' => ∃ (st : Int) (y : Option V), σ = [some (.ref a), some (.int t), some (.int e), some (.int st), y] ∧ 0 ≤ st ∧ st ≤ 2147483647 ∧ H' = upd H p (.lst (cutV (ns.map V.int) none (some 8))))
      ⟨50021 + 1009 * t, none, rfl, by omega, by omega, rfl⟩ (fun i σ H' _ ⟨_, _, _, _, _, e⟩ => by rw [e]; exact .inl (.inl upd_same)) ?_ ?_
    · rintro i x σ H' hi ⟨st, y, rfl, s0, s1, rfl⟩
      obtain ⟨z, rfl⟩ := int_at (cut_mem (List.mem_of_getElem? hi))
      refine ⟨_, rfl, _, _, rfl, rfl, .inl ⟨by omega, by omega⟩, _, rfl, .inl ⟨_, rfl, _, _, rfl, rfl, nz1, _, _, rfl, rfl, _, rfl, _, _, rfl, rfl, .inl ⟨_, rfl, _, _, rfl, rfl, nz2, ?_⟩⟩⟩
      exact ⟨_, _, rfl, fmod_ge (by decide), Int.le_of_lt (fmod_lt (by decide)), rfl⟩
    · rintro σ H' ⟨st, y, rfl, s0, s1, rfl⟩
      refine ⟨_, rfl, _, _, rfl, rfl, .inl ⟨by omega, by omega⟩, _, rfl, .inl ⟨_, rfl, _, _, rfl, rfl, nz1, _, _, rfl, rfl, .inl ⟨_, rfl, _, _, rfl, rfl, nz2, ?_⟩⟩⟩
      refine ⟨_, rfl, _, rfl, _, _, rfl, rfl, ⟨by decide, by decide, by decide⟩, _, _, rfl, rfl, _, rfl, ?_⟩
      refine tif (.int (if e < 0 then -e else e)) (.int 0) (fun _ R z => ⟨_, rfl, _, rfl, z⟩) (fun _ R z => z) (fun v e1 e2 => ?_)
      obtain ⟨b, rfl, hb⟩ : ∃ b, v = V.int b ∧ 0 ≤ b := by
        rcases Bool.eq_false_or_eq_true (decide ((10 : Int) ^ (18 : Int).toNat ≤ if e < 0 then -e else e)) with z | z
        · exact ⟨_, e1 z, by split <;> omega⟩
        · exact ⟨_, e2 z, by decide⟩
      refine ⟨_, rfl, (by show 3 ≤ sizeLine; decide), fun r hr' => ?_⟩
      exact q r _ (sm.trans (same_put hr')) (sm.free hr') ⟨_, _, _, upd_same, hb, fmod_ge (by decide), fmod_lt (by decide)⟩
end
end My
set_option Elab.async false
set_option linter.all false
set_option maxRecDepth 100000
set_option maxHeartbeats 4000000
namespace My
open PySem PySem.Spec PyProof.Rows L2 Gn
theorem Tin.not {H : Hp} {t b : Addr} (T : Tin H t) (h : H b = none) : b ≠ t := by
  obtain ⟨_, _, _, h1, _⟩ := T
  exact (ne_of_none h1 h).symm
theorem Sipped.trans {H H1 H2 : Hp} {t : Addr} (a : Sipped H H1 t) (b : Sipped H1 H2 t) : Sipped H H2 t := ⟨b.1, fun c o e n => b.2 c o (a.2 c o e n) n⟩
theorem Sipped.ofSame {H H1 : Hp} {t : Addr} (T : Tin H t) (s : Same H H1) : Sipped H H1 t := by
  obtain ⟨a, b, c, h, r⟩ := T
  exact ⟨⟨a, b, c, s _ _ h, r⟩, fun c o e _ => s c o e⟩
theorem Sipped.free {H H1 : Hp} {t p : Addr} (T : Tin H t) (s : Sipped H H1 t) (h : H1 p = none) : H p = none := by
  cases q : H p with
  | none => rfl
  | some o =>
    have n : p ≠ t := by
      rintro rfl
      obtain ⟨_, _, _, e, _⟩ := s.1
      rw [h] at e; cases e
    rw [s.2 p o q n] at h
    cases h
section
variable {P : Program} {w : World} {K : PySem.W.Frag} {mg : Str → Option Value} {base : Heap}
theorem ok_sip {f : Addr} {fd : FuncData} (F : Fun K "_law_sip" "_law_sip" sSip f fd) (B : Bl mg) : FnOk P w K mg base CX0 1 f fd ["_law_tin_here", "_law_top"] spSip := by
  refine F.ok scSip (fun vs H Q E h => ?_) (fun cdv A outer s H vs Q E hr h => ?_)
  · obtain ⟨t, n, rfl, _⟩ := h
    rfl
  · obtain ⟨t, n, rfl, ⟨a, b, c, hT, a0, b0, b1⟩, n0, n1, q⟩ := h
    refine ⟨_, pss_cons (ps_asg (pe_op op_add (pe_ix ix_list (pv 0) pe_int (fun _ _ => rfl)) pe_int) (pg_sub (pv 0) pe_int set_list))
      (pss_cons (ps_if (pt_cmpR op_gt (pe_ix ix_list (pv 0) pe_int (fun _ _ => rfl)) pe_int (nomark _))
        (pss_cons (ps_set (i := 2) scSip.nd rfl (.inl rfl) (pe_op op_modN (pe_callTy call_int1 (by rfl) B.int (by decide +kernel) (pa_cons (pe_ix ix_list (pv 0) pe_int (fun _ _ => rfl)) pa_nil)) (pv 1)))
        (pss_cons (ps_asg (pe_op op_fdivW (pe_callTy call_int1 (by rfl) B.int (by decide +kernel) (pa_cons (pe_ix ix_list (pv 0) pe_int (fun _ _ => rfl)) pa_nil)) (pv 1)) (pg_sub (pv 0) pe_int set_list))
        (pss_one (ps_ret (pv 2))))) pss_nil)
      (pss_cons (ps_asg (pe_op op_modN (pe_callTy call_int1 (by rfl) B.int (by decide +kernel) (pa_cons (pe_op op_add (pe_op op_add (pe_op op_mul (pe_ix ix_list (pv 0) pe_int (fun _ _ => rfl)) pe_int) (pe_op op_mul pe_int (pe_ix ix_list (pv 0) pe_int (fun _ _ => rfl)))) pe_int) pa_nil)) pe_int) (pg_sub (pv 0) pe_int set_list))
      (pss_one (ps_ret (pe_op op_modN (pe_callTy call_int1 (by rfl) B.int (by decide +kernel) (pa_cons (pe_op op_fdivW (pe_ix ix_list (pv 0) pe_int (fun _ _ => rfl)) pe_int) pa_nil)) (pv 1)))))), ?_⟩
    -- tin[2] = tin[2] + 1
    refine ⟨_, rfl, t, _, 2, .int c, rfl, rfl, SqL.of hT, at_of (j := 2) rfl rfl, _, _, rfl, rfl, _, rfl, t, _, _, 2, rfl, rfl, hT, rfl, ?_⟩
    have h1 : upd H t (.lst ([V.int a, V.int b, V.int c].set 2 (V.int (c + 1)))) t = some (.lst [.int a, .int b, .int (c + 1)]) := upd_same
    -- if tin[0] > 0
    refine ⟨_, rfl, t, _, 0, .int a, rfl, rfl, SqL.of h1, at_of (j := 0) rfl rfl, _, _, rfl, rfl, _, rfl, ?_⟩
    refine ite2 (fun hc => ?_) (fun hc => ?_)
    · have ha : 0 < a := of_decide_eq_true hc
      refine ⟨_, rfl, t, _, 0, .int a, rfl, rfl, SqL.of h1, at_of (j := 0) rfl rfl, .inl ⟨_, rfl, _, rfl, _, _, rfl, rfl, (show n ≠ 0 by omega), ?_⟩⟩
      refine ⟨_, rfl, t, _, 0, .int a, rfl, rfl, SqL.of h1, at_of (j := 0) rfl rfl, .inl ⟨_, rfl, _, rfl, _, _, rfl, rfl, wide_div n0 n1 (by decide) (by decide), _, rfl, t, _, _, 0, rfl, rfl, h1, rfl, ?_⟩⟩
      refine ⟨_, rfl, q _ _ (fmod_ge n0) (fmod_lt n0) ⟨⟨_, _, _, upd_same, Int.ediv_nonneg (by omega) (by omega), b0, b1⟩, fun z o e hz => ?_⟩⟩
      rw [upd_ne hz, upd_ne hz]; exact e
    · refine ⟨_, rfl, t, _, 1, .int b, rfl, rfl, SqL.of h1, at_of (j := 1) rfl rfl, _, _, rfl, rfl, .inl ⟨by omega, by omega⟩, _, rfl, t, _, 2, .int (c + 1), rfl, rfl, SqL.of h1, at_of (j := 2) rfl rfl, _, _, rfl, rfl, .inl ⟨by decide, by decide⟩, _, _, rfl, rfl, _, _, rfl, rfl, .inl ⟨_, rfl, _, _, rfl, rfl, nz2, _, rfl, t, _, _, 1, rfl, rfl, h1, rfl, ?_⟩⟩
      have h2 : ∀ z : Int, upd (upd H t (.lst ([V.int a, V.int b, V.int c].set 2 (V.int (c + 1))))) t (.lst ([V.int a, V.int b, V.int (c + 1)].set 1 (V.int z))) t = some (.lst [.int a, .int z, .int (c + 1)]) := fun z => upd_same
      refine ⟨_, rfl, t, _, 1, _, rfl, rfl, SqL.of (h2 _), at_of (j := 1) rfl rfl, _, _, rfl, rfl, wide_div (b := 6) (by decide) (by decide) (by decide) (by decide), .inl ⟨_, rfl, _, rfl, _, _, rfl, rfl, (show n ≠ 0 by omega), ?_⟩⟩
      refine q _ _ (fmod_ge n0) (fmod_lt n0) ⟨⟨_, _, _, h2 _, a0, fmod_ge (by decide), fmod_lt (by decide)⟩, fun z o e hz => ?_⟩
      rw [upd_ne hz, upd_ne hz]; exact e
end
end My
set_option Elab.async false
set_option linter.all false
set_option maxRecDepth 100000
set_option maxHeartbeats 4000000
namespace My
open PySem PySem.Spec PyProof.Rows L2 Gn
def spPick : Sp := fun vs H Q _ => ∃ (t m : Addr) (xs : List V), vs = [.ref t, .ref m] ∧ Tin H t ∧ H m = some (.lst xs) ∧ m ≠ t ∧ 0 < xs.length ∧ xs.length ≤ 1000 ∧ ∀ x H', x ∈ xs → Sipped H H' t → Q x H'
def spFar : Sp := fun vs H Q _ => ∃ (t : Addr) (n : Int), vs = [.ref t, .int n] ∧ Tin H t ∧ 1 ≤ n ∧ n.natAbs < 2 ^ 100 ∧ ∀ d H', 1 ≤ d → d ≤ n → Sipped H H' t → Q (.int d) H'
def spGcd : Sp := fun vs H Q _ => ∃ (a b : Int), vs = [.int a, .int b] ∧ 0 ≤ a ∧ 0 ≤ b ∧ Q (.int ((Nat.gcd a.natAbs b.natAbs : Nat) : Int)) H
def spLow : Sp := fun vs H Q _ => ∃ (a b : Int), vs = [.int a, .int b] ∧ 0 ≤ a ∧ 0 < b ∧ b.natAbs < 2 ^ 100 ∧
  ∀ p, H p = none → Q (.ref p) (upd H p (.tup [.int (a / ((Nat.gcd a.natAbs b.natAbs : Nat) : Int)), .int (b / ((Nat.gcd a.natAbs b.natAbs : Nat) : Int))]))
/-- x / y is a step: lowest terms, from 0 on, below 1 -/
structure IsStep (x y : Int) : Prop where
  x0 : 0 ≤ x
  xy : x < y
  co : Nat.gcd x.natAbs y.natAbs = 1
theorem low_step {a b : Int} (h0 : 0 ≤ a) (h : a < b) : IsStep (a / ((Nat.gcd a.natAbs b.natAbs : Nat) : Int)) (b / ((Nat.gcd a.natAbs b.natAbs : Nat) : Int)) ∧ b / ((Nat.gcd a.natAbs b.natAbs : Nat) : Int) ≤ b := by
  obtain ⟨x, rfl⟩ := Int.eq_ofNat_of_zero_le h0
  obtain ⟨y, rfl⟩ := Int.eq_ofNat_of_zero_le (show 0 ≤ b by omega)
  simp only [Int.natAbs_natCast]
  have hy : 0 < y := by omega
  have g0 : 0 < Nat.gcd x y := Nat.gcd_pos_of_pos_right _ hy
  have e1 : ((x : Int) / ((Nat.gcd x y : Nat) : Int)) = ((x / Nat.gcd x y : Nat) : Int) := by simp
  have e2 : ((y : Int) / ((Nat.gcd x y : Nat) : Int)) = ((y / Nat.gcd x y : Nat) : Int) := by simp
  rw [e1, e2]
  obtain ⟨u, hu⟩ := Nat.gcd_dvd_left x y
  obtain ⟨v, hv⟩ := Nat.gcd_dvd_right x y
  have du : x / Nat.gcd x y = u := Nat.div_eq_of_eq_mul_right g0 hu
  have dv : y / Nat.gcd x y = v := Nat.div_eq_of_eq_mul_right g0 hv
  refine ⟨⟨by omega, ?_, ?_⟩, ?_⟩
  · rw [du, dv]
    have : Nat.gcd x y * u < Nat.gcd x y * v := by rw [← hu, ← hv]; omega
    have := Nat.lt_of_mul_lt_mul_left this
    omega
  · simp only [Int.natAbs_natCast]
    exact Nat.coprime_div_gcd_div_gcd g0
  · have := Nat.div_le_self y (Nat.gcd x y)
    omega
section
variable {P : Program} {w : World} {K : PySem.W.Frag} {mg : Str → Option Value} {base : Heap}
/-- a def that the module holds under its own name, and how it binds -/
structure Df (K : PySem.W.Frag) (mg : Str → Option Value) (x : Str) (st : Stmt) (ps : List Str) (f : Addr) (fd : FuncData) : Prop where
  F : Fun K x x st f fd
  g : mg x = some (.ref f)
  b : Binds K fd ps []
theorem ok_pick {f fS : Addr} {fd fdS : FuncData} (F : Fun K "_law_pick" "_law_pick" sPick f fd) (B : Bl mg) (S : Df K mg "_law_sip" sSip ["_law_tin_here", "_law_top"] fS fdS) : FnOk P w K mg base CX0 2 f fd ["_law_tin_here", "_law_menu"] spPick := by
  have GS : FnOk P w K mg base CX0 1 fS fdS ["_law_tin_here", "_law_top"] spSip := ok_sip S.F B
  refine F.ok scPick (fun vs H Q E h => ?_) (fun cdv A outer s H vs Q E hr h => ?_)
  · obtain ⟨t, m, xs, rfl, _⟩ := h
    rfl
  · obtain ⟨t, m, xs, rfl, T, hm, ne, x0, x1, q⟩ := h
    refine ⟨_, pss_one (ps_ret (pe_ix ix_list (pv 1) (pe_call GS hr (by rfl) S.g S.F.kp S.b .nil pass0 (pa_cons (pv 0) (pa_cons (pe_callB call_len_seq (by rfl) B.len PySem.boot_len (pa_cons (pv 1) pa_nil)) pa_nil))) (fun _ _ => rfl))), ?_⟩
    refine ⟨_, rfl, _, rfl, _, rfl, m, xs, rfl, .inl (SqL.of hm), t, _, rfl, T, by omega, ?_, fun d H' d0 d1 sp => ?_⟩
    · rw [Int.natAbs_natCast]; exact Nat.lt_of_le_of_lt x1 (by decide)
    have hd : d.toNat < xs.length := by omega
    refine ⟨m, xs, d, xs[d.toNat], rfl, rfl, SqL.of (sp.2 m _ hm ne), at_of (j := d.toNat) (by omega) (List.getElem?_eq_getElem hd), q _ _ (List.getElem_mem hd) sp⟩
theorem ok_far {f fS fP : Addr} {fd fdS fdP : FuncData} (F : Fun K "_law_far" "_law_far" sFar f fd) (B : Bl mg) (S : Df K mg "_law_sip" sSip ["_law_tin_here", "_law_top"] fS fdS) (Pk : Df K mg "_law_pick" sPick ["_law_tin_here", "_law_menu"] fP fdP) : FnOk P w K mg base CX0 3 f fd ["_law_tin_here", "_law_most"] spFar := by
  have GS : FnOk P w K mg base CX0 1 fS fdS ["_law_tin_here", "_law_top"] spSip := ok_sip S.F B
  have GP : FnOk P w K mg base CX0 2 fP fdP ["_law_tin_here", "_law_menu"] spPick := ok_pick Pk.F B S
  refine F.ok scFar (fun vs H Q E h => ?_) (fun cdv A outer s H vs Q E hr h => ?_)
  · obtain ⟨t, n, rfl, _⟩ := h
    rfl
  · obtain ⟨t, n, rfl, T, n1, n2, q⟩ := h
    have hr1 : Room 1 _ := hr.mono (by decide)
    refine ⟨_, pss_cons (ps_if (pt_cmpR op_le (pv 1) (pe_op op_pow pe_int pe_int) (nomark _)) (pss_one (ps_ret (pe_op op_add pe_int (pe_call GS hr1 (by rfl) S.g S.F.kp S.b .nil pass0 (pa_cons (pv 0) (pa_cons (pv 1) pa_nil)))))) pss_nil)
      (pss_cons (ps_set (i := 2) scFar.nd rfl (.inl rfl) (pe_call GP hr (by rfl) Pk.g Pk.F.kp Pk.b .nil pass0 (pa_cons (pv 0) (pa_cons (pe_lst (pa_cons pe_int (pa_cons pe_int (pa_cons (pe_op op_pow pe_int pe_int) (pa_cons (pe_op op_pow pe_int pe_int) (pa_cons (pe_op op_pow pe_int pe_int) (pa_cons (pe_op op_pow pe_int pe_int) (pa_cons (pe_op op_pow pe_int pe_int) (pa_cons (pe_op op_pow pe_int pe_int) pa_nil))))))))) pa_nil))))
      (pss_one (ps_ret (pe_op op_add pe_int (pe_op op_modN (pe_callTy call_int1 (by rfl) B.int (by decide +kernel) (pa_cons (pe_op op_add (pe_op op_mul (pe_call GS hr1 (by rfl) S.g S.F.kp S.b .nil pass0 (pa_cons (pv 0) (pa_cons (pe_op op_pow pe_int pe_int) pa_nil))) (pv 2)) (pe_call GS hr1 (by rfl) S.g S.F.kp S.b .nil pass0 (pa_cons (pv 0) (pa_cons pe_int pa_nil)))) pa_nil)) (pv 1)))))), ?_⟩
    refine ⟨_, rfl, _, _, rfl, rfl, ⟨by decide, by decide, by decide⟩, _, _, rfl, rfl, _, rfl, ?_⟩
    refine ite2 (fun hc => ?_) (fun hc => ?_)
    · refine ⟨_, rfl, _, rfl, t, n, rfl, T, by omega, n2, fun d H' d0 d1 sp => ?_⟩
      exact ⟨_, _, rfl, rfl, q _ _ (by omega) (by omega) sp⟩
    · refine ⟨_, rfl, _, _, rfl, rfl, ⟨by decide, by decide, by decide⟩, _, _, rfl, rfl, ⟨by decide, by decide, by decide⟩, _, _, rfl, rfl, ⟨by decide, by decide, by decide⟩, _, _, rfl, rfl, ⟨by decide, by decide, by decide⟩, _, _, rfl, rfl, ⟨by decide, by decide, by decide⟩, _, _, rfl, rfl, ⟨by decide, by decide, by decide⟩, (by show 8 ≤ sizeLine; decide), fun m hm => ?_⟩
      have T1 : Tin (upd H m (.lst ([1, 7, 10 ^ 3, 10 ^ 6, 10 ^ 9, 10 ^ 14, 10 ^ 21, 10 ^ 24].map V.int))) t := (Sipped.ofSame T (same_put hm)).1
      refine ⟨t, m, ([1, 7, 10 ^ 3, 10 ^ 6, 10 ^ 9, 10 ^ 14, 10 ^ 21, 10 ^ 24] : List Int).map V.int, rfl, T1, upd_same, T.not hm, (by decide), (by decide), fun x H1 hx s1 => ?_⟩
      obtain ⟨z, rfl⟩ := int_at hx
      have s01 : Sipped H H1 t := (Sipped.ofSame T (same_put hm)).trans s1
      refine ⟨_, rfl, _, _, rfl, rfl, ⟨by decide, by decide, by decide⟩, t, _, rfl, s1.1, (by decide), (by decide), fun d H2 d0 d1 s2 => ?_⟩
      refine ⟨_, rfl, _, _, rfl, rfl, .inl ⟨by omega, ?_⟩, _, rfl, t, _, rfl, s2.1, (by decide), (by decide), fun e H3 e0 e1 s3 => ?_⟩
      · have : (d : Int) < 10 ^ 6 := d1
        omega
      refine ⟨_, _, rfl, rfl, .inl ⟨_, rfl, _, rfl, _, _, rfl, rfl, (show n ≠ 0 by omega), _, _, rfl, rfl, q _ _ ?_ ?_ ((s01.trans s2).trans s3)⟩⟩
      · have := fmod_ge (a := d * z + e) (show 0 < n by omega); omega
      · have := fmod_lt (a := d * z + e) (show 0 < n by omega); omega
theorem ok_gcd {f : Addr} {fd : FuncData} (F : Fun K "_law_gcd" "_law_gcd" sGcd f fd) (B : Bl mg) : FnOk P w K mg base CX0 1 f fd ["_law_one", "_law_two"] spGcd := by
  refine F.ok scGcd (fun vs H Q E h => ?_) (fun cdv A outer s H vs Q E hr h => ?_)
  · obtain ⟨a, b, rfl, _⟩ := h
    rfl
  · obtain ⟨a, b, rfl, a0, b0, q⟩ := h
    refine ⟨_, pss_cons (ps_while PassesOwn.never (pt_cmpR op_gt (pv 1) pe_int (nomark _)) (pss_one (ps_par (i := 0) (j := 1) (by rfl) scGcd.nd rfl rfl (by decide) rfl rfl
        (pa_cons (pv 1) (pa_cons (pe_op op_modN (pe_callTy call_int1 (by rfl) B.int (by decide +kernel) (pa_cons (pv 0) pa_nil)) (pv 1)) pa_nil)) (by rfl))))
      (pss_one (ps_ret (pv 0))), ?_⟩
    refine while_by (fun σ H' => ∃ x y : Int, σ = [some (.int x), some (.int y)] ∧ 0 ≤ x ∧ 0 ≤ y ∧ Nat.gcd x.natAbs y.natAbs = Nat.gcd a.natAbs b.natAbs ∧ H' = H)
      (fun σ _ => match σ with | [_, some (.int y)] => y.natAbs | _ => 0) ⟨a, b, rfl, a0, b0, rfl, rfl⟩ ?_ ?_
    · rintro σ H' ⟨x, y, rfl, x0, y0, hg, rfl⟩
      refine ⟨_, rfl, _, _, rfl, rfl, _, rfl, ?_⟩
      refine ite2 (fun hc => ?_) (fun hc => ?_)
      · have hy : 0 < y := of_decide_eq_true hc
        refine ⟨_, rfl, _, rfl, .inl ⟨_, rfl, _, rfl, _, _, rfl, rfl, (show y ≠ 0 by omega), _, _, rfl, ⟨y, x.fmod y, rfl, y0, fmod_ge hy, ?_, rfl⟩, ?_⟩⟩
        · rw [← hg, Int.fmod_eq_emod_of_nonneg _ y0]
          obtain ⟨m, rfl⟩ := Int.eq_ofNat_of_zero_le x0
          obtain ⟨n, rfl⟩ := Int.eq_ofNat_of_zero_le y0
          rw [← Int.natCast_emod, Int.natAbs_natCast, Int.natAbs_natCast, Int.natAbs_natCast]
          rw [Nat.gcd_comm n, ← Nat.gcd_rec, Nat.gcd_comm]
        · show (x.fmod y).natAbs < y.natAbs
          have h1 := fmod_ge (a := x) hy
          have h2 := fmod_lt (a := x) hy
          omega
      · have hy : y = 0 := by have : ¬ (0 : Int) < y := fun z => hc (decide_eq_true z); omega
        subst hy
        refine ⟨_, rfl, ?_⟩
        rw [← hg] at q
        simpa [Int.natAbs_of_nonneg x0] using q
    · rintro σ H' Q1 Q2 mo ⟨v, e1, i, j, e2, e3, k, e4, h⟩
      exact ⟨v, e1, i, j, e2, e3, k, e4, mo _ _ h⟩
theorem ok_low {f fG : Addr} {fd fdG : FuncData} (F : Fun K "_law_low" "_law_low" sLow f fd) (B : Bl mg) (G : Df K mg "_law_gcd" sGcd ["_law_one", "_law_two"] fG fdG) : FnOk P w K mg base CX0 2 f fd ["_law_top", "_law_bottom"] spLow := by
  have GG : FnOk P w K mg base CX0 1 fG fdG ["_law_one", "_law_two"] spGcd := ok_gcd G.F B
  refine F.ok scLow (fun vs H Q E h => ?_) (fun cdv A outer s H vs Q E hr h => ?_)
  · obtain ⟨a, b, rfl, _⟩ := h
    rfl
  · obtain ⟨a, b, rfl, a0, b0, b1, q⟩ := h
    refine ⟨_, pss_cons (ps_set (i := 2) scLow.nd rfl (.inl rfl) (pe_call GG hr (by rfl) G.g G.F.kp G.b .nil pass0 (pa_cons (pv 0) (pa_cons (pv 1) pa_nil))))
      (pss_one (ps_ret (pe_tup (pa_cons (pe_op op_fdivW (pv 0) (pv 2)) (pa_cons (pe_op op_fdivW (pv 1) (pv 2)) pa_nil))))), ?_⟩
    have g0 : (0 : Int) < ((Nat.gcd a.natAbs b.natAbs : Nat) : Int) := by
      have := Nat.gcd_pos_of_pos_right a.natAbs (show 0 < b.natAbs by omega); omega
    have g1 : (((Nat.gcd a.natAbs b.natAbs : Nat) : Int)).natAbs < 2 ^ 100 := by
      rw [Int.natAbs_natCast]
      exact Nat.lt_of_le_of_lt (Nat.le_of_dvd (by omega) (Nat.gcd_dvd_right _ _)) b1
    refine ⟨_, rfl, _, rfl, a, b, rfl, a0, by omega, _, rfl, _, rfl, _, _, rfl, rfl, wide_div g0 g1 (by decide) (by decide), _, rfl, _, rfl, _, _, rfl, rfl, wide_div g0 g1 (by decide) (by decide), (by show 2 ≤ sizeLine; decide), fun p hp => q p hp⟩
end
end My
set_option Elab.async false
set_option linter.all false
set_option maxRecDepth 100000
set_option maxHeartbeats 4000000
namespace My
open PySem PySem.Spec PyProof.Rows L2 Gn
abbrev sIsInt : Stmt := top 20
abbrev sIsFr : Stmt := top 21
abbrev sIsStep : Stmt := top 22
abbrev sChStep : Stmt := top 25
theorem scIsInt : FnScope ["given"] ["given"] (defScope sIsInt) := ⟨rfl, rfl, rfl, by decide +kernel, rfl, by decide +kernel, by decide +kernel⟩
theorem scIsFr : FnScope ["given", "top", "bottom"] ["given"] (defScope sIsFr) := ⟨rfl, rfl, rfl, by decide +kernel, rfl, by decide +kernel, by decide +kernel⟩
theorem scIsStep : FnScope ["given"] ["given"] (defScope sIsStep) := ⟨rfl, rfl, rfl, by decide +kernel, rfl, by decide +kernel, by decide +kernel⟩
theorem scChStep : FnScope ["given"] ["given"] (defScope sChStep) := ⟨rfl, rfl, rfl, by decide +kernel, rfl, by decide +kernel, by decide +kernel⟩
/-- the step x / y stands at t -/
def StepAt (H : Hp) (t : Addr) (x y : Int) : Prop := H t = some (.tup [.int x, .int y]) ∧ IsStep x y
def spIsInt : Sp := fun vs H Q _ => ∃ i : Int, vs = [.int i] ∧ Q (.bl true) H
def spIsSt (r : V) : Sp := fun vs H Q _ => ∃ (t : Addr) (x y : Int), vs = [.ref t] ∧ StepAt H t x y ∧ Q r H
structure Bc (mg : Str → Option Value) : Prop where
  isi : mg "isinstance" = none
  int : mg "int" = none
  bool : mg "bool" = none
  tuple : mg "tuple" = none
  len : mg "len" = none
  gcd : mg "gcd" = some (.builtin "math.gcd")
section
variable {P : Program} {w : World} {K : PySem.W.Frag} {mg : Str → Option Value} {base : Heap}
theorem ok_isInt {f : Addr} {fd : FuncData} (F : Fun K "is_integer" "is_integer" sIsInt f fd) (B : Bc mg) : FnOk P w K mg base CX0 1 f fd ["given"] spIsInt := by
  refine F.ok scIsInt (fun vs H Q E h => ?_) (fun cdv A outer s H vs Q E hr h => ?_)
  · obtain ⟨i, rfl, _⟩ := h
    rfl
  · obtain ⟨i, rfl, q⟩ := h
    refine ⟨_, pss_one (ps_ret (pe_and (pe_callB call_isi (by rfl) B.isi (by decide +kernel) (pa_cons (pv 0) (pa_cons (pe_bltn (v := .ty "int") (by rfl) B.int (by decide +kernel) rfl) pa_nil)))
      (pe_one (pe_not (pe_callB call_isi (by rfl) B.isi (by decide +kernel) (pa_cons (pv 0) (pa_cons (pe_bltn (v := .ty "bool") (by rfl) B.bool (by decide +kernel) rfl) pa_nil))))))), ?_⟩
    refine ⟨_, rfl, .int i, .ty "int", _, _, true, rfl, .ty "int", .base (.int i), kit_ty (by decide +kernel), true, rfl, iteT ?_⟩
    exact ⟨_, rfl, .int i, .ty "bool", _, _, false, rfl, .ty "bool", .base (.int i), kit_ty (by decide +kernel), false, rfl, q⟩
theorem ok_isFr {f fI : Addr} {fd fdI : FuncData} (F : Fun K "is_fraction" "is_fraction" sIsFr f fd) (B : Bc mg) (D : Df K mg "is_integer" sIsInt ["given"] fI fdI) : FnOk P w K mg base CX0 2 f fd ["given"] (spIsSt (.bl true)) := by
  have GI : FnOk P w K mg base CX0 1 fI fdI ["given"] spIsInt := ok_isInt D.F B
  refine F.ok scIsFr (fun vs H Q E h => ?_) (fun cdv A outer s H vs Q E hr h => ?_)
  · obtain ⟨t, x, y, rfl, _⟩ := h
    rfl
  · obtain ⟨t, x, y, rfl, ⟨hT, st⟩, q⟩ := h
    refine ⟨_, pss_cons (ps_if (PW.pt (pw_or (pt_not (pt_val (pe_callB call_isi (by rfl) B.isi (by decide +kernel) (pa_cons (pv 0) (pa_cons (pe_bltn (v := .ty "tuple") (by rfl) B.tuple (by decide +kernel) rfl) pa_nil)))))
        (pw_or1 (pt_cmpR op_ne (pe_callB call_len_seq (by rfl) B.len PySem.boot_len (pa_cons (pv 0) pa_nil)) pe_int (nomark _))))) (pss_one (ps_ret pe_bl)) pss_nil)
      (pss_cons (ps_asg (pv 0) (pg_tup (by rfl) (pgs_cons (pg_name (i := 1) scIsFr.nd rfl (.inl rfl)) (pgs_cons (pg_name (i := 2) scIsFr.nd rfl (.inl rfl)) pgs_nil))))
      (pss_cons (ps_if (PW.pt (pw_or (pt_not (pt_val (pe_call GI hr (by rfl) D.g D.F.kp D.b .nil pass0 (pa_cons (pv 1) pa_nil)))) (pw_or1 (pt_not (pt_val (pe_call GI hr (by rfl) D.g D.F.kp D.b .nil pass0 (pa_cons (pv 2) pa_nil))))))) (pss_one (ps_ret pe_bl)) pss_nil)
      (pss_one (ps_ret (pe_and (pe_cmpR op_ge (pv 2) pe_int (nomark _)) (pe_one (pe_cmpR op_eq (pe_callBfun cr_gcd (by rfl) B.gcd (pa_cons (pv 1) (pa_cons (pv 2) pa_nil))) pe_int (nomark _)))))))), ?_⟩
    refine ⟨_, rfl, .ref t, .ty "tuple", _, _, true, rfl, .ty "tuple", .base (.tup hT), kit_ty (by decide +kernel), true, rfl, iteF ?_⟩
    refine ⟨_, rfl, t, _, rfl, .inr (SqT.of hT), rfl, _, rfl, iteF ?_⟩
    refine ⟨_, rfl, t, _, rfl, SqT.of hT, rfl, _, _, rfl, _, _, rfl, rfl, ?_⟩
    refine ⟨_, rfl, x, rfl, true, rfl, iteF ⟨_, rfl, y, rfl, true, rfl, iteF ?_⟩⟩
    have y1 : (1 : Int) ≤ y := by have := st.x0; have := st.xy; omega
    refine ⟨_, rfl, _, _, rfl, rfl, _, rfl, ?_⟩
    rw [decide_eq_true y1]
    refine iteT ⟨_, rfl, _, rfl, x, y, rfl, ?_⟩
    rw [st.co]
    exact ⟨rfl, q⟩
theorem ok_isStep {f fI fR : Addr} {fd fdI fdR : FuncData} (F : Fun K "is_step" "is_step" sIsStep f fd) (B : Bc mg) (D : Df K mg "is_integer" sIsInt ["given"] fI fdI) (R : Df K mg "is_fraction" sIsFr ["given"] fR fdR) : FnOk P w K mg base CX0 3 f fd ["given"] (spIsSt (.bl true)) := by
  have GR : FnOk P w K mg base CX0 2 fR fdR ["given"] (spIsSt (.bl true)) := ok_isFr R.F B D
  refine F.ok scIsStep (fun vs H Q E h => ?_) (fun cdv A outer s H vs Q E hr h => ?_)
  · obtain ⟨t, x, y, rfl, _⟩ := h
    rfl
  · obtain ⟨t, x, y, rfl, ⟨hT, st⟩, q⟩ := h
    refine ⟨_, pss_one (ps_ret (pe_and (pe_call GR hr (by rfl) R.g R.F.kp R.b .nil pass0 (pa_cons (pv 0) pa_nil)) (pe_one (pe_chain op_le op_lt pe_int (pe_ix ix_tup (pv 0) pe_int (fun _ _ => rfl)) (pe_ix ix_tup (pv 0) pe_int (fun _ _ => rfl)))))), ?_⟩
    refine ⟨_, rfl, t, x, y, rfl, ⟨hT, st⟩, true, rfl, iteT ?_⟩
    refine ⟨_, rfl, t, _, 0, .int x, rfl, rfl, SqT.of hT, at_of (j := 0) rfl rfl, _, _, rfl, rfl, _, rfl, ?_⟩
    rw [decide_eq_true st.x0]
    refine iteT ⟨_, rfl, t, _, 1, .int y, rfl, rfl, SqT.of hT, at_of (j := 1) rfl rfl, _, _, rfl, rfl, ?_⟩
    show Q (.bl (decide (x < y))) H
    rw [decide_eq_true st.xy]
    exact q
theorem ok_chStep {f fI fR fS : Addr} {fd fdI fdR fdS : FuncData} (F : Fun K "check_step" "check_step" sChStep f fd) (B : Bc mg) (D : Df K mg "is_integer" sIsInt ["given"] fI fdI) (R : Df K mg "is_fraction" sIsFr ["given"] fR fdR) (S : Df K mg "is_step" sIsStep ["given"] fS fdS) : FnOk P w K mg base CX0 4 f fd ["given"] (spIsSt .non) := by
  have GS : FnOk P w K mg base CX0 3 fS fdS ["given"] (spIsSt (.bl true)) := ok_isStep S.F B D R
  refine F.ok scChStep (fun vs H Q E h => ?_) (fun cdv A outer s H vs Q E hr h => ?_)
  · obtain ⟨t, x, y, rfl, _⟩ := h
    rfl
  · obtain ⟨t, x, y, rfl, st, q⟩ := h
    refine ⟨_, pss_one (ps_if (pt_not (pt_val (pe_call GS hr (by rfl) S.g S.F.kp S.b .nil pass0 (pa_cons (pv 0) pa_nil)))) (pss_one (ps_never)) pss_nil), ?_⟩
    exact ⟨_, rfl, t, x, y, rfl, st, true, rfl, iteF q⟩
end
end My
set_option Elab.async false
set_option maxRecDepth 100000
/-! orders as lists: places sorted, marks at one place together. Plain lists of ints -/
namespace Mt
def insU (v : Int) : List Int → List Int
  | [] => [v]
  | a :: l => if v < a then v :: a :: l else if v = a then a :: l else a :: insU v l
/-- sorted, each once -/
def sortU (l : List Int) : List Int := l.foldr insU []
theorem insU_mem {v u : Int} : ∀ {l : List Int}, u ∈ insU v l ↔ u = v ∨ u ∈ l
  | [] => by simp [insU]
  | a :: l => by
    unfold insU
    split
    · simp
    · split
      · rename_i h1 h2
        subst h2
        simp
      · simp only [List.mem_cons, insU_mem (l := l)]
        constructor
        · rintro (h | h | h)
          · exact .inr (.inl h)
          · exact .inl h
          · exact .inr (.inr h)
        · rintro (h | h | h)
          · exact .inr (.inl h)
          · exact .inl h
          · exact .inr (.inr h)
theorem insU_pw {v : Int} : ∀ {l : List Int}, l.Pairwise (· < ·) → (insU v l).Pairwise (· < ·)
  | [], _ => by simp [insU]
  | a :: l, h => by
    obtain ⟨h1, h2⟩ := List.pairwise_cons.mp h
    unfold insU
    split
    · rename_i c
      refine List.pairwise_cons.mpr ⟨fun b hb => ?_, h⟩
      rcases List.mem_cons.mp hb with rfl | hb
      · exact c
      · exact Int.lt_trans c (h1 b hb)
    · split
      · exact h
      · rename_i c d
        refine List.pairwise_cons.mpr ⟨fun b hb => ?_, insU_pw h2⟩
        rcases insU_mem.mp hb with rfl | hb
        · omega
        · exact h1 b hb
theorem sortU_mem {v : Int} : ∀ {l : List Int}, v ∈ sortU l ↔ v ∈ l
  | [] => by simp [sortU]
  | a :: l => by
    show v ∈ insU a (sortU l) ↔ _
    rw [insU_mem, sortU_mem, List.mem_cons]
theorem sortU_pw : ∀ l : List Int, (sortU l).Pairwise (· < ·)
  | [] => List.Pairwise.nil
  | a :: l => insU_pw (sortU_pw l)
/-- a strictly rising list is told by its members -/
theorem strict_one : ∀ {l m : List Int}, l.Pairwise (· < ·) → m.Pairwise (· < ·) → (∀ v, v ∈ l ↔ v ∈ m) → l = m
  | [], [], _, _, _ => rfl
  | [], b :: m, _, _, h => by have := (h b).mpr List.mem_cons_self; simp at this
  | a :: l, [], _, _, h => by have := (h a).mp List.mem_cons_self; simp at this
  | a :: l, b :: m, h1, h2, h => by
    obtain ⟨p1, q1⟩ := List.pairwise_cons.mp h1
    obtain ⟨p2, q2⟩ := List.pairwise_cons.mp h2
    have e : a = b := by
      rcases List.mem_cons.mp ((h a).mp List.mem_cons_self) with x | x
      · exact x
      · rcases List.mem_cons.mp ((h b).mpr List.mem_cons_self) with y | y
        · exact y.symm
        · have := p2 a x; have := p1 b y; omega
    subst e
    have : l = m := strict_one q1 q2 fun v => by
      constructor
      · intro hv
        rcases List.mem_cons.mp ((h v).mp (List.mem_cons_of_mem _ hv)) with x | x
        · subst x; have := p1 v hv; omega
        · exact x
      · intro hv
        rcases List.mem_cons.mp ((h v).mpr (List.mem_cons_of_mem _ hv)) with x | x
        · subst x; have := p2 v hv; omega
        · exact x
    rw [this]
theorem le_nodup_lt {l : List Int} (h : l.Pairwise (· ≤ ·)) (n : l.Nodup) : l.Pairwise (· < ·) := by
  induction l with
  | nil => exact .nil
  | cons a l ih =>
    obtain ⟨p, q⟩ := List.pairwise_cons.mp h
    obtain ⟨r, s⟩ := List.nodup_cons.mp n
    refine List.pairwise_cons.mpr ⟨fun b hb => ?_, ih q s⟩
    have h1 := p b hb
    have h2 : a ≠ b := fun e => r (by rw [e]; exact hb)
    omega
/-- a rising list is told by what it is a permutation of -/
theorem le_one : ∀ {l m : List Int}, l.Pairwise (· ≤ ·) → m.Pairwise (· ≤ ·) → l.Perm m → l = m
  | [], m, _, _, h => by rw [List.nil_perm] at h; exact h.symm
  | a :: l, [], _, _, h => by have := h.length_eq; simp at this
  | a :: l, b :: m, h1, h2, h => by
    obtain ⟨p1, q1⟩ := List.pairwise_cons.mp h1
    obtain ⟨p2, q2⟩ := List.pairwise_cons.mp h2
    have e : a = b := by
      rcases List.mem_cons.mp (h.mem_iff.mp (List.mem_cons_self (a := a) (l := l))) with x | x
      · exact x
      · rcases List.mem_cons.mp (h.mem_iff.mpr (List.mem_cons_self (a := b) (l := m))) with y | y
        · exact y.symm
        · have := p2 a x; have := p1 b y; omega
    subst e
    rw [le_one q1 q2 ((List.perm_cons a).mp h)]
def iota (n : Nat) : List Int := (List.range n).map Int.ofNat
theorem iota_len (n : Nat) : (iota n).length = n := by simp [iota]
theorem iota_succ (n : Nat) : iota (n + 1) = iota n ++ [(n : Int)] := by simp [iota, List.range_succ]
theorem iota_mem {n : Nat} {k : Int} : k ∈ iota n ↔ 0 ≤ k ∧ k < n := by
  unfold iota
  rw [List.mem_map]
  constructor
  · rintro ⟨m, hm, rfl⟩
    have := List.mem_range.mp hm
    exact ⟨Int.natCast_nonneg _, by show (m : Int) < n; omega⟩
  · rintro ⟨h1, h2⟩
    exact ⟨k.toNat, List.mem_range.mpr (by omega), by show ((k.toNat : Nat) : Int) = k; omega⟩
theorem iota_pw (n : Nat) : (iota n).Pairwise (· < ·) := by
  unfold iota
  rw [List.pairwise_map]
  exact List.pairwise_lt_range.imp fun h => by show ((_ : Nat) : Int) < ((_ : Nat) : Int); omega
/-- the marks at the place v -/
def grp (f : Int → Int) (ms : List Int) (v : Int) : List Int := ms.filter fun k => f k == v
/-- the order: places rising, the marks at each -/
def ord (f : Int → Int) (ms : List Int) : List (List Int) := (sortU (ms.map f)).map (grp f ms)
theorem grp_snoc {f : Int → Int} {ms : List Int} {k v : Int} : grp f (ms ++ [k]) v = if f k = v then grp f ms v ++ [k] else grp f ms v := by
  unfold grp
  rw [List.filter_append]
  by_cases h : f k = v
  · rw [if_pos h]; simp [h]
  · rw [if_neg h]; simp [h]
theorem grp_none {f : Int → Int} {ms : List Int} {v : Int} (h : v ∉ ms.map f) : grp f ms v = [] := by
  unfold grp
  rw [List.filter_eq_nil_iff]
  intro k hk e
  exact h (List.mem_map.mpr ⟨k, hk, by simpa using e⟩)
theorem ord_congr {f g : Int → Int} {ms : List Int} (h : ∀ k ∈ ms, f k = g k) : ord f ms = ord g ms := by
  unfold ord
  have e : ms.map f = ms.map g := List.map_congr_left h
  rw [e]
  refine List.map_congr_left fun v _ => ?_
  unfold grp
  exact List.filter_congr fun k hk => by rw [h k hk]
theorem pw_rev_map {y : Int} {W : List Int} (h : W.Pairwise (· < ·)) : ((W.map (y - ·)).reverse).Pairwise (· < ·) := by
  rw [List.pairwise_reverse, List.pairwise_map]
  exact h.imp fun h => by omega
/-- the other way round -/
theorem ord_mirror {f g : Int → Int} {ms : List Int} {y : Int} (hf : ∀ k ∈ ms, 0 ≤ f k ∧ f k < y) (hg : ∀ k ∈ ms, g k = if f k = 0 then 0 else y - f k) {k0 : Int} (h0 : k0 ∈ ms) (z0 : f k0 = 0) :
    ord g ms = (ord f ms).take 1 ++ ((ord f ms).drop 1).reverse := by
  have hm : ∀ v, v ∈ sortU (ms.map f) → 0 ≤ v ∧ v < y := fun v hv => by
    obtain ⟨k, hk, rfl⟩ := List.mem_map.mp (sortU_mem.mp hv)
    exact hf k hk
  have m0 : (0 : Int) ∈ sortU (ms.map f) := sortU_mem.mpr (List.mem_map.mpr ⟨k0, h0, z0⟩)
  obtain ⟨W, hW⟩ : ∃ W, sortU (ms.map f) = 0 :: W := by
    cases e : sortU (ms.map f) with
    | nil => rw [e] at m0; simp at m0
    | cons a W =>
      have p := sortU_pw (ms.map f)
      rw [e] at p m0 hm
      obtain ⟨p1, _⟩ := List.pairwise_cons.mp p
      rcases List.mem_cons.mp m0 with q | q
      · exact ⟨W, by rw [← q]⟩
      · have := p1 0 q
        have := (hm a List.mem_cons_self).1
        omega
  have pw : (0 :: W).Pairwise (· < ·) := by rw [← hW]; exact sortU_pw _
  obtain ⟨pW, qW⟩ := List.pairwise_cons.mp pw
  have mW : ∀ v ∈ W, 0 < v ∧ v < y := fun v hv => ⟨pW v hv, (hm v (by rw [hW]; exact List.mem_cons_of_mem _ hv)).2⟩
  have eV : sortU (ms.map g) = 0 :: (W.map (y - ·)).reverse := by
    refine strict_one (sortU_pw _) (List.pairwise_cons.mpr ⟨fun b hb => ?_, pw_rev_map qW⟩) fun v => ?_
    · obtain ⟨u, hu, rfl⟩ := List.mem_map.mp (List.mem_reverse.mp hb)
      have := (mW u hu).2
      show 0 < y - u
      omega
    · rw [sortU_mem, List.mem_map, List.mem_cons, List.mem_reverse, List.mem_map]
      constructor
      · rintro ⟨k, hk, rfl⟩
        rw [hg k hk]
        by_cases e : f k = 0
        · rw [if_pos e]; exact .inl rfl
        · rw [if_neg e]
          refine .inr ⟨f k, ?_, rfl⟩
          have : f k ∈ sortU (ms.map f) := sortU_mem.mpr (List.mem_map.mpr ⟨k, hk, rfl⟩)
          rw [hW] at this
          exact (List.mem_cons.mp this).resolve_left e
      · rintro (rfl | ⟨u, hu, rfl⟩)
        · exact ⟨k0, h0, by rw [hg k0 h0, if_pos z0]⟩
        · have : u ∈ sortU (ms.map f) := by rw [hW]; exact List.mem_cons_of_mem _ hu
          obtain ⟨k, hk, e⟩ := List.mem_map.mp (sortU_mem.mp this)
          refine ⟨k, hk, ?_⟩
          have := (mW u hu).1
          rw [hg k hk, e, if_neg (by omega)]
  have g0 : grp g ms 0 = grp f ms 0 := List.filter_congr fun k hk => by
    rw [hg k hk]
    have := hf k hk
    by_cases e : f k = 0
    · rw [if_pos e, e]
    · rw [if_neg e]
      rw [beq_eq_false_iff_ne.mpr e, beq_eq_false_iff_ne.mpr (by omega)]
  have gW : ∀ u ∈ W, grp g ms (y - u) = grp f ms u := fun u hu => List.filter_congr fun k hk => by
    rw [hg k hk]
    have h1 := hf k hk
    have h2 := mW u hu
    by_cases e : f k = 0
    · rw [if_pos e, beq_eq_false_iff_ne.mpr (by omega), beq_eq_false_iff_ne.mpr (by omega)]
    · rw [if_neg e]
      by_cases e2 : f k = u
      · rw [e2]; simp
      · rw [beq_eq_false_iff_ne.mpr e2, beq_eq_false_iff_ne.mpr (by omega)]
  unfold ord
  rw [eV, hW, List.map_cons, List.map_cons, g0, List.map_reverse, List.map_map]
  show _ = [grp f ms 0] ++ (List.map (grp f ms) W).reverse
  rw [List.singleton_append]
  congr 2
  exact List.map_congr_left fun u hu => gW u hu
end Mt
namespace Mt
theorem map_inj {α β : Type} {g : α → β} : ∀ {l : List α}, (l.map g).Nodup → ∀ {a b : α}, a ∈ l → b ∈ l → g a = g b → a = b
  | [], _, _, _, h, _, _ => by simp at h
  | c :: l, n, a, b, ha, hb, e => by
    obtain ⟨n1, n2⟩ := List.nodup_cons.mp (show (g c :: l.map g).Nodup from n)
    rcases List.mem_cons.mp ha with x | x
    · rcases List.mem_cons.mp hb with y | y
      · rw [x, y]
      · subst x
        exact absurd (List.mem_map.mpr ⟨b, y, e.symm⟩) n1
    · rcases List.mem_cons.mp hb with y | y
      · subst y
        exact absurd (List.mem_map.mpr ⟨a, x, e⟩) n1
      · exact map_inj n2 x y e
end Mt
namespace Mt
theorem insU_len (v : Int) : ∀ m : List Int, (insU v m).length ≤ m.length + 1
  | [] => Nat.le_refl 1
  | b :: m => by
    unfold insU
    split
    · exact Nat.le_refl _
    · split
      · exact Nat.le_succ _
      · exact Nat.succ_le_succ (insU_len v m)
theorem sortU_len : ∀ l : List Int, (sortU l).length ≤ l.length
  | [] => Nat.le_refl 0
  | a :: l => Nat.le_trans (insU_len a (sortU l)) (Nat.succ_le_succ (sortU_len l))
end Mt
set_option Elab.async false
set_option linter.all false
set_option maxRecDepth 100000
set_option maxHeartbeats 4000000
namespace My
open PySem PySem.Spec PyProof.Rows L2 Gn Mt
/-- data lasts while nothing tracked changes -/
theorem sqT_same {H H' : Hp} {a : Addr} {xs : List V} {K : PySem.W.Frag} (e : Same H H') (h : SqT K H a xs) : SqT K H' a xs := by
  rcases h with (h | ⟨o, h⟩) | h
  · exact .inl (.inl (e _ _ h))
  · exact .inl (.inr ⟨o, e _ _ h⟩)
  · exact .inr h
mutual
theorem dp_same {K : PySem.W.Frag} {H H' : Hp} (e : Same H H') : ∀ (d : PyData) (v : V), Dp K H v d → Dp K H' v d
  | .none, _, h => by cases h; exact .non
  | .bool b, _, h => by cases h; exact .bl b
  | .int i, _, h => by cases h; exact .int i
  | .str x, _, h => by cases h; exact .str x
  | .list ds, _, h => by cases h with | lst a b => exact .lst (e.seq a) (dps_same e ds _ b)
  | .tuple ds, _, h => by cases h with | tup a b => exact .tup (sqT_same e a) (dps_same e ds _ b)
  | .dict _, _, h => by cases h
theorem dps_same {K : PySem.W.Frag} {H H' : Hp} (e : Same H H') : ∀ (ds : List PyData) (vs : List V), DpAll K H vs ds → DpAll K H' vs ds
  | [], _, h => by cases h; exact .nil
  | d :: ds, _, h => by cases h with | cons a b => exact .cons (dp_same e d _ a) (dps_same e ds _ b)
end
theorem dp_ints {K : PySem.W.Frag} {H : Hp} : ∀ ns : List Int, DpAll K H (ns.map V.int) (ns.map PyData.int)
  | [] => .nil
  | n :: ns => .cons (.int n) (dp_ints ns)
/-- tuples of ints stand at these addresses, as these lists tell -/
def Tups (H : Hp) : List Addr → List (List Int) → Prop
  | [], [] => True
  | r :: rs, g :: gs => H r = some (.tup (g.map V.int)) ∧ Tups H rs gs
  | _, _ => False
theorem Tups.mono {H H' : Hp} : ∀ {rs : List Addr} {gs : List (List Int)}, Tups H rs gs → (∀ r g, H r = some (.tup g) → H' r = some (.tup g)) → Tups H' rs gs
  | [], [], _, _ => trivial
  | _ :: _, _ :: _, h, k => ⟨k _ _ h.1, h.2.mono k⟩
  | [], _ :: _, h, _ => h.elim
  | _ :: _, [], h, _ => h.elim
theorem Tups.snoc {H : Hp} {r : Addr} {g : List Int} (hr : H r = some (.tup (g.map V.int))) : ∀ {rs : List Addr} {gs : List (List Int)}, Tups H rs gs → Tups H (rs ++ [r]) (gs ++ [g])
  | [], [], _ => ⟨hr, trivial⟩
  | _ :: _, _ :: _, h => ⟨h.1, Tups.snoc hr h.2⟩
  | [], _ :: _, h => h.elim
  | _ :: _, [], h => h.elim
theorem Tups.len {H : Hp} : ∀ {rs : List Addr} {gs : List (List Int)}, Tups H rs gs → rs.length = gs.length
  | [], [], _ => rfl
  | _ :: _, _ :: _, h => congrArg Nat.succ h.2.len
  | [], _ :: _, h => h.elim
  | _ :: _, [], h => h.elim
theorem Tups.dps {K : PySem.W.Frag} {H : Hp} : ∀ {rs : List Addr} {gs : List (List Int)}, Tups H rs gs → DpAll K H (rs.map V.ref) (gs.map fun g => PyData.tuple (g.map PyData.int))
  | [], [], _ => .nil
  | _ :: _, _ :: _, h => .cons (.tup (SqT.of h.1) (dp_ints _)) h.2.dps
  | [], _ :: _, h => h.elim
  | _ :: _, [], h => h.elim
/-- an order as data -/
def ordD (gs : List (List Int)) : PyData := .tuple (gs.map fun g => PyData.tuple (g.map PyData.int))
/-- an order stands at r: a tuple of tuples of ints -/
def OrdAt (H : Hp) (r : Addr) (gs : List (List Int)) : Prop := ∃ rs : List Addr, H r = some (.tup (rs.map V.ref)) ∧ Tups H rs gs
theorem OrdAt.dp {K : PySem.W.Frag} {H : Hp} {r : Addr} {gs : List (List Int)} (h : OrdAt H r gs) : Dp K H (.ref r) (ordD gs) := by
  obtain ⟨rs, h1, h2⟩ := h
  exact .tup (SqT.of h1) h2.dps
theorem OrdAt.same {H H' : Hp} {r : Addr} {gs : List (List Int)} (h : OrdAt H r gs) (e : Same H H') : OrdAt H' r gs := by
  obtain ⟨rs, h1, h2⟩ := h
  exact ⟨rs, e _ _ h1, h2.mono fun r g z => e _ _ z⟩
end My
set_option Elab.async false
set_option linter.all false
set_option maxRecDepth 100000
set_option maxHeartbeats 4000000
/-! what a term makes, told by what holds of its value whatever is made behind it -/
namespace Gn
open PySem PySem.Spec PyProof.Rows L2
abbrev Fact := Hp → V → Prop
def Lasts (R : Fact) : Prop := ∀ H H' v, Same H H' → R H v → R H' v
def Fm (te : TE) (σ : L2.St) (H : Hp) (R : Fact) : Prop := ∀ H1, Same H H1 → ∀ Q : VK, (∀ v H2, Same H1 H2 → R H2 v → Q v H2) → te σ H1 Q
/-- facts of a row of values -/
def AllF : List Fact → Hp → List V → Prop
  | [], _, vs => vs = []
  | R :: Rs, H, v :: vs => R H v ∧ AllF Rs H vs
  | _ :: _, _, [] => False
def LastsAll (Rs : List Fact) : Prop := ∀ R ∈ Rs, Lasts R
def FmA (ta : TA) (σ : L2.St) (H : Hp) (Rs : List Fact) : Prop := ∀ H1, Same H H1 → ∀ Q : List V → Hp → Prop, (∀ vs H2, Same H1 H2 → AllF Rs H2 vs → Q vs H2) → ta σ H1 Q
theorem AllF.lasts : ∀ {Rs : List Fact} {H H' : Hp} {vs : List V}, LastsAll Rs → Same H H' → AllF Rs H vs → AllF Rs H' vs
  | [], _, _, _, _, _, h => h
  | R :: Rs, H, H', v :: vs, m, e, ⟨h, hs⟩ => ⟨m R (List.mem_cons_self ..) H H' v e h, AllF.lasts (fun q z => m q (List.mem_cons_of_mem _ z)) e hs⟩
  | _ :: _, _, _, [], _, _, h => h
theorem AllF.len : ∀ {Rs : List Fact} {H : Hp} {vs : List V}, AllF Rs H vs → vs.length = Rs.length
  | [], _, vs, h => by
    rw [show vs = [] from h]
    rfl
  | R :: Rs, H, v :: vs, ⟨_, hs⟩ => by rw [List.length_cons, hs.len, List.length_cons]
  | _ :: _, _, [], h => h.elim
theorem AllF.app : ∀ {Rs Ss : List Fact} {H : Hp} {vs us : List V}, AllF Rs H vs → AllF Ss H us → AllF (Rs ++ Ss) H (vs ++ us)
  | [], _, _, vs, us, h, g => by
    rw [show vs = [] from h]
    exact g
  | R :: Rs, _, _, v :: vs, us, ⟨h, hs⟩, g => ⟨h, hs.app g⟩
  | _ :: _, _, _, [], _, h, _ => h.elim
theorem AllF.at : ∀ {Rs : List Fact} {H : Hp} {vs : List V} {i : Nat}, AllF Rs H vs → ∀ R, Rs[i]? = some R → ∃ v, vs[i]? = some v ∧ R H v
  | [], _, _, i, _, R, e => by cases e
  | R :: Rs, _, v :: vs, 0, ⟨h, _⟩, R', e => by
    cases e
    exact ⟨v, rfl, h⟩
  | R :: Rs, _, v :: vs, i + 1, ⟨_, hs⟩, R', e => hs.at (i := i) R' e
  | _ :: _, _, [], _, h, _, _ => h.elim
theorem lastsAll_nil : LastsAll [] := fun _ z => nomatch z
theorem lastsAll_cons {R : Fact} {Rs : List Fact} (h : Lasts R) (hs : LastsAll Rs) : LastsAll (R :: Rs) := fun q z => by
  rcases List.mem_cons.mp z with z | z
  · rw [z]
    exact h
  · exact hs q z
theorem lastsAll_app {Rs Ss : List Fact} (h : LastsAll Rs) (g : LastsAll Ss) : LastsAll (Rs ++ Ss) := fun q z => (List.mem_append.mp z).elim (h q) (g q)
section
variable {K : PySem.W.Frag} {σ : L2.St} {H : Hp} {te tb : TE} {ta : TA} {R S : Fact} {Rs Ss : List Fact}
/-- it is this value -/
def isV (v : V) : Fact := fun _ u => u = v
theorem lasts_is {v : V} : Lasts (isV v) := fun _ _ _ _ h => h
theorem fm_c {v : V} : Fm (tC v) σ H (isV v) := fun H1 _ Q q => q v H1 (Same.refl _) rfl
theorem fm_var {i : Nat} {v : V} (h : σ[i]? = some (some v)) : Fm (tVar i) σ H (isV v) := fun H1 _ Q q => ⟨v, h, q v H1 (Same.refl _) rfl⟩
theorem fmA_nil : FmA tNil σ H [] := fun H1 _ Q q => q [] H1 (Same.refl _) rfl
theorem fmA_cons (m : Lasts R) (h : Fm te σ H R) (hs : FmA ta σ H Rs) : FmA (tCons te ta) σ H (R :: Rs) := fun H1 e Q q =>
  h H1 e _ fun v H2 e2 r => hs H2 (e.trans e2) _ fun vs H3 e3 rs => q (v :: vs) H3 (e2.trans e3) ⟨m _ _ _ e3 r, rs⟩
/-- a list of these -/
def isL (Rs : List Fact) : Fact := fun H u => ∃ p vs, u = .ref p ∧ H p = some (.lst vs) ∧ AllF Rs H vs
theorem lasts_L (m : LastsAll Rs) : Lasts (isL Rs) := fun H H' v e ⟨p, vs, q, h, hs⟩ => ⟨p, vs, q, e _ _ h, hs.lasts m e⟩
theorem fm_lst (m : LastsAll Rs) (hl : Rs.length ≤ 1000) (hs : FmA ta σ H Rs) : Fm (tLst ta) σ H (isL Rs) := fun H1 e Q q => hs H1 e _ fun vs H2 e2 rs =>
  ⟨by rw [rs.len, sizeLine_eq]; omega, fun p hp => q _ _ (e2.trans (same_put hp)) ⟨p, vs, rfl, upd_same, rs.lasts m (same_put hp)⟩⟩
theorem fm_cat (m : LastsAll Rs) (n : LastsAll Ss) (hl : Rs.length + Ss.length ≤ 1000) (h : Fm te σ H (isL Rs)) (g : Fm tb σ H (isL Ss)) : Fm (tOp rCat te tb) σ H (isL (Rs ++ Ss)) := fun H1 e Q q =>
  h H1 e _ fun u H2 e2 ⟨p, vs, eu, hp, rs⟩ => g H2 (e.trans e2) _ fun y H3 e3 ⟨p', us, ey, hp', ss⟩ => by
    subst eu ey
    have l1 := rs.len
    have l2 := ss.len
    refine ⟨p, p', vs, us, rfl, rfl, e3 _ _ hp, hp', by rw [l1, l2, sizeLine_eq]; omega, fun r hr => ?_⟩
    exact q _ _ ((e2.trans e3).trans (same_put hr)) ⟨r, vs ++ us, rfl, upd_same, ((rs.lasts m e3).app ss).lasts (lastsAll_app m n) (same_put hr)⟩
/-- an exception of the class at C -/
def isE (C : Addr) (fs : List (Str × V)) : Fact := fun H u => ∃ a, u = .ref a ∧ Kept H a C fs
theorem lasts_E {C : Addr} {fs : List (Str × V)} : Lasts (isE C fs) := fun H H' v e ⟨a, q, h⟩ => ⟨a, q, h.same e⟩
theorem same_all {v : List V} {H : Hp} : AllF (v.map isV) H v := by
  induction v with
  | nil => rfl
  | cons x r ih => exact ⟨rfl, ih⟩
theorem allF_is : ∀ {xs vs : List V} {H : Hp}, AllF (xs.map isV) H vs → vs = xs
  | [], _, _, h => h
  | x :: xs, v :: vs, H, ⟨h, hs⟩ => by rw [show v = x from h, allF_is hs]
  | _ :: _, [], _, h => h.elim
theorem fm_mk {C : Addr} {fl : List Str} {xs : List V} (h : FmA ta σ H (xs.map isV)) (hl : xs.length = fl.length) : Fm (tMk C fl ta) σ H (isE C (fl.zip xs).reverse) := fun H1 e Q q =>
  h H1 e _ fun vs H2 e2 rs => by
    have z := allF_is rs
    subst z
    exact ⟨hl, fun a H3 e3 k => q _ _ (e2.trans e3) ⟨a, rfl, k⟩⟩
theorem fm_mkK {C : Addr} {fl : List Str} {xs : List V} {gV : List V → List V} {n : Nat} (h : FmA ta σ H (xs.map isV)) (hl : xs.length = n) : Fm (tMkK C fl gV n ta) σ H (isE C (fl.zip (gV xs)).reverse) := fun H1 e Q q =>
  h H1 e _ fun vs H2 e2 rs => by
    have z := allF_is rs
    subst z
    exact ⟨hl, fun a H3 e3 k => q _ _ (e2.trans e3) ⟨a, rfl, k⟩⟩
end
end Gn
set_option Elab.async false
set_option linter.all false
set_option maxRecDepth 100000
set_option maxHeartbeats 4000000
/-! arguments of any kind: what isinstance, the checks' questions, tell of them -/
namespace Gn
open PySem PySem.Spec PyProof.Rows L2
mutual
/-- a value that holds d, its lists, tuples and empty dicts being made by the law itself -/
inductive An (K : PySem.W.Frag) (H : Hp) : V → PyData → Prop
  | non : An K H .non .none
  | bl (b : Bool) : An K H (.bl b) (.bool b)
  | int (i : Int) : An K H (.int i) (.int i)
  | str (x : Str) : An K H (.str x) (.str x)
  | lst {a : Addr} {xs : List V} {ds : List PyData} (h : H a = some (.lst xs)) (ne : a ≠ sysModules) (t : AnAll K H xs ds) : An K H (.ref a) (.list ds)
  | tup {a : Addr} {xs : List V} {ds : List PyData} (h : H a = some (.tup xs)) (t : AnAll K H xs ds) : An K H (.ref a) (.tuple ds)
  | dct {a : Addr} (h : H a = some (.dK [])) : An K H (.ref a) (.dict [])
inductive AnAll (K : PySem.W.Frag) (H : Hp) : List V → List PyData → Prop
  | nil : AnAll K H [] []
  | cons {v : V} {vs : List V} {d : PyData} {ds : List PyData} (h : An K H v d) (t : AnAll K H vs ds) : AnAll K H (v :: vs) (d :: ds)
end
theorem tyx_sqt {K : PySem.W.Frag} {H : Hp} {a : Addr} {xs : List V} (h : SqT K H a xs) : TyX K H (.ref a) (.type "tuple") := by
  rcases h with (h | ⟨o, h⟩) | ⟨o, its, n, h, hc, _⟩
  · exact .base (.tup h)
  · exact .fTuple h
  · exact .kTuple h hc
theorem tyx_sql {K : PySem.W.Frag} {H : Hp} {a : Addr} {xs : List V} (h : SqL K H a xs) : TyX K H (.ref a) (.type "list") := by
  rcases h with (h | ⟨o, h⟩) | ⟨o, its, n, h, hc, _⟩
  · exact .base (.lst h)
  · exact .base (.frz h)
  · exact .kList h hc
/-- the name of its type -/
def tyn : PyData → String
  | .none => "NoneType"
  | .bool _ => "bool"
  | .int _ => "int"
  | .str _ => "str"
  | .list _ => "list"
  | .tuple _ => "tuple"
  | .dict _ => "dict"
theorem An.ty {K : PySem.W.Frag} {H : Hp} {v : V} {d : PyData} (h : An K H v d) : TyX K H v (.type (tyn d)) := by
  cases h with
  | dct h => exact .base (.dK h)
  | non => exact .base .non
  | bl b => exact .base (.bl b)
  | int i => exact .base (.int i)
  | str x => exact .base (.str x)
  | lst a _ _ => exact .base (.lst a)
  | tup a _ => exact .base (.tup a)
def isIntB (d : PyData) : Bool := match d with | .int _ => true | .bool _ => true | _ => false
def isBoolB (d : PyData) : Bool := match d with | .bool _ => true | _ => false
def isTupB (d : PyData) : Bool := match d with | .tuple _ => true | _ => false
theorem kit_int {d : PyData} : kitB (tyn d) "int" = some (isIntB d) := by cases d <;> (simp only [tyn, isIntB]; decide +kernel)
theorem kit_bool {d : PyData} : kitB (tyn d) "bool" = some (isBoolB d) := by cases d <;> (simp only [tyn, isBoolB]; decide +kernel)
theorem kit_tup {d : PyData} : kitB (tyn d) "tuple" = some (isTupB d) := by cases d <;> (simp only [tyn, isTupB]; decide +kernel)
/-- an integer, as the program asks it -/
def isInt (d : PyData) : Bool := match d with | .int _ => true | _ => false
def isFr (d : PyData) : Bool := match d with | .tuple [.int t, .int b] => decide (1 ≤ b) && decide (Int.gcd t b = 1) | _ => false
def isSt (d : PyData) : Bool := match d with | .tuple [.int t, .int b] => isFr d && (decide (0 ≤ t) && decide (t < b)) | _ => false
def isPt (d : PyData) : Bool := match d with | .tuple [.int t, .int b] => isFr d && (decide (0 ≤ t) && decide (t ≤ b)) | _ => false
def isNum (d : PyData) (a b : Int) : Bool := match d with | .int i => decide (a ≤ i ∧ i ≤ b) | _ => false
theorem An.isI {K : PySem.W.Frag} {H : Hp} {v : V} {d : PyData} (h : An K H v d) (e : isInt d = true) : ∃ i, v = .int i ∧ d = .int i := by
  cases h with
  | int i => exact ⟨i, rfl, rfl⟩
  | _ => cases e
theorem An.isT {K : PySem.W.Frag} {H : Hp} {v : V} {d : PyData} (h : An K H v d) (e : isTupB d = true) : ∃ a xs ds, v = .ref a ∧ d = .tuple ds ∧ H a = some (.tup xs) ∧ AnAll K H xs ds := by
  cases h with
  | tup a b => exact ⟨_, _, _, rfl, rfl, a, b⟩
  | _ => cases e
theorem dpAll_len {K : PySem.W.Frag} {H : Hp} : ∀ {xs : List V} {ds : List PyData}, AnAll K H xs ds → xs.length = ds.length
  | _, _, .nil => rfl
  | _, _, .cons _ t => congrArg (· + 1) (dpAll_len t)
theorem dpAll_two {K : PySem.W.Frag} {H : Hp} {xs : List V} {ds : List PyData} (h : AnAll K H xs ds) (e : xs.length = 2) : ∃ x y p q, xs = [x, y] ∧ ds = [p, q] ∧ An K H x p ∧ An K H y q := by
  match xs, ds, h, e with
  | [x, y], [p, q], .cons a (.cons b .nil), _ => exact ⟨x, y, p, q, rfl, rfl, a, b⟩
theorem isFr_no {p q : PyData} (h : isInt p = false ∨ isInt q = false) : isFr (.tuple [p, q]) = false := by
  rcases h with h | h
  · cases p with
    | int i => cases h
    | _ => rfl
  · cases q with
    | int i => cases h
    | _ => cases p <;> rfl
theorem isFr_len {ds : List PyData} (h : ds.length ≠ 2) : isFr (.tuple ds) = false := by
  unfold isFr
  split
  · rename_i e
    cases e
    exact absurd rfl h
  · rfl
theorem isFr_ty {d : PyData} (h : isTupB d = false) : isFr d = false := by cases d <;> first | rfl | cases h
theorem isSt_fr {d : PyData} (h : isFr d = false) : isSt d = false := by
  unfold isSt
  split
  · rw [h]; rfl
  · rfl
theorem isPt_fr {d : PyData} (h : isFr d = false) : isPt d = false := by
  unfold isPt
  split
  · rw [h]; rfl
  · rfl
theorem isFr_of {d : PyData} (h : isFr d = true) : ∃ t b, d = .tuple [.int t, .int b] ∧ 1 ≤ b ∧ Int.gcd t b = 1 := by
  unfold isFr at h
  split at h
  · rename_i t b
    simp only [Bool.and_eq_true, decide_eq_true_eq] at h
    exact ⟨t, b, rfl, h.1, h.2⟩
  · cases h
mutual
theorem An.same {K : PySem.W.Frag} {H H' : Hp} (e : Same H H') : ∀ {v : V} {d : PyData}, An K H v d → An K H' v d
  | _, _, .non => .non
  | _, _, .bl b => .bl b
  | _, _, .int i => .int i
  | _, _, .str x => .str x
  | _, _, .lst h n t => .lst (e _ _ h) n (AnAll.same e t)
  | _, _, .tup h t => .tup (e _ _ h) (AnAll.same e t)
  | _, _, .dct h => .dct (e _ _ h)
theorem AnAll.same {K : PySem.W.Frag} {H H' : Hp} (e : Same H H') : ∀ {vs : List V} {ds : List PyData}, AnAll K H vs ds → AnAll K H' vs ds
  | _, _, .nil => .nil
  | _, _, .cons h t => .cons (An.same e h) (AnAll.same e t)
end
/-- no dict in it -/
def flat : PyData → Bool
  | .dict _ => false
  | .list ds => flats ds
  | .tuple ds => flats ds
  | _ => true
where flats : List PyData → Bool
  | [] => true
  | d :: ds => flat d && flats ds
mutual
theorem An.dp {K : PySem.W.Frag} {H : Hp} : ∀ {v : V} {d : PyData}, An K H v d → flat d = true → Dp K H v d
  | _, _, .non, _ => .non
  | _, _, .bl b, _ => .bl b
  | _, _, .int i, _ => .int i
  | _, _, .str x, _ => .str x
  | _, _, .lst h _ t, f => .lst (.inl (.inl h)) (AnAll.dp t (by simpa only [flat] using f))
  | _, _, .tup h t, f => .tup (.inl (.inl h)) (AnAll.dp t (by simpa only [flat] using f))
  | _, _, .dct h, f => by simp only [flat] at f; cases f
theorem AnAll.dp {K : PySem.W.Frag} {H : Hp} : ∀ {vs : List V} {ds : List PyData}, AnAll K H vs ds → flat.flats ds = true → DpAll K H vs ds
  | _, _, .nil, _ => .nil
  | _, _, .cons h t, f => by
    simp only [flat.flats, Bool.and_eq_true] at f
    exact .cons (An.dp h f.1) (AnAll.dp t f.2)
end
end Gn
set_option Elab.async false
set_option linter.all false
set_option maxRecDepth 100000
set_option maxHeartbeats 8000000
namespace My
open PySem PySem.Spec PyProof.Rows L2 Gn
/-! the program's questions, of arguments of any kind -/
abbrev sIsPart : Stmt := top 23
theorem scIsPart : FnScope ["given"] ["given"] (defScope sIsPart) := ⟨rfl, rfl, rfl, by decide +kernel, rfl, by decide +kernel, by decide +kernel⟩
def spAsk (K : PySem.W.Frag) (r : PyData → Bool) : Sp := fun vs H Q _ => ∃ v d, vs = [v] ∧ An K H v d ∧ Q (.bl (r d)) H
def spNumA (K : PySem.W.Frag) : Sp := fun vs H Q _ => ∃ (v : V) (d : PyData) (a b : Int), vs = [v, .int a, .int b] ∧ An K H v d ∧ Q (.bl (isNum d a b)) H
section
variable {P : Program} {w : World} {K : PySem.W.Frag} {mg : Str → Option Value} {base : Heap}
theorem ok_isIntA {f : Addr} {fd : FuncData} (F : Fun K "is_integer" "is_integer" sIsInt f fd) (B : Bc mg) : FnOk P w K mg base CX0 1 f fd ["given"] (spAsk K isInt) := by
  refine F.ok scIsInt (fun vs H Q E h => ?_) (fun cdv A outer s H vs Q E hr h => ?_)
  · obtain ⟨v, d, rfl, _⟩ := h
    rfl
  · obtain ⟨v, d, rfl, an, q⟩ := h
    refine ⟨_, pss_one (ps_ret (pe_and (pe_callB call_isi (by rfl) B.isi (by decide +kernel) (pa_cons (pv 0) (pa_cons (pe_bltn (v := .ty "int") (by rfl) B.int (by decide +kernel) rfl) pa_nil)))
      (pe_one (pe_not (pe_callB call_isi (by rfl) B.isi (by decide +kernel) (pa_cons (pv 0) (pa_cons (pe_bltn (v := .ty "bool") (by rfl) B.bool (by decide +kernel) rfl) pa_nil))))))), ?_⟩
    refine ⟨_, rfl, v, .ty "int", _, _, _, rfl, .ty "int", an.ty, kit_ty kit_int, _, rfl, ?_⟩
    cases ei : isIntB d with
    | false =>
      refine iteF ?_
      have e : isInt d = false := by cases d <;> first | rfl | cases ei
      rw [e] at q
      exact q
    | true =>
      refine iteT ⟨_, rfl, v, .ty "bool", _, _, _, rfl, .ty "bool", an.ty, kit_ty kit_bool, _, rfl, ?_⟩
      have e : isInt d = !(isBoolB d) := by cases d <;> first | rfl | cases ei
      rw [e] at q
      exact q
theorem ok_isFrA {f fI : Addr} {fd fdI : FuncData} (F : Fun K "is_fraction" "is_fraction" sIsFr f fd) (B : Bc mg) (D : Df K mg "is_integer" sIsInt ["given"] fI fdI) : FnOk P w K mg base CX0 2 f fd ["given"] (spAsk K isFr) := by
  have GI : FnOk P w K mg base CX0 1 fI fdI ["given"] (spAsk K isInt) := ok_isIntA D.F B
  refine F.ok scIsFr (fun vs H Q E h => ?_) (fun cdv A outer s H vs Q E hr h => ?_)
  · obtain ⟨v, d, rfl, _⟩ := h
    rfl
  · obtain ⟨v, d, rfl, an, q⟩ := h
    refine ⟨_, pss_cons (ps_if (PW.pt (pw_or (pt_not (pt_val (pe_callB call_isi (by rfl) B.isi (by decide +kernel) (pa_cons (pv 0) (pa_cons (pe_bltn (v := .ty "tuple") (by rfl) B.tuple (by decide +kernel) rfl) pa_nil)))))
        (pw_or1 (pt_cmpR op_ne (pe_callB call_len_seq (by rfl) B.len PySem.boot_len (pa_cons (pv 0) pa_nil)) pe_int (nomark _))))) (pss_one (ps_ret pe_bl)) pss_nil)
      (pss_cons (ps_asg (pv 0) (pg_tup (by rfl) (pgs_cons (pg_name (i := 1) scIsFr.nd rfl (.inl rfl)) (pgs_cons (pg_name (i := 2) scIsFr.nd rfl (.inl rfl)) pgs_nil))))
      (pss_cons (ps_if (PW.pt (pw_or (pt_not (pt_val (pe_call GI hr (by rfl) D.g D.F.kp D.b .nil pass0 (pa_cons (pv 1) pa_nil)))) (pw_or1 (pt_not (pt_val (pe_call GI hr (by rfl) D.g D.F.kp D.b .nil pass0 (pa_cons (pv 2) pa_nil))))))) (pss_one (ps_ret pe_bl)) pss_nil)
      (pss_one (ps_ret (pe_and (pe_cmpR op_ge (pv 2) pe_int (nomark _)) (pe_one (pe_cmpR op_eq (pe_callBfun cr_gcd (by rfl) B.gcd (pa_cons (pv 1) (pa_cons (pv 2) pa_nil))) pe_int (nomark _)))))))), ?_⟩
    refine ⟨_, rfl, v, .ty "tuple", _, _, _, rfl, .ty "tuple", an.ty, kit_ty kit_tup, _, rfl, ?_⟩
    cases et : isTupB d with
    | false =>
      rw [isFr_ty et] at q
      exact iteT q
    | true =>
      refine iteF ?_
      obtain ⟨a, xs, ds, rfl, rfl, hT, all⟩ := an.isT et
      have sq : SqT K H a xs := SqT.of hT
      refine ⟨_, rfl, a, xs, rfl, .inr sq, rfl, _, rfl, ?_⟩
      by_cases hl : xs.length = 2
      · obtain ⟨x, y, p, p', rfl, rfl, dx, dy⟩ := dpAll_two all hl
        refine iteF ⟨_, rfl, a, _, rfl, sq, rfl, _, _, rfl, _, _, rfl, rfl, ?_⟩
        refine ⟨_, rfl, x, p, rfl, dx, _, rfl, ?_⟩
        cases e1 : isInt p with
        | false =>
          rw [isFr_no (.inl e1)] at q
          exact iteT q
        | true =>
          refine iteF ⟨_, rfl, y, p', rfl, dy, _, rfl, ?_⟩
          cases e2 : isInt p' with
          | false =>
            rw [isFr_no (.inr e2)] at q
            exact iteT q
          | true =>
            refine iteF ?_
            obtain ⟨i, rfl, rfl⟩ := dx.isI e1
            obtain ⟨j, rfl, rfl⟩ := dy.isI e2
            refine ⟨_, rfl, _, _, rfl, rfl, _, rfl, ?_⟩
            by_cases c : (1 : Int) ≤ j
            · rw [decide_eq_true c]
              refine iteT ⟨_, rfl, _, rfl, i, j, rfl, ?_⟩
              simp only [isFr, decide_eq_true c, Bool.true_and] at q
              have e : decide (V.int ((Nat.gcd i.natAbs j.natAbs : Nat) : Int) = V.int 1) = decide (Int.gcd i j = 1) := by
                rw [decide_eq_decide, V.int.injEq]
                show ((Int.gcd i j : Nat) : Int) = 1 ↔ _
                omega
              rw [← e] at q
              exact ⟨rfl, q⟩
            · rw [decide_eq_false c]
              refine iteF ?_
              simp only [isFr, decide_eq_false c, Bool.false_and] at q
              exact q
      · rw [isFr_len (fun z => hl ((dpAll_len all).trans z))] at q
        have e : (!(decide (V.int (xs.length : Int) = V.int 2))) = true := by
          rw [decide_eq_false, Bool.not_false]
          intro z
          rw [V.int.injEq] at z
          exact hl (by omega)
        show if (!(decide (V.int (xs.length : Int) = V.int 2))) = true then _ else _
        rw [e]
        exact iteT q
theorem ok_isPartA {f fI fR : Addr} {fd fdI fdR : FuncData} (F : Fun K "is_part" "is_part" sIsPart f fd) (B : Bc mg) (D : Df K mg "is_integer" sIsInt ["given"] fI fdI) (R : Df K mg "is_fraction" sIsFr ["given"] fR fdR) : FnOk P w K mg base CX0 3 f fd ["given"] (spAsk K isPt) := by
  have GR : FnOk P w K mg base CX0 2 fR fdR ["given"] (spAsk K isFr) := ok_isFrA R.F B D
  refine F.ok scIsPart (fun vs H Q E h => ?_) (fun cdv A outer s H vs Q E hr h => ?_)
  · obtain ⟨v, d, rfl, _⟩ := h
    rfl
  · obtain ⟨v, d, rfl, an, q⟩ := h
    refine ⟨_, pss_one (ps_ret (pe_and (pe_call GR hr (by rfl) R.g R.F.kp R.b .nil pass0 (pa_cons (pv 0) pa_nil)) (pe_one (pe_chain op_le op_le pe_int (pe_ix ix_tup (pv 0) pe_int (fun _ _ => rfl)) (pe_ix ix_tup (pv 0) pe_int (fun _ _ => rfl)))))), ?_⟩
    refine ⟨_, rfl, v, d, rfl, an, _, rfl, ?_⟩
    cases ef : isFr d with
    | false =>
      rw [isPt_fr ef] at q
      exact iteF q
    | true =>
      obtain ⟨t, b, rfl, b1, co⟩ := isFr_of ef
      obtain ⟨a, xs, ds, rfl, z, hT, all⟩ := an.isT rfl
      cases z
      obtain ⟨x, y, p, p', rfl, z, dx, dy⟩ := dpAll_two all ((dpAll_len all).trans rfl)
      cases z
      cases dx
      cases dy
      have sq : SqT K H a [.int t, .int b] := SqT.of hT
      simp only [isPt, ef, Bool.true_and] at q
      refine iteT ⟨_, rfl, a, _, 0, .int t, rfl, rfl, sq, at_of (j := 0) rfl rfl, _, _, rfl, rfl, _, rfl, ?_⟩
      refine ite2 (fun hc => ?_) (fun hc => ?_)
      · refine ⟨_, rfl, a, _, 1, .int b, rfl, rfl, sq, at_of (j := 1) rfl rfl, _, _, rfl, rfl, ?_⟩
        rw [hc, Bool.true_and] at q
        exact q
      · rw [Bool.eq_false_iff.mpr hc, Bool.false_and] at q
        exact q
end
end My
set_option Elab.async false
set_option maxRecDepth 100000
set_option maxHeartbeats 1000000
set_option linter.all false
/-! lots of steps as ascending cuts: just ahead of a fraction, or just behind it -/
namespace Mt
structure Cut where
  n : Int
  d : Int
  b : Bool
deriving DecidableEq
namespace Cut
def lt (c e : Cut) : Bool := if c.n = e.n ∧ c.d = e.d then !c.b && e.b else decide (c.n * e.d < e.n * c.d)
structure V (c : Cut) : Prop where
  d : 0 < c.d
  co : Int.gcd c.n c.d = 1
theorem dvd_co {a b c : Int} (h : Int.gcd a b = 1) (h2 : a ∣ b * c) : a ∣ c := by
  have d1 : a.natAbs ∣ b.natAbs * c.natAbs := by
    have := Int.natAbs_dvd_natAbs.mpr h2
    rwa [Int.natAbs_mul] at this
  exact Int.natAbs_dvd_natAbs.mp ((show Nat.Coprime a.natAbs b.natAbs from h).dvd_of_dvd_mul_left d1)
theorem cross {a b c d : Int} (b0 : 0 < b) (d0 : 0 < d) (h1 : Int.gcd a b = 1) (h2 : Int.gcd c d = 1) (e : a * d = c * b) : a = c ∧ b = d := by
  have k1 : b ∣ d := dvd_co (by rw [Int.gcd_comm]; exact h1) ⟨c, by rw [e, Int.mul_comm]⟩
  have k2 : d ∣ b := dvd_co (by rw [Int.gcd_comm]; exact h2) ⟨a, by rw [← e, Int.mul_comm]⟩
  have l1 := Int.le_of_dvd d0 k1
  have l2 := Int.le_of_dvd b0 k2
  have bd : b = d := by omega
  subst bd
  exact ⟨Int.eq_of_mul_eq_mul_right (by omega) e, rfl⟩
theorem irr (c : Cut) : c.lt c = false := by unfold lt; rw [if_pos ⟨rfl, rfl⟩]; cases c.b <;> rfl
theorem mul_lt3 {a b c d e f : Int} (b0 : 0 < b) (d0 : 0 < d) (f0 : 0 < f) (h1 : a * d < c * b) (h2 : c * f < e * d) : a * f < e * b := by
  have e1 : a * d * f < c * b * f := Int.mul_lt_mul_of_pos_right h1 f0
  have e2 : c * f * b < e * d * b := Int.mul_lt_mul_of_pos_right h2 b0
  have : a * f * d < e * b * d := by
    have x1 : a * f * d = a * d * f := Int.mul_right_comm ..
    have x2 : e * b * d = e * d * b := Int.mul_right_comm ..
    have x3 : c * b * f = c * f * b := Int.mul_right_comm ..
    omega
  exact Int.lt_of_mul_lt_mul_right this (by omega)
theorem trans {c e f : Cut} (vc : c.V) (ve : e.V) (vf : f.V) (h1 : c.lt e = true) (h2 : e.lt f = true) : c.lt f = true := by
  obtain ⟨cn, cd, cb⟩ := c
  obtain ⟨en, ed, eb⟩ := e
  obtain ⟨fn, fd, fb⟩ := f
  have c0 := vc.d; have e0 := ve.d; have f0 := vf.d
  have cc := vc.co; have fc := vf.co
  simp only [lt] at *
  by_cases a1 : cn = en ∧ cd = ed
  · rw [if_pos a1] at h1
    by_cases a2 : en = fn ∧ ed = fd
    · rw [if_pos a2] at h2
      rw [if_pos ⟨a1.1.trans a2.1, a1.2.trans a2.2⟩]
      cases cb <;> cases eb <;> cases fb <;> simp_all
    · rw [if_neg a2] at h2
      rw [a1.1, a1.2, if_neg a2]
      exact h2
  · rw [if_neg a1] at h1
    by_cases a2 : en = fn ∧ ed = fd
    · rw [← a2.1, ← a2.2, if_neg a1]
      exact h1
    · rw [if_neg a2] at h2
      have z := mul_lt3 c0 e0 f0 (of_decide_eq_true h1) (of_decide_eq_true h2)
      rw [if_neg (fun q => by rw [q.1, q.2] at z; omega)]
      exact decide_eq_true z
theorem tot {c e : Cut} (vc : c.V) (ve : e.V) (h1 : c.lt e = false) (h2 : e.lt c = false) : c = e := by
  obtain ⟨cn, cd, cb⟩ := c
  obtain ⟨en, ed, eb⟩ := e
  have c0 := vc.d; have e0 := ve.d
  have cc := vc.co; have ec := ve.co
  simp only [lt] at *
  by_cases a1 : cn = en ∧ cd = ed
  · rw [if_pos a1] at h1
    rw [if_pos ⟨a1.1.symm, a1.2.symm⟩] at h2
    obtain ⟨rfl, rfl⟩ := a1
    cases cb <;> cases eb <;> simp_all
  · rw [if_neg a1] at h1
    rw [if_neg fun z => a1 ⟨z.1.symm, z.2.symm⟩] at h2
    have l1 := of_decide_eq_false h1
    have l2 := of_decide_eq_false h2
    exact absurd (cross c0 e0 cc ec (by omega)) a1
theorem asym {c e : Cut} (vc : c.V) (ve : e.V) (h : c.lt e = true) : e.lt c = false := by
  cases z : e.lt c with
  | false => rfl
  | true => have := trans vc ve vc h z; rw [irr] at this; cases this
/-- not ahead, ahead -/
theorem le_lt {c e f : Cut} (vc : c.V) (ve : e.V) (vf : f.V) (h1 : e.lt c = false) (h2 : e.lt f = true) : c.lt f = true := by
  cases z : c.lt e with
  | true => exact trans vc ve vf z h2
  | false => rw [tot vc ve z h1]; exact h2
theorem lt_le {c e f : Cut} (vc : c.V) (ve : e.V) (vf : f.V) (h1 : c.lt e = true) (h2 : f.lt e = false) : c.lt f = true := by
  cases z : e.lt f with
  | true => exact trans vc ve vf h1 z
  | false => rw [← tot ve vf z h2]; exact h1
end Cut
/-- ascending -/
def Asc (cs : List Cut) : Prop := cs.Pairwise fun c e => c.lt e = true
def AllV (cs : List Cut) : Prop := ∀ c ∈ cs, c.V
/-- behind an odd number of its cuts one is within -/
def mem : List Cut → Cut → Bool
  | [], _ => false
  | c :: cs, x => xor (!x.lt c) (mem cs x)
theorem mem_out {cs : List Cut} {x : Cut} (h : ∀ c ∈ cs, x.lt c = true) : mem cs x = false := by
  induction cs with
  | nil => rfl
  | cons c cs ih =>
    show xor (!x.lt c) (mem cs x) = false
    rw [h c List.mem_cons_self, ih fun e m => h e (List.mem_cons_of_mem _ m)]
    rfl
/-- the cuts of two lots together, each told which of them it is of -/
structure Ev where
  c : Cut
  i : Bool
  j : Bool
def mg : List Cut → List Cut → List Ev
  | [], bs => bs.map fun b => ⟨b, false, true⟩
  | a :: as, [] => (a :: as).map fun a => ⟨a, true, false⟩
  | a :: as, b :: bs => if b.lt a then ⟨b, false, true⟩ :: mg (a :: as) bs else if a = b then ⟨a, true, true⟩ :: mg as bs else ⟨a, true, false⟩ :: mg as (b :: bs)
termination_by as bs => as.length + bs.length
/-- the cuts where f of being within the ones and within the others changes -/
def run (f : Bool → Bool → Bool) : Bool → Bool → List Ev → List Cut
  | _, _, [] => []
  | p, q, ⟨c, i, j⟩ :: es => if f (xor p i) (xor q j) != f p q then c :: run f (xor p i) (xor q j) es else run f (xor p i) (xor q j) es
def memI : List Ev → Cut → Bool
  | [], _ => false
  | e :: es, x => xor (e.i && !x.lt e.c) (memI es x)
def memJ : List Ev → Cut → Bool
  | [], _ => false
  | e :: es, x => xor (e.j && !x.lt e.c) (memJ es x)
theorem mg_I : ∀ (as bs : List Cut) (x : Cut), memI (mg as bs) x = mem as x := by
  intro as bs x
  fun_induction mg as bs with
  | case1 bs => induction bs with
    | nil => rfl
    | cons b bs ih => show xor (false && _) _ = _; rw [Bool.false_and, Bool.false_xor]; exact ih
  | case2 a as => 
    have : ∀ as : List Cut, memI (as.map fun a => (⟨a, true, false⟩ : Ev)) x = mem as x := by
      intro as
      induction as with
      | nil => rfl
      | cons b bs ih => show xor (true && _) _ = xor _ _; rw [Bool.true_and, ih]
    exact this _
  | case3 a as b bs h ih => show xor (false && _) _ = _; rw [Bool.false_and, Bool.false_xor]; exact ih
  | case4 as b bs h ih => show xor (true && _) _ = xor _ _; rw [Bool.true_and, ih]
  | case5 a as b bs h h2 ih => show xor (true && _) _ = xor _ _; rw [Bool.true_and, ih]
theorem mg_J : ∀ (as bs : List Cut) (x : Cut), memJ (mg as bs) x = mem bs x := by
  intro as bs x
  fun_induction mg as bs with
  | case1 bs => induction bs with
    | nil => rfl
    | cons b bs ih => show xor (true && _) _ = xor _ _; rw [Bool.true_and, ih]
  | case2 a as => 
    have : ∀ as : List Cut, memJ (as.map fun a => (⟨a, true, false⟩ : Ev)) x = false := by
      intro as
      induction as with
      | nil => rfl
      | cons b bs ih => show xor (false && _) _ = _; rw [Bool.false_and, ih]; rfl
    exact this _
  | case3 a as b bs h ih => show xor (true && _) _ = xor _ _; rw [Bool.true_and, ih]
  | case4 as b bs h ih => show xor (true && _) _ = xor _ _; rw [Bool.true_and, ih]
  | case5 a as b bs h h2 ih => show xor (false && _) _ = _; rw [Bool.false_and, ih]; simp
theorem mg_mem : ∀ (as bs : List Cut) {e : Ev}, e ∈ mg as bs → e.c ∈ as ∨ e.c ∈ bs := by
  intro as bs
  fun_induction mg as bs <;> intro e h <;> simp at * <;> grind
def AscE (es : List Ev) : Prop := es.Pairwise fun a b => a.c.lt b.c = true
theorem mg_asc : ∀ (as bs : List Cut), AllV as → AllV bs → Asc as → Asc bs → AscE (mg as bs) := by
  intro as bs
  fun_induction mg as bs with
  | case1 bs => intro _ _ _ hb; exact List.pairwise_map.mpr hb
  | case2 a as => intro _ _ ha _; exact List.pairwise_map.mpr ha
  | case3 a as b bs h ih =>
    intro va vb ha hb
    refine List.pairwise_cons.mpr ⟨fun e he => ?_, ih va (fun c m => vb c (List.mem_cons_of_mem _ m)) ha (List.pairwise_cons.mp hb).2⟩
    rcases mg_mem _ _ he with m | m
    · rcases List.mem_cons.mp m with z | m
      · rw [z]; exact h
      · exact Cut.trans (vb _ List.mem_cons_self) (va _ List.mem_cons_self) (va _ (List.mem_cons_of_mem _ m)) h ((List.pairwise_cons.mp ha).1 _ m)
    · exact (List.pairwise_cons.mp hb).1 _ m
  | case4 as b bs h ih =>
    intro va vb ha hb
    refine List.pairwise_cons.mpr ⟨fun e he => ?_, ih (fun c m => va c (List.mem_cons_of_mem _ m)) (fun c m => vb c (List.mem_cons_of_mem _ m)) (List.pairwise_cons.mp ha).2 (List.pairwise_cons.mp hb).2⟩
    rcases mg_mem _ _ he with m | m
    · exact (List.pairwise_cons.mp ha).1 _ m
    · exact (List.pairwise_cons.mp hb).1 _ m
  | case5 a as b bs h h2 ih =>
    intro va vb ha hb
    have z : a.lt b = true := by
      cases q : a.lt b with
      | true => rfl
      | false => exact absurd (Cut.tot (va _ List.mem_cons_self) (vb _ List.mem_cons_self) q (by simpa using h)) h2
    refine List.pairwise_cons.mpr ⟨fun e he => ?_, ih (fun c m => va c (List.mem_cons_of_mem _ m)) vb (List.pairwise_cons.mp ha).2 hb⟩
    rcases mg_mem _ _ he with m | m
    · exact (List.pairwise_cons.mp ha).1 _ m
    · rcases List.mem_cons.mp m with y | m
      · rw [y]; exact z
      · exact Cut.trans (va _ List.mem_cons_self) (vb _ List.mem_cons_self) (vb _ (List.mem_cons_of_mem _ m)) z ((List.pairwise_cons.mp hb).1 _ m)
section
variable {f : Bool → Bool → Bool}
theorem run_sub : ∀ (es : List Ev) (p q : Bool) {x : Cut}, x ∈ run f p q es → ∃ e ∈ es, e.c = x
  | [], _, _, x, h => nomatch h
  | ⟨c, i, j⟩ :: es, p, q, x, h => by
    unfold run at h
    split at h
    · rcases List.mem_cons.mp h with rfl | h
      · exact ⟨_, List.mem_cons_self, rfl⟩
      · obtain ⟨e, m, z⟩ := run_sub es _ _ h
        exact ⟨e, List.mem_cons_of_mem _ m, z⟩
    · obtain ⟨e, m, z⟩ := run_sub es _ _ h
      exact ⟨e, List.mem_cons_of_mem _ m, z⟩
theorem run_asc : ∀ (es : List Ev) (p q : Bool), AscE es → Asc (run f p q es)
  | [], _, _, _ => List.Pairwise.nil
  | ⟨c, i, j⟩ :: es, p, q, h => by
    have h2 := List.pairwise_cons.mp h
    unfold run
    split
    · refine List.pairwise_cons.mpr ⟨fun x m => ?_, run_asc es _ _ h2.2⟩
      obtain ⟨e, me, rfl⟩ := run_sub es _ _ m
      exact h2.1 e me
    · exact run_asc es _ _ h2.2
def VE (es : List Ev) : Prop := ∀ e ∈ es, e.c.V
theorem memI_out {es : List Ev} {x : Cut} (h : ∀ e ∈ es, x.lt e.c = true) : memI es x = false := by
  induction es with
  | nil => rfl
  | cons c cs ih =>
    show xor (c.i && !x.lt c.c) (memI cs x) = false
    rw [h c List.mem_cons_self, ih fun e m => h e (List.mem_cons_of_mem _ m)]
    simp
theorem memJ_out {es : List Ev} {x : Cut} (h : ∀ e ∈ es, x.lt e.c = true) : memJ es x = false := by
  induction es with
  | nil => rfl
  | cons c cs ih =>
    show xor (c.j && !x.lt c.c) (memJ cs x) = false
    rw [h c List.mem_cons_self, ih fun e m => h e (List.mem_cons_of_mem _ m)]
    simp
theorem run_mem {x : Cut} (vx : x.V) : ∀ (es : List Ev) (p q : Bool), VE es → AscE es → mem (run f p q es) x = xor (f p q) (f (xor p (memI es x)) (xor q (memJ es x)))
  | [], p, q, _, _ => by simp [run, memI, memJ, mem]
  | ⟨c, i, j⟩ :: es, p, q, v, h => by
    have h2 := List.pairwise_cons.mp h
    have vc : c.V := v ⟨c, i, j⟩ List.mem_cons_self
    have ve : VE es := fun e m => v e (List.mem_cons_of_mem _ m)
    have ih := run_mem vx es (xor p i) (xor q j) ve h2.2
    unfold run memI memJ
    cases z : x.lt c with
    | true =>
      have out : ∀ e ∈ es, x.lt e.c = true := fun e m => Cut.trans vx vc (ve e m) z (h2.1 e m)
      have o1 : mem (run f (xor p i) (xor q j) es) x = false := mem_out fun y m => by
        obtain ⟨e, me, rfl⟩ := run_sub es _ _ m
        exact out e me
      rw [memI_out out, memJ_out out]
      split
      · show xor (!x.lt c) _ = _
        rw [z, o1]; simp [z]
      · rw [o1]; simp [z]
    | false =>
      split
      · rename_i hd
        show xor (!x.lt c) _ = _
        rw [z, ih]
        simp only [z, Bool.not_false, Bool.and_true]
        have e1 : xor (xor p i) (memI es x) = xor p (xor i (memI es x)) := Bool.xor_assoc ..
        have e2 : xor (xor q j) (memJ es x) = xor q (xor j (memJ es x)) := Bool.xor_assoc ..
        rw [e1, e2]
        revert hd
        cases f p q <;> cases f (xor p i) (xor q j) <;> cases f (xor p (xor i (memI es x))) (xor q (xor j (memJ es x))) <;> decide
      · rename_i hd
        rw [ih]
        simp only [z, Bool.not_false, Bool.and_true]
        have e1 : xor (xor p i) (memI es x) = xor p (xor i (memI es x)) := Bool.xor_assoc ..
        have e2 : xor (xor q j) (memJ es x) = xor q (xor j (memJ es x)) := Bool.xor_assoc ..
        rw [e1, e2]
        revert hd
        cases f p q <;> cases f (xor p i) (xor q j) <;> cases f (xor p (xor i (memI es x))) (xor q (xor j (memJ es x))) <;> decide
/-- an odd number of them -/
def odd : Nat → Bool
  | 0 => false
  | n + 1 => !odd n
def oddI (es : List Ev) : Bool := es.foldr (fun e b => xor e.i b) false
def oddJ (es : List Ev) : Bool := es.foldr (fun e b => xor e.j b) false
theorem run_odd : ∀ (es : List Ev) (p q : Bool), odd (run f p q es).length = xor (f p q) (f (xor p (oddI es)) (xor q (oddJ es)))
  | [], p, q => by simp [run, oddI, oddJ, odd]
  | ⟨c, i, j⟩ :: es, p, q => by
    have ih := run_odd es (xor p i) (xor q j)
    have e1 : oddI (⟨c, i, j⟩ :: es) = xor i (oddI es) := rfl
    have e2 : oddJ (⟨c, i, j⟩ :: es) = xor j (oddJ es) := rfl
    rw [e1, e2]
    unfold run
    rw [Bool.xor_assoc, Bool.xor_assoc] at ih
    split
    · rename_i hd
      rw [List.length_cons, odd, ih]
      revert hd
      cases f p q <;> cases f (xor p i) (xor q j) <;> cases f (xor p (xor i (oddI es))) (xor q (xor j (oddJ es))) <;> decide
    · rename_i hd
      rw [ih]
      revert hd
      cases f p q <;> cases f (xor p i) (xor q j) <;> cases f (xor p (xor i (oddI es))) (xor q (xor j (oddJ es))) <;> decide
end
theorem mg_oddI : ∀ (as bs : List Cut), oddI (mg as bs) = odd as.length := by
  intro as bs
  fun_induction mg as bs with
  | case1 bs => induction bs with
    | nil => rfl
    | cons b bs ih => show xor false _ = _; rw [Bool.false_xor]; exact ih
  | case2 a as =>
    have : ∀ as : List Cut, oddI (as.map fun a => (⟨a, true, false⟩ : Ev)) = odd as.length := by
      intro as
      induction as with
      | nil => rfl
      | cons b bs ih => show xor true (oddI _) = !_; rw [ih]; simp
    exact this _
  | case3 a as b bs h ih => show xor false (oddI _) = _; rw [Bool.false_xor]; exact ih
  | case4 as b bs h ih => show xor true (oddI _) = !_; rw [ih]; simp
  | case5 a as b bs h h2 ih => show xor true (oddI _) = !_; rw [ih]; simp
theorem mg_oddJ : ∀ (as bs : List Cut), oddJ (mg as bs) = odd bs.length := by
  intro as bs
  fun_induction mg as bs with
  | case1 bs => induction bs with
    | nil => rfl
    | cons b bs ih => show xor true (oddJ _) = !_; rw [ih]; simp
  | case2 a as =>
    have : ∀ as : List Cut, oddJ (as.map fun a => (⟨a, true, false⟩ : Ev)) = false := by
      intro as
      induction as with
      | nil => rfl
      | cons b bs ih => show xor false (oddJ _) = _; rw [ih]; rfl
    exact this _
  | case3 a as b bs h ih => show xor true (oddJ _) = !_; rw [ih]; simp
  | case4 as b bs h ih => show xor true (oddJ _) = !_; rw [ih]; simp
  | case5 a as b bs h h2 ih => show xor false (oddJ _) = _; rw [Bool.false_xor]; exact ih
/-- from 0 to just ahead of 1 -/
def first : Cut := ⟨0, 1, false⟩
def last : Cut := ⟨1, 1, false⟩
structure Cut.In (c : Cut) : Prop extends c.V where
  n0 : 0 ≤ c.n
  le : last.lt c = false
theorem Cut.In.nd {c : Cut} (h : c.In) : c.n ≤ c.d := by
  have le := h.le
  unfold Cut.lt last at le
  simp only at le
  split at le
  · omega
  · have := of_decide_eq_false le
    omega
/-- a lot's cuts -/
structure Lt (cs : List Cut) : Prop where
  v : ∀ c ∈ cs, c.In
  a : Asc cs
  e : odd cs.length = false
theorem first_inC : first.In := ⟨⟨by decide, by decide⟩, by decide, by decide⟩
theorem last_in : last.In := ⟨⟨by decide, by decide⟩, by decide, by decide⟩
theorem Lt.av {cs : List Cut} (h : Lt cs) : AllV cs := fun c m => (h.v c m).toV
def both (as bs : List Cut) : List Cut := run (fun p q => p && q) false false (mg as bs)
def either (as bs : List Cut) : List Cut := run (fun p q => p || q) false false (mg as bs)
theorem ve_mg {as bs : List Cut} (ha : AllV as) (hb : AllV bs) : VE (mg as bs) := fun e m => (mg_mem as bs m).elim (ha _) (hb _)
theorem lt_run {f : Bool → Bool → Bool} (h0 : f false false = false) {as bs : List Cut} (ha : Lt as) (hb : Lt bs) : Lt (run f false false (mg as bs)) where
  v := fun c m => by
    obtain ⟨e, me, rfl⟩ := run_sub _ _ _ m
    exact (mg_mem as bs me).elim (ha.v _) (hb.v _)
  a := run_asc _ _ _ (mg_asc as bs ha.av hb.av ha.a hb.a)
  e := by rw [run_odd, mg_oddI, mg_oddJ, ha.e, hb.e, h0]; simp [h0]
theorem Lt.both {as bs : List Cut} (ha : Lt as) (hb : Lt bs) : Lt (both as bs) := lt_run rfl ha hb
theorem Lt.either {as bs : List Cut} (ha : Lt as) (hb : Lt bs) : Lt (either as bs) := lt_run rfl ha hb
theorem mem_both {as bs : List Cut} (ha : Lt as) (hb : Lt bs) {x : Cut} (vx : x.V) : mem (both as bs) x = (mem as x && mem bs x) := by
  unfold Mt.both
  rw [run_mem vx _ _ _ (ve_mg ha.av hb.av) (mg_asc as bs ha.av hb.av ha.a hb.a), mg_I, mg_J]
  simp
theorem mem_either {as bs : List Cut} (ha : Lt as) (hb : Lt bs) {x : Cut} (vx : x.V) : mem (either as bs) x = (mem as x || mem bs x) := by
  unfold Mt.either
  rw [run_mem vx _ _ _ (ve_mg ha.av hb.av) (mg_asc as bs ha.av hb.av ha.a hb.a), mg_I, mg_J]
  simp
/-- what does not belong -/
def noFirst (cs : List Cut) : List Cut := match cs with | c :: r => if c = first then r else first :: cs | [] => [first]
def noLast (cs : List Cut) : List Cut := if cs.getLast? = some last then cs.dropLast else cs ++ [last]
def others (cs : List Cut) : List Cut := noLast (noFirst cs)
theorem mem_app : ∀ (as bs : List Cut) (x : Cut), mem (as ++ bs) x = xor (mem as x) (mem bs x)
  | [], bs, x => by simp [mem]
  | a :: as, bs, x => by show xor _ (mem (as ++ bs) x) = xor (xor _ _) _; rw [mem_app as bs x, Bool.xor_assoc]
theorem noFirst_mem {cs : List Cut} {x : Cut} (h : x.lt first = false) : mem (noFirst cs) x = !mem cs x := by
  unfold noFirst
  split
  · rename_i c r
    split
    · rename_i e
      show mem r x = !(xor (!x.lt c) (mem r x))
      rw [e, h]; simp
    · show xor (!x.lt first) _ = _
      rw [h]; simp
  · show xor (!x.lt first) _ = _
    rw [h]; simp
theorem noLast_mem {cs : List Cut} {x : Cut} (h : x.lt last = true) : mem (noLast cs) x = mem cs x := by
  unfold noLast
  split
  · rename_i e
    have : cs = cs.dropLast ++ [last] := by
      have ne : cs ≠ [] := by intro z; rw [z] at e; cases e
      rw [List.getLast?_eq_some_getLast ne] at e
      have := List.dropLast_concat_getLast ne
      rw [Option.some.inj e] at this
      exact this.symm
    rw [this, mem_app]
    have : mem [last] x = false := by show xor (!x.lt last) false = false; rw [h]; rfl
    rw [this]
    simp
  · rw [mem_app]
    have : mem [last] x = false := by show xor (!x.lt last) false = false; rw [h]; rfl
    rw [this]
    simp
theorem mem_others {cs : List Cut} {x : Cut} (h : x.lt first = false) (h2 : x.lt last = true) : mem (others cs) x = !mem cs x := by
  unfold others
  rw [noLast_mem h2, noFirst_mem h]
theorem in_ge {c : Cut} (h : c.In) : c.lt first = false := by
  unfold Cut.lt first
  have := h.n0
  have := h.d
  simp only
  split
  · simp
  · rw [decide_eq_false]; omega
theorem in_gt {c : Cut} (h : c.In) (ne : c ≠ first) : first.lt c = true := by
  cases z : first.lt c with
  | true => rfl
  | false => exact absurd (Cut.tot h.toV first_inC.toV (in_ge h) z) ne
theorem in_lt {c : Cut} (h : c.In) (ne : c ≠ last) : c.lt last = true := by
  cases z : c.lt last with
  | true => rfl
  | false => exact absurd (Cut.tot h.toV last_in.toV z h.le) ne
structure Pre (cs : List Cut) : Prop where
  v : ∀ c ∈ cs, c.In
  a : Asc cs
theorem Pre.noFirst {cs : List Cut} (h : Pre cs) : Pre (noFirst cs) := by
  unfold Mt.noFirst
  split
  · rename_i c r
    have h2 := List.pairwise_cons.mp h.a
    split
    · exact ⟨fun e m => h.v e (List.mem_cons_of_mem _ m), h2.2⟩
    · rename_i ne
      refine ⟨fun e m => ?_, List.pairwise_cons.mpr ⟨fun e m => ?_, h.a⟩⟩
      · rcases List.mem_cons.mp m with rfl | m
        · exact first_inC
        · exact h.v e m
      · have f1 := in_gt (h.v c List.mem_cons_self) ne
        rcases List.mem_cons.mp m with rfl | m2
        · exact f1
        · exact Cut.trans first_inC.toV (h.v c List.mem_cons_self).toV (h.v e m).toV f1 (h2.1 e m2)
  · exact ⟨fun e m => by rw [List.mem_singleton.mp m]; exact first_inC, List.pairwise_singleton ..⟩
theorem getLast_last {cs : List Cut} (e : cs.getLast? = some last) : cs = cs.dropLast ++ [last] := by
  have ne : cs ≠ [] := by intro z; rw [z] at e; cases e
  rw [List.getLast?_eq_some_getLast ne] at e
  have := List.dropLast_concat_getLast ne
  rw [Option.some.inj e] at this
  exact this.symm
theorem Pre.noLast {cs : List Cut} (h : Pre cs) : Pre (noLast cs) := by
  unfold Mt.noLast
  split
  · exact ⟨fun e m => h.v e ((List.dropLast_sublist cs).subset m), List.Pairwise.sublist (List.dropLast_sublist cs) h.a⟩
  · rename_i ne
    refine ⟨fun e m => ?_, List.pairwise_append.mpr ⟨h.a, List.pairwise_singleton .., fun a ma b mb => ?_⟩⟩
    · rcases List.mem_append.mp m with m | m
      · exact h.v e m
      · rw [List.mem_singleton.mp m]; exact last_in
    · rw [List.mem_singleton.mp mb]
      refine in_lt (h.v a ma) fun z => ?_
      subst z
      -- the last one is the greatest
      have ne2 : cs ≠ [] := by intro z; rw [z] at ma; cases ma
      have l := List.dropLast_concat_getLast ne2
      rw [List.getLast?_eq_some_getLast ne2] at ne
      have asc := h.a
      rw [← l] at asc ma
      rcases List.mem_append.mp ma with m | m
      · have := (List.pairwise_append.mp asc).2.2 last m _ (List.mem_singleton.mpr rfl)
        rw [(h.v _ (List.getLast_mem ne2)).le] at this
        cases this
      · exact ne (by rw [← List.mem_singleton.mp m])
theorem odd_noFirst {cs : List Cut} : odd (noFirst cs).length = !odd cs.length := by
  unfold noFirst
  split
  · split <;> simp [odd]
  · simp [odd]
theorem odd_noLast {cs : List Cut} : odd (noLast cs).length = !odd cs.length := by
  unfold noLast
  split
  · rename_i e
    have l := getLast_last e
    have : cs.length = cs.dropLast.length + 1 := by
      have := congrArg List.length l
      rwa [List.length_append] at this
    rw [this]; simp [odd]
  · simp [odd]
theorem Lt.others {cs : List Cut} (h : Lt cs) : Lt (others cs) := by
  have p : Pre (Mt.others cs) := (Pre.noFirst ⟨h.v, h.a⟩).noLast
  exact ⟨p.v, p.a, by unfold Mt.others; rw [odd_noLast, odd_noFirst, h.e]; rfl⟩
/-- of a step whether it belongs: one is just ahead of it -/
def at' (p q : Int) : Cut := ⟨p, q, false⟩
structure Stp (p q : Int) : Prop where
  p0 : 0 ≤ p
  pq : p < q
  co : Int.gcd p q = 1
theorem Stp.In {p q : Int} (h : Stp p q) : (at' p q).In := ⟨⟨by have := h.p0; have := h.pq; show 0 < q; omega, h.co⟩, h.p0, by
  show Cut.lt last (at' p q) = false
  unfold Cut.lt last at'
  have := h.pq
  simp only
  split
  · rfl
  · rw [decide_eq_false]; omega⟩
theorem Stp.lt {p q : Int} (h : Stp p q) : (at' p q).lt last = true := by
  unfold Cut.lt last at'
  have := h.pq
  have := h.p0
  simp only
  rw [if_neg (by omega), decide_eq_true]; omega
theorem Stp.ge {p q : Int} (h : Stp p q) : (at' p q).lt first = false := in_ge h.In
end Mt
set_option Elab.async false
set_option maxRecDepth 100000
set_option maxHeartbeats 2000000
set_option linter.all false
/-! the lot of the steps that fit, where this changes at some fractions only -/
namespace Mt
/-- the next cut, if what fits changes there -/
def cstep (acc : List Cut) (e : Cut × Bool) : List Cut := if e.2 != odd acc.length then acc ++ [e.1] else acc
def ends (acc : List Cut) : List Cut := if odd acc.length = true then acc ++ [last] else acc
def lw (es : List (Cut × Bool)) : List Cut := ends (es.foldl cstep [])
theorem odd_snoc {α : Type} (l : List α) (x : α) : odd (l ++ [x]).length = !odd l.length := by rw [List.length_append]; rfl
theorem cstep_sub : ∀ (es : List (Cut × Bool)) (acc pre : List Cut), acc.Sublist pre → (es.foldl cstep acc).Sublist (pre ++ es.map (·.1))
  | [], acc, pre, h => by simpa using h
  | e :: es, acc, pre, h => by
    have k : (cstep acc e).Sublist (pre ++ [e.1]) := by
      unfold cstep
      split
      · exact h.append (List.Sublist.refl _)
      · exact h.trans (List.sublist_append_left ..)
    have ih := cstep_sub es (cstep acc e) (pre ++ [e.1]) k
    rw [List.append_assoc] at ih
    exact ih
theorem lw_lt {es : List (Cut × Bool)} (hv : ∀ e ∈ es, e.1.In) (ha : Asc (es.map (·.1) ++ [last])) : Lt (lw es) := by
  have sub := cstep_sub es [] [] (List.Sublist.refl _)
  rw [List.nil_append] at sub
  have v1 : ∀ c ∈ es.foldl cstep [], c.In := fun c m => by
    obtain ⟨e, me, rfl⟩ := List.mem_map.mp (sub.subset m)
    exact hv e me
  unfold lw ends
  split
  · rename_i ho
    refine ⟨fun c m => ?_, List.Pairwise.sublist (sub.append (List.Sublist.refl _)) ha, by rw [odd_snoc, ho]; rfl⟩
    rcases List.mem_append.mp m with m | m
    · exact v1 c m
    · rw [List.mem_singleton.mp m]; exact last_in
  · rename_i ho
    exact ⟨v1, List.Pairwise.sublist (sub.trans (List.sublist_append_left ..)) ha, by simpa using ho⟩
theorem lw_none {es : List (Cut × Bool)} (h : ∀ e ∈ es, e.2 = false) : lw es = [] := by
  have : ∀ es : List (Cut × Bool), (∀ e ∈ es, e.2 = false) → es.foldl cstep [] = [] := by
    intro es
    induction es with
    | nil => intro _; rfl
    | cons e es ih =>
      intro h
      have z : cstep [] e = [] := by unfold cstep; rw [h e List.mem_cons_self]; rfl
      show es.foldl cstep (cstep [] e) = []
      rw [z]
      exact ih fun x m => h x (List.mem_cons_of_mem _ m)
  unfold lw
  rw [this es h]; rfl
/-- lowest terms -/
def lowQ (a b : Int) : Int × Int := (a / ((Nat.gcd a.natAbs b.natAbs : Nat) : Int), b / ((Nat.gcd a.natAbs b.natAbs : Nat) : Int))
def med (p q : Int × Int) : Int × Int := lowQ (p.1 + q.1) (p.2 + q.2)
theorem lowQ_ex {a b : Int} (h : 0 < b) : ∃ g : Int, 0 < g ∧ a = (lowQ a b).1 * g ∧ b = (lowQ a b).2 * g ∧ 0 < (lowQ a b).2 ∧ Int.gcd (lowQ a b).1 (lowQ a b).2 = 1 := by
  have g0 : 0 < Nat.gcd a.natAbs b.natAbs := Nat.gcd_pos_of_pos_right _ (by omega)
  have d1 : ((Nat.gcd a.natAbs b.natAbs : Nat) : Int) ∣ a := Int.ofNat_dvd_left.mpr (Nat.gcd_dvd_left _ _)
  have d2 : ((Nat.gcd a.natAbs b.natAbs : Nat) : Int) ∣ b := Int.ofNat_dvd_left.mpr (Nat.gcd_dvd_right _ _)
  refine ⟨((Nat.gcd a.natAbs b.natAbs : Nat) : Int), by omega, (Int.ediv_mul_cancel d1).symm, (Int.ediv_mul_cancel d2).symm, Int.ediv_pos_of_pos_of_dvd h (by omega) d2, ?_⟩
  exact Int.gcd_ediv_gcd_ediv_gcd (show 0 < Int.gcd a b from g0)
/-- less -/
def Lss (p q : Int × Int) : Prop := p.1 * q.2 < q.1 * p.2
/-- a fraction from 0 to 1 -/
structure Frc (p : Int × Int) : Prop where
  n0 : 0 ≤ p.1
  le : p.1 ≤ p.2
  d0 : 0 < p.2
  co : Int.gcd p.1 p.2 = 1
/-- fractions ascending from 0 to 1 -/
structure Pts (ps : List (Int × Int)) : Prop where
  hd : ps.head? = some (0, 1)
  ls : ps.getLast? = some (1, 1)
  v : ∀ p ∈ ps, Frc p
  asc : ps.Pairwise Lss
theorem Frc.In {p : Int × Int} (h : Frc p) (hl : p.1 < p.2) (b : Bool) : (⟨p.1, p.2, b⟩ : Cut).In := by
  refine ⟨⟨h.d0, h.co⟩, h.n0, ?_⟩
  unfold Cut.lt last
  simp only
  split
  · rename_i e; omega
  · exact decide_eq_false (by omega)
theorem med_stp {p q : Int × Int} (hp : Frc p) (hq : Frc q) (l : Lss p q) : Stp (med p q).1 (med p q).2 ∧ (med p q).1.natAbs ≤ p.1.natAbs + q.1.natAbs ∧ (med p q).2.natAbs ≤ p.2.natAbs + q.2.natAbs := by
  have d0 := hp.d0; have e0 := hq.d0; have n0 := hp.n0; have m0 := hq.n0; have le := hp.le; have me := hq.le
  obtain ⟨g, g0, e1, e2, b0, co⟩ := lowQ_ex (a := p.1 + q.1) (b := p.2 + q.2) (by omega)
  have l1 : p.1 < p.2 := by
    have l' : p.1 * q.2 < q.1 * p.2 := l
    rcases Int.lt_or_eq_of_le le with h | h
    · exact h
    · rw [h] at l'
      have : q.1 * p.2 ≤ q.2 * p.2 := Int.mul_le_mul_of_nonneg_right me (by omega)
      have c : p.2 * q.2 = q.2 * p.2 := Int.mul_comm ..
      omega
  have x : (lowQ (p.1 + q.1) (p.2 + q.2)).1 = (med p q).1 := rfl
  have y : (lowQ (p.1 + q.1) (p.2 + q.2)).2 = (med p q).2 := rfl
  rw [x] at e1 co; rw [y] at e2 b0 co
  have a0 : 0 ≤ (med p q).1 := by
    rcases Int.lt_or_le (med p q).1 0 with h | h
    · have : (med p q).1 * g < 0 := Int.mul_neg_of_neg_of_pos h g0
      omega
    · exact h
  refine ⟨⟨a0, ?_, co⟩, ?_, ?_⟩
  · have : (med p q).1 * g < (med p q).2 * g := by omega
    exact Int.lt_of_mul_lt_mul_right this (by omega)
  · have : (med p q).1 * 1 ≤ (med p q).1 * g := Int.mul_le_mul_of_nonneg_left (by omega) a0
    omega
  · have : (med p q).2 * 1 ≤ (med p q).2 * g := Int.mul_le_mul_of_nonneg_left (by omega) (by omega)
    omega
/-- at each point and between it and the next one: whether steps fit there -/
def evs (f : Int → Int → Bool) : List (Int × Int) → List (Cut × Bool)
  | p :: q :: r => (⟨p.1, p.2, false⟩, f p.1 p.2) :: (⟨p.1, p.2, true⟩, f (med p q).1 (med p q).2) :: evs f (q :: r)
  | _ => []
theorem lss_lt {p q : Int × Int} (l : Lss p q) (b c : Bool) : (⟨p.1, p.2, b⟩ : Cut).lt ⟨q.1, q.2, c⟩ = true := by
  have l' : p.1 * q.2 < q.1 * p.2 := l
  unfold Cut.lt
  simp only
  rw [if_neg (fun z => by rw [z.1, z.2] at l'; omega)]
  exact decide_eq_true l'
theorem evs_all {f : Int → Int → Bool} : ∀ {ps : List (Int × Int)}, (∀ p ∈ ps, Frc p) → ps.Pairwise Lss → ps.getLast? = some (1, 1) →
    (∀ e ∈ evs f ps, e.1.In) ∧ (∀ e ∈ evs f ps, ∃ x y, Stp x y ∧ e.2 = f x y) ∧ Asc ((evs f ps).map (·.1) ++ [last]) ∧ ∀ c ∈ (evs f ps).map (·.1) ++ [last], ∃ p ∈ ps, c.n = p.1 ∧ c.d = p.2
  | [], _, _, h => nomatch h
  | [p], _, _, h => by
    have e : p = (1, 1) := Option.some.inj h
    subst e
    refine ⟨(fun e m => nomatch m), (fun e m => nomatch m), List.pairwise_singleton .., fun c m => ⟨_, List.mem_cons_self, ?_, ?_⟩⟩ <;> rw [List.mem_singleton.mp m] <;> rfl
  | p :: q :: r, hv, ha, hl => by
    have ha2 := List.pairwise_cons.mp ha
    obtain ⟨i1, i2, i3, i4⟩ := evs_all (f := f) (ps := q :: r) (fun x m => hv x (List.mem_cons_of_mem _ m)) ha2.2 (by rw [← hl]; rfl)
    have fp := hv p List.mem_cons_self
    have fq := hv q (List.mem_cons_of_mem _ List.mem_cons_self)
    have l := ha2.1 q List.mem_cons_self
    have m := (med_stp fp fq l).1
    have lt : p.1 < p.2 := by
      have l' : p.1 * q.2 < q.1 * p.2 := l
      have le := fp.le; have me := fq.le; have d0 := fp.d0
      rcases Int.lt_or_eq_of_le le with h | h
      · exact h
      · rw [h] at l'
        have : q.1 * p.2 ≤ q.2 * p.2 := Int.mul_le_mul_of_nonneg_right me (by omega)
        have c : p.2 * q.2 = q.2 * p.2 := Int.mul_comm ..
        omega
    have ahead : ∀ c ∈ (evs f (q :: r)).map (·.1) ++ [last], ∀ b, (⟨p.1, p.2, b⟩ : Cut).lt c = true := fun c mc b => by
      obtain ⟨x, mx, e1, e2⟩ := i4 c mc
      have := lss_lt (ha2.1 x mx) b c.b
      have ec : c = ⟨x.1, x.2, c.b⟩ := by cases c; simp only at e1 e2; rw [e1, e2]
      rw [ec]; exact this
    refine ⟨fun e me => ?_, fun e me => ?_, ?_, fun c mc => ?_⟩
    · rcases List.mem_cons.mp me with rfl | me
      · exact fp.In lt false
      · rcases List.mem_cons.mp me with rfl | me
        · exact fp.In lt true
        · exact i1 e me
    · rcases List.mem_cons.mp me with rfl | me
      · exact ⟨p.1, p.2, ⟨fp.n0, lt, fp.co⟩, rfl⟩
      · rcases List.mem_cons.mp me with rfl | me
        · exact ⟨_, _, m, rfl⟩
        · exact i2 e me
    · refine List.pairwise_cons.mpr ⟨fun c mc => ?_, List.pairwise_cons.mpr ⟨fun c mc => ahead c mc true, i3⟩⟩
      rcases List.mem_cons.mp mc with rfl | mc
      · unfold Cut.lt; simp
      · exact ahead c mc false
    · rcases List.mem_cons.mp mc with rfl | mc
      · exact ⟨p, List.mem_cons_self, rfl, rfl⟩
      · rcases List.mem_cons.mp mc with rfl | mc
        · exact ⟨p, List.mem_cons_self, rfl, rfl⟩
        · obtain ⟨x, mx, z⟩ := i4 c mc
          exact ⟨x, List.mem_cons_of_mem _ mx, z⟩
theorem lot_lt {f : Int → Int → Bool} {ps : List (Int × Int)} (h : Pts ps) : Lt (lw (evs f ps)) := by
  obtain ⟨a, _, b, _⟩ := evs_all (f := f) h.v h.asc h.ls
  exact lw_lt a b
theorem lot_some {f : Int → Int → Bool} {ps : List (Int × Int)} (h : Pts ps) (ne : lw (evs f ps) ≠ []) : ∃ x y, Stp x y ∧ f x y = true := by
  obtain ⟨_, a, _, _⟩ := evs_all (f := f) h.v h.asc h.ls
  by_cases z : ∀ e ∈ evs f ps, e.2 = false
  · exact absurd (lw_none z) ne
  · have ⟨e, me⟩ := Classical.not_forall.mp z
    have ⟨m, ne⟩ := Classical.not_imp.mp me
    obtain ⟨x, y, s, eq⟩ := a e m
    exact ⟨x, y, s, by rw [← eq]; simpa using ne⟩
/-- the fractions of which one of these multiples is an integer -/
def lcmA (ns : List Nat) : Nat := ns.foldl Nat.lcm 1
def tops (c : Nat) (ns : List Nat) : List Int := ns.flatMap fun k => (List.range k).map fun (j : Nat) => ((c / k : Nat) : Int) * (j : Int)
def wpts (c : Nat) (ns : List Nat) : List (Int × Int) := (sortU (0 :: (c : Int) :: tops c ns)).map fun t => lowQ t c
theorem lcm_fold : ∀ (ns : List Nat) (c : Nat), c ∣ ns.foldl Nat.lcm c ∧ (∀ k ∈ ns, k ∣ ns.foldl Nat.lcm c) ∧ ∀ m, c ∣ m → (∀ k ∈ ns, k ∣ m) → ns.foldl Nat.lcm c ∣ m
  | [], c => ⟨Nat.dvd_refl _, (fun k m => nomatch m), fun m h _ => h⟩
  | n :: ns, c => by
    obtain ⟨a, b, d⟩ := lcm_fold ns (Nat.lcm c n)
    refine ⟨Nat.dvd_trans (Nat.dvd_lcm_left _ _) a, fun k m => ?_, fun m h k => d m (Nat.lcm_dvd h (k n List.mem_cons_self)) fun q mq => k q (List.mem_cons_of_mem _ mq)⟩
    rcases List.mem_cons.mp m with rfl | m
    · exact Nat.dvd_trans (Nat.dvd_lcm_right _ _) a
    · exact b k m
theorem tops_mem {c : Nat} {ns : List Nat} (c0 : 0 < c) (hd : ∀ k ∈ ns, k ∣ c) {t : Int} (h : t ∈ tops c ns) : 0 ≤ t ∧ t < c := by
  obtain ⟨k, mk, h⟩ := List.mem_flatMap.mp h
  obtain ⟨j, mj, rfl⟩ := List.mem_map.mp h
  have lj := List.mem_range.mp mj
  have e : c / k * k = c := Nat.div_mul_cancel (hd k mk)
  refine ⟨Int.mul_nonneg (Int.natCast_nonneg _) (Int.natCast_nonneg _), ?_⟩
  have ck : 0 < c / k ∨ c / k = 0 := (Nat.eq_zero_or_pos _).symm
  rcases ck with ck | ck
  · have : c / k * j < c / k * k := Nat.mul_lt_mul_of_pos_left lj ck
    rw [e] at this
    exact_mod_cast this
  · rw [ck, Nat.zero_mul] at e
    omega
theorem lowQ_lss {a b c : Int} (c0 : 0 < c) (h : a < b) : Lss (lowQ a c) (lowQ b c) := by
  obtain ⟨g, g0, e1, e2, b0, _⟩ := lowQ_ex (a := a) c0
  obtain ⟨g', g0', e1', e2', b0', _⟩ := lowQ_ex (a := b) c0
  show (lowQ a c).1 * (lowQ b c).2 < (lowQ b c).1 * (lowQ a c).2
  have k : a * c < b * c := Int.mul_lt_mul_of_pos_right h c0
  generalize (lowQ a c).1 = x at *
  generalize (lowQ a c).2 = y at *
  generalize (lowQ b c).1 = u at *
  generalize (lowQ b c).2 = v at *
  have q1 : x * g * (v * g') < u * g' * (y * g) := by
    have : x * g * (v * g') = a * c := by rw [← e1, ← e2']
    have z : u * g' * (y * g) = b * c := by rw [← e1', ← e2]
    omega
  have q2 : x * v * (g * g') < u * y * (g * g') := by
    have : x * g * (v * g') = x * v * (g * g') := by rw [Int.mul_assoc, Int.mul_assoc, Int.mul_left_comm g]
    have z : u * g' * (y * g) = u * y * (g * g') := by rw [Int.mul_assoc, Int.mul_assoc, Int.mul_left_comm g', Int.mul_comm g' g]
    omega
  exact Int.lt_of_mul_lt_mul_right q2 (Int.le_of_lt (Int.mul_pos g0 g0'))
theorem sorted_ends {l : List Int} {c : Int} (pw : l.Pairwise (· < ·)) (h0 : 0 ∈ l) (hc : c ∈ l) (hb : ∀ t ∈ l, 0 ≤ t ∧ t ≤ c) : l.head? = some 0 ∧ l.getLast? = some c := by
  constructor
  · cases l with
    | nil => nomatch h0
    | cons a l =>
      rcases List.mem_cons.mp h0 with e | m
      · rw [← e]; rfl
      · have := (List.pairwise_cons.mp pw).1 0 m
        have := (hb a List.mem_cons_self).1
        omega
  · have ne : l ≠ [] := by intro z; rw [z] at h0; nomatch h0
    rw [List.getLast?_eq_some_getLast ne]
    congr 1
    have e := List.dropLast_concat_getLast ne
    rw [← e] at hc pw
    rcases List.mem_append.mp hc with m | m
    · have := (List.pairwise_append.mp pw).2.2 c m _ (List.mem_singleton.mpr rfl)
      have := (hb _ (List.getLast_mem ne)).2
      omega
    · exact (List.mem_singleton.mp m).symm
theorem wpts_pts {c : Nat} {ns : List Nat} (c0 : 0 < c) (hd : ∀ k ∈ ns, k ∣ c) : Pts (wpts c ns) := by
  have pw := sortU_pw (0 :: (c : Int) :: tops c ns)
  have mem : ∀ t, t ∈ sortU (0 :: (c : Int) :: tops c ns) ↔ t ∈ (0 :: (c : Int) :: tops c ns) := fun t => sortU_mem
  have hb : ∀ t ∈ sortU (0 :: (c : Int) :: tops c ns), 0 ≤ t ∧ t ≤ (c : Int) := fun t m => by
    rcases List.mem_cons.mp ((mem t).mp m) with rfl | m
    · omega
    · rcases List.mem_cons.mp m with rfl | m
      · omega
      · have := tops_mem c0 hd m; omega
  obtain ⟨h1, h2⟩ := sorted_ends pw ((mem 0).mpr List.mem_cons_self) ((mem c).mpr (List.mem_cons_of_mem _ List.mem_cons_self)) hb
  have ci : 0 < (c : Int) := by omega
  unfold wpts
  refine ⟨?_, ?_, fun p m => ?_, ?_⟩
  · rw [List.head?_map, h1]
    show some (lowQ 0 c) = _
    unfold lowQ
    rw [show Nat.gcd (0 : Int).natAbs (c : Int).natAbs = c by simp]
    rw [Int.zero_ediv, Int.ediv_self (by omega)]
  · rw [List.getLast?_map, h2]
    show some (lowQ c c) = _
    unfold lowQ
    rw [show Nat.gcd (c : Int).natAbs (c : Int).natAbs = c by simp]
    rw [Int.ediv_self (by omega)]
  · obtain ⟨t, mt, rfl⟩ := List.mem_map.mp m
    obtain ⟨t0, t1⟩ := hb t mt
    obtain ⟨g, g0, e1, e2, b0, co⟩ := lowQ_ex (a := t) ci
    refine ⟨?_, ?_, b0, co⟩
    · rcases Int.lt_or_le (lowQ t c).1 0 with h | h
      · have := Int.mul_neg_of_neg_of_pos h g0; omega
      · exact h
    · have : (lowQ t c).1 * g ≤ (lowQ t c).2 * g := by omega
      exact Int.le_of_mul_le_mul_right this g0
  · rw [List.pairwise_map]
    exact pw.imp fun h => lowQ_lss ci h
end Mt
set_option Elab.async false
set_option linter.all false
set_option maxRecDepth 100000
set_option maxHeartbeats 4000000
namespace Gn
open PySem PySem.Spec PyProof.Rows L2
/-! keywords in the contrary order, all of them -/
def kwR {α : Type} : List α → List α → List α
  | [], ws => ws.reverse
  | _, _ => []
theorem kbR {K : PySem.W.Frag} {fd : FuncData} {ps ks : List Str} (hk : ks = ps.reverse) (h0 : 0 < ps.length) (h : ∀ ws : List Value, ws.length = ps.length → bindArgs fd ⟨[], ks.zip ws⟩ = pure (ps.zip ws.reverse)) : KBinds K fd ps ks kwR kwR :=
  ⟨fun s us ws _ hl => match us, hl with
    | [], hl => .of_eq (h ws (by rw [← hl]; show ws.length = ws.reverse.length; rw [List.length_reverse]))
    | _ :: _, hl => absurd hl (by show ¬ 0 = ps.length; omega), fun {vs us zs ws} r rz => by
    cases r with
    | nil => exact Vals.reverse rz
    | cons _ _ => exact .nil⟩
theorem kwOfR {K : PySem.W.Frag} {x qual : Str} {st : Stmt} {f : Addr} {fd : FuncData} {ps ks : List Str} (F : Fun K x qual st f fd) (hk : ks = ps.reverse) (h0 : 0 < ps.length)
    (h : ∀ (kV doc pm : Value) (an : Option Addr) (cdv ct : Value) (ws : List Value), ws.length = ps.length → bindArgs (PySem.W.fnOf x qual (defArgs st) (defBody st) (defScope st) .none kV doc pm an cdv ct) ⟨[], ks.zip ws⟩ = pure (ps.zip ws.reverse)) : KBinds K fd ps ks kwR kwR := by
  obtain ⟨oc, od, kV, doc, pm, an, cdv, ct, osl, rfl, lk, hcd⟩ := F.ex
  exact kbR hk h0 fun ws hl => h kV doc pm an cdv ct ws hl
/-- divmod by a positive divisor of any size -/
theorem call_divmodW {X : Cx} : CallR X (.builtin "divmod") (fun xs H Q => ∃ i j, xs = [.int i, .int j] ∧ CDivW i j ∧ ∀ p, H p = none → Q (.ref p) (upd H p (.tup [.int (i / j), .int (i % j)]))) := by
  intro pins s σ H xs us Q I r h
  obtain ⟨i, j, rfl, ⟨h1, h2⟩, q⟩ := h
  obtain ⟨u, w', rfl, ⟨t, rfl⟩, ⟨t', rfl⟩⟩ := vals2 r
  refine divmod_int (by omega) ?_ (.inl (PyProof.noPylong_of_log2 h2))
  rw [Int.fdiv_eq_ediv_of_nonneg i (by omega), Int.fmod_eq_emod_of_nonneg i (by omega)]
  have hn : H s.heap.objs.size = none := I.hok.fresh (Nat.le_refl _)
  refine ⟨.ref s.heap.objs.size, _, ?_, rfl, q _ hn⟩
  refine I.laid (fun b o e => Heap.get?_push_of_some _ e) (Nat.le_refl _) ⟨by simp only [List.length_cons, List.length_nil]; rw [sizeLine_eq]; decide, [.int (i / j) s.toks, .int (i % j) (s.toks + 1)], .cons ⟨_, rfl⟩ (.cons ⟨_, rfl⟩ .nil), ?_⟩
  exact ⟨_, Heap.get?_push_size s.heap rfl, rfl, 0, rfl⟩
end Gn
namespace Gn
open PySem PySem.Spec PyProof.Rows L2
theorem pair_eqv {a b c d : Int} : PyData.eqv (.tuple [.int a, .int b]) (.tuple [.int c, .int d]) = decide (a = c ∧ b = d) := by
  rw [Bool.eq_iff_iff]
  simp [PyData.eqv, PyData.eqvAll]
/-- either branch, what holds of either -/
theorem tIf_anyG {tt : TT} {ta tb : TE} {σ : L2.St} {H : Hp} {Q : VK} (Φ : V → Hp → Prop) (c : Bool) (ht : ∀ R : Bool → Hp → Prop, R c H → tt σ H R)
    (h1 : c = true → ∀ R : VK, (∀ v H', Φ v H' → R v H') → ta σ H R) (h2 : c = false → ∀ R : VK, (∀ v H', Φ v H' → R v H') → tb σ H R) (k : ∀ v H', Φ v H' → Q v H') : tIf tt ta tb σ H Q := by
  refine ht _ ?_
  cases c with
  | true => exact iteT (h1 rfl Q k)
  | false => exact iteF (h2 rfl Q k)
end Gn
namespace Gn
open PySem PySem.Spec PyProof.Rows L2
/-- either branch, what holds of either; all may make new objects -/
theorem tIf_same {tt : TT} {ta tb : TE} {σ : L2.St} {H : Hp} {Q : VK} (Φ : V → Hp → Prop) (c : Bool) (ht : ∀ R : Bool → Hp → Prop, (∀ H', Same H H' → R c H') → tt σ H R)
    (h1 : c = true → ∀ H', Same H H' → ∀ R : VK, (∀ v H2, Φ v H2 → R v H2) → ta σ H' R) (h2 : c = false → ∀ H', Same H H' → ∀ R : VK, (∀ v H2, Φ v H2 → R v H2) → tb σ H' R) (k : ∀ v H', Φ v H' → Q v H') : tIf tt ta tb σ H Q := by
  refine ht _ fun H' s => ?_
  cases c with
  | true => exact iteT (h1 rfl H' s Q k)
  | false => exact iteF (h2 rfl H' s Q k)
end Gn
set_option Elab.async false
set_option linter.all false
set_option maxRecDepth 100000
set_option maxHeartbeats 4000000
namespace Gn
open PySem PySem.Spec PyProof.Rows L2
/-! set(l) of up to a thousand ints, and how many unlike ones there are -/
def rSetN (K : PySem.W.Frag) (w : World) : List V → Hp → VK → Prop := fun xs H Q => ∃ (l : Addr) (ns : List Int), xs = [.ref l] ∧ SqL K H l (ns.map V.int) ∧ ns.length ≤ 1000 ∧ ∀ p (ks : List Int), H p = none → ks.Nodup → ks.length ≤ ns.length → (∀ k, k ∈ ks ↔ k ∈ ns) → Q (.ref p) (upd H p (SetO w p (fun j => decide (j ∈ ns)) ks.length))
theorem cr_setN {X : Cx} (hc : X.calm = true) : CallR X (.type "set") (rSetN X.K X.w) := by
  intro pins s σ H xs us Q I r h
  obtain ⟨l, ns, rfl, hl, hf, q⟩ := h
  rw [Vals.ref1 r]
  obtain ⟨its, rv, pl, hz⟩ := I.list hl
  refine set_of_ints ns (I.ok.hd hc) pl.isList (by simpa using intsAre_of rv) (by unfold scanBound; omega) fun s2 hs => ?_
  obtain ⟨h', tk, c, rfl, hS, hcn, k⟩ := hs
  obtain ⟨o, es, ep, t, ho, hx, hd, g, nd, hm, hb, hft, hn, hr⟩ := id hS
  have len : (es.toList.map keyOf).length = c := by rw [List.length_map, Array.length_toList]; exact hn
  have z := q s.heap.objs.size (es.toList.map keyOf) (I.hok.fresh (Nat.le_refl _)) nd (by rw [len]; exact hcn) fun j => by rw [← hm j, decide_eq_true_eq]
  rw [len] at z
  exact ⟨.ref s.heap.objs.size, _, I.laid (t' := tk) k (Nat.le_refl _) (setO_new hS), rfl, z⟩
end Gn
set_option Elab.async false
set_option linter.all false
set_option maxRecDepth 100000
set_option maxHeartbeats 4000000
/-! for i, x in enumerate(a tuple); xs.extend(a tuple) -/
namespace Gn
open PySem PySem.Spec PyProof.Rows L2
abbrev enNew (a : Addr) : Obj := { cls := .type "enumerate", data := .fields #[.none, .bool false, .ref a, rawInt 0, .none, .none] }
theorem enum_meets1 {v : Value} {o : Obj} {F : Heap → Prop} (B : Begins v o F) : Meets (Builtin.«enumerate.__new__» ⟨[.type "enumerate", v], []⟩) (fun _ R s => F s.heap ∧
    R (.ok (.ret (.ref (s.heap.push o).objs.size))) { s with heap := (s.heap.push o).push (enNew s.heap.objs.size) }) := by
  refine .of_wp fun P w A R s h => ?_
  obtain ⟨h0, gs, dr, tk, sys⟩ := s
  have isSub := sub_enumerate
  have it : ∀ {A' : Around} {E Q : Value → Shared → Prop}, Q (.ref h0.objs.size) ⟨h0.push o, gs, dr, tk, sys⟩ → wpAny (model P w) A' (pyIter v) Q E ⟨h0, gs, dr, tk, sys⟩ := fun k => B.iter P w _ _ ⟨h0, gs, dr, tk, sys⟩ _ h.1 k
  replace h := h.2
  wp_walk using it
  refine wpAny_stack_any fun frames => wpAny_pure ?_
  split
  · rename_i cl _ _ _ _ _
    cases (cl == Value.type "enumerate") <;> (wp_walk using it; exact ⟨_, rfl, h⟩)
  · wp_walk using it
    exact ⟨_, rfl, h⟩
section
variable {P : Program} {w : World} {A : Around} {E : Value → Shared → Prop} {s : Shared}
theorem enum_made {v : Value} {o : Obj} {Fh : Heap → Prop} {Q : Value → Shared → Prop} (B : Begins v o Fh) (hF : Fh s.heap)
    (k : ∀ h', IsEnum h' (s.heap.objs.size + 1) s.heap.objs.size 0 .none → h'.get? s.heap.objs.size = some o → (∀ b u, s.heap.get? b = some u → h'.get? b = some u) → Q (.ref (s.heap.objs.size + 1)) { s with heap := h' }) :
    wpAny (model P w) A (call (.type "enumerate") [v]) Q E s := by
  refine callType_new PySem.F.called_enumerate (by decide) (PySem.F.typeCall_enumerate_1 _) (PySem.F.newCall_enumerate_1 _) (fun obj => PySem.F.args_object_init_2 obj _) PySem.F.entry_enumerate_new (enum_meets1 B) ⟨hF, ?_⟩
  have sz : (s.heap.push o).objs.size = s.heap.objs.size + 1 := Heap.size_push ..
  have at1 := Heap.get?_push_size (s.heap.push o) (o := enNew s.heap.objs.size) rfl
  rw [sz] at at1
  show _ ∧ _
  rw [sz]
  exact ⟨⟨_, at1, rfl⟩, k _ at1 (Heap.get?_push_of_some _ (Heap.get?_push_size _ B.free)) fun b u e => Heap.get?_push_of_some _ (Heap.get?_push_of_some _ e)⟩
end
/-- the tuple's items in new pairs with their places -/
def ItE (K : PySem.W.Frag) (a : Addr) : It :=
  ⟨fun i H => ∃ xs x, SqT K H a xs ∧ xs[i]? = some x, fun i H v G => ∃ r x, v = .ref r ∧ H r = none ∧ G = upd H r (.tup [.int (i : Nat), x]) ∧ ∀ xs, SqT K H a xs → xs[i]? = some x, fun i H => ∃ xs : List V, SqT K H a xs ∧ xs.length ≤ i⟩
theorem turn_en {P : Program} {w : World} {K : PySem.W.Frag} {es : List Expr} {kk : Nat} {tp : Pos} (a e it : Addr) (hea : e ≠ a) (hai : a ≠ it) :
    Turn P w K (.Tuple es kk tp) (ItE K a) [e, it] e (fun i h => (∃ old, IsEnum h e it ((i : Nat) : Int) old) ∧ h.IsTupleIter it a i ∧ e ≠ it) where
  mem := List.mem_cons_self
  obj := fun i h st b hb => by
    obtain ⟨⟨old, he⟩, ⟨o, ho, _, hd⟩, _⟩ := st
    simp only [List.mem_cons, List.not_mem_nil, or_false] at hb
    rcases hb with rfl | rfl
    · exact ⟨_, he, fun v z => nomatch z⟩
    · exact ⟨o, ho, fun v z => by rw [hd] at z; cases z⟩
  keep := fun i h h' st k => by
    obtain ⟨⟨old, he⟩, hi, ne⟩ := st
    exact ⟨⟨old, k e List.mem_cons_self _ he⟩, hi.at fun o z => k it (List.mem_cons_of_mem _ List.mem_cons_self) o z, ne⟩
  item := by
    intro X eP ew eK hc i pins s σ H E I off st go
    subst eP ew eK
    obtain ⟨⟨old, he⟩, hi, ne⟩ := st
    obtain ⟨xs, x, hs, hx⟩ := go
    obtain ⟨its, rv, tp, hz⟩ := I.tuple hs
    obtain ⟨u, hu, ru⟩ := rv.get hx
    have elt : e < s.heap.objs.size := Heap.lt_size he
    have ilt : it < s.heap.objs.size := by obtain ⟨_, z, _⟩ := hi; exact Heap.lt_size z
    have lt : i < its.toArray.size := by rw [List.size_toArray]; exact (List.getElem?_eq_some_iff.mp hu).1
    have dr : Draws X.prog X.w X.A.in1 it [it, a] its.toArray.size (fun i v => its.toArray[i]? = some v) (fun i h => h.IsTupleIter it a i ∧ h.IsTuple a its.toArray) := Draws.tuple (show X.A.in1.handled = none from I.ok.hd hc) it a hai its.toArray
    refine wpAny_pyNext_enum_itemD dr he ⟨hi, tp⟩ lt ne (by simp only [List.mem_cons, List.not_mem_nil, or_false, not_or]; exact ⟨ne, hea⟩) fun y h1 tk hy out st1 new sz k => ?_
    have ey : y = u := by
      have z : its.toArray[i]? = some u := by simpa using hu
      rw [z] at hy
      exact (Option.some.inj hy).symm
    subst ey
    refine ⟨_, rfl, wpAny_letOwnedTupleGo_enum (s := { s with heap := h1, toks := tk + 1 }) out fun h2 he2 sb => ?_⟩
    have new2 : h2.get? s.heap.objs.size = some { cls := .type "tuple", data := .seq #[.int i tk, y] } := (sb.2 _ (Nat.ne_of_gt elt)).trans new
    have ok : ObjOk X.prog X.w (upd H s.heap.objs.size (.tup [.int (i : Nat), x])) h2 s.heap.objs.size (.tup [.int (i : Nat), x]) :=
      ⟨by show 2 ≤ sizeLine; decide, [.int i tk, y], .cons ⟨_, rfl⟩ (.cons ru .nil), ⟨_, new2, rfl, _, rfl⟩⟩
    have I2 : Inv X pins σ (upd H s.heap.objs.size (.tup [.int (i : Nat), x])) { s with heap := h2, toks := tk + 1 } :=
      I.turnedNew (ch := [e, it]) (fun b ob hb z => (sb.2 b (fun q => hb (by simp [q]))).trans (k b ob (fun q => hb (by simp [q])) (fun q => hb (by simp [q])) z)) off (Nat.le_refl _) ok
    refine ⟨.ref s.heap.objs.size, _, I2, rfl, ⟨_, x, rfl, I.hok.fresh (Nat.le_refl _), rfl, fun ys hy => by rw [I.tuple_inj hy hs]; exact hx⟩, ⟨⟨y, ?_⟩, st1.1.at fun o z => (sb.2 it (Ne.symm ne)).trans z, ne⟩, fun b hb => ?_⟩
    · rw [show ((i + 1 : Nat) : Int) = (i : Int) + 1 by omega]
      exact he2
    · have lt : b < s.heap.objs.size := by
        simp only [List.mem_cons, List.not_mem_nil, or_false] at hb
        rcases hb with rfl | rfl <;> assumption
      rw [upd_ne (Nat.ne_of_lt lt)]
      exact (off b hb).1
  done := by
    intro X eP ew eK hc i pins s σ H E I off st stop
    subst eP ew eK
    obtain ⟨⟨old, he⟩, hi, ne⟩ := st
    obtain ⟨xs, hs, hx⟩ := stop
    obtain ⟨its, rv, tp, hz⟩ := I.tuple hs
    obtain ⟨f0, f1, f2, f3, f4, f5⟩ := off it (List.mem_cons_of_mem _ List.mem_cons_self)
    have ln := rv.length
    have hT : s.TypeIs (.ref e) "enumerate" := ⟨_, he, rfl⟩
    unfold pyNext
    refine wpAny_bind (wpAny_attempt (wpAny_callSpecial?_slot (name := Str.ofString "__next__") hT PySem.F.slot_enumerate_next (wpAny_call_entry PySem.F.slot_enumerate_next hT PySem.F.entry_enumerate_next ?_ (PySem.F.args_enumerate_next_1 _))))
    show wpAny _ _ (field (.ref e) 2 >>= _) _ _ _
    refine wpAny_bind (wpAny_field he rfl (x := .ref it) rfl (wpAny_bind (PySem.wpAny_nextOf_tuple_end (I.ok.hd hc) hi tp (by simp; omega) fun h' x eb hx' => ?_)))
    obtain ⟨o, ho, hcl⟩ := hx'
    exact wpAny_bind (wpAny_isInstance (T := "StopIteration") (b := true) ⟨o, ho, hcl⟩ isSubtype_stop (wpAny_pure ⟨rfl, I.turned (t' := s.toks) (fun b ob hb z => eb b ob hb z) f0 f1 f3 f4 f5⟩))
  self := fun A i s Q E st h => by
    obtain ⟨⟨_, he⟩, _⟩ := st
    exact wpAny_pyIter_enum he h
def iEnumT (K : PySem.W.Frag) (ta : TA) : TI := fun σ H R => ta σ H fun vs G => ∃ a xs, vs = [.ref a] ∧ SqT K G a xs ∧ R (ItE K a) G
theorem pi_enumT {X : Cx} {e : Expr} {ta : TA} {p pos tp : Pos} {es : List Expr} {kk : Nat} (hg : Gl X "enumerate") (hm : X.mg "enumerate" = none) (ha : PA X [e] ta) (hs : starEach [e] X.env = [(false, eval e X.env)] := by rfl) :
    PI X (.Tuple es kk tp) (.Call (.Name "enumerate" p) [e] [] pos) (iEnumT X.K ta) := by
  constructor
  intro pins s σ H R I h
  refine Call_ (ld_blt I hg hm boot_enumerate (PyProof.Rows.callWith_type1 (thn (ha.run pos pins s σ H _ I h) fun us s1 ⟨vs, H1, I1, r1, q1⟩ => ?_) hs rfl))
  obtain ⟨a, xs, rfl, hq, q⟩ := q1
  rw [Vals.ref1 r1]
  obtain ⟨its, rv, tp, hz⟩ := I1.tuple hq
  have alt : a < s1.heap.objs.size := by obtain ⟨o, z, _⟩ := tp; exact Heap.lt_size z
  refine enum_made (begins_tuple a its.toArray) tp fun h' he hit k => wpAny_pyIter_enum he ?_
  have I2 : Inv X pins σ H1 { s1 with heap := h' } := I1.kept (t' := s1.toks) k
  refine ⟨s1.heap.objs.size + 1, [s1.heap.objs.size + 1, s1.heap.objs.size], _, _, H1, rfl, I2, turn_en a (s1.heap.objs.size + 1) s1.heap.objs.size (Nat.ne_of_gt (Nat.lt_succ_of_lt alt)) (Nat.ne_of_lt alt), ⟨⟨.none, he⟩, ⟨_, hit, rfl, rfl⟩, Nat.succ_ne_self _⟩, fun b hb => ?_, q⟩
  have le : s1.heap.objs.size ≤ b := by
    simp only [List.mem_cons, List.not_mem_nil, or_false] at hb
    rcases hb with rfl | rfl
    · exact Nat.le_succ _
    · exact Nat.le_refl _
  exact I1.fpOk le (I1.hok.fresh le)
/-- the loop over it -/
theorem for_en {K : PySem.W.Frag} {a : Addr} {xs : List V} {g : TG} {tb : TS} {D : Ends} {σ : L2.St} {H : Hp} (Pv : Nat → L2.St → Hp → Prop) (h0 : Pv 0 σ H) (hq : ∀ i σ H, Pv i σ H → SqT K H a xs)
    (hs : ∀ (i : Nat) (x : V) (r : Addr) (σ : L2.St) (H : Hp), xs[i]? = some x → Pv i σ H → H r = none → g (.ref r) σ (upd H r (.tup [.int (i : Nat), x])) fun σ2 H2 => tb { D with nx := Pv (i + 1), ct := Pv (i + 1), bk := D.nx } σ2 H2) (hd : ∀ σ H, Pv xs.length σ H → D.nx σ H) :
    ∃ W : Nat → Nat → L2.St → Hp → Prop, (∃ m, W 0 m σ H) ∧ ∀ i m σ H, W i m σ H →
      ((ItE K a).stop i H ∧ D.nx σ H) ∨ ((ItE K a).go i H ∧ ∃ N : L2.St → Hp → Prop, (∀ σ' H', N σ' H' → ∃ m', m' < m ∧ W (i + 1) m' σ' H') ∧ ∀ v H', (ItE K a).yld i H v H' → g v σ H' fun σ2 H2 => tb { D with nx := N, ct := N, bk := D.nx } σ2 H2) := by
  refine ⟨fun i m σ H => m = xs.length - i ∧ i ≤ xs.length ∧ Pv i σ H, ⟨_, rfl, Nat.zero_le _, h0⟩, ?_⟩
  rintro i m σ H ⟨rfl, hi, p⟩
  have qx := hq i σ H p
  by_cases hlt : i < xs.length
  · have hx : xs[i]? = some xs[i] := List.getElem?_eq_getElem hlt
    refine .inr ⟨⟨xs, _, qx, hx⟩, Pv (i + 1), fun σ' H' p' => ⟨xs.length - (i + 1), by omega, rfl, hlt, p'⟩, fun v H' y => ?_⟩
    obtain ⟨r, x, rfl, hr, rfl, f1⟩ := y
    exact hs i x r σ H (f1 xs qx) p hr
  · have e : i = xs.length := by omega
    subst e
    exact .inl ⟨⟨xs, qx, Nat.le_refl _⟩, hd σ H p⟩
/-- xs.extend(t) -/
theorem ext_meets (l : Addr) (items : Array Value) (n : Nat) (b : Addr) (jt : Array Value) (n2 : Nat) (dct : Option Addr) (sl : Array (Option Value)) (hs0 : ¬(!items.isEmpty && Builtin.List.listTooLong (items.size + jt.size)) = true) (hs1 : items.size ≤ sizeLine) (hs2 : items.size + jt.size ≤ sizeLine + 1) :
    Meets (Builtin.«list.extend» ⟨[.ref l, .ref b], []⟩) (fun _ R s => s.heap.get? l = some { cls := .type "list", data := .seq items n } ∧ s.heap.get? b = some { cls := .type "tuple", dict := dct, data := .seq jt n2, slots := sl } ∧
      R (.ok (.ret Value.none)) { s with heap := s.heap.update l (Obj.mapSeq fun x => x ++ jt), toks := s.toks }) := by
  refine .of_wp fun P w A R s h => ?_
  obtain ⟨hp, g, d, tk, os⟩ := s
  obtain ⟨hl, hb, k⟩ := h
  have f1 := AutoSeq1.sub_tuple_tuple
  have f2 := AutoSeq1.sub_list_list
  have f3 := AutoSeq1.sub_tuple_list
  have f4 := AutoSeq1.sub_list_tuple
  have z : (items ++ jt).size ≤ sizeLine + 1 := by rw [Array.size_append]; exact hs2
  wp_walk using (wpAny_updateSeq hl rfl (hz := hs1) (_hz' := z)), AutoSeq1.wpAny_loadPart' hl, AutoSeq1.wpAny_loadPart' hb
  exact ⟨_, rfl, k⟩
def rExtT (K : PySem.W.Frag) : V → List V → Hp → VK → Prop := fun x vs H Q => ∃ l b xs zs, x = .ref l ∧ vs = [.ref b] ∧ H l = some (.lst xs) ∧ SqT K H b zs ∧ xs.length + zs.length ≤ sizeLine ∧ Q .non (upd H l (.lst (xs ++ zs)))
theorem mt_extT {X : Cx} : MtM X "list.extend" (rExtT X.K) := by
  intro pins s σ H x vs v us Q I rx rv h
  obtain ⟨l, b, xs, zs, rfl, rfl, hl, hb, hz, q⟩ := h
  cases rx
  obtain ⟨u, rfl, ru⟩ := rv.one
  cases ru
  obtain ⟨z, its, n, r, len, e⟩ := I.lstM hl
  obtain ⟨jts, rj, tp, _⟩ := I.tuple hb
  obtain ⟨⟨oc, od, odt, osl⟩, e2, ec, n2, ed⟩ := tp
  obtain rfl : oc = .type "tuple" := ec
  obtain rfl : odt = .seq jts.toArray n2 := ed
  have lj := rj.length
  have sz : its.toArray.size + jts.toArray.size ≤ sizeLine := by rw [List.size_toArray, List.size_toArray]; omega
  have long : ¬ (!its.toArray.isEmpty && Builtin.List.listTooLong (its.toArray.size + jts.toArray.size)) = true := by
    rw [notLongL sz, Bool.and_false]
    exact Bool.false_ne_true
  refine call_meets PySem.F.slot_list_extend ⟨_, e, rfl⟩ PySem.F.entry_list_extend (PySem.F.args_list_extend_2 _ _) (ext_meets l its.toArray n b jts.toArray n2 od osl long (by rw [List.size_toArray]; omega) (by omega)) ⟨e, e2, ?_⟩
  refine ⟨.non, _, I.lset (its' := its ++ jts) hl e (by simp) (r.append rj) ?_, rfl, q⟩
  rw [List.length_append]
  omega
end Gn
set_option Elab.async false
set_option linter.all false
set_option maxRecDepth 100000
set_option maxHeartbeats 4000000
/-! xs[::2], xs[1::2] of a list; math.lcm -/
namespace Gn
open PySem PySem.Spec PyProof.Rows L2
/-- each second one -/
def evens {α : Type} : List α → List α
  | [] => []
  | [a] => [a]
  | a :: _ :: r => a :: evens r
theorem evens_map {α β : Type} (f : α → β) : ∀ l : List α, evens (l.map f) = (evens l).map f
  | [] => rfl
  | [_] => rfl
  | a :: b :: r => congrArg (f a :: ·) (evens_map f r)
theorem evens_pick {α : Type} : ∀ l : List α, ((List.range ((l.length + 1) / 2)).map fun (k : Nat) => (0 + 2 * (k : Int)).toNat).filterMap (fun i => l[i]?) = evens l
  | [] => by simp [evens]
  | [a] => by simp [evens]
  | a :: b :: r => by
    have ih := evens_pick r
    have e : (r.length + 1 + 1 + 1) / 2 = (r.length + 1) / 2 + 1 := by omega
    show ((List.range ((r.length + 1 + 1 + 1) / 2)).map _).filterMap _ = a :: evens r
    rw [e, List.range_succ_eq_map, List.map_cons, List.map_map]
    show a :: List.filterMap _ (List.map _ _) = _
    congr 1
    rw [← ih, List.filterMap_map, List.filterMap_map]
    refine congrArg (fun f => List.filterMap f _) (funext fun k => ?_)
    show (a :: b :: r)[(0 + 2 * ((k + 1 : Nat) : Int)).toNat]? = r[(0 + 2 * (k : Int)).toNat]?
    rw [show (0 + 2 * ((k + 1 : Nat) : Int)).toNat = (0 + 2 * (k : Int)).toNat + 1 + 1 by omega]
    rfl
theorem evens_len {α : Type} : ∀ l : List α, (evens l).length ≤ l.length
  | [] => Nat.le_refl _
  | [_] => Nat.le_refl _
  | a :: b :: r => by have := evens_len r; show (evens r).length + 1 ≤ r.length + 1 + 1; omega
theorem pick_0 (xs : Array Value) : slicePick xs none none (some 2) = (evens xs.toList).toArray := by
  unfold slicePick
  have e : sliceBounds none none (some 2) xs.size = (0, (xs.size : Int), 2) := rfl
  rw [e]
  congr 1
  rw [← evens_pick]
  show List.filterMap _ (List.map _ (List.range (if (0 : Int) < (xs.size : Int) then ((xs.size : Int) - 0 + 2 - 1) / 2 else 0).toNat)) = _
  have c : (if (0 : Int) < (xs.size : Int) then ((xs.size : Int) - 0 + 2 - 1) / 2 else 0).toNat = (xs.toList.length + 1) / 2 := by
    rw [Array.length_toList]; split <;> omega
  rw [c]
  refine congrArg (fun f => List.filterMap f _) (funext fun i => ?_)
  exact (Array.getElem?_toList).symm
theorem pick_1 (xs : Array Value) (hx : 1 ≤ xs.size) : slicePick xs (some 1) none (some 2) = (evens (xs.toList.drop 1)).toArray := by
  unfold slicePick
  have e : sliceBounds (some 1) none (some 2) xs.size = (1, (xs.size : Int), 2) := by
    show ((if (2 : Int) > 0 then max 0 (min (if (1 : Int) < 0 then 1 + (xs.size : Int) else 1) (xs.size : Int)) else _), _, _) = _
    rw [if_pos (by decide), if_neg (by decide)]
    have : max 0 (min 1 (xs.size : Int)) = 1 := by omega
    rw [this]; rfl
  rw [e]
  congr 1
  rw [← evens_pick]
  show List.filterMap _ (List.map _ (List.range (if (1 : Int) < (xs.size : Int) then ((xs.size : Int) - 1 + 2 - 1) / 2 else 0).toNat)) = _
  have c : (if (1 : Int) < (xs.size : Int) then ((xs.size : Int) - 1 + 2 - 1) / 2 else 0).toNat = ((xs.toList.drop 1).length + 1) / 2 := by
    rw [List.length_drop, Array.length_toList]; split <;> omega
  rw [c, List.filterMap_map, List.filterMap_map]
  refine congrArg (fun f => List.filterMap f _) (funext fun k => ?_)
  show xs[(1 + 2 * (k : Int)).toNat]? = (xs.toList.drop 1)[(0 + 2 * (k : Int)).toNat]?
  rw [List.getElem?_drop, Array.getElem?_toList]
  congr 1
  omega
theorem pick_1e (xs : Array Value) (hx : xs.size = 0) : slicePick xs (some 1) none (some 2) = (evens (xs.toList.drop 1)).toArray := by
  have e : xs = #[] := Array.eq_empty_of_size_eq_zero hx
  subst e; rfl
section
variable {X : Cx}
theorem vals_evens : ∀ {xs : List V} {us : List Value}, Vals xs us → Vals (evens xs) (evens us)
  | [], [], _ => .nil
  | [_], [_], h => h
  | _ :: _ :: _, _ :: _ :: _, .cons a (.cons _ c) => .cons a (vals_evens c)
  | [], _ :: _, h => nomatch h
  | _ :: _, [], h => nomatch h
  | [_], _ :: _ :: _, .cons _ h => nomatch h
  | _ :: _ :: _, [_], .cons _ h => nomatch h
def tEv (K : PySem.W.Frag) (off : Nat) (te : TE) : TE := fun σ H Q => te σ H fun x H1 => ∃ a xs, x = .ref a ∧ SqL K H1 a xs ∧ ∀ p, H1 p = none → Q (.ref p) (upd H1 p (.lst (evens (xs.drop off))))
theorem ev_core {lo : Option Expr} {tl : TO} {l : Option Int} (hl : PO X lo tl) {e : Expr} {te : TE} {k1 : Nat} {p1 p3 pos : Pos} (he : PE X e te) (hw : ∀ σ H (R : Option Int → Hp → Prop), R l H → tl σ H R) (off : Nat) (pk : ∀ xs : Array Value, slicePick xs l none (some 2) = (evens (xs.toList.drop off)).toArray) :
    PE X (.Subscript e (.Slice lo none (some (.Constant (.int 2) k1 p1)) p3) pos) (tEv X.K off te) := by
  refine ⟨fun pins s σ H Q I h => ?_⟩
  refine Subscript_ (thn (he.run pins s σ H _ I h) fun v s1 ⟨x, H1, I1, r1, q1⟩ => ?_)
  obtain ⟨a, xs, ex, hx, q⟩ := q1
  subst ex
  cases r1
  have hst : PO X (some (.Constant (.int 2) k1 p1)) (tPart (tC (.int 2))) := po_some pe_int
  refine wpAny_Slice (thn (hl.run pins s1 σ H1 (fun o H2 => o = l ∧ H2 = H1) I1 (hw _ _ _ ⟨rfl, rfl⟩)) fun vl s2 ⟨l', H2, I2, pl, el, e2⟩ => ?_)
  subst el e2
  refine thn (po_none.run pins s2 σ H2 (fun o H3 => o = none ∧ H3 = H2) I2 ⟨rfl, rfl⟩) fun vu s3 ⟨u, H3, I3, pu, eu, e3⟩ => ?_
  subst eu e3
  refine thn (hst.run pins s3 σ H3 (fun o H4 => o = some 2 ∧ H4 = H3) I3 ⟨2, rfl, rfl, rfl⟩) fun vs s4 ⟨o, H4, I4, ps, eo, e4⟩ => ?_
  subst eo e4
  have I5 : Inv X pins σ H4 { s4 with heap := s4.heap.push { cls := .type "slice", data := .fields #[vl, vu, vs] } } := I4.kept (t' := s4.toks) fun b ob q => Heap.get?_push_of_some _ q
  obtain ⟨its, r, ht, hz⟩ := I5.list hx
  have hlen := r.length
  show wpAny (model X.prog X.w) X.A (subscriptTail e (.Slice lo none (some (.Constant (.int 2) k1 p1)) p3) (.ref a) (.ref s4.heap.objs.size)) (EP X pins σ Q) X.xe { s4 with heap := s4.heap.push { cls := .type "slice", data := .fields #[vl, vu, vs] } }
  refine tail_any (ops := [.ref a, .ref s4.heap.objs.size]) ht.isList.typeIs (slot_list_getitem.lookup) ?_ (by with_unfolding_all rfl)
  refine wpAny_getItem_list_slice ht.isList (Heap.IsSliceOf.new _ vl vu vs) pl pu ps (by simp) ?_ (by rw [List.size_toArray]; omega)
  rw [pk]
  refine ⟨.ref _, _, I5.laid (t' := s4.toks) (o := .lst (evens (xs.drop off))) (fun b ob q => Heap.get?_push_of_some _ q) (Nat.le_refl _) ?_, rfl, q _ (I5.hok.fresh (Nat.le_refl _))⟩
  exact ⟨Nat.le_trans (evens_len _) (Nat.le_trans (by rw [List.length_drop]; omega) hz), _, 0, vals_evens (Vals.drop off r), Heap.get?_push_size _ rfl⟩
/-- xs[::2] -/
theorem pe_ev0 {e : Expr} {te : TE} {k1 : Nat} {p1 p3 pos : Pos} (he : PE X e te) : PE X (.Subscript e (.Slice none none (some (.Constant (.int 2) k1 p1)) p3) pos) (tEv X.K 0 te) :=
  ev_core (tl := tNoPart) (l := none) po_none he (fun _ _ _ h => h) 0 fun xs => pick_0 xs
/-- xs[1::2] -/
theorem pe_ev1 {e : Expr} {te : TE} {k0 k1 : Nat} {p0 p1 p3 pos : Pos} (he : PE X e te) : PE X (.Subscript e (.Slice (some (.Constant (.int 1) k0 p0)) none (some (.Constant (.int 2) k1 p1)) p3) pos) (tEv X.K 1 te) :=
  ev_core (tl := tPart (tC (.int 1))) (l := some 1) (po_some pe_int) he (fun _ _ _ h => ⟨1, rfl, h⟩) 1 fun xs => by
    by_cases z : xs.size = 0
    · exact pick_1e xs z
    · exact pick_1 xs (by omega)
/-- math.lcm of two -/
def rLcm : List V → Hp → VK → Prop := fun vs H Q => ∃ a b : Nat, vs = [.int a, .int b] ∧ a < 2 ^ 64 ∧ b < 2 ^ 64 ∧ Q (.int ((Nat.lcm a b : Nat) : Int)) H
theorem cr_lcm : CallR X (.builtin "math.lcm") rLcm := by
  intro pins s σ H vs us Q I r h
  obtain ⟨a, b, rfl, la, lb, q⟩ := h
  obtain ⟨t, u, rfl⟩ := Vals.int2 r
  have e : ((((Nat.lcm 1 (a : Int).natAbs).lcm (b : Int).natAbs : Nat) : Int)) = ((Nat.lcm a b : Nat) : Int) := by
    rw [PySem.W.mc_lcm_one, Int.natAbs_natCast, Int.natAbs_natCast]
  refine PySem.W.mg_lcm_v (by rw [Int.natAbs_natCast]; exact la) (by rw [Int.natAbs_natCast]; exact lb) e ?_ ⟨.int _, H, I.tok _, ⟨_, rfl⟩, q⟩
  rw [Int.natAbs_natCast]
  have l1 := PySem.W.mc_lcm_le a b
  have l2 : a * b < 2 ^ 64 * 2 ^ 64 := Nat.mul_lt_mul'' la lb
  have l3 : a.lcm b < 2 ^ 128 := Nat.lt_of_le_of_lt l1 (Nat.lt_of_lt_of_le l2 (by decide))
  have : (a.lcm b).log2 < 128 := by
    by_cases z : a.lcm b = 0
    · rw [z]; decide
    · exact (Nat.log2_lt z).mpr l3
  exact Nat.lt_of_lt_of_le this (by decide)
end
end Gn
set_option Elab.async false
set_option linter.all false
set_option maxRecDepth 100000
set_option maxHeartbeats 8000000
/-! {e for a in xs for b in ys if t}: a set of ints -/
namespace Gn
open PySem PySem.Spec PyProof.Rows L2
abbrev SC (el t0 i0 t1 i1 c1 : Expr) (sc : Scope) (pos : Pos) : Expr := .SetComp el [⟨t0, i0, [], 0⟩, ⟨t1, i1, [c1], 0⟩] sc pos
section
variable {P : Program} {w : World} {A : Around} {R : Result → Shared → Prop} {s : Shared} {el t0 i0 t1 i1 c1 : Expr} {sc : Scope} {pos : Pos} {it acc : Value} {env : Env}
/-- what is raised is noted first -/
abbrev Nb (P : Program) (w : World) (A : Around) (env : Env) (R : Result → Shared → Prop) : Value → Shared → Prop := notedBy (model P w) A env fun x t => R (.error x) t
theorem sc_turn0 : compTurn (SC el t0 i0 t1 i1 c1 sc pos) 0 it acc env = (do
      standAt i0.pos
      match ← pyNext it with
      | none => pure (.done .next)
      | some x =>
        letOwnedTupleGo t0 it x
        assign t0 env x
        let y ← eval i1 env
        standAt i1.pos
        let y ← foldedSetIterable i1 env y
        let _ ← runOwn (.compStart (SC el t0 i0 t1 i1 c1 sc pos) 1 (← holding [y] (pyIter y)) acc env) env
        again (.compLoop (SC el t0 i0 t1 i1 c1 sc pos) 0 it acc env)) := by rfl
theorem sc_turn1 : compTurn (SC el t0 i0 t1 i1 c1 sc pos) 1 it acc env = (do
      standAt i1.pos
      match ← pyNext it with
      | none => pure (.done .next)
      | some x =>
        letOwnedTupleGo t1 it x
        assign t1 env x
        let mut go := true
        for c in [c1] do
          if go then go ← isTrue c env (eval c env)
        if go then
          (do let y ← eval el env; standAt el.pos; let _ ← call (.builtin "set.add") [acc, y])
        again (.compLoop (SC el t0 i0 t1 i1 c1 sc pos) 1 it acc env)) := by rfl
theorem sc_loop0 (fs : ∀ x, foldedSetIterable i1 env x = pure x) (J : Nat → Shared → Prop)
    (step : ∀ n t, J n t → wpAny (model P w) A (pyNext it) (fun r t1' => match r with
      | none => R (.ok .next) t1'
      | some x => wpAny (model P w) A (letOwnedTupleGo t0 it x) (fun _ t2 => wpAny (model P w) A (assign t0 env x) (fun _ t3 =>
          wpAny (model P w) A (eval i1 env) (fun y t4 => wpAny (model P w) A (pyIter y) (fun jt t5 =>
            codeAny (model P w) A (.compStart (SC el t0 i0 t1 i1 c1 sc pos) 1 jt acc env) (fun r t6 => (∃ f, r = .ok f) ∧ ∃ m, m < n ∧ J m t6) t5) (Nb P w A env R) t4) (Nb P w A env R) t3) (Nb P w A env R) t2) (Nb P w A env R) t1') (Nb P w A env R) t)
    (n : Nat) (h : J n s) : codeAny (model P w) A (.compLoop (SC el t0 i0 t1 i1 c1 sc pos) 0 it acc env) R s := by
  refine codeAny_loop rfl J (fun n t hJ => ?_) n h
  show wpAny _ A ((compTurn (SC el t0 i0 t1 i1 c1 sc pos) 0 it acc env).onRaise (fun x => do noteFrame x env; theTreesLotGoes x)) _ _ t
  refine wpAny_noted ?_
  rw [sc_turn0]
  refine wpAny_bind (wpAny_standAt (wpAny_bind (wpAny_mono (step n t hJ) (fun r t1' k1 => ?_) fun _ _ z => z)))
  cases r with
  | none => exact wpAny_pure k1
  | some x =>
    refine wpAny_bind (wpAny_mono k1 (fun _ t2 k2 => wpAny_bind (wpAny_mono k2 (fun _ t3 k3 => wpAny_bind (wpAny_mono k3 (fun y t4 k4 => ?_) fun _ _ z => z)) fun _ _ z => z)) fun _ _ z => z)
    refine wpAny_bind (wpAny_standAt (wpAny_bind (wpAny_of_eq (fs y) (wpAny_bind (wpAny_holding (wpAny_mono k4 (fun jt t5 k5 => ?_) fun _ _ z => z))))))
    refine wpAny_bind (wpAny_runOwn ?_)
    rw [Around.mark_none]
    refine codeAny_mono k5 fun r t6 hr => ?_
    obtain ⟨⟨f, rfl⟩, hr⟩ := hr
    exact wpAny_pure ⟨rfl, hr⟩
theorem sc_loop1 (J : Nat → Shared → Prop)
    (step : ∀ n t, J n t → wpAny (model P w) A (pyNext it) (fun r t1' => match r with
      | none => R (.ok .next) t1'
      | some x => wpAny (model P w) A (letOwnedTupleGo t1 it x) (fun _ t2 => wpAny (model P w) A (assign t1 env x) (fun _ t3 =>
          wpAny (model P w) A (forIn [c1] true fun c r => if r = true then do let go ← isTrue c env (eval c env); pure (ForInStep.yield go) else pure (ForInStep.yield r)) (fun go t4 =>
            if go = true then wpAny (model P w) A (eval el env) (fun y t5 => wpAny (model P w) A (call (.builtin "set.add") [acc, y]) (fun _ t6 => ∃ m, m < n ∧ J m t6) (Nb P w A env R) t5) (Nb P w A env R) t4
            else ∃ m, m < n ∧ J m t4) (Nb P w A env R) t3) (Nb P w A env R) t2) (Nb P w A env R) t1') (Nb P w A env R) t)
    (n : Nat) (h : J n s) : codeAny (model P w) A (.compLoop (SC el t0 i0 t1 i1 c1 sc pos) 1 it acc env) R s := by
  refine codeAny_loop rfl J (fun n t hJ => ?_) n h
  show wpAny _ A ((compTurn (SC el t0 i0 t1 i1 c1 sc pos) 1 it acc env).onRaise (fun x => do noteFrame x env; theTreesLotGoes x)) _ _ t
  refine wpAny_noted ?_
  rw [sc_turn1]
  refine wpAny_bind (wpAny_standAt (wpAny_bind (wpAny_mono (step n t hJ) (fun r t1' k1 => ?_) fun _ _ z => z)))
  cases r with
  | none => exact wpAny_pure k1
  | some x =>
    refine wpAny_bind (wpAny_mono k1 (fun _ t2 k2 => wpAny_bind (wpAny_mono k2 (fun _ t3 k3 => wpAny_bind (wpAny_mono k3 (fun go t4 k4 => ?_) fun _ _ z => z)) fun _ _ z => z)) fun _ _ z => z)
    cases go with
    | false => exact wpAny_pure ⟨rfl, k4⟩
    | true =>
      exact wpAny_bind (wpAny_bind (wpAny_mono k4 (fun y t5 k5 => wpAny_bind (wpAny_standAt (wpAny_bind (wpAny_mono k5 (fun _ t6 k6 => wpAny_pure (wpAny_pure ⟨rfl, k6⟩)) fun _ _ z => z)))) fun _ _ z => z))
/-- the second source's walk begins -/
theorem sc_start1 (h0 : codeAny (model P w) A (.compLoop (SC el t0 i0 t1 i1 c1 sc pos) 1 it acc env) R s)
    (h : wpAny (model P w) A (pyIter it) (fun jt t => codeAny (model P w) A (.compLoop (SC el t0 i0 t1 i1 c1 sc pos) 1 jt acc env) R t) (Nb P w A env R) s) :
    codeAny (model P w) A (.compStart (SC el t0 i0 t1 i1 c1 sc pos) 1 it acc env) R s := by
  refine codeAny_of_tree ?_
  show wpAny _ _ ((compStart (SC el t0 i0 t1 i1 c1 sc pos) 1 it acc env).onRaise (fun x => do noteFrame x env; standAt theWindowsPlace)) _ _ s
  refine wpAny_notedAt ?_
  unfold compStart
  show wpAny _ _ (ask >>= _) _ _ s
  refine wpAny_bind (wpAny_askSetting (wpAny_ite ?_))
  split
  · exact wpAny_pure (And.intro rfl h0)
  · refine wpAny_bind (wpAny_rule ?_)
    show wpAny _ _ (standAt i1.pos >>= _) _ _ s
    exact wpAny_bind (wpAny_standAt (wpAny_bind (wpAny_mono h (fun jt t k => wpAny_pure (And.intro rfl k)) fun _ _ z => z)))
end
/-- what stands in the block -/
structure Blk (Y : Cx) (t0 t1 i1 c1 el : Expr) (g : TG) (wi : TI) (g1 : TG) (tc : TT) (te : TE) : Prop where
  g : PG Y t0 g
  i : PI Y t1 i1 wi
  g1 : PG Y t1 g1
  c : PTs Y [c1] tc
  e : PE Y el te
/-- k goes down -/
abbrev Dn (k : Nat) (F : Nat → Prop) : Prop := ∃ k', k' < k ∧ F k'
/-- one int more in the set at D -/
def More (w : World) (D : Addr) (y : V) (G : Hp) (F : Hp → Prop) : Prop := ∃ (z : Int) (S : Int → Bool) (n : Nat), y = .int z ∧ G D = some (SetO w D S n) ∧ n + 1 < scanBound ∧ F (upd G D (SetO w D (fun j => S j || decide (j = z)) (if S z = true then n else n + 1)))
def tSc2 (w : World) (wi : TI) (g : TG) (wi1 : TI) (g1 : TG) (tc : TT) (te : TE) (vs vs1 : List Nat) : TE := fun σ H Q => wi σ H fun J G => ∀ D, G D = none → ∃ W : Nat → Nat → Hp → Prop, (∃ m, W 0 m (upd G D (SetO w D (fun _ => false) 0))) ∧ ∀ i m H1, W i m H1 →
  (J.stop i H1 ∧ Q (.ref D) H1) ∨ (J.go i H1 ∧ ∀ x H2, J.yld i H1 x H2 → g x (wipe σ vs) H2 fun τ H3 => wipe τ vs = wipe σ vs ∧ wi1 τ H3 fun J1 H4 => ∃ W1 : Nat → Nat → Hp → Prop, (∃ k, W1 0 k H4) ∧ ∀ j k H5, W1 j k H5 →
    (J1.stop j H5 ∧ Dn m fun m' => W (i + 1) m' H5) ∨ (J1.go j H5 ∧ ∀ x1 H6, J1.yld j H5 x1 H6 → g1 x1 (wipe τ vs1) H6 fun υ H7 => wipe υ vs1 = wipe τ vs1 ∧ tc υ H7 fun b H8 =>
      if b = true then te υ H8 fun y H9 => More w D y H9 fun G' => Dn k fun k' => W1 (j + 1) k' G' else Dn k fun k' => W1 (j + 1) k' H8))
/-- the walk's own objects, no slot knows them -/
theorem fp_back {X Y : Cx} {pins : List (Addr × Obj)} {fp : List Addr} {h h' : Heap} {τ : L2.St} {G : Hp} {t : Shared} (I : Inv Y (pins ++ pinsAt fp h) τ G t) (b : Addr) (hb : b ∈ fp) {o : Obj} (e : h.get? b = some o) : t.heap.get? b = some o ∧ G b = none := by
  have z := I.pin (b, o) (List.mem_append_right _ (List.mem_append_right _ (mem_pinsAt hb e)))
  exact ⟨z.1, z.2.1⟩
section
variable {X : Cx}
/-- set.add of an int -/
theorem add_int {pins : List (Addr × Obj)} {σ : L2.St} {H : Hp} {s : Shared} {E : Value → Shared → Prop} {D : Addr} {y : V} {u : Value} {F : Hp → Prop} {Q : Value → Shared → Prop} (I : Inv X pins σ H s) (r : RelV y u) (M : More X.w D y H F)
    (k : ∀ t G, Inv X pins σ G t → F G → Q .none t) : wpAny (model X.prog X.w) X.A (call (.builtin "set.add") [.ref D, u]) Q E s := by
  obtain ⟨z, S, n, rfl, hD, room, f⟩ := M
  obtain ⟨tk, rfl⟩ := r
  refine setR_add (setO_get I hD) room fun h' sb new => ?_
  have live : ∃ u, h'.get? D = some u := by
    obtain ⟨o, _, _, _, ho, _⟩ := id new
    exact ⟨o, ho⟩
  exact k _ _ (I.write (e := D) (t' := s.toks + 1) (by rw [hD]; trivial) (.inl rfl) (fun b u hb hu => (sb.2 b hb).trans hu) live (setO_new new)) f
theorem pe_sc2 {el t0 i0 t1 i1 c1 : Expr} {sc : Scope} {own : List (Str × Nat)} {vs1 : List Nat} {pos : Pos} {wi wi1 : TI} {g g1 : TG} {tc : TT} {te : TE} (calm : X.calm = true) (nd : X.N.Nodup) (src : PI X t0 i0 wi) (ok : BlkOk X.N X.env.scope sc own) (sub : ∀ i ∈ vs1, i ∈ own.map (·.2))
    (blk : ∀ (s : Shared) (H : Hp) (C : Addr) (cl : List (Str × Addr)) (fp : List Addr), Blk (X.blk s H sc (compEnvC sc cl C X.env) fp) t0 t1 i1 c1 el g wi1 g1 tc te)
    (f0 : ∀ x, foldedSetIterable i0 X.env x = pure x := by intro _; rfl) (f1 : ∀ env x, foldedSetIterable i1 env x = pure x := by intro _ _; rfl) :
    PE X (SC el t0 i0 t1 i1 c1 sc pos) (tSc2 X.w wi g wi1 g1 tc te (own.map (·.2)) vs1) := by
  constructor
  intro pins s σ H Q I want
  rw [PpSet.eval_SetComp]
  have free : ∀ y ∈ sc.names, y.2 = .free → ∃ c, X.env.cells.lookup y.1 = some c := fun y m e => by
    rcases ok.free y m e with z | z
    · exact I.ok.has _ (.inl z)
    · exact I.ok.has _ (.inr z)
  refine wpAny_comprehension_free (use := none) rfl f0 (closure_ok free) ok.kind (fun y m e => by rw [ok.uniq y m, e]) (thn (src.run pins s σ H _ I want) fun xv s1 hx => thn hx fun jv s2 h2 => ?_)
  obtain ⟨it, fp, tn, J, H2, rfl, I2, T, st2, off2, q⟩ := h2
  refine PpSet.newSet_ok (newEnv_comp ?_)
  obtain ⟨D, eD⟩ : ∃ D, D = s2.heap.objs.size := ⟨_, rfl⟩
  rw [← eD]
  have nD : H2 D = none := I2.hok.fresh (Nat.le_of_eq eD.symm)
  obtain ⟨W, ⟨m0, w0⟩, turn⟩ := q D nD
  obtain ⟨s3, es3⟩ : ∃ t : Shared, t = { s2 with heap := s2.heap.push { cls := .type "set", dict := none, data := .set #[] 0 (.fresh 0 0 (!X.w.params.followText "set-order")) } } := ⟨_, rfl⟩
  obtain ⟨G, eG⟩ : ∃ G : Hp, G = upd H2 D (SetO X.w D (fun _ => false) 0) := ⟨_, rfl⟩
  rw [← eG] at w0
  have hp3 : s3.heap = s2.heap.push { cls := .type "set", dict := none, data := .set #[] 0 (.fresh 0 0 (!X.w.params.followText "set-order")) } := by rw [es3]
  have I3 : Inv X pins σ G s3 := by
    rw [es3, eG]
    refine I2.laid (t' := s2.toks) (fun b o e => Heap.get?_push_of_some _ e) (Nat.le_of_eq eD.symm) ?_
    rw [eD]
    exact setO_new (setR_fresh X.w)
  have low : ∀ b ∈ fp, b < s2.heap.objs.size := fun b m => by
    obtain ⟨o, e, _⟩ := T.obj _ _ st2 b m
    exact Heap.lt_size e
  have off3 : ∀ b ∈ fp, FpOk X pins G b ∧ b < s3.heap.objs.size := fun b m => by
    have l := low b m
    refine ⟨⟨?_, (off2 b m).2⟩, by rw [hp3, Heap.size_push]; exact Nat.lt_succ_of_lt l⟩
    rw [eG, upd_ne (by rw [eD]; exact Nat.ne_of_lt l)]
    exact (off2 b m).1
  have st3 : tn 0 s3.heap := T.keep _ _ _ st2 fun b _ o e => by rw [hp3]; exact Heap.get?_push_of_some _ e
  have I4 := block_start I3 ok nd off3
  have bk := blk s3 G s3.heap.objs.size (cellsFrom (s3.heap.objs.size + 1) sc.names (cloFrom X.env.cells sc.names [])) fp
  obtain ⟨ce, ec⟩ : ∃ e : Env, e = compEnvC sc (cellsFrom (s3.heap.objs.size + 1) sc.names (cloFrom X.env.cells sc.names [])) s3.heap.objs.size X.env := ⟨_, rfl⟩
  have lc : ce.locals = s3.heap.objs.size := by rw [ec]; rfl
  obtain ⟨s4, es4⟩ : ∃ t : Shared, t = { s3 with heap := pushCells (s3.heap.push { cls := .type "dict", data := .dict #[] }) sc.names } := ⟨_, rfl⟩
  rw [← ec] at I4 bk
  rw [← es4] at I4
  have main : codeAny (model X.prog X.w) X.A (.compStart (SC el t0 i0 t1 i1 c1 sc pos) 0 (.ref it) (.ref D) ce) (compPost (model X.prog X.w) X.A X.xe none (EP X pins σ Q) (.ref D) s3.heap.objs.size) s4 := by
    have st4 : tn 0 s4.heap := T.keep _ _ _ st3 fun b _ o e => by rw [es4]; exact pushCells_keeps _ _ _ _ (Heap.get?_push_of_some _ e)
    have no4 : ∀ b ∈ fp, G b = none := fun b m => (off3 b m).1.1
    have fit : ∀ {τ : L2.St} {G' : Hp} {t : Shared}, Inv (X.blk s3 G sc ce fp) [] τ G' t → (∀ b ∈ fp, G' b = none) → ∀ b ∈ fp, FpOk (X.blk s3 G sc ce fp) [] G' b := fun {τ G' t} K no b m =>
      ⟨no b m, (K.ok.exf b m).1, K.ok.exfs b m, .inl m, fun x c e => (K.ok.exf b m).2 x c e, fun p hp => absurd (show p ∈ ([] : List (Addr × Obj)) ++ [] from hp) (by simp)⟩
    have loop : codeAny (model X.prog X.w) X.A (.compLoop (SC el t0 i0 t1 i1 c1 sc pos) 0 (.ref it) (.ref D) ce) (compPost (model X.prog X.w) X.A X.xe none (EP X pins σ Q) (.ref D) s3.heap.objs.size) s4 := by
      refine sc_loop0 (f1 ce) (fun n t => ∃ i G', Inv (X.blk s3 G sc ce fp) [] (wipe σ (own.map (·.2))) G' t ∧ tn i t.heap ∧ (∀ b ∈ fp, G' b = none) ∧ W i n G') ?_ m0 ⟨0, G, I4, st4, no4, w0⟩
      rintro n t5 ⟨i, G5, I5, st5, no5, w5⟩
      rcases turn i n G5 w5 with ⟨stop, fin⟩ | ⟨go, step⟩
      · refine thnF (T.done (X.blk s3 G sc ce fp) rfl rfl rfl calm i [] t5 _ G5 (fun _ _ => False) I5 (fit I5 no5) st5 stop) fun r t6 ⟨hr, I6⟩ => ?_
        subst hr
        have I7 : Inv X pins σ G5 t6 := I3.call' (ch := fp) I6.os I6.base I6.hok I6.bare fun b m => ⟨(off3 b m).1.2.2.2.1, (off3 b m).1.2.1, (off3 b m).1.2.2.2.2.1, (off3 b m).1.2.2.2.2.2⟩
        have nC : G5 s3.heap.objs.size = none := by
          have z : G5 ce.locals = none := I6.free
          rwa [lc] at z
        obtain ⟨mm, hn, _⟩ := I6.loc
        have hn : t6.heap.Ns ce.locals mm := hn
        rw [lc] at hn
        obtain ⟨a0, a1, a2, a3, a4, a5⟩ := I3.fpOk (Nat.le_refl _) nC
        exact ⟨mm, hn, fun h'' sb => ⟨.ref D, G5, I7.turned (t' := t6.toks) (fun b o hb e => (sb.2 b hb).trans e) a0 a1 a3 a4 a5, rfl, fin⟩⟩
      · refine thnF (T.item (X.blk s3 G sc ce fp) rfl rfl rfl calm i [] t5 _ G5 (fun _ _ => False) I5 (fit I5 no5) st5 go) fun r t6 ⟨u, hr, h6⟩ => ?_
        subst hr
        refine thnF h6 fun _ t7 ⟨x, G7, I7, r7, y7, st7, no7⟩ => ?_
        refine thnF (bk.g.run _ t7 _ G7 x u _ (I7.pinned (fit I7 no7) (T.obj _ _ st7)) r7 (step x G7 y7)) fun _ t8 ⟨τ, G8, I8, hw, q8⟩ => ?_
        have len8 : (wipe σ (own.map (·.2))).length = τ.length := by rw [← hw, wipe_length]
        refine thnF (bk.i.run _ t8 τ G8 _ I8 q8) fun xv t9 hx => thnF hx fun jv t10 h10 => ?_
        obtain ⟨jt, fq, tm, J1, G10, rfl, I10, U, su10, off10, W1, ⟨k0, v0⟩, turn1⟩ := h10
        have fit1 : ∀ {G' : Hp}, (∀ b ∈ fq, G' b = none) → ∀ b ∈ fq, FpOk (X.blk s3 G sc ce fp) ([] ++ pinsAt fp t7.heap) G' b := fun no b m => ⟨no b m, (off10 b m).2⟩
        have know : ∀ (j : Nat) v, (wipe σ (own.map (·.2)))[j]? = some (some v) → (wipe τ vs1)[j]? = some (some v) := fun j v e => by
          rw [← hw] at e
          obtain ⟨e1, e2⟩ := wipe_some e
          rw [wipe_out fun z => e2 (sub j z)]
          exact e1
        have inner : codeAny (model X.prog X.w) X.A (.compLoop (SC el t0 i0 t1 i1 c1 sc pos) 1 (.ref jt) (.ref D) ce)
            (fun r t => (∃ f, r = .ok f) ∧ ∃ m, m < n ∧ ∃ i G', Inv (X.blk s3 G sc ce fp) [] (wipe σ (own.map (·.2))) G' t ∧ tn i t.heap ∧ (∀ b ∈ fp, G' b = none) ∧ W i m G') t10 := by
          refine sc_loop1 (fun k t => ∃ j G', Inv (X.blk s3 G sc ce fp) ([] ++ pinsAt fp t7.heap) (wipe τ vs1) G' t ∧ tm j t.heap ∧ (∀ b ∈ fq, G' b = none) ∧ W1 j k G') ?_ k0 ⟨0, G10, I10.weak (wipe_length _ _) (fun j v e => (wipe_some e).1), su10, fun b m => (off10 b m).1, v0⟩
          rintro k t11 ⟨j, G11, I11, su11, no11, v11⟩
          rcases turn1 j k G11 v11 with ⟨stop1, m', lt, w'⟩ | ⟨go1, step1⟩
          · refine thnF (U.done (X.blk s3 G sc ce fp) rfl rfl rfl calm j _ t11 (wipe τ vs1) G11 (fun _ _ => False) I11 (fit1 no11) su11 stop1) fun r t12 ⟨hr, I12⟩ => ?_
            subst hr
            refine ⟨⟨_, rfl⟩, m', lt, i + 1, G11, (I12.unpinned (pins := [])).weak (len8.trans (wipe_length τ vs1).symm) know, T.keep _ _ _ st7 fun b m o e => (fp_back (X := X) (h' := t7.heap) I12 b m e).1, fun b m => ?_, w'⟩
            obtain ⟨o, e, _⟩ := T.obj _ _ st7 b m
            exact (fp_back (X := X) (h' := t7.heap) I12 b m e).2
          · refine thnF (U.item (X.blk s3 G sc ce fp) rfl rfl rfl calm j _ t11 (wipe τ vs1) G11 (fun _ _ => False) I11 (fit1 no11) su11 go1) fun r t12 ⟨u1, hr, h12⟩ => ?_
            subst hr
            refine thnF h12 fun _ t13 ⟨x1, G13, I13, r13, y13, su13, no13⟩ => ?_
            refine thnF (bk.g1.run _ t13 (wipe τ vs1) G13 x1 u1 _ (I13.pinned (fit1 no13) (U.obj _ _ su13)) r13 (step1 x1 G13 y13)) fun _ t14 ⟨υ, G14, I14, hv, q14⟩ => ?_
            refine thnF (bk.c.run _ t14 υ G14 _ I14 q14) fun b t15 ⟨G15, I15, q15⟩ => ?_
            have next : ∀ {t : Shared} {G' : Hp}, Inv (X.blk s3 G sc ce fp) (([] ++ pinsAt fp t7.heap) ++ pinsAt fq t13.heap) υ G' t → (Dn k fun k' => W1 (j + 1) k' G') →
                ∃ m, m < k ∧ ∃ j G', Inv (X.blk s3 G sc ce fp) ([] ++ pinsAt fp t7.heap) (wipe τ vs1) G' t ∧ tm j t.heap ∧ (∀ b ∈ fq, G' b = none) ∧ W1 j m G' := fun {t G'} K ⟨k', lt, w'⟩ => by
              refine ⟨k', lt, j + 1, G', K.unpinned.weak (by rw [← hv, wipe_length]) (fun j v e => by rw [← hv] at e; exact (wipe_some e).1), U.keep _ _ _ su13 fun b m o e => (fp_back (X := X) (h' := t7.heap) K b m e).1, fun b m => ?_, w'⟩
              obtain ⟨o, e, _⟩ := U.obj _ _ su13 b m
              exact (fp_back (X := X) (h' := t7.heap) K b m e).2
            cases b with
            | false =>
              simp only [Bool.false_eq_true, if_false] at q15 ⊢
              exact next I15 q15
            | true =>
              simp only [if_true] at q15 ⊢
              refine thnF (bk.e.run _ t15 υ G15 _ I15 q15) fun z t16 ⟨yv, G16, I16, r16, more⟩ => ?_
              exact add_int (X := X.blk s3 G sc ce fp) I16 r16 more fun t17 G17 I17 dn => next I17 dn
        exact sc_start1 inner (U.self X.A 0 _ _ _ su10 inner)
    exact PpSet.codeAny_compStart_set loop (T.self X.A 0 _ _ _ st4 loop)
  rw [ec, es4, es3] at main
  exact main
end
end Gn
set_option Elab.async false
set_option linter.all false
set_option maxRecDepth 100000
set_option maxHeartbeats 8000000
/-! x(e, lambda p: bo), the def x calling what it got with one argument -/
namespace Gn
open PySem PySem.Spec PyProof.Rows L2
/-- one parameter, no other name of its own -/
structure LamP (sc lam : Scope) (p : Str) : Prop where
  kind : lam.kind = .function
  co : lam.isCoroutine = false
  gen : lam.isGenerator = false
  par : lam.names.lookup p = some .local
  own : ∀ y ∈ lam.names, (y.2 = .local → y.1 = p) ∧ y.2 ≠ .cell
  free : ∀ y ∈ lam.names, y.2 = .free → sc.names.lookup y.1 = some .cell ∨ sc.names.lookup y.1 = some .free
def lamPB (sc lam : Scope) (p : Str) : Bool :=
  decide (lam.kind = .function) && (!lam.isCoroutine && (!lam.isGenerator && (decide (lam.names.lookup p = some .local) &&
    lam.names.all fun y => (!decide (y.2 = .local) || decide (y.1 = p)) && (!decide (y.2 = .cell) && (!decide (y.2 = .free) || (decide (sc.names.lookup y.1 = some .cell) || decide (sc.names.lookup y.1 = some .free)))))))
theorem lamP_by {sc lam : Scope} {p : Str} (h : lamPB sc lam p = true) : LamP sc lam p := by
  unfold lamPB at h
  simp only [Bool.and_eq_true, Bool.or_eq_true, Bool.not_eq_true', decide_eq_true_eq, decide_eq_false_iff_not, List.all_eq_true] at h
  obtain ⟨a, b, c, d, e⟩ := h
  exact ⟨a, b, c, d, fun y m => ⟨fun z => (e y m).1.resolve_left fun k => k z, (e y m).2.1⟩, fun y m z => (e y m).2.2.resolve_left fun k => k z⟩
theorem LamP.has {X : Cx} {lam : Scope} {p : Str} (L : LamP X.env.scope lam p) (ok : X.Ok) : ∀ y ∈ lam.names, y.2 = .free → ∃ c, X.env.cells.lookup y.1 = some c := fun y m e =>
  (L.free y m e).elim (fun z => ok.has _ (.inl z)) fun z => ok.has _ (.inr z)
/-- the lambda's body, entered at s -/
abbrev lamQ (X : Cx) (A : Around) (outer : List Env) (s : Shared) (H : Hp) (lam : Scope) (p : Str) (f c : Addr) : Cx :=
  { LamX.lamCx X A outer s H (fun _ _ _ => False) lam f c with N := X.N ++ [p], xe := fun _ _ => False }
section
variable {X : Cx} {pins : List (Addr × Obj)} {σ : L2.St} {H : Hp} {s : Shared}
theorem lamQ_start {A : Around} {outer : List Env} {lam : Scope} {p : Str} {f c : Addr} {G : Hp} {t : Shared} {h1 : Heap} {tk : Nat} {v : V} {u : Value} (I : Inv X pins σ H s) (L : LamP X.env.scope lam p) (np : p ∉ X.N) (e0 : Env0 X.prog X.w X.K X.mg X.base A outer t G) (cool : A.handled = none)
    (un : Un (frs X.stack) [] H G s.heap t.heap) (ns : h1.Ns t.heap.objs.size fun y => ([(p, u)] : List (Str × Value)).reverse.lookup y) (r : RelV v u) (kp : ∀ b o, t.heap.get? b = some o → h1.get? b = some o) :
    Inv (lamQ X A outer t G lam p f c) [] (σ ++ [some v]) G { t with heap := h1, toks := tk } := by
  have free := L.has I.ok
  have back : ∀ {y d}, (cloFrom X.env.cells lam.names []).lookup y = some d → X.env.cells.lookup y = some d := fun {y d} e => by
    rcases cloFrom_mem (PySem.mem_of_lookup e) with m | ⟨m, ed⟩
    · cases m
    · obtain ⟨d1, h⟩ := free _ m rfl
      have h : X.env.cells.lookup y = some d1 := h
      rw [h] at ed
      have ed : d = d1 := ed
      rw [ed]; exact h
  have there : ∀ {y}, lam.names.lookup y = some .free → ∃ d, (cloFrom X.env.cells lam.names []).lookup y = some d := fun {y} e => mem_lookup (cloFrom_has (cells := X.env.cells) (acc := []) (PySem.mem_of_lookup e))
  have celled : ∀ {d : Addr} {x : Option Value}, H d = none → s.heap.IsCell d x → h1.IsCell d x := fun {d x} n ⟨o, ho, hd⟩ => by
    obtain ⟨sl, z⟩ := un.any ho n (by simp)
    exact ⟨_, kp _ _ z, hd⟩
  have nex : ∀ b : Addr, b ∉ (lamQ X A outer t G lam p f c).ex := fun b z => absurd (show b ∈ ([] : List Addr) from z) (by simp)
  refine ⟨⟨e0.mod, L.kind, rfl, rfl, Nat.le_refl _, fun y z d e1 e2 => I.ok.inj y z d (back e1) (back e2), fun y hy => ?_, fun y d z _ => (by cases (show false = true from z)), fun _ => cool, Around.frames_deeper e0.frames, .inr ⟨rfl, rfl⟩, fun b z => absurd z (nex b), e0.bs, e0.bsz, fun b _ _ => nex b,
      fun b z => absurd z (nex b), e0.funs, e0.frf⟩,
    rfl, e0.bare, Un.kept kp, ⟨_, ns, fun i y x e1 e2 e3 => ?_⟩, fun y d e => ?_, e0.hok.fresh (Nat.le_refl _), fun y d e => ?_, fun q hq => absurd (show q ∈ ([] : List (Addr × Obj)) ++ [] from hq) (by simp), e0.hok.kept kp, ?_⟩
  · rcases (show lam.names.lookup y = some .cell ∨ lam.names.lookup y = some .free from hy) with z | z
    · exact absurd rfl (L.own _ (PySem.mem_of_lookup z)).2
    · exact there z
  · have e1 : (X.N ++ [p])[i]? = some y := e1
    have len := I.len
    rcases Nat.lt_or_ge i X.N.length with lt | ge
    · -- a name of the maker
      rw [List.getElem?_append_left lt] at e1
      rw [List.getElem?_append_left (by omega)] at e2
      rcases (show Vis lam y from e3) with k | k | k
      · have ey : y = p := (L.own _ (PySem.mem_of_lookup k)).1 rfl
        exact absurd (by rw [← ey]; exact List.mem_of_getElem? e1) np
      · exact absurd rfl (L.own _ (PySem.mem_of_lookup k)).2
      · obtain ⟨m, hn, look⟩ := I.loc
        have vis : Vis X.env.scope y := (L.free _ (PySem.mem_of_lookup k) rfl).elim (fun z => .inr (.inl z)) fun z => .inr (.inr z)
        obtain ⟨w', rr, q⟩ := look i y x e1 e2 vis
        obtain ⟨d2, h2⟩ := there k
        have d1 := back h2
        refine ⟨w', rr, .inr ⟨.inr k, d2, h2, ?_⟩⟩
        rcases q with ⟨k', _⟩ | ⟨_, d3, e', z⟩
        · have k' : X.env.scope.names.lookup y = some .local := k'
          rcases L.free _ (PySem.mem_of_lookup k) rfl with k2 | k2 <;> rw [show X.env.scope.names.lookup y = _ from k2] at k' <;> cases k'
        · rw [d1] at e'
          cases e'
          exact celled (I.freeC y _ d1) z
    · -- the parameter
      rw [List.getElem?_append_right ge] at e1
      rw [List.getElem?_append_right (by omega)] at e2
      have i0 : i = X.N.length := by
        obtain ⟨l, _⟩ := List.getElem?_eq_some_iff.mp e1
        simp only [List.length_singleton] at l
        omega
      subst i0
      rw [Nat.sub_self] at e1
      rw [len, Nat.sub_self] at e2
      have ey : y = p := (Option.some.inj (show some p = some y from e1)).symm
      have ex : x = v := (Option.some.inj (Option.some.inj (show some (some v) = some (some x) from e2))).symm
      subst ey ex
      refine ⟨u, r, .inl ⟨L.par, ?_⟩⟩
      show ([(y, u)] : List (Str × Value)).lookup y = some u
      simp [List.lookup]
  · obtain ⟨x, z⟩ := I.cell y d (back e)
    exact ⟨x, celled (I.freeC y d (back e)) z⟩
  · obtain ⟨x, o, ho, hd⟩ := I.cell y d (back e)
    exact un.free d o ho (I.freeC y d (back e)) (by simp)
  · show (σ ++ [some v]).length = (X.N ++ [p]).length
    rw [List.length_append, List.length_append, I.len]
    rfl
/-- the def that gets the lambda, entered at s -/
abbrev getY (X : Cx) (Ng : List Str) (x : Str) (sg : Scope) (g : Addr) (cdg : Value) (s : Shared) (H : Hp) : Cx := (cxOf CX0 X.prog X.w X.K X.mg X.base Ng x sg g cdg X.A X.stack s H E0).nox
/-- a(e), in that def -/
theorem pe_got {Ng : List Str} {x : Str} {sg lam : Scope} {g f c : Addr} {cdg pm ctv : Value} {pr : Arguments} {bo : Expr} {k i : Nat} {a p : Str} {tb : TE} {e : Expr} {te : TE} {p1 p2 : Pos}
    (I : Inv X pins σ H s) (L : LamP X.env.scope lam p) (np : p ∉ X.N) (gf : s.heap.get? f = some (PySem.W.kla_obj "<lambda>" (X.env.qual ++ "<lambda>") pr bo lam (cloFrom X.env.cells lam.names []) pm c ctv)) (nf : H f = none) (off : f ∉ frs X.stack)
    (bi : ∀ u : Value, bindArgs (PySem.W.kla_fn "<lambda>" (X.env.qual ++ "<lambda>") pr bo lam (cloFrom X.env.cells lam.names []) pm (.ref c) ctv) ⟨[u], []⟩ = pure [(p, u)])
    (hr : Room (k + 1) (X.A.deeper (envOfC x sg s.heap.objs.size g cdg))) (body : ∀ (A : Around) (outer : List Env) (t : Shared) (G : Hp), Room k (A.deeper (LamX.lamEnv X lam t.heap.objs.size f c)) → PE (lamQ X A outer t G lam p f c) bo tb)
    (at_ : Ng[i]? = some a) (vi : Vis sg a) (es : starEach [e] (getY X Ng x sg g cdg s H).env = [(false, eval e (getY X Ng x sg g cdg s H).env)]) (he : PE (getY X Ng x sg g cdg s H) e te) (nd : (a == ("__debug__" : Str)) = false := by decide) (nc : (a == ("__classdict__" : Str)) = false := by decide) :
    PE (getY X Ng x sg g cdg s H) (.Call (.Name a p1) [e] [] p2) (fun τ G Q => τ[i]? = some (some (.ref f)) ∧ te τ G fun v G1 => G1 c = some (LamX.CodeO c (X.env.qual ++ "<lambda>")) ∧ tb (σ ++ [some v]) G1 Q) := by
  constructor
  rintro pi t τ G Q J ⟨slot, arg⟩
  refine wpAny_Call_Name_kw (thn ((pe_var (pos := p1) (i := i) at_ vi nd nc).run pi t τ G (fun v G1 => v = .ref f ∧ G1 = G) J ⟨.ref f, slot, rfl, rfl⟩) fun uf t1 ⟨vf, Gf, J1, rf, ev, eG⟩ => ?_)
  subst ev eG
  obtain rfl : uf = Value.ref f := rf
  have stay : ∀ {τ' : L2.St} {G' : Hp} {t' : Shared}, Inv (getY X Ng x sg g cdg s H) pi τ' G' t' → t'.heap.get? f = some (PySem.W.kla_obj "<lambda>" (X.env.qual ++ "<lambda>") pr bo lam (cloFrom X.env.cells lam.names []) pm c ctv) := fun {τ' G' t'} K => by
    have un : Un (frs X.stack) [] H G' s.heap t'.heap := K.base
    exact un.keep f _ gf nf off (fun z => nomatch (show f ∈ ([] : List Addr) from z))
  refine PySem.W.callWith_F ⟨_, _, _, _, stay J1⟩ ?_ (he := es)
  rw [es]
  refine Calls.spliced_cons (thn (he.run pi t1 τ Gf _ J1 arg) fun u t2 ⟨v, G2, J2, r2, co, want⟩ => Calls.spliced_nil ⟨⟨_, _, _, _, stay J2⟩, ?_⟩)
  have g2 := stay J2
  have un : Un (frs X.stack) [] H G2 s.heap t2.heap := J2.base
  obtain ⟨⟨oc, vs, tn, goc, gd, gv⟩, _, _⟩ := J2.hok c _ co
  have run : codeAny (model X.prog X.w) (X.A.deeper (envOfC x sg s.heap.objs.size g cdg)) (.call (.ref f) ⟨[u], []⟩) (CR CX0 (envOfC x sg s.heap.objs.size g cdg :: X.stack) X.prog X.w G2 t2 Q E0) t2 := by
    refine PySem.W.kla_callFunE hr.depth g2 rfl L.co L.gen rfl ⟨c, oc, vs, tn, rfl, goc, gd, gv⟩ ?_
    rw [bi]
    refine wpAny_pure (wpAny_newFunctionEnv (fun y m => (L.own y m).2) (fun y m => ?_) (fun h1 ns sb => ⟨J2.nolimit.fresh _ sb, ?_⟩) L.kind)
    · rw [List.mem_singleton.mp m]; exact L.par
    change codeAny _ _ (.expr bo (LamX.lamEnv X lam t2.heap.objs.size f c)) _ _
    have start := lamQ_start (A := X.A.deeper (envOfC x sg s.heap.objs.size g cdg)) (outer := envOfC x sg s.heap.objs.size g cdg :: X.stack) (c := c) (f := f) (tk := t2.toks + ([(p, u)] : List (Str × Value)).length) I L np J2.env0 hr.hd un ns r2 fun b o e => sb.extBut b o (Nat.ne_of_lt (Heap.lt_size e)) (Heap.get?_push_of_some _ e)
    refine PySem.W.kla_codeExpr (wpAny_mono ((body _ _ t2 G2 (hr.deeper _)).run [] _ _ G2 Q start want) (fun z t3 ⟨y, G3, J3, ry, q⟩ => ?_) fun _ _ z => z.elim)
    exact ⟨y, G3, J3.os, J3.bare, J3.base, J3.hok, ry, q⟩
  refine wpAny_call (codeAny_mono run fun rr t3 z => ?_)
  cases rr with
  | error e => exact z.elim
  | ok fl => cases fl with
    | ret z' => exact J2.after z
    | next => exact z.elim
    | brk => exact z.elim
    | cont => exact z.elim
/-- what the def that gets a lambda does, tl telling what the lambda does -/
def GivesQ (X : Cx) (Ng : List Str) (x : Str) (sg : Scope) (g : Addr) (cdg : Value) (bg : List Stmt) (i : Nat) (a q : Str) (k : Nat) (sp : (V → Hp → VK → Prop) → V → Hp → VK → Prop) : Prop :=
  ∀ (f c : Addr) (s : Shared) (H : Hp) (v0 : V) (Q : VK) (tl : V → Hp → VK → Prop),
    (∀ (e : Expr) (te : TE) (p1 p2 : Pos), (∀ env, starEach [e] env = [(false, eval e env)]) → PE (getY X Ng x sg g cdg s H) e te →
      PE (getY X Ng x sg g cdg s H) (.Call (.Name a p1) [e] [] p2) (fun τ G Q => τ[i]? = some (some (.ref f)) ∧ te τ G fun v G1 => G1 c = some (LamX.CodeO c q) ∧ tl v G1 Q)) →
    H c = some (LamX.CodeO c q) → Room (k + 1) (X.A.deeper (envOfC x sg s.heap.objs.size g cdg)) → sp tl v0 H Q →
    ∃ t, PSs (getY X Ng x sg g cdg s H) bg t ∧ t { nx := fun _ G => Q .non G, rt := Q } (L2.start Ng [v0, .ref f]) H
def tLamQ (T : List (Addr × Str)) (sp : (V → Hp → VK → Prop) → V → Hp → VK → Prop) (ta tb : TE) : TE := fun σ H Q => ta σ H fun v0 G => LamX.Tabs T G ∧ ∀ G1, LamX.ExtN G G1 → LamX.Tabs T G1 → sp (fun v G2 Q' => tb (σ ++ [some v]) G2 Q') v0 G1 Q
/-- x(e, lambda p: bo) -/
theorem pe_lamQ {T : List (Addr × Str)} {sp : (V → Hp → VK → Prop) → V → Hp → VK → Prop} {x a0 a pn : Str} {g c P : Addr} {k : Nat} {st : Stmt} {fd : FuncData} {Ng : List Str} {pr : Arguments} {e bo : Expr} {lam : Scope} {ta tb : TE} {p lp pos : Pos}
    (hg : Gl X x) (hm : X.mg x = some (.ref g)) (F : Fun X.K x x st g fd) (kp : PySem.W.keepIn X.K (.ref g) = true) (hb : Binds X.K fd [a0, a] []) (Sg : FnScope Ng [a0, a] (defScope st)) (at_ : Ng[1]? = some a) (vi : Vis (defScope st) a)
    (hG : ∀ cdv, GivesQ X Ng x (defScope st) g cdv (defBody st) 1 a (X.env.qual ++ "<lambda>") k sp) (np : pn ∉ X.N)
    (TB : LamX.TabB X.base X.mg c P) (ec : X.env.code = .ref c) (mT : (P, X.env.qual ++ "<lambda>") ∈ T) (one : ∀ q ∈ T, q.1 = P → q.2 = X.env.qual ++ "<lambda>") (hr : Room (k + 2) X.A) (L : LamP X.env.scope lam pn) (df : defaultsOf pr X.env = ([], []))
    (bi : ∀ (q : Str) (cl : List (Str × Addr)) (pm cv ctv u : Value), bindArgs (PySem.W.kla_fn "<lambda>" q pr bo lam cl pm cv ctv) ⟨[u], []⟩ = pure [(pn, u)])
    (he : PE X e ta) (es : starEach [e, .Lambda pr bo lam lp] X.env = [(false, eval e X.env), (false, eval (.Lambda pr bo lam lp) X.env)])
    (body : ∀ (A : Around) (outer : List Env) (s : Shared) (H : Hp) (f c' : Addr), Room k (A.deeper (LamX.lamEnv X lam s.heap.objs.size f c')) → PE (lamQ X A outer s H lam pn f c') bo tb)
    (nx : (x == ("__debug__" : Str)) = false := by decide) (nd : (a == ("__debug__" : Str)) = false := by decide) (nc : (a == ("__classdict__" : Str)) = false := by decide) :
    PE X (.Call (.Name x p) [e, .Lambda pr bo lam lp] [] pos) (tLamQ T sp ta tb) := by
  obtain ⟨_, _, _, _, _, _, cdv, _, _, rfl, lk, hcd⟩ := F.ex
  constructor
  rintro pins s σ H Q I want
  refine wpAny_Call_Name_kw (ld_glob I hg hm (PySem.W.callWith_K (h₀ := X.base) I.ok.mod.kin kp ?_ es (by rfl)) nx)
  rw [es]
  refine Calls.spliced_cons (thn (he.run pins s σ H _ I want) fun u0 s0 ⟨v0, G0, I0, r0, tabs, want⟩ => Calls.spliced_cons (LamX.lam_make2 I0 TB ec mT one tabs df (L.has I0.ok) fun f c' pm ctv H1 s1 I1 eN T1 gf nf off co => Calls.spliced_nil ⟨I1.kIn, ?_⟩))
  have run : codeAny (model X.prog X.w) X.A (.call (.ref g) ⟨[u0, .ref f], []⟩) (CR CX0 X.stack X.prog X.w H1 s1 Q E0) s1 := by
    refine LamX.run_ofS (N := Ng) (ps := [a0, a]) (us := [u0, .ref f]) (vs := [v0, .ref f]) lk hcd Sg hr I1.env0 (hb s1 [u0, .ref f] I1.kIn rfl) (.cons r0 (.cons rfl .nil)) rfl fun hr' => ?_
    obtain ⟨t, ht, q⟩ := hG cdv f c' s1 H1 v0 Q (fun v G2 Q' => tb (σ ++ [some v]) G2 Q') (fun e te p1 p2 se pe => pe_got (i := 1) I1 L np gf nf off (bi _ _ _ _ _) hr' (fun A o s2 H2 hr2 => body A o s2 H2 f c' hr2) at_ vi (se _) pe nd nc) co hr' (want H1 eN T1)
    exact ⟨t, ht.nox, q⟩
  refine wpAny_call (codeAny_mono run fun rr s2 z => ?_)
  cases rr with
  | error e => exact (show False from z).elim
  | ok fl => cases fl with
    | ret u => exact I1.after z
    | next => exact z.elim
    | brk => exact z.elim
    | cont => exact z.elim
end
end Gn
set_option Elab.async false
set_option linter.all false
set_option maxRecDepth 100000
set_option maxHeartbeats 4000000
namespace Gn
open PySem PySem.Spec PyProof.Rows L2
/-- a test of two, the second one false where the first one is true -/
theorem andF {t q : TT} {σ : L2.St} {H : Hp} {R : Bool → Hp → Prop} (c : Bool) (h1 : ∀ S : Bool → Hp → Prop, S c H → t σ H S) (h2 : c = true → ∀ S : Bool → Hp → Prop, (∀ H', Same H H' → S false H') → q σ H S) (k : ∀ H', Same H H' → R false H') : tAnd t q σ H R := by
  refine h1 _ ?_
  cases c with
  | true => exact iteT (h2 rfl R k)
  | false => exact iteF (k H (Same.refl _))
/-- a value of two, each a truth -/
theorem andV_val {ta tb : TE} {σ : L2.St} {H : Hp} {Q : VK} (c b : Bool) (h1 : ∀ S : VK, S (.bl c) H → ta σ H S) (h2 : c = true → ∀ S : VK, S (.bl b) H → tb σ H S) (h3 : c = false → b = false) (k : Q (.bl b) H) : tAndV ta tb σ H Q := by
  refine h1 _ ⟨c, rfl, ?_⟩
  cases c with
  | true => exact iteT (h2 rfl Q k)
  | false => exact iteF (by rw [← h3 rfl]; exact k)
/-- a conditional expression whose ways change nothing -/
theorem if_any {tt : TT} {ta tb : TE} {σ : L2.St} {H : Hp} {Q : VK} (Φ : V → Prop) (c : Bool) (h : ∀ S : Bool → Hp → Prop, S c H → tt σ H S) (h1 : c = true → ∀ S : VK, (∀ v, Φ v → S v H) → ta σ H S) (h2 : c = false → ∀ S : VK, (∀ v, Φ v → S v H) → tb σ H S) (k : ∀ v, Φ v → Q v H) : tIf tt ta tb σ H Q := by
  refine h _ ?_
  cases c with
  | true => exact iteT (h1 rfl Q k)
  | false => exact iteF (h2 rfl Q k)
theorem nxI {a bk ct : L2.St → Hp → Prop} {rt : VK} {σ : L2.St} {H : Hp} (h : a σ H) : Ends.nx ⟨a, rt, bk, ct⟩ σ H := h
/-- an if whose test is false, new objects may be made -/
theorem seqIfF {c : TT} {t r : TS} {D : Ends} {σ : L2.St} {H : Hp} (h : ∀ R : Bool → Hp → Prop, (∀ H', Same H H' → R false H') → c σ H R) (k : ∀ H', Same H H' → r D σ H') : tSeq (tIfS c t tNext) r D σ H := h _ fun H' s => iteF (k H' s)
theorem lastIfF {c : TT} {t : TS} {D : Ends} {σ : L2.St} {H : Hp} (h : ∀ R : Bool → Hp → Prop, (∀ H', Same H H' → R false H') → c σ H R) (k : ∀ H', Same H H' → D.nx σ H') : tIfS c t tNext D σ H := h _ fun H' s => iteF (k H' s)
/-- a value given to a name -/
theorem seqSet {te : TE} {i : Nat} {r : TS} {D : Ends} {σ : L2.St} {H : Hp} (h : te σ H fun v H' => r D (σ.set i (some v)) H') : tSeq (tAsg te (gName i)) r D σ H := h
theorem nextI {D : Ends} {σ : L2.St} {H : Hp} (h : D.nx σ H) : tNext D σ H := h
end Gn
set_option Elab.async false
set_option linter.all false
set_option maxRecDepth 100000
set_option maxHeartbeats 8000000
set_option exponentiation.threshold 4000
namespace My
open PySem PySem.Spec PyProof.Rows L2 Gn Mt
abbrev s_is_fraction : Stmt := top 21
theorem sc_is_fraction : FnScope ["given", "top", "bottom"] ["given"] (defScope s_is_fraction) := ⟨rfl, rfl, rfl, by decide +kernel, rfl, by decide +kernel, by decide +kernel⟩
abbrev s_is_part : Stmt := top 23
theorem sc_is_part : FnScope ["given"] ["given"] (defScope s_is_part) := ⟨rfl, rfl, rfl, by decide +kernel, rfl, by decide +kernel, by decide +kernel⟩
abbrev s_is_less : Stmt := top 24
theorem sc_is_less : FnScope ["one", "other"] ["one", "other"] (defScope s_is_less) := ⟨rfl, rfl, rfl, by decide +kernel, rfl, by decide +kernel, by decide +kernel⟩
abbrev s__cuts_at : Stmt := top 42
theorem sc__cuts_at : FnScope ["piece", "low", "high", "first", "last"] ["piece"] (defScope s__cuts_at) := ⟨rfl, rfl, rfl, by decide +kernel, rfl, by decide +kernel, by decide +kernel⟩
abbrev s__is_ahead : Stmt := top 43
theorem sc__is_ahead : FnScope ["cut", "other"] ["cut", "other"] (defScope s__is_ahead) := ⟨rfl, rfl, rfl, by decide +kernel, rfl, by decide +kernel, by decide +kernel⟩
/-! fractions, cuts and pieces as data -/
def frD (p : Int × Int) : PyData := .tuple [.int p.1, .int p.2]
def bI (b : Bool) : Int := if b = true then 1 else 0
def cutD (c : Cut) : PyData := .tuple [frD (c.n, c.d), .int (bI c.b)]
def pcD (c e : Cut) : PyData := .tuple [frD (c.n, c.d), frD (e.n, e.d), .bool (!c.b), .bool e.b]
def pcsD : List Cut → List PyData
  | c :: e :: r => pcD c e :: pcsD r
  | _ => []
/-- not too long -/
def Lit (p : Int × Int) : Prop := p.1.natAbs < 2 ^ 1000 ∧ p.2.natAbs < 2 ^ 1000
section
variable {K : PySem.W.Frag} {H : Hp} {v : V}
theorem fr_inv {p : Int × Int} (h : Dp K H v (frD p)) : ∃ a, v = .ref a ∧ SqT K H a [.int p.1, .int p.2] := by
  cases h with
  | tup a b =>
    cases b with
    | cons x r => cases r with
      | cons y r => cases r; cases x; cases y; exact ⟨_, rfl, a⟩
theorem fr_mk {a : Addr} {x y : Int} (h : SqT K H a [.int x, .int y]) : Dp K H (.ref a) (frD (x, y)) := .tup h (.cons (.int _) (.cons (.int _) .nil))
theorem cut_inv {c : Cut} (h : Dp K H v (cutD c)) : ∃ a l, v = .ref a ∧ SqT K H a [l, .int (bI c.b)] ∧ Dp K H l (frD (c.n, c.d)) := by
  cases h with
  | tup a b =>
    cases b with
    | cons x r => cases r with
      | cons y r => cases r; cases y; exact ⟨_, _, rfl, a, x⟩
theorem cut_mk {a : Addr} {l : V} {c : Cut} (h : SqT K H a [l, .int (bI c.b)]) (d : Dp K H l (frD (c.n, c.d))) : Dp K H (.ref a) (cutD c) := .tup h (.cons d (.cons (.int _) .nil))
theorem pc_inv {c e : Cut} (h : Dp K H v (pcD c e)) : ∃ a l g, v = .ref a ∧ SqT K H a [l, g, .bl (!c.b), .bl e.b] ∧ Dp K H l (frD (c.n, c.d)) ∧ Dp K H g (frD (e.n, e.d)) := by
  cases h with
  | tup a b =>
    cases b with
    | cons x r => cases r with
      | cons y r => cases r with
        | cons z r => cases r with
          | cons u r => cases r; cases z; cases u; exact ⟨_, _, _, rfl, a, x, y⟩
theorem pc_mk {a : Addr} {l g : V} {c e : Cut} (h : SqT K H a [l, g, .bl (!c.b), .bl e.b]) (d : Dp K H l (frD (c.n, c.d))) (d' : Dp K H g (frD (e.n, e.d))) : Dp K H (.ref a) (pcD c e) := .tup h (.cons d (.cons d' (.cons (.bl _) (.cons (.bl _) .nil))))
theorem fr_shaped (p : Int × Int) : SeqAt.shaped (frD p) = true := by rfl
theorem fr_eqv (p q : Int × Int) : PyData.eqv (frD p) (frD q) = decide (p.1 = q.1 ∧ p.2 = q.2) := pair_eqv
end
def spLess (K : PySem.W.Frag) : Sp := fun vs H Q _ => ∃ (u v : V) (p q : Int × Int), vs = [u, v] ∧ Dp K H u (frD p) ∧ Dp K H v (frD q) ∧ Lit p ∧ Lit q ∧ Q (.bl (decide (p.1 * q.2 < q.1 * p.2))) H
def spPart (K : PySem.W.Frag) : Sp := fun vs H Q _ => ∃ (u : V) (p : Int × Int), vs = [u] ∧ Dp K H u (frD p) ∧ Frc p ∧ Q (.bl true) H
def spAhead (K : PySem.W.Frag) : Sp := fun vs H Q _ => ∃ (u v : V) (c e : Cut), vs = [u, v] ∧ Dp K H u (cutD c) ∧ Dp K H v (cutD e) ∧ Lit (c.n, c.d) ∧ Lit (e.n, e.d) ∧ Q (.bl (c.lt e)) H
def spCuts (K : PySem.W.Frag) : Sp := fun vs H Q _ => ∃ (u : V) (c e : Cut), vs = [u] ∧ Dp K H u (pcD c e) ∧
  ∀ r x y H', Same H H' → H r = none → H' r = some (.tup [x, y]) → Dp K H' x (cutD c) → Dp K H' y (cutD e) → Q (.ref r) H'
section
variable {P : Program} {w : World} {K : PySem.W.Frag} {mg : Str → Option Value} {base : Heap}
theorem ok_less {f : Addr} {fd : FuncData} (F : Fun K "is_less" "is_less" s_is_less f fd) : FnOk P w K mg base CX0 1 f fd ["one", "other"] (spLess K) := by
  refine F.ok sc_is_less (fun vs H Q E h => ?_) (fun cdv A outer s H vs Q E hr h => ?_)
  · obtain ⟨u, v, p, q, rfl, _⟩ := h
    rfl
  · obtain ⟨u, v, p, q, rfl, h1, h2, l1, l2, k⟩ := h
    refine ⟨_, pss_one (ps_ret (pe_cmpR op_lt (pe_op op_mulW (pe_ix ix_tup (pv 0) pe_int (fun _ _ => rfl)) (pe_ix ix_tup (pv 1) pe_int (fun _ _ => rfl))) (pe_op op_mulW (pe_ix ix_tup (pv 1) pe_int (fun _ _ => rfl)) (pe_ix ix_tup (pv 0) pe_int (fun _ _ => rfl))) (nomark _))), ?_⟩
    obtain ⟨a, rfl, ha⟩ := fr_inv h1
    obtain ⟨b, rfl, hb⟩ := fr_inv h2
    refine ⟨_, rfl, a, _, 0, .int p.1, rfl, rfl, ha, at_of (j := 0) rfl rfl, _, rfl, b, _, 1, .int q.2, rfl, rfl, hb, at_of (j := 1) rfl rfl, _, _, rfl, rfl, wide_mul l1.1 l2.2 (by decide) (by decide) (by decide), ?_⟩
    exact ⟨_, rfl, b, _, 0, .int q.1, rfl, rfl, hb, at_of (j := 0) rfl rfl, _, rfl, a, _, 1, .int p.2, rfl, rfl, ha, at_of (j := 1) rfl rfl, _, _, rfl, rfl, wide_mul l2.1 l1.2 (by decide) (by decide) (by decide), _, _, rfl, rfl, k⟩
theorem ok_frac {f fI : Addr} {fd fdI : FuncData} (F : Fun K "is_fraction" "is_fraction" s_is_fraction f fd) (B : Bc mg) (D : Df K mg "is_integer" sIsInt ["given"] fI fdI) : FnOk P w K mg base CX0 2 f fd ["given"] (spPart K) := by
  have GI : FnOk P w K mg base CX0 1 fI fdI ["given"] spIsInt := ok_isInt D.F B
  refine F.ok sc_is_fraction (fun vs H Q E h => ?_) (fun cdv A outer s H vs Q E hr h => ?_)
  · obtain ⟨u, p, rfl, _⟩ := h
    rfl
  · obtain ⟨u, p, rfl, hp, fp, k⟩ := h
    obtain ⟨t, rfl, hT⟩ := fr_inv hp
    refine ⟨_, pss_cons (ps_if (PW.pt (pw_or (pt_not (pt_val (pe_callB (call_isi) (by rfl) B.isi (by decide +kernel) (pa_cons (pv 0) (pa_cons (pe_bltn (v := .ty "tuple") (by rfl) B.tuple (by decide +kernel) rfl) pa_nil))))) (pw_or1 (pt_cmpR op_ne (pe_callB (call_len_seq) (by rfl) B.len (by decide +kernel) (pa_cons (pv 0) pa_nil)) pe_int (nomark _))))) (pss_one (ps_ret pe_bl)) pss_nil) (pss_cons (ps_asg (pv 0) (pg_tup (by rfl) (pgs_cons (pg_name (i := 1) sc_is_fraction.nd rfl (.inl rfl)) (pgs_cons (pg_name (i := 2) sc_is_fraction.nd rfl (.inl rfl)) pgs_nil)))) (pss_cons (ps_if (PW.pt (pw_or (pt_not (pt_val (pe_call GI hr (by rfl) D.g D.F.kp D.b .nil pass0 (pa_cons (pv 1) pa_nil)))) (pw_or1 (pt_not (pt_val (pe_call GI hr (by rfl) D.g D.F.kp D.b .nil pass0 (pa_cons (pv 2) pa_nil))))))) (pss_one (ps_ret pe_bl)) pss_nil) (pss_one (ps_ret (pe_and (pe_cmpR op_ge (pv 2) pe_int (nomark _)) (pe_one (pe_cmpR op_eq (pe_callBfun cr_gcd (by rfl) B.gcd (pa_cons (pv 1) (pa_cons (pv 2) pa_nil))) pe_int (nomark _)))))))), ?_⟩
    refine ⟨_, rfl, .ref t, .ty "tuple", _, _, true, rfl, .ty "tuple", tyx_sqt hT, kit_ty (by decide +kernel), true, rfl, iteF ?_⟩
    refine ⟨_, rfl, t, _, rfl, .inr hT, rfl, _, rfl, iteF ?_⟩
    refine ⟨_, rfl, t, _, rfl, hT, rfl, _, _, rfl, _, _, rfl, rfl, ?_⟩
    refine ⟨_, rfl, p.1, rfl, true, rfl, iteF ⟨_, rfl, p.2, rfl, true, rfl, iteF ?_⟩⟩
    have d0 := fp.d0
    refine ⟨_, rfl, _, _, rfl, rfl, _, rfl, ?_⟩
    rw [decide_eq_true (show (1 : Int) ≤ p.2 by omega)]
    refine iteT ⟨_, rfl, _, rfl, p.1, p.2, rfl, ?_⟩
    have co : Nat.gcd p.1.natAbs p.2.natAbs = 1 := fp.co
    rw [co]
    exact ⟨rfl, k⟩
theorem ok_part {f fI fR : Addr} {fd fdI fdR : FuncData} (F : Fun K "is_part" "is_part" s_is_part f fd) (B : Bc mg) (D : Df K mg "is_integer" sIsInt ["given"] fI fdI) (R : Df K mg "is_fraction" s_is_fraction ["given"] fR fdR) : FnOk P w K mg base CX0 3 f fd ["given"] (spPart K) := by
  have GR : FnOk P w K mg base CX0 2 fR fdR ["given"] (spPart K) := ok_frac R.F B D
  refine F.ok sc_is_part (fun vs H Q E h => ?_) (fun cdv A outer s H vs Q E hr h => ?_)
  · obtain ⟨u, p, rfl, _⟩ := h
    rfl
  · obtain ⟨u, p, rfl, hp, fp, k⟩ := h
    have hp0 := hp
    obtain ⟨t, rfl, hT⟩ := fr_inv hp
    refine ⟨_, pss_one (ps_ret (pe_and (pe_call GR hr (by rfl) R.g R.F.kp R.b .nil pass0 (pa_cons (pv 0) pa_nil)) (pe_one (pe_chain op_le op_le pe_int (pe_ix ix_tup (pv 0) pe_int (fun _ _ => rfl)) (pe_ix ix_tup (pv 0) pe_int (fun _ _ => rfl)))))), ?_⟩
    refine ⟨_, rfl, _, p, rfl, hp0, fp, true, rfl, iteT ?_⟩
    refine ⟨_, rfl, t, _, 0, .int p.1, rfl, rfl, hT, at_of (j := 0) rfl rfl, _, _, rfl, rfl, _, rfl, ?_⟩
    rw [decide_eq_true fp.n0]
    refine iteT ⟨_, rfl, t, _, 1, .int p.2, rfl, rfl, hT, at_of (j := 1) rfl rfl, _, _, rfl, rfl, ?_⟩
    show Q (.bl (decide (p.1 ≤ p.2))) H
    rw [decide_eq_true fp.le]
    exact k
theorem ok_ahead {f fL : Addr} {fd fdL : FuncData} (F : Fun K "_is_ahead" "_is_ahead" s__is_ahead f fd) (L : Df K mg "is_less" s_is_less ["one", "other"] fL fdL) : FnOk P w K mg base CX0 2 f fd ["cut", "other"] (spAhead K) := by
  have GL : FnOk P w K mg base CX0 1 fL fdL ["one", "other"] (spLess K) := ok_less L.F
  refine F.ok sc__is_ahead (fun vs H Q E h => ?_) (fun cdv A outer s H vs Q E hr h => ?_)
  · obtain ⟨u, v, p, q, rfl, _⟩ := h
    rfl
  · obtain ⟨u, v, c, e, rfl, h1, h2, l1, l2, k⟩ := h
    have hu := hr.units
    obtain ⟨a, x, rfl, ha, dx⟩ := cut_inv h1
    obtain ⟨b, y, rfl, hb, dy⟩ := cut_inv h2
    refine ⟨_, pss_cons (ps_if (pt_cmpR (op_eqD hu) (pe_ix ix_tup (pv 0) pe_int (fun _ _ => rfl)) (pe_ix ix_tup (pv 1) pe_int (fun _ _ => rfl)) (nomark _)) (pss_one (ps_ret (pe_cmpR op_lt (pe_ix ix_tup (pv 0) pe_int (fun _ _ => rfl)) (pe_ix ix_tup (pv 1) pe_int (fun _ _ => rfl)) (nomark _)))) pss_nil) (pss_one (ps_ret (pe_call GL hr (by rfl) L.g L.F.kp L.b .nil pass0 (pa_cons (pe_ix ix_tup (pv 0) pe_int (fun _ _ => rfl)) (pa_cons (pe_ix ix_tup (pv 1) pe_int (fun _ _ => rfl)) pa_nil))))), ?_⟩
    refine ⟨_, rfl, a, _, 0, x, rfl, rfl, ha, at_of (j := 0) rfl rfl, _, rfl, b, _, 0, y, rfl, rfl, hb, at_of (j := 0) rfl rfl, _, _, dx, dy, fr_shaped _, fr_shaped _, _, rfl, ?_⟩
    rw [fr_eqv]
    unfold Cut.lt at k
    refine ite2 (fun z => ?_) (fun z => ?_)
    · have z := of_decide_eq_true z
      rw [if_pos z] at k
      refine ⟨_, rfl, a, _, 1, .int (bI c.b), rfl, rfl, ha, at_of (j := 1) rfl rfl, _, rfl, b, _, 1, .int (bI e.b), rfl, rfl, hb, at_of (j := 1) rfl rfl, _, _, rfl, rfl, ?_⟩
      have : decide (bI c.b < bI e.b) = (!c.b && e.b) := by cases c.b <;> cases e.b <;> decide
      show Q (.bl (decide (bI c.b < bI e.b))) H
      rw [this]
      exact k
    · have z : ¬ (c.n = e.n ∧ c.d = e.d) := fun q => z (decide_eq_true q)
      rw [if_neg z] at k
      exact ⟨_, rfl, a, _, 0, x, rfl, rfl, ha, at_of (j := 0) rfl rfl, _, rfl, b, _, 0, y, rfl, rfl, hb, at_of (j := 0) rfl rfl, _, _, _, _, rfl, dx, dy, l1, l2, k⟩
theorem ok_cuts {f : Addr} {fd : FuncData} (F : Fun K "_cuts_at" "_cuts_at" s__cuts_at f fd) : FnOk P w K mg base CX0 1 f fd ["piece"] (spCuts K) := by
  refine F.ok sc__cuts_at (fun vs H Q E h => ?_) (fun cdv A outer s H vs Q E hr h => ?_)
  · obtain ⟨u, c, e, rfl, _⟩ := h
    rfl
  · obtain ⟨u, c, e, rfl, h1, k⟩ := h
    obtain ⟨a, x, y, rfl, ha, dx, dy⟩ := pc_inv h1
    refine ⟨_, pss_cons (ps_asg (pv 0) (pg_tup (by rfl) (pgs_cons (pg_name (i := 1) sc__cuts_at.nd rfl (.inl rfl)) (pgs_cons (pg_name (i := 2) sc__cuts_at.nd rfl (.inl rfl)) (pgs_cons (pg_name (i := 3) sc__cuts_at.nd rfl (.inl rfl)) (pgs_cons (pg_name (i := 4) sc__cuts_at.nd rfl (.inl rfl)) pgs_nil)))))) (pss_one (ps_ret (pe_tup (pa_cons (pe_tup (pa_cons (pv 1) (pa_cons (pe_ifExp (pt_val (pv 3)) pe_int pe_int) pa_nil))) (pa_cons (pe_tup (pa_cons (pv 2) (pa_cons (pe_ifExp (pt_val (pv 4)) pe_int pe_int) pa_nil))) pa_nil))))), ?_⟩
    refine ⟨_, rfl, a, _, rfl, ha, rfl, _, _, rfl, _, _, rfl, _, _, rfl, _, _, rfl, rfl, ?_⟩
    refine ⟨_, rfl, ?_⟩
    refine if_any (fun v => v = .int (bI c.b)) (!c.b) (fun S s => ⟨_, rfl, _, rfl, s⟩) (fun z S s => s _ (by cases h : c.b with | true => rw [h] at z; cases z | false => rfl)) (fun z S s => s _ (by cases h : c.b with | false => rw [h] at z; cases z | true => rfl)) (fun v hv => ?_)
    subst hv
    refine ⟨(by show 2 ≤ sizeLine; decide), fun r1 n1 => ⟨_, rfl, ?_⟩⟩
    have s1 := same_put (o := HO.tup [x, .int (bI c.b)]) n1
    have g1 : upd H r1 (HO.tup [x, .int (bI c.b)]) r1 = some (.tup [x, .int (bI c.b)]) := upd_same
    generalize upd H r1 (HO.tup [x, .int (bI c.b)]) = H1 at *
    refine if_any (fun v => v = .int (bI e.b)) e.b (fun S s => ⟨_, rfl, _, rfl, s⟩) (fun z S s => s _ (by rw [z]; rfl)) (fun z S s => s _ (by rw [z]; rfl)) (fun v hv => ?_)
    subst hv
    refine ⟨(by show 2 ≤ sizeLine; decide), fun r2 n2 => ⟨(by show 2 ≤ sizeLine; decide), fun r n => ?_⟩⟩
    have s2 := same_put (o := HO.tup [y, .int (bI e.b)]) n2
    have g2 : upd H1 r2 (HO.tup [y, .int (bI e.b)]) r2 = some (.tup [y, .int (bI e.b)]) := upd_same
    generalize upd H1 r2 (HO.tup [y, .int (bI e.b)]) = H2 at *
    have s3 := same_put (o := HO.tup [.ref r1, .ref r2]) n
    have S := (s1.trans s2).trans s3
    exact k r _ _ _ S ((s1.trans s2).free n) upd_same (cut_mk (SqT.of (s3 _ _ (s2 _ _ g1))) (dp_same S _ _ dx)) (cut_mk (SqT.of (s3 _ _ g2)) (dp_same S _ _ dy))
end
end My
set_option Elab.async false
set_option maxRecDepth 100000
set_option maxHeartbeats 1000000
set_option linter.all false
/-! where two steps make unlike orders -/
namespace Mt
/-! an order tells how the places lie -/
theorem get_lt {l : List Int} (h : l.Pairwise (· < ·)) {i j : Nat} {u v : Int} (hi : l[i]? = some u) (hj : l[j]? = some v) : i < j ↔ u < v := by
  obtain ⟨h1, e1⟩ := List.getElem?_eq_some_iff.mp hi
  obtain ⟨h2, e2⟩ := List.getElem?_eq_some_iff.mp hj
  subst e1 e2
  have p := List.pairwise_iff_getElem.mp h
  constructor
  · exact p i j h1 h2
  · intro q
    rcases Nat.lt_trichotomy i j with c | c | c
    · exact c
    · subst c; omega
    · have := p j i h2 h1 c; omega
theorem ord_lt {f : Int → Int} {ms : List Int} {i j : Int} (hi : i ∈ ms) (hj : j ∈ ms) : f i < f j ↔ ∃ (a b : Nat) (g h : List Int), a < b ∧ (ord f ms)[a]? = some g ∧ i ∈ g ∧ (ord f ms)[b]? = some h ∧ j ∈ h := by
  have at_ : ∀ k ∈ ms, ∃ a, (sortU (ms.map f))[a]? = some (f k) := fun k hk => List.mem_iff_getElem?.mp (sortU_mem.mpr (List.mem_map.mpr ⟨k, hk, rfl⟩))
  constructor
  · intro c
    obtain ⟨a, ha⟩ := at_ i hi
    obtain ⟨b, hb⟩ := at_ j hj
    refine ⟨a, b, grp f ms (f i), grp f ms (f j), (get_lt (sortU_pw _) ha hb).mpr c, ?_, ?_, ?_, ?_⟩
    · unfold ord; rw [List.getElem?_map, ha]; rfl
    · exact List.mem_filter.mpr ⟨hi, by simp⟩
    · unfold ord; rw [List.getElem?_map, hb]; rfl
    · exact List.mem_filter.mpr ⟨hj, by simp⟩
  · rintro ⟨a, b, g, h, c, hg, ig, hh, jh⟩
    unfold ord at hg hh
    rw [List.getElem?_map] at hg hh
    obtain ⟨u, hu, rfl⟩ := Option.map_eq_some_iff.mp hg
    obtain ⟨v, hv, rfl⟩ := Option.map_eq_some_iff.mp hh
    have e1 : f i = u := by simpa using (List.mem_filter.mp ig).2
    have e2 : f j = v := by simpa using (List.mem_filter.mp jh).2
    rw [e1, e2]
    exact (get_lt (sortU_pw _) hu hv).mp c
/-- orders that are the same: the places lie the same -/
theorem ord_same_lt {f g : Int → Int} {ms : List Int} (h : ord f ms = ord g ms) {i j : Int} (hi : i ∈ ms) (hj : j ∈ ms) : f i < f j ↔ g i < g j := by
  rw [ord_lt hi hj, ord_lt hi hj, h]
/-- places that lie the same: the same orders -/
theorem ord_of_lt {f g : Int → Int} {ms : List Int} (h : ∀ i ∈ ms, ∀ j ∈ ms, f i < f j ↔ g i < g j) : ord f ms = ord g ms := by
  have he : ∀ i ∈ ms, ∀ j ∈ ms, f i = f j ↔ g i = g j := fun i hi j hj => by
    have h1 := h i hi j hj
    have h2 := h j hj i hi
    omega
  -- a mark at each place
  have key : ∀ l : List Int, (∀ v ∈ l, v ∈ ms.map f) → ∃ ks : List Int, ks.map f = l ∧ ∀ k ∈ ks, k ∈ ms := by
    intro l
    induction l with
    | nil => exact fun _ => ⟨[], rfl, fun k hk => by simp at hk⟩
    | cons v l ih =>
      intro hl
      obtain ⟨k, hk, e⟩ := List.mem_map.mp (hl v List.mem_cons_self)
      obtain ⟨ks, e2, hks⟩ := ih fun u hu => hl u (List.mem_cons_of_mem _ hu)
      refine ⟨k :: ks, by rw [List.map_cons, e, e2], fun z hz => ?_⟩
      rcases List.mem_cons.mp hz with rfl | hz
      · exact hk
      · exact hks z hz
  obtain ⟨ks, e1, hks⟩ := key (sortU (ms.map f)) fun v hv => sortU_mem.mp hv
  have pf : (ks.map f).Pairwise (· < ·) := by rw [e1]; exact sortU_pw _
  have pg : (ks.map g).Pairwise (· < ·) := by
    rw [List.pairwise_map] at pf ⊢
    exact pf.imp_of_mem fun {a b} ha hb c => (h a (hks a ha) b (hks b hb)).mp c
  have e2 : sortU (ms.map g) = ks.map g := strict_one (sortU_pw _) pg fun v => by
    rw [sortU_mem]
    constructor
    · intro hv
      obtain ⟨i, hi, rfl⟩ := List.mem_map.mp hv
      have : f i ∈ ks.map f := by rw [e1, sortU_mem]; exact List.mem_map.mpr ⟨i, hi, rfl⟩
      obtain ⟨k, hk, e⟩ := List.mem_map.mp this
      exact List.mem_map.mpr ⟨k, hk, (he k (hks k hk) i hi).mp e⟩
    · intro hv
      obtain ⟨k, hk, rfl⟩ := List.mem_map.mp hv
      exact List.mem_map.mpr ⟨k, hks k hk, rfl⟩
  unfold ord
  rw [← e1, e2, List.map_map, List.map_map]
  refine List.map_congr_left fun k hk => ?_
  refine List.filter_congr fun i hi => ?_
  have := he i hi k (hks k hk)
  by_cases c : f i = f k
  · rw [beq_iff_eq.mpr c, beq_iff_eq.mpr (this.mp c)]
  · rw [beq_eq_false_iff_ne.mpr c, beq_eq_false_iff_ne.mpr fun z => c (this.mpr z)]
/-! the arithmetic -/
/-- x1 / x2 below y1 / y2, both from 0 on below 1 -/
structure Pair (x1 x2 y1 y2 : Int) : Prop where
  a0 : 0 ≤ x1
  a1 : x1 < x2
  b0 : 0 ≤ y1
  b1 : y1 < y2
  lt : x1 * y2 < y1 * x2
/-- p / q lies between, nothing with a lesser bottom does -/
structure Least (x1 x2 y1 y2 p q : Int) : Prop where
  q0 : 0 < q
  lo : x1 * q ≤ p * x2
  hi : p * y2 ≤ y1 * q
  no : ∀ r s, 0 < s → s < q → x1 * s ≤ r * x2 → r * y2 ≤ y1 * s → False
theorem Pair.mul {x1 x2 y1 y2 : Int} (P : Pair x1 x2 y1 y2) {r s : Int} (s0 : 0 < s) (h : r * x2 < x1 * s) : r * y2 < y1 * s := by
  have a0 := P.a0
  have a1 := P.a1
  have b0 := P.b0
  have b1 := P.b1
  have h1 : r * x2 * y2 < x1 * s * y2 := Int.mul_lt_mul_of_pos_right h (by omega)
  have h2 : x1 * y2 * s < y1 * x2 * s := Int.mul_lt_mul_of_pos_right P.lt s0
  have e1 : x1 * s * y2 = x1 * y2 * s := Int.mul_right_comm _ _ _
  have e2 : y1 * x2 * s = y1 * s * x2 := Int.mul_right_comm _ _ _
  have e3 : r * x2 * y2 = r * y2 * x2 := Int.mul_right_comm _ _ _
  have h3 : r * y2 * x2 < y1 * s * x2 := by omega
  exact Int.lt_of_mul_lt_mul_right h3 (by omega)
theorem Pair.mul' {x1 x2 y1 y2 : Int} (P : Pair x1 x2 y1 y2) {r s : Int} (s0 : 0 < s) (h : y1 * s < r * y2) : x1 * s < r * x2 := by
  have a0 := P.a0
  have a1 := P.a1
  have b0 := P.b0
  have b1 := P.b1
  have h1 : y1 * s * x2 < r * y2 * x2 := Int.mul_lt_mul_of_pos_right h (by omega)
  have h2 : x1 * y2 * s < y1 * x2 * s := Int.mul_lt_mul_of_pos_right P.lt s0
  have e1 : x1 * s * y2 = x1 * y2 * s := Int.mul_right_comm _ _ _
  have e2 : y1 * x2 * s = y1 * s * x2 := Int.mul_right_comm _ _ _
  have e3 : r * x2 * y2 = r * y2 * x2 := Int.mul_right_comm _ _ _
  have h3 : x1 * s * y2 < r * x2 * y2 := by omega
  exact Int.lt_of_mul_lt_mul_right h3 (by omega)
/-- at a lesser bottom both have the same whole part, and a rest -/
theorem Least.floor {x1 x2 y1 y2 p q : Int} (P : Pair x1 x2 y1 y2) (L : Least x1 x2 y1 y2 p q) {s : Int} (s0 : 0 < s) (sq : s < q) :
    ∃ r, r * x2 < x1 * s ∧ x1 * s < (r + 1) * x2 ∧ r * y2 < y1 * s ∧ y1 * s < (r + 1) * y2 := by
  have b0 := P.b0
  have b1 := P.b1
  have y0 : 0 < y2 := by omega
  have m0 := Int.emod_nonneg (y1 * s) (show y2 ≠ 0 by omega)
  have m1 := Int.emod_lt_of_pos (y1 * s) y0
  have md := Int.mul_ediv_add_emod (y1 * s) y2
  have cm := Int.mul_comm y2 (y1 * s / y2)
  have l1 : (y1 * s / y2) * y2 ≤ y1 * s := by omega
  have l2 : y1 * s < (y1 * s / y2 + 1) * y2 := by rw [Int.add_mul]; omega
  have l3 : (y1 * s / y2) * x2 < x1 * s := by
    rcases Int.lt_or_le ((y1 * s / y2) * x2) (x1 * s) with c | c
    · exact c
    · exact (L.no _ s s0 sq c l1).elim
  exact ⟨y1 * s / y2, l3, P.mul' s0 l2, P.mul s0 l3, l2⟩
/-- the place of a mark, by its whole part -/
theorem place_of {x1 x2 k r : Int} (h0 : r * x2 ≤ x1 * k) (h1 : x1 * k < (r + 1) * x2) : (x1 * k).fmod x2 = x1 * k - r * x2 := by
  rw [Int.add_mul] at h1
  have x0 : 0 < x2 := by omega
  rw [Int.fmod_eq_emod_of_nonneg _ (by omega)]
  have e : x1 * k = (x1 * k - r * x2) + x2 * r := by have := Int.mul_comm x2 r; omega
  rw [e, Int.add_mul_emod_self_left, ← e]
  exact Int.emod_eq_of_lt (by omega) (by omega)
theorem cancel_lt {a b c : Int} (hc : 0 < c) (h : a * c < b * c) : a < b := Int.lt_of_mul_lt_mul_right h (by omega)
/-- fewer marks than the least bottom and one more: the same order -/
theorem Least.alike {x1 x2 y1 y2 p q : Int} (P : Pair x1 x2 y1 y2) (L : Least x1 x2 y1 y2 p q) : ord (fun k => (x1 * k).fmod x2) (iota q.toNat) = ord (fun k => (y1 * k).fmod y2) (iota q.toNat) := by
  have a0 := P.a0
  have a1 := P.a1
  have b0 := P.b0
  have b1 := P.b1
  -- each mark's whole part
  have fl : ∀ k : Int, 0 ≤ k → k < q → ∃ r, r * x2 ≤ x1 * k ∧ x1 * k < (r + 1) * x2 ∧ r * y2 ≤ y1 * k ∧ y1 * k < (r + 1) * y2 := fun k k0 kq => by
    by_cases c : k = 0
    · subst c
      exact ⟨0, by simp, by simp; omega, by simp, by simp; omega⟩
    · obtain ⟨r, h1, h2, h3, h4⟩ := L.floor P (s := k) (by omega) kq
      exact ⟨r, Int.le_of_lt h1, h2, Int.le_of_lt h3, h4⟩
  -- i < j
  have up : ∀ i j : Int, 0 ≤ i → i < j → j < q → (((x1 * i).fmod x2 < (x1 * j).fmod x2 ↔ (y1 * i).fmod y2 < (y1 * j).fmod y2) ∧ ((x1 * j).fmod x2 < (x1 * i).fmod x2 ↔ (y1 * j).fmod y2 < (y1 * i).fmod y2)) := fun i j i0 ij jq => by
    obtain ⟨u, u1, u2, u3, u4⟩ := fl i i0 (by omega)
    obtain ⟨v, v1, v2, v3, v4⟩ := fl j (by omega) jq
    obtain ⟨r, r1, r2, r3, r4⟩ := L.floor P (s := j - i) (by omega) (by omega)
    rw [place_of u1 u2, place_of v1 v2, place_of u3 u4, place_of v3 v4]
    rw [Int.mul_sub] at r1 r2 r3 r4
    rw [Int.add_mul] at r2 r4
    rcases Int.lt_or_le r (v - u) with c | c
    · have e1 := Int.mul_le_mul_of_nonneg_right (show r + 1 ≤ v - u by omega) (show 0 ≤ x2 by omega)
      have e2 := Int.mul_le_mul_of_nonneg_right (show r + 1 ≤ v - u by omega) (show 0 ≤ y2 by omega)
      rw [Int.add_mul, Int.sub_mul] at e1 e2
      constructor <;> constructor <;> intro <;> omega
    · have e1 := Int.mul_le_mul_of_nonneg_right c (show 0 ≤ x2 by omega)
      have e2 := Int.mul_le_mul_of_nonneg_right c (show 0 ≤ y2 by omega)
      rw [Int.sub_mul] at e1 e2
      constructor <;> constructor <;> intro <;> omega
  have q0 := L.q0
  refine ord_of_lt fun i hi j hj => ?_
  have ii := iota_mem.mp hi
  have jj := iota_mem.mp hj
  rcases Int.lt_trichotomy i j with c | c | c
  · exact (up i j ii.1 c (by omega)).1
  · subst c; simp
  · exact (up j i jj.1 c (by omega)).2
theorem cancel_le {a b c : Int} (hc : 0 < c) (h : a * c ≤ b * c) : a ≤ b := Int.le_of_mul_le_mul_right h hc
/-- one mark more: unlike orders -/
theorem Least.unlike {x1 x2 y1 y2 p q : Int} (P : Pair x1 x2 y1 y2) (L : Least x1 x2 y1 y2 p q) : ord (fun k => (x1 * k).fmod x2) (iota (q + 1).toNat) ≠ ord (fun k => (y1 * k).fmod y2) (iota (q + 1).toNat) := by
  intro h
  have a0 := P.a0
  have a1 := P.a1
  have b0 := P.b0
  have b1 := P.b1
  have q0 := L.q0
  have mem : ∀ k : Int, 0 ≤ k → k ≤ q → k ∈ iota (q + 1).toNat := fun k k0 kq => iota_mem.mpr ⟨k0, by omega⟩
  have z0 : ∀ a b : Int, (a * 0).fmod b = 0 := fun a b => by rw [Int.mul_zero, Int.zero_fmod]
  have n0 : ∀ a b k : Int, 0 < b → 0 ≤ (a * k).fmod b := fun a b k hb => by rw [Int.fmod_eq_emod_of_nonneg _ (by omega)]; exact Int.emod_nonneg _ (by omega)
  have mz : ∀ a b k : Int, 0 < b → (a * k).fmod b = 0 → ∃ m, a * k = m * b := fun a b k hb e => by
    rw [Int.fmod_eq_emod_of_nonneg _ (by omega)] at e
    have := Int.mul_ediv_add_emod (a * k) b
    exact ⟨a * k / b, by have := Int.mul_comm b (a * k / b); omega⟩
  have s1 := ord_same_lt h (mem 0 (by omega) (by omega)) (mem q (by omega) (by omega))
  simp only [z0] at s1
  have nx := n0 x1 x2 q (by omega)
  have ny := n0 y1 y2 q (by omega)
  rcases Int.lt_or_eq_of_le L.lo with lo | lo
  · rcases Int.lt_or_eq_of_le L.hi with hi | hi
    · -- strictly between
      have q2 : 2 ≤ q := by
        rcases Int.lt_or_le q 2 with c | c
        · have e : q = 1 := by omega
          rw [e, Int.mul_one] at lo hi
          have h1 : 0 < p := by
            rcases Int.lt_or_le 0 p with d | d
            · exact d
            · have := Int.mul_le_mul_of_nonneg_right d (show 0 ≤ x2 by omega)
              rw [Int.zero_mul] at this; omega
          have := Int.mul_le_mul_of_nonneg_right (show 1 ≤ p by omega) (show 0 ≤ y2 by omega)
          rw [Int.one_mul] at this; omega
        · exact c
      obtain ⟨r, r1, r2, r3, r4⟩ := L.floor P (s := q - 1) (by omega) (by omega)
      rw [Int.mul_sub, Int.mul_one] at r1 r2 r3 r4
      have hr : r = p - 1 := by
        have h1 : r < p := cancel_lt (c := x2) (by omega) (by omega)
        have h2 : p < r + 2 := cancel_lt (c := y2) (by omega) (by rw [Int.add_mul] at r4 ⊢; omega)
        omega
      subst hr
      have s2 := ord_same_lt h (mem 1 (by omega) (by omega)) (mem q (by omega) (by omega))
      rw [Int.sub_mul] at r1 r3
      rw [show p - 1 + 1 = p by omega] at r2 r4
      have f1 : (x1 * 1).fmod x2 = x1 * 1 - 0 * x2 := place_of (by rw [Int.zero_mul]; omega) (by rw [Int.add_mul]; omega)
      have g1 : (y1 * 1).fmod y2 = y1 * 1 - 0 * y2 := place_of (by rw [Int.zero_mul]; omega) (by rw [Int.add_mul]; omega)
      have fq : (x1 * q).fmod x2 = x1 * q - (p - 1) * x2 := place_of (by rw [Int.sub_mul]; omega) (by rw [show p - 1 + 1 = p by omega]; omega)
      have gq : (y1 * q).fmod y2 = y1 * q - p * y2 := place_of (by omega) (by rw [Int.add_mul]; omega)
      rw [f1, g1, fq, gq, Int.sub_mul] at s2
      omega
    · -- y is p / q
      have gz : (y1 * q).fmod y2 = 0 := by
        rw [← hi, Int.fmod_eq_emod_of_nonneg _ (by omega), Int.mul_emod_left]
      have fz : (x1 * q).fmod x2 = 0 := by rw [gz] at s1; omega
      obtain ⟨m, hm⟩ := mz x1 x2 q (by omega) fz
      have mp : m < p := cancel_lt (c := x2) (by omega) (by omega)
      rcases Int.lt_or_le q 2 with c | c
      · have e : q = 1 := by omega
        rw [e, Int.mul_one] at hi
        have hp : p < 1 := cancel_lt (c := y2) (by omega) (by omega)
        have := Int.mul_le_mul_of_nonneg_right (show p ≤ 0 by omega) (show 0 ≤ y2 by omega)
        have y1z : y1 = 0 := by rw [Int.zero_mul] at this; omega
        have := P.lt
        rw [y1z, Int.zero_mul] at this
        have := Int.mul_nonneg a0 (show 0 ≤ y2 by omega)
        omega
      · refine L.no (p - 1) (q - 1) (by omega) (by omega) ?_ ?_
        · rw [Int.mul_sub, Int.mul_one, Int.sub_mul, Int.one_mul]
          have := Int.mul_le_mul_of_nonneg_right (show m + 1 ≤ p by omega) (show 0 ≤ x2 by omega)
          rw [Int.add_mul] at this
          omega
        · rw [Int.mul_sub, Int.mul_one, Int.sub_mul, Int.one_mul]
          omega
  · -- x is p / q
    have fz : (x1 * q).fmod x2 = 0 := by
      rw [lo, Int.fmod_eq_emod_of_nonneg _ (by omega), Int.mul_emod_left]
    have gz : (y1 * q).fmod y2 = 0 := by rw [fz] at s1; omega
    obtain ⟨m, hm⟩ := mz y1 y2 q (by omega) gz
    have pm : p < m := by
      have h1 : p * x2 * y2 < m * y2 * x2 := by
        have := Int.mul_lt_mul_of_pos_right P.lt q0
        have e1 : x1 * y2 * q = x1 * q * y2 := Int.mul_right_comm _ _ _
        have e2 : y1 * x2 * q = y1 * q * x2 := Int.mul_right_comm _ _ _
        rw [e1, e2, lo, hm] at this
        exact this
      rw [Int.mul_right_comm p] at h1
      exact cancel_lt (c := y2) (by omega) (cancel_lt (c := x2) (by omega) h1)
    have hpm := Int.mul_le_mul_of_nonneg_right (show p + 1 ≤ m by omega) (show 0 ≤ y2 by omega)
    rw [Int.add_mul, Int.one_mul] at hpm
    rcases Int.lt_or_le q 2 with c | c
    · have e : q = 1 := by omega
      rw [e, Int.mul_one] at lo hm
      have hm1 : m < 1 := cancel_lt (c := y2) (by omega) (by omega)
      have hp : p < 0 := by omega
      have := Int.mul_le_mul_of_nonneg_right (show p + 1 ≤ 0 by omega) (show 0 ≤ x2 by omega)
      rw [Int.add_mul] at this
      omega
    · refine L.no p (q - 1) (by omega) (by omega) ?_ ?_
      · rw [Int.mul_sub, Int.mul_one]; omega
      · rw [Int.mul_sub, Int.mul_one]; omega
end Mt
set_option Elab.async false
set_option maxRecDepth 100000
set_option maxHeartbeats 1000000
set_option linter.all false
/-! the simplest fraction from a / b to c / d -/
namespace Mt
structure Best (a b c d p q : Int) : Prop where
  q0 : 0 < q
  lo : a * q ≤ p * b
  hi : p * d ≤ c * q
  mi : ∀ r s, 0 < s → a * s ≤ r * b → r * d ≤ c * s → q ≤ s ∧ p ≤ r
theorem Best.step {a b c d w p q : Int} (w0 : 0 ≤ w) (b0 : 0 < b) (d0 : 0 < d) (e0 : 0 < a - w * b) (f0 : 0 < c - w * d) (B : Best d (c - w * d) b (a - w * b) p q) : Best a b c d (w * p + q) p := by
  have q0 := B.q0
  have l := B.lo
  have h := B.hi
  have p0 : 0 < p := by
    have h1 : 0 < d * q := Int.mul_pos d0 q0
    have h2 : 0 * (c - w * d) < p * (c - w * d) := by rw [Int.zero_mul]; omega
    exact Int.lt_of_mul_lt_mul_right h2 (by omega)
  have m1 : p * (c - w * d) = c * p - w * p * d := by rw [Int.mul_sub, Int.mul_comm p c, ← Int.mul_assoc, Int.mul_comm p w]
  have m2 : p * (a - w * b) = a * p - w * p * b := by rw [Int.mul_sub, Int.mul_comm p a, ← Int.mul_assoc, Int.mul_comm p w]
  have m3 := Int.mul_comm d q
  have m4 := Int.mul_comm b q
  refine ⟨p0, ?_, ?_, fun r s s0 h1 h2 => ?_⟩
  · rw [Int.add_mul]; omega
  · rw [Int.add_mul]; omega
  · have k1 : (r - w * s) * b = r * b - w * b * s := by rw [Int.sub_mul, Int.mul_right_comm]
    have k2 : (r - w * s) * d = r * d - w * d * s := by rw [Int.sub_mul, Int.mul_right_comm]
    have k3 : (a - w * b) * s = a * s - w * b * s := Int.sub_mul ..
    have k4 : (c - w * d) * s = c * s - w * d * s := Int.sub_mul ..
    have t0 : 0 < r - w * s := by
      have h3 : 0 < (a - w * b) * s := Int.mul_pos e0 s0
      have h4 : 0 * b < (r - w * s) * b := by rw [Int.zero_mul]; omega
      exact Int.lt_of_mul_lt_mul_right h4 (by omega)
    have z := B.mi s (r - w * s) t0 (by rw [Int.mul_comm d, Int.mul_comm s]; omega) (by rw [Int.mul_comm s, Int.mul_comm b]; omega)
    have z2 := Int.mul_le_mul_of_nonneg_left z.2 w0
    exact ⟨z.2, by omega⟩
theorem div_le {a b : Int} (b0 : 0 < b) : (a / b) * b ≤ a ∧ a < (a / b) * b + b := by
  have h := Int.mul_ediv_add_emod a b
  have h1 := Int.emod_nonneg a (show b ≠ 0 by omega)
  have h2 := Int.emod_lt_of_pos a b0
  have := Int.mul_comm b (a / b)
  omega
/-- an integer lies in the stretch: the least one from the low end on -/
theorem Best.whole {a b c d : Int} (a0 : 0 ≤ a) (b0 : 0 < b) (d0 : 0 < d) (le : a * d ≤ c * b) (h : ¬ (a % b ≠ 0 ∧ a / b = c / d)) : Best a b c d (-(-a / b)) 1 := by
  obtain ⟨n1, n2⟩ := div_le (a := -a) b0
  have e : -(-a / b) * b = -((-a / b) * b) := Int.neg_mul ..
  have lo : a * 1 ≤ -(-a / b) * b := by rw [Int.mul_one, e]; omega
  refine ⟨by decide, lo, ?_, fun r s s0 h1 h2 => ⟨by omega, ?_⟩⟩
  · rw [Int.mul_one]
    by_cases z : a % b = 0
    · -- a / b is an integer
      have hd := Int.mul_ediv_add_emod a b
      rw [z, Int.add_zero] at hd
      have en : -(-a / b) = a / b := by
        have : -a = b * (-(a / b)) := by rw [Int.mul_neg, hd]
        rw [this, Int.mul_ediv_cancel_left _ (by omega)]; omega
      rw [en]
      have h3 : a / b * d * b ≤ c * b := by
        have : a / b * d * b = a * d := by rw [Int.mul_right_comm, Int.mul_comm (a / b) b, hd]
        omega
      exact cancel_le b0 h3
    · have ne : a / b ≠ c / d := fun y => h ⟨z, y⟩
      obtain ⟨m1, m2⟩ := div_le (a := a) b0
      obtain ⟨k1, k2⟩ := div_le (a := c) d0
      -- a / b ≤ c / d as whole parts
      have h4 : a / b ≤ c / d := by
        refine Int.le_ediv_of_mul_le d0 ?_
        refine cancel_le b0 ?_
        have h5 : a / b * b * d ≤ a * d := Int.mul_le_mul_of_nonneg_right m1 (by omega)
        have : a / b * d * b = a / b * b * d := Int.mul_right_comm ..
        omega
      have h6 : -(-a / b) ≤ a / b + 1 := by
        have h7 : -(-a / b) * b < (a / b + 2) * b := by rw [Int.add_mul, e]; omega
        have := cancel_lt b0 h7
        omega
      have h8 := Int.mul_le_mul_of_nonneg_right (show -(-a / b) ≤ c / d by omega) (show 0 ≤ d by omega)
      omega
  · -- least
    have h3 : a * 1 ≤ a * s := Int.mul_le_mul_of_nonneg_left (by omega) a0
    have h4 : -(-a / b) * b < (r + 1) * b := by rw [Int.add_mul, e]; omega
    have := cancel_lt b0 h4
    omega
/-- the numbers of a stretch, with bounds -/
structure Ok (a b c d : Int) : Prop where
  a0 : 0 ≤ a
  b0 : 0 < b
  c0 : 0 ≤ c
  d0 : 0 < d
  le : a * d ≤ c * b
  a1 : a < 2 ^ 100
  b1 : b < 2 ^ 100
  c1 : c < 2 ^ 100
  d1 : d < 2 ^ 100
/-- one turn: what is left, turned over -/
structure Turn (a b c d w : Int) : Prop where
  w0 : 0 ≤ w
  w1 : w < 2 ^ 100
  e0 : 0 < a - w * b
  e1 : a - w * b < b
  f0 : 0 < c - w * d
  f1 : c - w * d < d
theorem Ok.turn {a b c d : Int} (K : Ok a b c d) (h1 : a % b ≠ 0) (h2 : a / b = c / d) : Turn a b c d (a / b) ∧ Ok d (c - a / b * d) b (a - a / b * b) := by
  have b0 := K.b0
  have d0 := K.d0
  obtain ⟨m1, m2⟩ := div_le (a := a) b0
  obtain ⟨k1, k2⟩ := div_le (a := c) d0
  rw [← h2] at k1 k2
  have hd := Int.mul_ediv_add_emod a b
  have := Int.mul_comm b (a / b)
  have en := Int.emod_nonneg a (show b ≠ 0 by omega)
  have e0 : 0 < a - a / b * b := by omega
  have w0 : 0 ≤ a / b := Int.ediv_nonneg K.a0 (by omega)
  have w1 : a / b ≤ a := Int.ediv_le_self b K.a0
  have f0 : 0 < c - a / b * d := by
    have h3 : a / b * b * d < a * d := Int.mul_lt_mul_of_pos_right (by omega) d0
    have h4 : a / b * d * b = a / b * b * d := Int.mul_right_comm ..
    have h5 : a / b * d * b < c * b := by have := K.le; omega
    have := cancel_lt b0 h5
    omega
  have wd := Int.mul_nonneg w0 (show 0 ≤ d by omega)
  have a1 := K.a1
  have c1 := K.c1
  refine ⟨⟨w0, by omega, e0, by omega, f0, by omega⟩, ⟨by omega, f0, by omega, e0, ?_, K.d1, by omega, K.b1, by have := Int.mul_nonneg w0 (show 0 ≤ b by omega); omega⟩⟩
  have g1 : d * (a - a / b * b) = a * d - a / b * d * b := by rw [Int.mul_sub, Int.mul_comm d a, Int.mul_comm d, Int.mul_right_comm]
  have g2 : b * (c - a / b * d) = c * b - a / b * d * b := by rw [Int.mul_sub, Int.mul_comm b c, Int.mul_comm b]
  have := K.le
  omega
/-- the stretches gone through, the last whole part first -/
def Ch (a0 b0 c0 d0 : Int) : List Int → Int → Int → Int → Int → Prop
  | [], a, b, c, d => a = a0 ∧ b = b0 ∧ c = c0 ∧ d = d0 ∧ Ok a b c d
  | w :: rs, a', b', c', d' => ∃ a b c d, Ch a0 b0 c0 d0 rs a b c d ∧ Turn a b c d w ∧ a' = d ∧ b' = c - w * d ∧ c' = b ∧ d' = a - w * b ∧ Ok a' b' c' d'
theorem Ch.ok {a0 b0 c0 d0 : Int} : ∀ {rs : List Int} {a b c d : Int}, Ch a0 b0 c0 d0 rs a b c d → Ok a b c d
  | [], _, _, _, _, h => h.2.2.2.2
  | _ :: _, _, _, _, _, ⟨_, _, _, _, _, _, _, _, _, _, h⟩ => h
/-- the simplest one has a top and a bottom up to those of the low end -/
theorem Best.small {a b c d p q : Int} (K : Ok a b c d) (B : Best a b c d p q) : p ≤ a ∧ q ≤ b ∧ 0 ≤ p := by
  have z := B.mi a b K.b0 (Int.le_refl _) K.le
  refine ⟨z.2, z.1, ?_⟩
  have h := B.lo
  have h1 := Int.mul_nonneg K.a0 (Int.le_of_lt B.q0)
  have h2 : 0 * b ≤ p * b := by rw [Int.zero_mul]; omega
  exact cancel_le K.b0 h2
theorem Best.one {a b c d p q p' q' : Int} (B : Best a b c d p q) (B' : Best a b c d p' q') : p = p' ∧ q = q' := by
  have h1 := B.mi p' q' B'.q0 B'.lo B'.hi
  have h2 := B'.mi p q B.q0 B.lo B.hi
  omega
/-- it is in lowest terms -/
theorem Best.co {a b c d p q : Int} (K : Ok a b c d) (B : Best a b c d p q) : Nat.gcd p.natAbs q.natAbs = 1 := by
  have q0 := B.q0
  have p0 := (B.small K).2.2
  obtain ⟨m, rfl⟩ := Int.eq_ofNat_of_zero_le p0
  obtain ⟨n, rfl⟩ := Int.eq_ofNat_of_zero_le (show 0 ≤ q by omega)
  simp only [Int.natAbs_natCast]
  have n0 : 0 < n := by omega
  have g0 : 0 < Nat.gcd m n := Nat.gcd_pos_of_pos_right _ n0
  obtain ⟨u, hu⟩ := Nat.gcd_dvd_left m n
  obtain ⟨v, hv⟩ := Nat.gcd_dvd_right m n
  generalize Nat.gcd m n = g at g0 hu hv ⊢
  have v0 : 0 < v := by
    rcases Nat.eq_zero_or_pos v with z | z
    · rw [z, Nat.mul_zero] at hv; omega
    · exact z
  have g0' : (0 : Int) < (g : Int) := by omega
  have eu : ((m : Nat) : Int) = (g : Int) * (u : Int) := by rw [hu]; exact Int.natCast_mul ..
  have ev : ((n : Nat) : Int) = (g : Int) * (v : Int) := by rw [hv]; exact Int.natCast_mul ..
  have h1 : a * (v : Int) ≤ (u : Int) * b := by
    refine cancel_le g0' ?_
    have := B.lo
    rw [eu, ev] at this
    have e1 : a * (v : Int) * (g : Int) = a * ((g : Int) * (v : Int)) := by rw [Int.mul_assoc, Int.mul_comm (v : Int)]
    have e2 : (u : Int) * b * (g : Int) = (g : Int) * (u : Int) * b := by rw [Int.mul_right_comm, Int.mul_comm (u : Int)]
    omega
  have h2 : (u : Int) * d ≤ c * (v : Int) := by
    refine cancel_le g0' ?_
    have := B.hi
    rw [eu, ev] at this
    have e1 : c * (v : Int) * (g : Int) = c * ((g : Int) * (v : Int)) := by rw [Int.mul_assoc, Int.mul_comm (v : Int)]
    have e2 : (u : Int) * d * (g : Int) = (g : Int) * (u : Int) * d := by rw [Int.mul_right_comm, Int.mul_comm (u : Int)]
    omega
  have h3 := (B.mi u v (by omega) h1 h2).1
  rw [hv] at h3
  have h4 : g * v ≤ v := by omega
  rcases Nat.lt_or_ge g 2 with z | z
  · omega
  · have := Nat.mul_le_mul_right v z
    omega
/-- what the search over bottoms finds -/
theorem Best.least {a b c d p q : Int} (B : Best a b c d p q) (b0 : 0 < b) {s : Int} (s0 : 0 < s) (h : (a * s + b - 1) / b * d ≤ c * s) : q ≤ s ∧ p ≤ (a * s + b - 1) / b := by
  obtain ⟨m1, m2⟩ := div_le (a := a * s + b - 1) b0
  exact B.mi _ _ s0 (by omega) h
theorem Best.found {a b c d p q : Int} (B : Best a b c d p q) (b0 : 0 < b) (d0 : 0 < d) : (a * q + b - 1) / b = p := by
  obtain ⟨m1, m2⟩ := div_le (a := a * q + b - 1) b0
  have lo := B.lo
  have hi := B.hi
  have h1 : (a * q + b - 1) / b < p + 1 := cancel_lt b0 (by rw [Int.add_mul]; omega)
  have h2 : p * d ≤ c * q := hi
  have h3 := Int.mul_le_mul_of_nonneg_right (show (a * q + b - 1) / b ≤ p by omega) (show 0 ≤ d by omega)
  have := (B.least b0 B.q0 (by omega)).2
  omega
theorem Best.Least {x1 x2 y1 y2 p q : Int} (B : Best x1 x2 y1 y2 p q) : Least x1 x2 y1 y2 p q := ⟨B.q0, B.lo, B.hi, fun r s s0 sq h1 h2 => by have := (B.mi r s s0 h1 h2).1; omega⟩
end Mt
namespace Mt
theorem Turn.half {a b c d w w2 : Int} (T : Turn a b c d w) (T2 : Turn d (c - w * d) b (a - w * b) w2) : 2 * (b - w2 * (a - w * b)) < b := by
  have e0 := T.e0
  have e1 := T.e1
  have f1 := T2.f1
  have w0 := T2.w0
  have : 1 ≤ w2 := by
    rcases Int.lt_or_le w2 1 with z | z
    · have e : w2 = 0 := by omega
      rw [e, Int.zero_mul] at f1
      omega
    · exact z
  have := Int.mul_le_mul_of_nonneg_right this (show 0 ≤ a - w * b by omega)
  omega
theorem Ch.len {a0 b0 c0 d0 : Int} : ∀ {rs : List Int} {a b c d : Int}, Ch a0 b0 c0 d0 rs a b c d → b.toNat * 2 ^ (rs.length / 2) ≤ 2 ^ 100
  | [], _, b, _, _, h => by
    have := h.2.2.2.2.b1
    show b.toNat * 2 ^ 0 ≤ _
    rw [Nat.pow_zero, Nat.mul_one]
    omega
  | [w], _, b, _, _, h => by
    have := h.ok.b1
    rw [show ([w] : List Int).length / 2 = 0 by simp]
    rw [Nat.pow_zero, Nat.mul_one]
    omega
  | w2 :: w :: rs, a2, b2, c2, d2, ⟨a1, b1, c1, d1, ⟨a, b, c, d, h, T, ea, eb, ec, ed, k1⟩, T2, ea2, eb2, ec2, ed2, k2⟩ => by
    have ih := Ch.len h
    rw [ea, eb, ec, ed] at T2
    have hf := T.half T2
    have e2 : b2 = b - w2 * (a - w * b) := by rw [eb2, ec, ed]
    have h2 : 2 * b2.toNat ≤ b.toNat := by rw [← e2] at hf; omega
    have e : (w2 :: w :: rs).length / 2 = rs.length / 2 + 1 := by
      rw [List.length_cons, List.length_cons]; omega
    rw [e, Nat.pow_succ, Nat.mul_comm (2 ^ (rs.length / 2)) 2, ← Nat.mul_assoc, Nat.mul_comm _ 2]
    exact Nat.le_trans (Nat.mul_le_mul_right _ h2) ih
theorem Ch.few {a0 b0 c0 d0 : Int} {rs : List Int} {a b c d : Int} (h : Ch a0 b0 c0 d0 rs a b c d) : rs.length ≤ 201 := by
  have z := h.len
  have b0 := h.ok.b0
  have h1 : 1 * 2 ^ (rs.length / 2) ≤ 2 ^ 100 := Nat.le_trans (Nat.mul_le_mul_right _ (by omega)) z
  rw [Nat.one_mul] at h1
  have := (Nat.pow_le_pow_iff_right (by decide : 1 < 2)).mp h1
  omega
end Mt
set_option Elab.async false
set_option maxRecDepth 100000
set_option maxHeartbeats 1000000
set_option linter.all false
/-! the simplest fraction of a stretch, its ends belonging to it or not; its high end may be endless -/
namespace Mt
def inLo (a b : Int) (f : Bool) (p q : Int) : Prop := a * q < p * b ∨ (f = true ∧ a * q = p * b)
def inHi (c d : Int) (l : Bool) (p q : Int) : Prop := p * d < c * q ∨ (l = true ∧ p * d = c * q)
structure BestF (a b c d : Int) (f l : Bool) (p q : Int) : Prop where
  q0 : 0 < q
  lo : inLo a b f p q
  hi : inHi c d l p q
  mi : ∀ r s, 0 < s → inLo a b f r s → inHi c d l r s → q ≤ s ∧ p ≤ r
/-- the least integer of the low end's side -/
def leastW (a b : Int) (f : Bool) : Int := if f = true then -(-a / b) else a / b + 1
/-- whether it lies on the high end's side, too -/
def isW (n c d : Int) (l : Bool) : Bool := decide (n * d < c) || (l && decide (n * d = c))
theorem isW_iff {n c d : Int} {l : Bool} : isW n c d l = true ↔ (n * d < c ∨ (l = true ∧ n * d = c)) := by
  unfold isW
  rw [Bool.or_eq_true, Bool.and_eq_true, decide_eq_true_eq, decide_eq_true_eq]
structure OkF (a b c d : Int) (f l : Bool) : Prop where
  a0 : 0 ≤ a
  b0 : 0 < b
  c0 : 0 ≤ c
  d0 : 0 ≤ d
  po : d = 0 → 0 < c
  ne : a * d < c * b ∨ (f = true ∧ l = true ∧ a * d = c * b)
  a1 : a < 2 ^ 100
  b1 : b < 2 ^ 100
  c1 : c < 2 ^ 100
  d1 : d < 2 ^ 100
structure TurnF (a b c d : Int) (f : Bool) (w : Int) : Prop where
  w0 : 0 ≤ w
  w1 : w < 2 ^ 100
  e0 : 0 ≤ a - w * b
  e1 : a - w * b < b
  g0 : f = true → 0 < a - w * b
  f0 : 0 < c - w * d
  f1 : c - w * d ≤ d
  d0 : 0 < d
theorem lw_at {a b : Int} {f : Bool} (b0 : 0 < b) : inLo a b f (leastW a b f) 1 ∧ a / b ≤ leastW a b f ∧ leastW a b f ≤ a / b + 1 := by
  obtain ⟨m1, m2⟩ := div_le (a := a) b0
  obtain ⟨n1, n2⟩ := div_le (a := -a) b0
  unfold leastW inLo
  cases f with
  | false =>
    rw [if_neg (by decide)]
    refine ⟨.inl ?_, by omega, Int.le_refl _⟩
    rw [Int.add_mul]
    omega
  | true =>
    rw [if_pos rfl]
    have e : -(-a / b) * b = -((-a / b) * b) := Int.neg_mul ..
    have lo : a ≤ -(-a / b) * b := by rw [e]; omega
    refine ⟨?_, ?_, ?_⟩
    · rcases Int.lt_or_eq_of_le lo with h | h
      · exact .inl (by omega)
      · exact .inr ⟨rfl, by omega⟩
    · exact cancel_le b0 (by omega)
    · have h : -(-a / b) * b < (a / b + 2) * b := by
        rw [Int.add_mul, e]; omega
      have := cancel_lt b0 h
      omega
theorem lw_least {a b r s : Int} {f : Bool} (a0 : 0 ≤ a) (b0 : 0 < b) (s0 : 0 < s) (h : inLo a b f r s) : leastW a b f ≤ r := by
  obtain ⟨m1, m2⟩ := div_le (a := a) b0
  obtain ⟨n1, n2⟩ := div_le (a := -a) b0
  have up : a * 1 ≤ a * s := Int.mul_le_mul_of_nonneg_left (by omega) a0
  unfold inLo at h
  unfold leastW
  cases f with
  | false =>
    rw [if_neg (by decide)]
    have h : a * s < r * b := h.elim id fun z => by cases z.1
    have := cancel_lt b0 (show a / b * b < r * b by omega)
    omega
  | true =>
    rw [if_pos rfl]
    have h : a * s ≤ r * b := h.elim (by omega) fun z => by omega
    have e : -(-a / b) * b = -((-a / b) * b) := Int.neg_mul ..
    have h4 : -(-a / b) * b < (r + 1) * b := by rw [Int.add_mul, e]; omega
    have := cancel_lt b0 h4
    omega
theorem BestF.whole {a b c d : Int} {f l : Bool} (K : OkF a b c d f l) (h : isW (leastW a b f) c d l = true) : BestF a b c d f l (leastW a b f) 1 := by
  refine ⟨by decide, (lw_at K.b0).1, ?_, fun r s s0 h1 h2 => ⟨by omega, lw_least K.a0 K.b0 s0 h1⟩⟩
  unfold inHi
  rw [Int.mul_one]
  exact isW_iff.mp h
theorem OkF.turn {a b c d : Int} {f l : Bool} (K : OkF a b c d f l) (h : isW (leastW a b f) c d l = false) : TurnF a b c d f (a / b) ∧ OkF d (c - a / b * d) b (a - a / b * b) l f := by
  have b0 := K.b0
  obtain ⟨m1, m2⟩ := div_le (a := a) b0
  obtain ⟨l1, l2, l3⟩ := lw_at (a := a) (f := f) b0
  have nh : ¬ (leastW a b f * d < c ∨ (l = true ∧ leastW a b f * d = c)) := fun z => by rw [isW_iff.mpr z] at h; cases h
  have ge : c ≤ leastW a b f * d := Int.not_lt.mp fun z => nh (.inl z)
  have d0 : 0 < d := by
    rcases Int.lt_or_eq_of_le K.d0 with z | z
    · exact z
    · have := K.po z.symm
      rw [← z, Int.mul_zero] at ge
      omega
  have w0 : 0 ≤ a / b := Int.ediv_nonneg K.a0 (by omega)
  have w1 : a / b ≤ a := Int.ediv_le_self b K.a0
  have h4 : a / b * d * b = a / b * b * d := Int.mul_right_comm ..
  have f0 : 0 < c - a / b * d := by
    have h3 : a / b * b * d ≤ a * d := Int.mul_le_mul_of_nonneg_right m1 (by omega)
    rcases K.ne with n | ⟨n1, n2, n3⟩
    · have := cancel_lt b0 (show a / b * d * b < c * b by omega)
      omega
    · -- both ends are one
      rcases Int.lt_or_eq_of_le m1 with z | z
      · have h5 : a / b * b * d < a * d := Int.mul_lt_mul_of_pos_right z d0
        have := cancel_lt b0 (show a / b * d * b < c * b by omega)
        omega
      · exfalso
        have en : leastW a b f = a / b := by
          have hl : leastW a b f ≤ a / b := lw_least K.a0 b0 (s := 1) (by decide) (.inr ⟨n1, by omega⟩)
          omega
        rw [en] at nh
        have h6 : a / b * d * b = c * b := by rw [h4, z, n3]
        have h7 : a / b * d = c := by
          have e1 := cancel_le b0 (Int.le_of_eq h6)
          have e2 := cancel_le b0 (Int.le_of_eq h6.symm)
          omega
        exact nh (.inr ⟨n2, h7⟩)
  have f1 : c - a / b * d ≤ d := by
    have := Int.mul_le_mul_of_nonneg_right l3 K.d0
    rw [Int.add_mul] at this
    omega
  have g0 : f = true → 0 < a - a / b * b := fun ft => by
    rcases Int.lt_or_eq_of_le m1 with z | z
    · omega
    · exfalso
      have en : leastW a b f = a / b := by
        have hl : leastW a b f ≤ a / b := lw_least K.a0 b0 (s := 1) (by decide) (.inr ⟨ft, by omega⟩)
        omega
      rw [en] at nh
      exact nh (.inl (by omega))
  have a1 := K.a1
  have b1 := K.b1
  have c1 := K.c1
  have d1 := K.d1
  have wd := Int.mul_nonneg w0 K.d0
  refine ⟨⟨w0, by omega, by omega, by omega, g0, f0, f1, d0⟩, ⟨by omega, f0, by omega, by omega, fun _ => by omega, ?_, d1, by omega, b1, by omega⟩⟩
  have g1 : d * (a - a / b * b) = a * d - a / b * d * b := by rw [Int.mul_sub, Int.mul_comm d a, Int.mul_comm d, Int.mul_right_comm]
  have g2 : b * (c - a / b * d) = c * b - a / b * d * b := by rw [Int.mul_sub, Int.mul_comm b c, Int.mul_comm b]
  rcases K.ne with n | ⟨n1, n2, n3⟩
  · exact .inl (by omega)
  · exact .inr ⟨n2, n1, by omega⟩
theorem BestF.step {a b c d w p q : Int} {f l : Bool} (b0 : 0 < b) (T : TurnF a b c d f w) (B : BestF d (c - w * d) b (a - w * b) l f p q) : BestF a b c d f l (w * p + q) p := by
  have q0 := B.q0
  have w0 := T.w0
  have f0 := T.f0
  have d0 := T.d0
  have m1 : p * (c - w * d) = c * p - w * p * d := by rw [Int.mul_sub, Int.mul_comm p c, ← Int.mul_assoc, Int.mul_comm p w]
  have m2 : p * (a - w * b) = a * p - w * p * b := by rw [Int.mul_sub, Int.mul_comm p a, ← Int.mul_assoc, Int.mul_comm p w]
  have m3 := Int.mul_comm d q
  have m4 := Int.mul_comm b q
  have p0 : 0 < p := by
    have h1 : 0 < d * q := Int.mul_pos d0 q0
    have h2 : 0 * (c - w * d) < p * (c - w * d) := by
      rw [Int.zero_mul]
      rcases B.lo with z | ⟨_, z⟩ <;> omega
    exact Int.lt_of_mul_lt_mul_right h2 (by omega)
  refine ⟨p0, ?_, ?_, fun r s s0 h1 h2 => ?_⟩
  · unfold inLo
    rw [Int.add_mul]
    rcases B.hi with z | ⟨zf, z⟩
    · exact .inl (by omega)
    · exact .inr ⟨zf, by omega⟩
  · unfold inHi
    rw [Int.add_mul]
    rcases B.lo with z | ⟨zf, z⟩
    · exact .inl (by omega)
    · exact .inr ⟨zf, by omega⟩
  · have k1 : (r - w * s) * b = r * b - w * b * s := by rw [Int.sub_mul, Int.mul_right_comm]
    have k2 : (r - w * s) * d = r * d - w * d * s := by rw [Int.sub_mul, Int.mul_right_comm]
    have k3 : (a - w * b) * s = a * s - w * b * s := Int.sub_mul ..
    have k4 : (c - w * d) * s = c * s - w * d * s := Int.sub_mul ..
    have t0 : 0 < r - w * s := by
      have h4 : 0 * b < (r - w * s) * b := by
        rw [Int.zero_mul]
        rcases h1 with z | ⟨zf, z⟩
        · have := Int.mul_nonneg T.e0 (show 0 ≤ s by omega)
          omega
        · have := Int.mul_pos (T.g0 zf) s0
          omega
      exact Int.lt_of_mul_lt_mul_right h4 (by omega)
    have z := B.mi s (r - w * s) t0 (by
      unfold inLo
      rw [Int.mul_comm d, Int.mul_comm s]
      rcases h2 with z | ⟨zf, z⟩
      · exact .inl (by omega)
      · exact .inr ⟨zf, by omega⟩) (by
      unfold inHi
      rw [Int.mul_comm s, Int.mul_comm b]
      rcases h1 with z | ⟨zf, z⟩
      · exact .inl (by omega)
      · exact .inr ⟨zf, by omega⟩)
    have z2 := Int.mul_le_mul_of_nonneg_left z.2 w0
    exact ⟨z.2, by omega⟩
/-- bounds of the simplest one -/
theorem BestF.small {a b c d p q : Int} {f l : Bool} (K : OkF a b c d f l) (B : BestF a b c d f l p q) : p ≤ a + c ∧ q ≤ b + d ∧ 0 ≤ p := by
  have b0 := K.b0
  have d0 := K.d0
  have c0 := K.c0
  have p0 : 0 ≤ p := by
    have h1 := Int.mul_nonneg K.a0 (Int.le_of_lt B.q0)
    have h2 : 0 * b ≤ p * b := by
      rw [Int.zero_mul]
      rcases B.lo with z | ⟨_, z⟩ <;> omega
    exact cancel_le b0 h2
  rcases K.ne with n | ⟨n1, n2, n3⟩
  · have z := B.mi (a + c) (b + d) (by omega) (.inl (by rw [Int.mul_add, Int.add_mul]; omega)) (.inl (by rw [Int.add_mul, Int.mul_add]; omega))
    exact ⟨z.2, z.1, p0⟩
  · have z := B.mi a b b0 (.inr ⟨n1, rfl⟩) (.inr ⟨n2, n3⟩)
    exact ⟨by omega, by omega, p0⟩
/-- the stretches gone through, the last whole part first; the ends change their parts -/
def ChF (a0 b0 c0 d0 : Int) (f0 l0 : Bool) : List Int → Int → Int → Int → Int → Bool → Bool → Prop
  | [], a, b, c, d, f, l => a = a0 ∧ b = b0 ∧ c = c0 ∧ d = d0 ∧ f = f0 ∧ l = l0 ∧ OkF a b c d f l
  | w :: rs, a', b', c', d', f', l' => ∃ a b c d, ChF a0 b0 c0 d0 f0 l0 rs a b c d l' f' ∧ TurnF a b c d l' w ∧ a' = d ∧ b' = c - w * d ∧ c' = b ∧ d' = a - w * b ∧ OkF a' b' c' d' f' l'
theorem ChF.ok {a0 b0 c0 d0 : Int} {f0 l0 : Bool} : ∀ {rs : List Int} {a b c d : Int} {f l : Bool}, ChF a0 b0 c0 d0 f0 l0 rs a b c d f l → OkF a b c d f l
  | [], _, _, _, _, _, _, h => h.2.2.2.2.2.2
  | _ :: _, _, _, _, _, _, _, ⟨_, _, _, _, _, _, _, _, _, _, h⟩ => h
theorem TurnF.half {a b c d w w2 : Int} {f l : Bool} (T : TurnF a b c d f w) (T2 : TurnF d (c - w * d) b (a - w * b) l w2) : 2 * (b - w2 * (a - w * b)) ≤ b := by
  have e1 := T.e1
  have f1 := T2.f1
  have w0 := T2.w0
  have d0 := T2.d0
  have : 1 ≤ w2 := by
    rcases Int.lt_or_le w2 1 with z | z
    · have e : w2 = 0 := by omega
      rw [e, Int.zero_mul] at f1
      omega
    · exact z
  have := Int.mul_le_mul_of_nonneg_right this (show 0 ≤ a - w * b by omega)
  omega
theorem ChF.len {a0 b0 c0 d0 : Int} {f0 l0 : Bool} : ∀ {rs : List Int} {a b c d : Int} {f l : Bool}, ChF a0 b0 c0 d0 f0 l0 rs a b c d f l → b.toNat * 2 ^ (rs.length / 2) ≤ 2 ^ 100
  | [], _, b, _, _, _, _, h => by
    have := h.ok.b1
    show b.toNat * 2 ^ 0 ≤ _
    rw [Nat.pow_zero, Nat.mul_one]
    omega
  | [w], _, b, _, _, _, _, h => by
    have := h.ok.b1
    rw [show ([w] : List Int).length / 2 = 0 by simp]
    rw [Nat.pow_zero, Nat.mul_one]
    omega
  | w2 :: w :: rs, a2, b2, c2, d2, f2, l2, ⟨a1, b1, c1, d1, ⟨a, b, c, d, h, T, ea, eb, ec, ed, k1⟩, T2, ea2, eb2, ec2, ed2, k2⟩ => by
    have ih := ChF.len h
    rw [ea, eb, ec, ed] at T2
    have hf := T.half T2
    have e2 : b2 = b - w2 * (a - w * b) := by rw [eb2, ec, ed]
    have h2 : 2 * b2.toNat ≤ b.toNat := by rw [← e2] at hf; omega
    have e : (w2 :: w :: rs).length / 2 = rs.length / 2 + 1 := by
      rw [List.length_cons, List.length_cons]; omega
    rw [e, Nat.pow_succ, Nat.mul_comm (2 ^ (rs.length / 2)) 2, ← Nat.mul_assoc, Nat.mul_comm _ 2]
    exact Nat.le_trans (Nat.mul_le_mul_right _ h2) ih
theorem ChF.few {a0 b0 c0 d0 : Int} {f0 l0 : Bool} {rs : List Int} {a b c d : Int} {f l : Bool} (h : ChF a0 b0 c0 d0 f0 l0 rs a b c d f l) : rs.length ≤ 201 := by
  have z := h.len
  have b0 := h.ok.b0
  have h1 : 1 * 2 ^ (rs.length / 2) ≤ 2 ^ 100 := Nat.le_trans (Nat.mul_le_mul_right _ (by omega)) z
  rw [Nat.one_mul] at h1
  have := (Nat.pow_le_pow_iff_right (by decide : 1 < 2)).mp h1
  omega
theorem BestF.one {a b c d p q p' q' : Int} {f l : Bool} (B : BestF a b c d f l p q) (B' : BestF a b c d f l p' q') : p = p' ∧ q = q' := by
  have h1 := B.mi p' q' B'.q0 B'.lo B'.hi
  have h2 := B'.mi p q B.q0 B.lo B.hi
  omega
/-- it is in lowest terms -/
theorem BestF.co {a b c d p q : Int} {f l : Bool} (K : OkF a b c d f l) (B : BestF a b c d f l p q) : Nat.gcd p.natAbs q.natAbs = 1 := by
  have q0 := B.q0
  have p0 := (B.small K).2.2
  obtain ⟨m, rfl⟩ := Int.eq_ofNat_of_zero_le p0
  obtain ⟨n, rfl⟩ := Int.eq_ofNat_of_zero_le (show 0 ≤ q by omega)
  simp only [Int.natAbs_natCast]
  have n0 : 0 < n := by omega
  have g0 : 0 < Nat.gcd m n := Nat.gcd_pos_of_pos_right _ n0
  obtain ⟨u, hu⟩ := Nat.gcd_dvd_left m n
  obtain ⟨v, hv⟩ := Nat.gcd_dvd_right m n
  generalize Nat.gcd m n = g at g0 hu hv ⊢
  have v0 : 0 < v := by
    rcases Nat.eq_zero_or_pos v with z | z
    · rw [z, Nat.mul_zero] at hv; omega
    · exact z
  have g0' : (0 : Int) < (g : Int) := by omega
  have eu : ((m : Nat) : Int) = (g : Int) * (u : Int) := by rw [hu]; exact Int.natCast_mul ..
  have ev : ((n : Nat) : Int) = (g : Int) * (v : Int) := by rw [hv]; exact Int.natCast_mul ..
  have e1 : a * (v : Int) * (g : Int) = a * ((g : Int) * (v : Int)) := by rw [Int.mul_assoc, Int.mul_comm (v : Int)]
  have e2 : (u : Int) * b * (g : Int) = (g : Int) * (u : Int) * b := by rw [Int.mul_right_comm, Int.mul_comm (u : Int)]
  have e3 : c * (v : Int) * (g : Int) = c * ((g : Int) * (v : Int)) := by rw [Int.mul_assoc, Int.mul_comm (v : Int)]
  have e4 : (u : Int) * d * (g : Int) = (g : Int) * (u : Int) * d := by rw [Int.mul_right_comm, Int.mul_comm (u : Int)]
  have lo := B.lo
  have hi := B.hi
  unfold inLo at lo
  unfold inHi at hi
  rw [eu, ev] at lo hi
  have h1 : inLo a b f u v := by
    rcases lo with z | ⟨zf, z⟩
    · exact .inl (cancel_lt g0' (by omega))
    · refine .inr ⟨zf, ?_⟩
      have x1 := cancel_le g0' (show a * (v : Int) * g ≤ u * b * g by omega)
      have x2 := cancel_le g0' (show u * b * g ≤ a * (v : Int) * g by omega)
      omega
  have h2 : inHi c d l u v := by
    rcases hi with z | ⟨zf, z⟩
    · exact .inl (cancel_lt g0' (by omega))
    · refine .inr ⟨zf, ?_⟩
      have x1 := cancel_le g0' (show u * d * (g : Int) ≤ c * v * g by omega)
      have x2 := cancel_le g0' (show c * v * (g : Int) ≤ u * d * g by omega)
      omega
  have h3 := (B.mi u v (by omega) h1 h2).1
  rw [hv] at h3
  have h4 : g * v ≤ v := by omega
  rcases Nat.lt_or_ge g 2 with z | z
  · omega
  · have := Nat.mul_le_mul_right v z
    omega
end Mt
set_option Elab.async false
set_option maxRecDepth 100000
set_option maxHeartbeats 1000000
set_option linter.all false
/-! sums of whole parts; how many places lie below; the first mark between two tops -/
namespace Mt
/-- the sum of (a * k + b) / m for k below n -/
def fsum (m a b : Int) : Nat → Int
  | 0 => 0
  | n + 1 => fsum m a b n + (a * (n : Int) + b) / m
theorem div_at {a m q r : Int} (e : a = m * q + r) (h0 : 0 ≤ r) (h1 : r < m) : a / m = q := by
  rw [e, Int.add_comm, Int.add_mul_ediv_left _ _ (by omega), Int.ediv_eq_zero_of_lt h0 h1, Int.zero_add]
theorem fsum_congr {m a b a' b' : Int} {n : Nat} (h : ∀ k : Int, 0 ≤ k → k < n → (a * k + b) / m = (a' * k + b') / m) : fsum m a b n = fsum m a' b' n := by
  induction n with
  | zero => rfl
  | succ n ih =>
    show fsum m a b n + _ = fsum m a' b' n + _
    rw [ih fun k h0 h1 => h k h0 (by omega), h n (by omega) (by omega)]
/-- whole slopes and shifts come out -/
theorem tri (n : Nat) : ((n : Int) + 1) * n / 2 = (n : Int) * (n - 1) / 2 + n := by
  have h : ((n : Int) + 1) * n = n * (n - 1) + n * 2 := by grind
  rw [h, Int.add_mul_ediv_right _ _ (by decide)]
theorem fsum_whole {m a b : Int} (m0 : 0 < m) (n : Nat) : fsum m a b n = (n : Int) * (n - 1) / 2 * (a / m) + n * (b / m) + fsum m (a % m) (b % m) n := by
  induction n with
  | zero => simp [fsum]
  | succ n ih =>
    show fsum m a b n + (a * (n : Int) + b) / m = _ + (fsum m (a % m) (b % m) n + (a % m * (n : Int) + b % m) / m)
    rw [ih]
    have h : (a * (n : Int) + b) / m = (a % m * (n : Int) + b % m) / m + (a / m * n + b / m) := by
      have e1 := Int.emod_add_mul_ediv a m
      have e2 := Int.emod_add_mul_ediv b m
      rw [← Int.add_mul_ediv_right _ _ (show m ≠ 0 by omega)]
      congr 1
      grind
    rw [h]
    have t := tri n
    rw [show (((n + 1 : Nat) : Int)) * (((n + 1 : Nat) : Int) - 1) / 2 = ((n : Int) + 1) * n / 2 by congr 1; push_cast; grind, t]
    push_cast
    grind
theorem fsum_up {a m b : Int} (a0 : 0 < a) (n : Nat) : fsum a m (b + a) n = fsum a m b n + n := by
  induction n with
  | zero => rfl
  | succ n ih =>
    show fsum a m (b + a) n + (m * (n : Int) + (b + a)) / a = fsum a m b n + (m * (n : Int) + b) / a + ((n + 1 : Nat) : Int)
    rw [ih, show m * (n : Int) + (b + a) = m * (n : Int) + b + 1 * a by omega, Int.add_mul_ediv_right _ _ (by omega)]
    push_cast
    omega
theorem fsum_head {a m b : Int} (n : Nat) : fsum a m b (n + 1) = b / a + fsum a m (b + m) n := by
  induction n with
  | zero => show 0 + (m * ((0 : Nat) : Int) + b) / a = b / a + 0; simp
  | succ n ih =>
    show fsum a m b (n + 1) + (m * ((n + 1 : Nat) : Int) + b) / a = b / a + (fsum a m (b + m) n + (m * (n : Int) + (b + m)) / a)
    rw [ih, show m * ((n + 1 : Nat) : Int) + b = m * (n : Int) + (b + m) by push_cast; grind]
    omega
/-- counted by rows in the place of columns -/
theorem fsum_turn {m a b : Int} (a0 : 0 < a) (am : a < m) (b0 : 0 ≤ b) (bm : b < m) (n : Nat) : fsum m a b n = fsum a m ((a * n + b) % m) ((a * n + b) / m).toNat := by
  have m0 : 0 < m := by omega
  induction n with
  | zero =>
    have e : a * ((0 : Nat) : Int) + b = b := by simp
    rw [e, Int.ediv_eq_zero_of_lt b0 bm]
    rfl
  | succ n ih =>
    show fsum m a b n + (a * (n : Int) + b) / m = _
    rw [ih]
    have y0 : 0 ≤ a * (n : Int) + b := by
      have := Int.mul_nonneg (show 0 ≤ a by omega) (show (0 : Int) ≤ n by omega); omega
    have e := Int.emod_add_mul_ediv (a * (n : Int) + b) m
    have r0 := Int.emod_nonneg (a * (n : Int) + b) (show m ≠ 0 by omega)
    have r1 := Int.emod_lt_of_pos (a * (n : Int) + b) m0
    have q0 : 0 ≤ (a * (n : Int) + b) / m := Int.ediv_nonneg y0 (by omega)
    have e3 : a * ((n + 1 : Nat) : Int) + b = a * (n : Int) + b + a := by push_cast; grind
    rw [e3]
    generalize a * (n : Int) + b = y at *
    generalize hq : y / m = q at *
    generalize hr : y % m = r at *
    obtain ⟨k, rfl⟩ := Int.eq_ofNat_of_zero_le q0
    rcases Int.lt_or_le (r + a) m with c | c
    · have d1 : (y + a) / m = (k : Int) := div_at (r := r + a) (by omega) (by omega) c
      have d2 : (y + a) % m = r + a := by
        have := Int.emod_add_mul_ediv (y + a) m
        rw [d1] at this; omega
      rw [d1, d2, Int.toNat_natCast, fsum_up a0]
    · have d1 : (y + a) / m = (k : Int) + 1 := div_at (r := r + a - m) (by rw [Int.mul_add]; omega) (by omega) (by omega)
      have d2 : (y + a) % m = r + a - m := by
        have := Int.emod_add_mul_ediv (y + a) m
        rw [d1, Int.mul_add] at this; omega
      rw [d1, d2, Int.toNat_natCast, show ((k : Int) + 1).toNat = k + 1 by omega, fsum_head, Int.ediv_eq_zero_of_lt (by omega) (by omega), show r + a - m + m = r + a by omega, fsum_up a0]
      omega
theorem fsum_zero {m b : Int} (b0 : 0 ≤ b) (bm : b < m) (n : Nat) : fsum m 0 b n = 0 := by
  induction n with
  | zero => rfl
  | succ n ih =>
    show fsum m 0 b n + (0 * (n : Int) + b) / m = 0
    rw [ih, Int.zero_mul, Int.zero_add, Int.zero_add, Int.ediv_eq_zero_of_lt b0 bm]
/-- one turn of the program's loop -/
theorem fsum_step {m a b : Int} (m0 : 0 < m) (a0 : 0 ≤ a) (b0 : 0 ≤ b) (n : Nat) : fsum m a b n = (n : Int) * (n - 1) / 2 * (a / m) + n * (b / m) + (if a % m = 0 then 0 else fsum (a % m) m ((a % m * n + b % m) % m) ((a % m * n + b % m) / m).toNat) := by
  rw [fsum_whole m0 n]
  have r0 := Int.emod_nonneg a (show m ≠ 0 by omega)
  have r1 := Int.emod_lt_of_pos a m0
  have s0 := Int.emod_nonneg b (show m ≠ 0 by omega)
  have s1 := Int.emod_lt_of_pos b m0
  split
  · rename_i c
    rw [c, fsum_zero s0 s1]
  · rename_i c
    rw [fsum_turn (by omega) r1 s0 s1]
/-- how many of the first n marks have a top below t -/
def below (x y t : Int) : Nat → Int
  | 0 => 0
  | n + 1 => below x y t n + if x * (n : Int) % y < t then 1 else 0
theorem below_fsum {x y t : Int} (y0 : 0 < y) (t0 : 0 ≤ t) (t1 : t ≤ y) (n : Nat) : below x y t n = n + fsum y x 0 n - fsum y x (y - t) n := by
  induction n with
  | zero => rfl
  | succ n ih =>
    show below x y t n + _ = ((n + 1 : Nat) : Int) + (fsum y x 0 n + (x * (n : Int) + 0) / y) - (fsum y x (y - t) n + (x * (n : Int) + (y - t)) / y)
    rw [ih]
    have e := Int.emod_add_mul_ediv (x * (n : Int)) y
    have r0 := Int.emod_nonneg (x * (n : Int)) (show y ≠ 0 by omega)
    have r1 := Int.emod_lt_of_pos (x * (n : Int)) y0
    rw [Int.add_zero]
    generalize x * (n : Int) = z at *
    generalize hq : z / y = q at *
    generalize z % y = r at *
    split
    · rename_i c
      rw [div_at (a := z + (y - t)) (q := q) (r := r + (y - t)) (by omega) (by omega) (by omega)]
      push_cast; omega
    · rename_i c
      rw [div_at (a := z + (y - t)) (q := q + 1) (r := r - t) (by rw [Int.mul_add]; omega) (by omega) (by omega)]
      push_cast; omega
/-! the first mark whose top lies from a to b -/
def Hit (s w a b m : Int) : Prop := 0 ≤ m ∧ a ≤ s * m % w ∧ s * m % w ≤ b
def Fst (s w a b m : Int) : Prop := Hit s w a b m ∧ ∀ m', Hit s w a b m' → m ≤ m'
/-- no less than so many slopes -/
theorem ceil_le {a s k : Int} (s0 : 0 < s) : -(-a / s) ≤ k ↔ a ≤ s * k := by
  have h := Int.le_ediv_iff_mul_le (a := -k) (b := -a) s0
  rw [Int.neg_mul, Int.mul_comm k s] at h
  constructor
  · intro z
    have := h.mp (by omega)
    omega
  · intro z
    have := h.mpr (by omega)
    omega
theorem ceil_at {a s : Int} (s0 : 0 < s) : a ≤ s * -(-a / s) ∧ s * (-(-a / s) - 1) < a := by
  refine ⟨(ceil_le s0).mp (Int.le_refl _), ?_⟩
  rcases Int.lt_or_le (s * (-(-a / s) - 1)) a with c | c
  · exact c
  · have := (ceil_le s0).mpr c
    omega
theorem ceil_is {a s c : Int} (s0 : 0 < s) (h1 : a ≤ s * c) (h2 : s * (c - 1) < a) : -(-a / s) = c := by
  have k1 := (ceil_le s0).mpr h1
  rcases Int.lt_or_le (-(-a / s)) c with d | d
  · have := (ceil_le (a := a) (k := c - 1) s0).mp (by omega)
    omega
  · omega
theorem neg_mod {a s c d : Int} (e : a = s * c - d) (d0 : 0 ≤ d) (ds : d < s) : -a % s = d := by
  have h : -a = d + s * (-c) := by rw [e]; grind
  rw [h, Int.add_mul_emod_self_left]
  exact Int.emod_eq_of_lt d0 ds
theorem fst_zero {s w a b : Int} (w0 : 0 < w) (ha : a ≤ 0) (hb : 0 ≤ b) : Fst s w a b 0 := by
  refine ⟨⟨Int.le_refl 0, ?_, ?_⟩, fun m' h => h.1⟩
  · rw [Int.mul_zero, Int.zero_emod]; exact ha
  · rw [Int.mul_zero, Int.zero_emod]; exact hb
theorem fst_turn {s w a b : Int} (s0 : 0 < s) (sw : s < w) (a0 : 0 < a) (bw : b < w) (h : -(-a / s) * s ≤ b) : Fst s w a b (-(-a / s)) := by
  obtain ⟨h1, h2⟩ := ceil_at (a := a) s0
  have c0 : 0 < -(-a / s) := by
    rcases Int.lt_or_le 0 (-(-a / s)) with c | c
    · exact c
    · have := Int.mul_nonpos_of_nonneg_of_nonpos (show 0 ≤ s by omega) c
      omega
  generalize -(-a / s) = c at *
  have hc : s * c ≤ b := by rw [Int.mul_comm]; exact h
  refine ⟨⟨by omega, ?_, ?_⟩, fun m' ⟨m0, k1, k2⟩ => ?_⟩
  · rw [Int.emod_eq_of_lt (by omega) (by omega)]; exact h1
  · rw [Int.emod_eq_of_lt (by omega) (by omega)]; exact hc
  · rcases Int.lt_or_le m' c with d | d
    · have e1 : s * m' ≤ s * (c - 1) := Int.mul_le_mul_of_nonneg_left (by omega) (by omega)
      have e2 : 0 ≤ s * m' := Int.mul_nonneg (by omega) m0
      rw [Int.emod_eq_of_lt e2 (by omega)] at k1
      omega
    · exact d
/-- turned: the turn is looked for as a mark is -/
theorem fst_back {s w a b t : Int} (s0 : 0 < s) (sw : s < w) (a0 : 0 < a) (ab : a ≤ b) (bw : b < w) (h : b < -(-a / s) * s) (T : Fst (w % s) s (-b % s) (-a % s) t) : Fst s w a b (-(-(a + w * t) / s)) := by
  obtain ⟨h1, h2⟩ := ceil_at (a := a) s0
  generalize -(-a / s) = c at *
  have w0 : 0 < w := by omega
  have hc : b < s * c := by rw [Int.mul_comm]; exact h
  have ec : s * (c - 1) = s * c - s := by rw [Int.mul_sub, Int.mul_one]
  rw [neg_mod (a := a) (c := c) (d := s * c - a) (by omega) (by omega) (by omega), neg_mod (a := b) (c := c) (d := s * c - b) (by omega) (by omega) (by omega)] at T
  obtain ⟨⟨t0, k1, k2⟩, least⟩ := T
  have red : ∀ t, w % s * t % s = w * t % s := fun t => by rw [Int.mul_emod, Int.emod_emod, ← Int.mul_emod]
  rw [red] at k1 k2
  have e := Int.emod_add_mul_ediv (w * t) s
  generalize hv : w * t % s = v at *
  generalize w * t / s = q at *
  have em : -(-(a + w * t) / s) = c + q := ceil_is s0 (by rw [Int.mul_add]; omega) (by rw [Int.mul_sub, Int.mul_add, Int.mul_one]; omega)
  have wt0 : 0 ≤ w * t := Int.mul_nonneg (by omega) t0
  rw [em]
  have es : s * (c + q) % w = s * (c + q) - w * t := by
    have z : s * (c + q) = (s * (c + q) - w * t) + w * t := by omega
    rw [z, Int.add_mul_emod_self_left]
    rw [show s * (c + q) - w * t + w * t - w * t = s * (c + q) - w * t by omega]
    exact Int.emod_eq_of_lt (by rw [Int.mul_add]; omega) (by rw [Int.mul_add]; omega)
  refine ⟨⟨?_, ?_, ?_⟩, fun m' ⟨m0, g1, g2⟩ => ?_⟩
  · rcases Int.lt_or_le (c + q) 0 with d | d
    · have := Int.mul_nonpos_of_nonneg_of_nonpos (show 0 ≤ s by omega) (show c + q ≤ 0 by omega)
      rw [Int.mul_add] at this
      omega
    · exact d
  · rw [es, Int.mul_add]; omega
  · rw [es, Int.mul_add]; omega
  · have f := Int.emod_add_mul_ediv (s * m') w
    have sm0 : 0 ≤ s * m' := Int.mul_nonneg (by omega) m0
    have t'0 : 0 ≤ s * m' / w := Int.ediv_nonneg sm0 (by omega)
    generalize s * m' % w = r at *
    generalize s * m' / w = t' at *
    have er : w * t' % s = s * c - r := by
      have z : w * t' = (s * c - r) + s * (m' - c) := by rw [Int.mul_sub]; omega
      rw [z, Int.add_mul_emod_self_left]
      exact Int.emod_eq_of_lt (by omega) (by omega)
    have lt := least t' ⟨t'0, by rw [red, er]; omega, by rw [red, er]; omega⟩
    have wtt : w * t ≤ w * t' := Int.mul_le_mul_of_nonneg_left lt (by omega)
    rw [← em]
    refine (ceil_le s0).mpr ?_
    omega
end Mt
set_option Elab.async false
set_option linter.all false
set_option maxRecDepth 100000
set_option maxHeartbeats 8000000
set_option exponentiation.threshold 4000
namespace My
open PySem PySem.Spec PyProof.Rows L2 Gn Mt
abbrev s_simplest_in : Stmt := top 27
theorem sc_simplest_in : FnScope ["low", "high", "first", "last", "wholes", "top", "whole", "bottom"] ["low", "high", "first", "last"] (defScope s_simplest_in) := ⟨rfl, rfl, rfl, by decide +kernel, rfl, by decide +kernel, by decide +kernel⟩
abbrev s__least_whole : Stmt := top 28
theorem sc__least_whole : FnScope ["low", "first", "top", "bottom"] ["low", "first"] (defScope s__least_whole) := ⟨rfl, rfl, rfl, by decide +kernel, rfl, by decide +kernel, by decide +kernel⟩
abbrev s__is_within : Stmt := top 29
theorem sc__is_within : FnScope ["whole", "high", "last", "top", "bottom"] ["whole", "high", "last"] (defScope s__is_within) := ⟨rfl, rfl, rfl, by decide +kernel, rfl, by decide +kernel, by decide +kernel⟩
abbrev s__turned : Stmt := top 30
theorem sc__turned : FnScope ["fraction", "whole", "top", "bottom"] ["fraction", "whole"] (defScope s__turned) := ⟨rfl, rfl, rfl, by decide +kernel, rfl, by decide +kernel, by decide +kernel⟩
/-! the simplest fraction of a stretch, by the program -/
def spLWF (K : PySem.W.Frag) : Sp := fun vs H Q _ => ∃ (t : Addr) (a b : Int) (f : Bool), vs = [.ref t, .bl f] ∧ SqT K H t [.int a, .int b] ∧ 0 < b ∧ b.natAbs < 2 ^ 200 ∧ Q (.int (leastW a b f)) H
def spIWF (K : PySem.W.Frag) : Sp := fun vs H Q _ => ∃ (u : Addr) (n c d : Int) (l : Bool), vs = [.int n, .ref u, .bl l] ∧ SqT K H u [.int c, .int d] ∧ n.natAbs < 2 ^ 200 ∧ d.natAbs < 2 ^ 200 ∧ Q (.bl (isW n c d l)) H
def spTurnF (K : PySem.W.Frag) : Sp := fun vs H Q _ => ∃ (t : Addr) (a b w : Int), vs = [.ref t, .int w] ∧ SqT K H t [.int a, .int b] ∧ w.natAbs < 2 ^ 200 ∧ b.natAbs < 2 ^ 200 ∧ ∀ r, H r = none → Q (.ref r) (upd H r (.tup [.int b, .int (a - w * b)]))
def spSimF (K : PySem.W.Frag) : Sp := fun vs H Q _ => ∃ (t u : Addr) (a b c d : Int) (f l : Bool), vs = [.ref t, .ref u, .bl f, .bl l] ∧ SqT K H t [.int a, .int b] ∧ SqT K H u [.int c, .int d] ∧ OkF a b c d f l ∧
  ∀ p q r H', BestF a b c d f l p q → Same H H' → H' r = some (.tup [.int p, .int q]) → Q (.ref r) H'
theorem lt200' {z : Int} (h0 : 0 ≤ z) (h : z < 2 ^ 100) : z.natAbs < 2 ^ 200 := by omega
section
variable {P : Program} {w : World} {K : PySem.W.Frag} {mg : Str → Option Value} {base : Heap}
theorem ok_lwF {f : Addr} {fd : FuncData} (F : Fun K "_least_whole" "_least_whole" s__least_whole f fd) : FnOk P w K mg base CX0 1 f fd ["low", "first"] (spLWF K) := by
  refine F.ok sc__least_whole (fun vs H Q E h => ?_) (fun cdv A outer s H vs Q E hr h => ?_)
  · obtain ⟨t, a, b, g, rfl, _⟩ := h
    rfl
  · obtain ⟨t, a, b, g, rfl, hT, b0, bb, q⟩ := h
    refine ⟨_, pss_cons (ps_asg (pv 0) (pg_tup (by rfl) (pgs_cons (pg_name (i := 2) sc__least_whole.nd rfl (.inl rfl)) (pgs_cons (pg_name (i := 3) sc__least_whole.nd rfl (.inl rfl)) pgs_nil)))) (pss_cons (ps_if (pt_val (pv 1)) (pss_one (ps_ret (pe_un un_neg (pe_op op_fdivW (pe_un un_neg (pv 2)) (pv 3))))) pss_nil) (pss_one (ps_ret (pe_op op_add (pe_op op_fdivW (pv 2) (pv 3)) pe_int)))), ?_⟩
    refine ⟨_, rfl, t, _, rfl, hT, rfl, _, _, rfl, _, _, rfl, rfl, ?_⟩
    cases g with
    | true => exact ⟨_, rfl, true, rfl, iteT ⟨_, rfl, _, rfl, _, rfl, _, _, rfl, rfl, wide_div b0 bb (by decide) (by decide), _, rfl, q⟩⟩
    | false => exact ⟨_, rfl, false, rfl, iteF ⟨_, rfl, _, rfl, _, _, rfl, rfl, wide_div b0 bb (by decide) (by decide), _, _, rfl, rfl, q⟩⟩
theorem ok_iwF {f : Addr} {fd : FuncData} (F : Fun K "_is_within" "_is_within" s__is_within f fd) : FnOk P w K mg base CX0 1 f fd ["whole", "high", "last"] (spIWF K) := by
  refine F.ok sc__is_within (fun vs H Q E h => ?_) (fun cdv A outer s H vs Q E hr h => ?_)
  · obtain ⟨u, n, c, d, l, rfl, _⟩ := h
    rfl
  · obtain ⟨u, n, c, d, l, rfl, hU, bn, bd, q⟩ := h
    refine ⟨_, pss_cons (ps_asg (pv 1) (pg_tup (by rfl) (pgs_cons (pg_name (i := 3) sc__is_within.nd rfl (.inl rfl)) (pgs_cons (pg_name (i := 4) sc__is_within.nd rfl (.inl rfl)) pgs_nil)))) (pss_one (ps_ret (pe_or (pe_cmpR op_lt (pe_op op_mulW (pv 0) (pv 4)) (pv 3) (nomark _)) (pe_one (pe_and (pv 2) (pe_one (pe_cmpR op_eq (pe_op op_mulW (pv 0) (pv 4)) (pv 3) (nomark _)))))))), ?_⟩
    have cm := wide_mul bn bd (by decide) (by decide) (by decide)
    refine ⟨_, rfl, u, _, rfl, hU, rfl, _, _, rfl, _, _, rfl, rfl, ?_⟩
    refine ⟨_, rfl, _, rfl, _, _, rfl, rfl, cm, _, rfl, _, _, rfl, rfl, _, rfl, ?_⟩
    unfold isW at q
    refine ite2 (fun hc => ?_) (fun hc => ?_)
    · rw [hc, Bool.true_or] at q
      exact q
    · have hc : decide (n * d < c) = false := by cases z : decide (n * d < c) with | true => exact absurd z hc | false => rfl
      rw [hc, Bool.false_or] at q
      cases l with
      | true =>
        refine ⟨_, rfl, true, rfl, iteT ⟨_, rfl, _, rfl, _, _, rfl, rfl, cm, _, rfl, rfl, ?_⟩⟩
        have e : decide (V.int (n * d) = V.int c) = decide (n * d = c) := by
          rw [decide_eq_decide]
          exact ⟨fun y => V.int.inj y, fun y => congrArg V.int y⟩
        rw [← e, Bool.true_and] at q
        exact q
      | false => exact ⟨_, rfl, false, rfl, iteF q⟩
theorem ok_turnF {f : Addr} {fd : FuncData} (F : Fun K "_turned" "_turned" s__turned f fd) : FnOk P w K mg base CX0 1 f fd ["fraction", "whole"] (spTurnF K) := by
  refine F.ok sc__turned (fun vs H Q E h => ?_) (fun cdv A outer s H vs Q E hr h => ?_)
  · obtain ⟨t, a, b, n, rfl, _⟩ := h
    rfl
  · obtain ⟨t, a, b, n, rfl, hT, bn, bb, q⟩ := h
    refine ⟨_, pss_cons (ps_asg (pv 0) (pg_tup (by rfl) (pgs_cons (pg_name (i := 2) sc__turned.nd rfl (.inl rfl)) (pgs_cons (pg_name (i := 3) sc__turned.nd rfl (.inl rfl)) pgs_nil)))) (pss_one (ps_ret (pe_tup (pa_cons (pv 3) (pa_cons (pe_op op_sub (pv 2) (pe_op op_mulW (pv 1) (pv 3))) pa_nil))))), ?_⟩
    refine ⟨_, rfl, t, _, rfl, hT, rfl, _, _, rfl, _, _, rfl, rfl, ?_⟩
    exact ⟨_, rfl, _, rfl, _, rfl, _, rfl, _, _, rfl, rfl, wide_mul bn bb (by decide) (by decide) (by decide), _, _, rfl, rfl, (by show 2 ≤ sizeLine; decide), fun r hr => q r hr⟩
/-- what the simplest one asks of the module -/
structure SiF (K : PySem.W.Frag) (mg : Str → Option Value) where
  rv : mg "reversed" = none
  fm : Addr × FuncData
  fa : Addr × FuncData
  fb : Addr × FuncData
  ft : Addr × FuncData
  m : Df K mg "simplest_in" s_simplest_in ["low", "high", "first", "last"] fm.1 fm.2
  lw : Df K mg "_least_whole" s__least_whole ["low", "first"] fa.1 fa.2
  iw : Df K mg "_is_within" s__is_within ["whole", "high", "last"] fb.1 fb.2
  tu : Df K mg "_turned" s__turned ["fraction", "whole"] ft.1 ft.2
theorem ok_simF {f : Addr} {fd : FuncData} (F : Fun K "simplest_in" "simplest_in" s_simplest_in f fd) (M : SiF K mg) : FnOk P w K mg base CX0 2 f fd ["low", "high", "first", "last"] (spSimF K) := by
  have GL : FnOk P w K mg base CX0 1 M.fa.1 M.fa.2 ["low", "first"] (spLWF K) := ok_lwF M.lw.F
  have GW : FnOk P w K mg base CX0 1 M.fb.1 M.fb.2 ["whole", "high", "last"] (spIWF K) := ok_iwF M.iw.F
  have GT : FnOk P w K mg base CX0 1 M.ft.1 M.ft.2 ["fraction", "whole"] (spTurnF K) := ok_turnF M.tu.F
  refine F.ok sc_simplest_in (fun vs H Q E h => ?_) (fun cdv A outer s H vs Q E hr h => ?_)
  · obtain ⟨t, u, a, b, c, d, g, l, rfl, _⟩ := h
    rfl
  · obtain ⟨t, u, a, b, c, d, g, l, rfl, hT, hU, ok, q⟩ := h
    refine ⟨_, pss_cons (ps_set (i := 4) sc_simplest_in.nd rfl (.inl rfl) (pe_lst pa_nil)) (pss_cons (ps_set (i := 5) sc_simplest_in.nd rfl (.inl rfl) (pe_call GL hr (by rfl) M.lw.g M.lw.F.kp M.lw.b .nil pass0 (pa_cons (pv 0) (pa_cons (pv 2) pa_nil)))) (pss_cons (ps_while PassesOwn.never (pt_not (pt_val (pe_call GW hr (by rfl) M.iw.g M.iw.F.kp M.iw.b .nil pass0 (pa_cons (pv 5) (pa_cons (pv 1) (pa_cons (pv 3) pa_nil)))))) (pss_cons (ps_set (i := 6) sc_simplest_in.nd rfl (.inl rfl) (pe_op op_fdivW (pe_ix ix_tup (pv 0) pe_int (fun _ _ => rfl)) (pe_ix ix_tup (pv 0) pe_int (fun _ _ => rfl)))) (pss_cons (ps_expr (pe_bm PySem.F.plainAttrs_list PySem.F.slot_list_append PySem.F.type_list_append mt_append (pv 4) (pa_cons (pv 6) pa_nil))) (pss_cons (ps_par (i := 0) (j := 1) (by rfl) sc_simplest_in.nd rfl rfl (by decide) rfl rfl (pa_cons (pe_call GT hr (by rfl) M.tu.g M.tu.F.kp M.tu.b .nil pass0 (pa_cons (pv 1) (pa_cons (pv 6) pa_nil))) (pa_cons (pe_call GT hr (by rfl) M.tu.g M.tu.F.kp M.tu.b .nil pass0 (pa_cons (pv 0) (pa_cons (pv 6) pa_nil))) pa_nil)) (by rfl)) (pss_cons (ps_par (i := 2) (j := 3) (by rfl) sc_simplest_in.nd rfl rfl (by decide) rfl rfl (pa_cons (pv 3) (pa_cons (pv 2) pa_nil)) (by rfl)) (pss_one (ps_set (i := 5) sc_simplest_in.nd rfl (.inl rfl) (pe_call GL hr (by rfl) M.lw.g M.lw.F.kp M.lw.b .nil pass0 (pa_cons (pv 0) (pa_cons (pv 2) pa_nil)))))))))) (pss_cons (ps_set (i := 7) sc_simplest_in.nd rfl (.inl rfl) pe_int) (pss_cons (ps_for PassesOwn.never rfl (pi_reversed (by rfl) M.rv (pa_cons (pv 4) pa_nil)) (pg_name (i := 6) sc_simplest_in.nd rfl (.inl rfl)) (pss_one (ps_par (i := 5) (j := 7) (by rfl) sc_simplest_in.nd rfl rfl (by decide) rfl rfl (pa_cons (pe_op op_add (pe_op op_mulW (pv 6) (pv 5)) (pv 7)) (pa_cons (pv 5) pa_nil)) (by rfl)))) (pss_one (ps_ret (pe_tup (pa_cons (pv 5) (pa_cons (pv 7) pa_nil))))))))), ?_⟩
    refine ⟨Nat.zero_le _, fun o ho => ?_⟩
    have s1 := same_put (o := HO.lst []) ho
    refine ⟨_, rfl, _, rfl, t, a, b, g, rfl, sqT_same s1 hT, ok.b0, lt200' (by have := ok.b0; omega) ok.b1, ?_⟩
    dsimp only [tSeq, tAsg, gName]
    have og : ∀ {G : Hp} {t' : Addr} {xs : List V} {zs : List V} {z : HO}, SqT K G t' xs → G o = some (.lst zs) → SqT K (upd G o z) t' xs := fun h hO => by
      rcases h with (h | ⟨oo, h⟩) | h
      · exact .inl (.inl (by rw [upd_ne (fun e => by rw [e, hO] at h; cases h)]; exact h))
      · exact .inl (.inr ⟨oo, by rw [upd_ne (fun e => by rw [e, hO] at h; cases h)]; exact h⟩)
      · exact .inr h
    refine while_by (fun σ H' => ∃ (t' u' : Addr) (rs : List Int) (a' b' c' d' : Int) (f' l' : Bool) (y : Option V), σ = [some (.ref t'), some (.ref u'), some (.bl f'), some (.bl l'), some (.ref o), some (.int (leastW a' b' f')), y, none] ∧ Same H H' ∧ H' o = some (.lst (rs.reverse.map V.int)) ∧ SqT K H' t' [.int a', .int b'] ∧ SqT K H' u' [.int c', .int d'] ∧ ChF a b c d g l rs a' b' c' d' f' l')
      (fun _ H' => match H' o with | some (.lst xs) => 300 - xs.length | _ => 0) ⟨t, u, [], a, b, c, d, g, l, none, rfl, s1, upd_same, sqT_same s1 hT, sqT_same s1 hU, rfl, rfl, rfl, rfl, rfl, rfl, ok⟩ ?_ ?_
    · rintro σ H1 ⟨t', u', rs, a', b', c', d', f', l', y, rfl, s2, hO, hT', hU', ch⟩
      have k := ch.ok
      have b0 := k.b0
      have d0 := k.d0
      have a0 := k.a0
      have few := ch.few
      have a1 := k.a1
      have cb : (leastW a' b' f').natAbs < 2 ^ 200 := by
        obtain ⟨_, l2, l3⟩ := lw_at (a := a') (f := f') b0
        have h1 : a' / b' ≤ a' := Int.ediv_le_self b' a0
        have h2 : 0 ≤ a' / b' := Int.ediv_nonneg a0 (by omega)
        omega
      refine ⟨_, rfl, _, rfl, _, rfl, u', _, c', d', l', rfl, hU', cb, lt200' (by omega) k.d1, _, rfl, ?_⟩
      cases hw : isW (leastW a' b' f') c' d' l' with
      | false =>
        refine iteT ?_
        obtain ⟨T, k2⟩ := k.turn hw
        have w0 := T.w0
        have w1 := T.w1
        have db := wide_div (i := a') b0 (lt200' (by omega) k.b1) (by decide) (by decide)
        refine ⟨_, rfl, t', _, 0, .int a', rfl, rfl, hT', at_of (j := 0) rfl rfl, _, rfl, t', _, 1, .int b', rfl, rfl, hT', at_of (j := 1) rfl rfl, _, _, rfl, rfl, db, ?_⟩
        refine ⟨_, rfl, .inl ⟨rfl, _, .inl (.inl hO)⟩, _, rfl, o, _, _, rfl, rfl, hO, (by rw [List.length_map, List.length_reverse]; exact small1000 (by omega)), ?_⟩
        have hOo : upd H1 o (.lst (rs.reverse.map V.int ++ [.int (a' / b')])) o = some (.lst (((a' / b') :: rs).reverse.map V.int)) := by rw [upd_same, List.reverse_cons, List.map_append]; rfl
        have hT2 := og (z := .lst (rs.reverse.map V.int ++ [.int (a' / b')])) hT' hO
        have hU2 := og (z := .lst (rs.reverse.map V.int ++ [.int (a' / b')])) hU' hO
        have sH : Same H (upd H1 o (.lst (rs.reverse.map V.int ++ [.int (a' / b')]))) := fun q1 z1 e1 => by
          rw [upd_ne (ne_of_none e1 ho)]
          exact s2 _ _ e1
        generalize hH2 : upd H1 o (.lst (rs.reverse.map V.int ++ [.int (a' / b')])) = H2 at hOo hT2 hU2 sH ⊢
        refine ⟨_, rfl, _, rfl, u', c', d', a' / b', rfl, hU2, lt200' w0 w1, lt200' (by omega) k.d1, fun r1 hr1 => ?_⟩
        have p1 := same_put (o := HO.tup [.int d', .int (c' - a' / b' * d')]) hr1
        refine ⟨_, rfl, _, rfl, t', a', b', a' / b', rfl, sqT_same p1 hT2, lt200' w0 w1, lt200' (by omega) k.b1, fun r2 hr2 => ?_⟩
        have p2 := same_put (o := HO.tup [.int b', .int (a' - a' / b' * b')]) hr2
        refine ⟨_, _, rfl, ?_⟩
        refine ⟨_, rfl, _, rfl, _, _, rfl, ?_⟩
        have k2b := k2.b0
        refine ⟨_, rfl, _, rfl, r1, d', c' - a' / b' * d', l', rfl, SqT.of (p2 _ _ upd_same), k2b, lt200' (by omega) k2.b1, ?_⟩
        have ch2 : ChF a b c d g l ((a' / b') :: rs) d' (c' - a' / b' * d') b' (a' - a' / b' * b') l' f' := ⟨a', b', c', d', ch, T, rfl, rfl, rfl, rfl, k2⟩
        have few2 := ch2.few
        have hO3 := p2 _ _ (p1 _ _ hOo)
        refine ⟨⟨r1, r2, (a' / b') :: rs, d', c' - a' / b' * d', b', a' - a' / b' * b', l', f', _, rfl, (sH.trans p1).trans p2, hO3, SqT.of (p2 _ _ upd_same), SqT.of upd_same, ch2⟩, ?_⟩
        rw [hO3, hO]
        show 300 - (((a' / b') :: rs).reverse.map V.int).length < 300 - (rs.reverse.map V.int).length
        rw [List.length_map, List.length_map, List.length_reverse, List.length_reverse, List.length_cons]
        rw [List.length_cons] at few2
        omega
      | true =>
        refine iteF ?_
        have B0 := BestF.whole k hw
        dsimp only [tSeq, tAsg, gName, tC]
        refine ⟨_, rfl, o, _, rfl, SqL.of hO, for_rv (K := K) (a := o) (xs := rs.reverse.map V.int) (fun i σ H2 => ∃ (p q' : Int) (a1 b1 c1 d1 : Int) (f1 l1 : Bool) (y7 : Option V), σ = [some (.ref t'), some (.ref u'), some (.bl f'), some (.bl l'), some (.ref o), some (.int p), y7, some (.int q')] ∧ H2 = H1 ∧ ChF a b c d g l (rs.drop i) a1 b1 c1 d1 f1 l1 ∧ BestF a1 b1 c1 d1 f1 l1 p q')
          ⟨_, _, a', b', c', d', f', l', _, rfl, rfl, ch, B0⟩ (fun i σ H2 _ ⟨_, _, _, _, _, _, _, _, _, _, e, _⟩ => by rw [e]; exact SqL.of hO) ?_ ?_⟩
        · rintro i v σ H2 hi hv ⟨p, q', a1, b1, c1, d1, f1, l1, y7, rfl, rfl, ch1, B1⟩
          rw [List.length_map, List.length_reverse] at hi hv
          obtain ⟨w2, hw, rfl⟩ : ∃ w2, rs[i]? = some w2 ∧ v = V.int w2 := by
            rw [List.getElem?_map, List.getElem?_reverse (by omega)] at hv
            rw [show rs.length - 1 - (rs.length - 1 - i) = i by omega] at hv
            obtain ⟨w2, h1, h2⟩ := Option.map_eq_some_iff.mp hv
            exact ⟨w2, h1, h2.symm⟩
          have hd : rs.drop i = w2 :: rs.drop (i + 1) := by
            obtain ⟨h1, h2⟩ := List.getElem?_eq_some_iff.mp hw
            rw [List.drop_eq_getElem_cons h1, h2]
          rw [hd] at ch1
          obtain ⟨a2, b2, c2, d2, ch2, T2, e1, e2, e3, e4, k1⟩ := ch1
          obtain ⟨pl, ql, p0⟩ := B1.small k1
          have k2 := ch2.ok
          refine ⟨_, rfl, _, rfl, _, _, rfl, rfl, wide_mul (a := 200) (b := 200) (lt200' T2.w0 T2.w1) (by have := k1.a1; have := k1.c1; omega) (by decide) (by decide) (by decide), _, rfl, _, _, rfl, rfl, _, rfl, _, _, rfl, ?_⟩
          rw [e1, e2, e3, e4] at B1
          exact ⟨_, _, a2, b2, c2, d2, l1, f1, _, rfl, rfl, ch2, B1.step k2.b0 T2⟩
        · rintro σ H2 ⟨p, q', a1, b1, c1, d1, f1, l1, y7, rfl, rfl, ch1, B1⟩
          rw [List.length_map, List.length_reverse, List.drop_length] at ch1
          obtain ⟨rfl, rfl, rfl, rfl, rfl, rfl, _⟩ := ch1
          refine ⟨_, rfl, _, rfl, (by show 2 ≤ sizeLine; decide), fun r hr => ?_⟩
          exact q p q' r _ B1 (s2.trans (same_put hr)) upd_same
    · rintro σ H1 Q1 Q2 mo ⟨v1, e1, v2, e2, v3, e3, u1, n1, c1, d1, l1, e4, h1, h2, h3, kk, e5, h6⟩
      exact ⟨v1, e1, v2, e2, v3, e3, u1, n1, c1, d1, l1, e4, h1, h2, h3, kk, e5, mo _ _ h6⟩
end
end My
set_option Elab.async false
set_option linter.all false
set_option maxRecDepth 100000
set_option maxHeartbeats 4000000
/-! data that a list's growing leaves as it is -/
namespace Gn
open PySem PySem.Spec PyProof.Rows L2
theorem small1e4 {n : Nat} (h : n ≤ 10000) : n < sizeLine := Nat.lt_of_le_of_lt h (by decide)
mutual
/-- no list in it, no dict -/
def noL : PyData → Bool
  | .list _ => false
  | .dict _ => false
  | .tuple ds => noLs ds
  | _ => true
def noLs : List PyData → Bool
  | [] => true
  | d :: ds => noL d && noLs ds
end
theorem noLs_iff : ∀ {ds : List PyData}, noLs ds = true ↔ ∀ d ∈ ds, noL d = true
  | [] => ⟨(fun _ d m => nomatch m), fun _ => by unfold noLs; rfl⟩
  | d :: ds => by
    unfold noLs
    rw [Bool.and_eq_true, noLs_iff]
    exact ⟨fun h x m => (List.mem_cons.mp m).elim (fun e => e ▸ h.1) (h.2 x), fun h => ⟨h d List.mem_cons_self, fun x m => h x (List.mem_cons_of_mem _ m)⟩⟩
/-- all but lists last -/
def ButL (H H' : Hp) : Prop := ∀ b o, (∀ ys, o ≠ HO.lst ys) → H b = some o → H' b = some o
theorem ButL.sq {K : PySem.W.Frag} {H H' : Hp} {a : Addr} {xs : List V} (k : ButL H H') (h : SqT K H a xs) : SqT K H' a xs := by
  rcases h with (h | ⟨o, h⟩) | h
  · exact .inl (.inl (k _ _ (fun ys z => by cases z) h))
  · exact .inl (.inr ⟨o, k _ _ (fun ys z => by cases z) h⟩)
  · exact .inr h
mutual
theorem dp_butL {K : PySem.W.Frag} {H H' : Hp} (k : ButL H H') : ∀ (d : PyData) (v : V), noL d = true → Dp K H v d → Dp K H' v d
  | .none, _, _, h => by cases h; exact .non
  | .bool b, _, _, h => by cases h; exact .bl b
  | .int i, _, _, h => by cases h; exact .int i
  | .str x, _, _, h => by cases h; exact .str x
  | .list ds, _, n, _ => by unfold noL at n; cases n
  | .tuple ds, _, n, h => by cases h with | tup a b => exact .tup (k.sq a) (dps_butL k ds _ (by unfold noL at n; exact n) b)
  | .dict _, _, n, _ => by unfold noL at n; cases n
theorem dps_butL {K : PySem.W.Frag} {H H' : Hp} (k : ButL H H') : ∀ (ds : List PyData) (vs : List V), noLs ds = true → DpAll K H vs ds → DpAll K H' vs ds
  | [], _, _, h => by cases h; exact .nil
  | d :: ds, _, n, h => by
    unfold noLs at n
    rw [Bool.and_eq_true] at n
    cases h with | cons a b => exact .cons (dp_butL k d _ n.1 a) (dps_butL k ds _ n.2 b)
end
theorem butL_upd {H : Hp} {D : Addr} {ys zs : List V} (h : H D = some (.lst ys)) : ButL H (upd H D (.lst zs)) := fun b o n e => by
  have ne : b ≠ D := fun z => by rw [z, h] at e; exact n ys (Option.some.inj e).symm
  rw [upd_ne ne]; exact e
theorem dp_upd {K : PySem.W.Frag} {H : Hp} {D : Addr} {ys zs : List V} {v : V} {d : PyData} (h : H D = some (.lst ys)) (n : noL d = true) (x : Dp K H v d) : Dp K (upd H D (.lst zs)) v d := dp_butL (butL_upd h) d v n x
theorem dps_upd {K : PySem.W.Frag} {H : Hp} {D : Addr} {ys zs vs : List V} {ds : List PyData} (h : H D = some (.lst ys)) (n : noLs ds = true) (x : DpAll K H vs ds) : DpAll K (upd H D (.lst zs)) vs ds := dps_butL (butL_upd h) ds vs n x
end Gn
set_option Elab.async false
set_option linter.all false
set_option maxRecDepth 100000
set_option maxHeartbeats 4000000
/-! two promises of one def, one that never throws and one that does, put together -/
namespace Gn
open PySem PySem.Spec PyProof.Rows L2
section
variable {P : Program} {w : World} {K : PySem.W.Frag} {mg : Str → Option Value} {base : Heap} {CX : CXT} {k : Nat} {f : Addr} {fd : FuncData} {ps : List Str} {sp sp' : Sp}
theorem cr_up {outer : List Env} {H : Hp} {s s' : Shared} {Q : VK} {E : XK} {r : Result} (h : CR CX0 outer P w H s Q E r s') : CR CX outer P w H s Q E r s' := by
  match r, h with
  | .ok (.ret u), h => exact h
  | .error e, h => exact False.elim h
theorem okUp (F : FnOk P w K mg base CX0 k f fd ps sp) : FnOk P w K mg base CX k f fd ps sp :=
  ⟨F.len, fun A o s H a us vs Q E hr e hb hv h => codeAny_mono (F.run A o s H a us vs Q E hr e hb hv h) fun _ _ z => cr_up z⟩
theorem fgUp (F : FnG P w K mg base CX0 k f fd ps sp) : FnG P w K mg base CX k f fd ps sp :=
  ⟨F.len, fun A o s H a us vs Q E hg hr e hb hv h => codeAny_mono (F.run A o s H a us vs Q E hg hr e hb hv h) fun _ _ z => cr_up z⟩
def spOr (a b : Sp) : Sp := fun vs H Q E => a vs H Q E ∨ b vs H Q E
theorem okOr (F : FnOk P w K mg base CX k f fd ps sp) (G : FnOk P w K mg base CX k f fd ps sp') : FnOk P w K mg base CX k f fd ps (spOr sp sp') :=
  ⟨fun vs H Q E h => h.elim (F.len vs H Q E) (G.len vs H Q E), fun A o s H a us vs Q E hr e hb hv h => h.elim (fun h => F.run A o s H a us vs Q E hr e hb hv h) fun h => G.run A o s H a us vs Q E hr e hb hv h⟩
theorem fgOr (F : FnG P w K mg base CX k f fd ps sp) (G : FnG P w K mg base CX k f fd ps sp') : FnG P w K mg base CX k f fd ps (spOr sp sp') :=
  ⟨fun vs H Q E h => h.elim (F.len vs H Q E) (G.len vs H Q E), fun A o s H a us vs Q E hg hr e hb hv h => h.elim (fun h => F.run A o s H a us vs Q E hg hr e hb hv h) fun h => G.run A o s H a us vs Q E hg hr e hb hv h⟩
/-- what is refused, the rest never gone through -/
theorem okBad {x qual : Str} {st : Stmt} {f : Addr} {fd : FuncData} {N ps : List Str} {k : Nat} {sp : Sp} (F : Fun K x qual st f fd) (S : FnScope N ps (defScope st)) (len : ∀ vs H Q E, sp vs H Q E → vs.length = ps.length)
    (body : ∀ (cdv : Value) (A : Around) (outer : List Env) (s : Shared) (H : Hp) (vs : List V) (Q : VK) (E : XK), Room k (A.deeper (envOfC qual (defScope st) s.heap.objs.size f cdv)) → sp vs H Q E →
      L2N.Takes (cxOf (L2N.CX P w) P w K mg base N qual (defScope st) f cdv A outer s H E) (fun C d _ G => E C d G) →
      ∃ t, PSs (cxOf (L2N.CX P w) P w K mg base N qual (defScope st) f cdv A outer s H E) (defBody st) t ∧ t { nx := fun _ G => Q .non G, rt := Q } (start N vs) H) : FnOk P w K mg base (L2N.CX P w) (k + 1) f fd ps sp :=
  okN F S len fun cdv A outer s H vs Q E hr h => body cdv A outer s H vs Q E hr h (L2N.takes_of rfl rfl rfl rfl)
end
end Gn
set_option Elab.async false
set_option linter.all false
set_option maxRecDepth 100000
set_option maxHeartbeats 8000000
set_option exponentiation.threshold 4000
namespace My
open PySem PySem.Spec PyProof.Rows L2 Gn Mt
abbrev s__first_wrong : Stmt := top 40
theorem sc__first_wrong : FnScope ["pieces", "at", "piece"] ["pieces"] (defScope s__first_wrong) := ⟨rfl, rfl, rfl, by decide +kernel, rfl, by decide +kernel, by decide +kernel⟩
abbrev s__is_piece : Stmt := top 41
theorem sc__is_piece : FnScope ["given", "low", "high", "first", "last", "begin", "end"] ["given"] (defScope s__is_piece) := ⟨rfl, rfl, rfl, by decide +kernel, rfl, by decide +kernel, by decide +kernel⟩
/-! any pieces: which is the first wrong one -/
abbrev s_linit : Stmt := inClass (top 35) 0
abbrev s_lpieces : Stmt := inClass (top 35) 2
theorem sc_linit : FnScope ["self", "pieces", "wrong"] ["self", "pieces"] (defScope s_linit) := ⟨rfl, rfl, rfl, by decide +kernel, rfl, by decide +kernel, by decide +kernel⟩
theorem sc_lpieces : FnScope ["self"] ["self"] (defScope s_lpieces) := ⟨rfl, rfl, rfl, by decide +kernel, rfl, by decide +kernel, by decide +kernel⟩
/-- a cut at what may be a fraction -/
def ctD (d : PyData) (b : Bool) : Cut := match d with | .tuple [.int n, .int m] => ⟨n, m, b⟩ | _ => ⟨0, 1, b⟩
def pcB (l h : PyData) (f t : Bool) : Bool := isPt l && (isPt h && ((ctD l (!f)).lt (ctD h t) && !(last.lt (ctD h t))))
def isPcB : PyData → Bool
  | .tuple [l, h, .bool f, .bool t] => pcB l h f t
  | _ => false
def begD : PyData → Cut
  | .tuple [l, _, .bool f, _] => ctD l (!f)
  | _ => last
def endD : PyData → Cut
  | .tuple [_, h, _, .bool t] => ctD h t
  | _ => last
def sideB : Option PyData → PyData → Bool
  | none, _ => true
  | some q, d => (endD q).lt (begD d)
/-- the index of the first wrong one, p the one ahead -/
def wrongFrom : Option PyData → Nat → List PyData → Option Nat
  | _, _, [] => none
  | p, j, d :: ds => if (isPcB d && sideB p d) = true then wrongFrom (some d) (j + 1) ds else some j
/-- nothing wrong: none; else the index, none for no tuple -/
def pcsW : PyData → Option (Option Nat)
  | .tuple ds => (wrongFrom none 0 ds).map some
  | _ => some none
/-- fractions in it are none too long -/
def Lit4 (d : PyData) : Prop := ∀ ds, d = .tuple ds → ds.length ≤ 60 ∧ ∀ e ∈ ds, ∀ n m, e = .tuple [.int n, .int m] → Lit (n, m)
def LitP (d : PyData) : Prop := ∀ ds, d = .tuple ds → ds.length ≤ 60 ∧ ∀ e ∈ ds, Lit4 e
theorem partD_of {d : PyData} (h : isPt d = true) : ∃ n m : Int, d = .tuple [.int n, .int m] ∧ 0 < m ∧ Int.gcd n m = 1 ∧ 0 ≤ n ∧ n ≤ m := by
  unfold isPt at h
  split at h
  · rename_i n m
    rw [Bool.and_eq_true, Bool.and_eq_true, decide_eq_true_eq, decide_eq_true_eq] at h
    obtain ⟨_, _, e, h1, h2⟩ := isFr_of h.1
    cases e
    exact ⟨n, m, rfl, by omega, h2, h.2.1, h.2.2⟩
  · cases h
theorem pc_of {d : PyData} (h : isPcB d = true) : ∃ c e : Cut, d = pcD c e ∧ c.In ∧ e.In ∧ c.lt e = true ∧ begD d = c ∧ endD d = e := by
  unfold isPcB at h
  split at h
  · rename_i l g f t
    unfold pcB at h
    rw [Bool.and_eq_true, Bool.and_eq_true, Bool.and_eq_true] at h
    obtain ⟨h1, h2, h3, h4⟩ := h
    obtain ⟨n, m, rfl, m0, co, n0, le⟩ := partD_of h1
    obtain ⟨n', m', rfl, m0', co', n0', le'⟩ := partD_of h2
    have v1 : (ctD (.tuple [.int n, .int m]) (!f)).V := ⟨m0, co⟩
    have v2 : (ctD (.tuple [.int n', .int m']) t).V := ⟨m0', co'⟩
    have l2 : last.lt (ctD (.tuple [.int n', .int m']) t) = false := by
      cases z : last.lt (ctD (.tuple [.int n', .int m']) t) with
      | false => rfl
      | true => rw [z] at h4; cases h4
    have l1 : last.lt (ctD (.tuple [.int n, .int m]) (!f)) = false := by
      cases z : last.lt (ctD (.tuple [.int n, .int m]) (!f)) with
      | false => rfl
      | true => rw [Cut.trans last_in.toV v1 v2 z h3] at l2; cases l2
    refine ⟨ctD (.tuple [.int n, .int m]) (!f), ctD (.tuple [.int n', .int m']) t, ?_, ⟨v1, n0, l1⟩, ⟨v2, n0', l2⟩, h3, rfl, rfl⟩
    show PyData.tuple [_, _, .bool f, .bool t] = .tuple [_, _, .bool (!(!f)), .bool t]
    rw [Bool.not_not]
    rfl
  · cases h
theorem wrong_none : ∀ {ds : List PyData} {p : Option PyData} {j : Nat}, wrongFrom p j ds = none → (∀ q, p = some q → isPcB q = true) → ∃ cs : List Cut, ds = pcsD cs ∧ odd cs.length = false ∧ (∀ c ∈ cs, c.In) ∧ Asc ((p.map endD).toList ++ cs)
  | [], p, j, _, _ => ⟨[], rfl, rfl, (fun c m => by cases m), by cases p <;> simp [Asc]⟩
  | d :: ds, p, j, h, hp => by
    rw [wrongFrom] at h
    split at h
    · rename_i z
      rw [Bool.and_eq_true] at z
      obtain ⟨c, e, rfl, ic, ie, lt, eb, ee⟩ := pc_of z.1
      obtain ⟨cs, rfl, od, al, as⟩ := wrong_none h (fun q hq => by cases hq; exact z.1)
      have as : Asc (e :: cs) := by
        have := as
        rw [Option.map_some, ee] at this
        exact this
      have ne : ∀ x ∈ cs, e.lt x = true := (List.pairwise_cons.mp as).1
      have nc : ∀ x ∈ cs, c.lt x = true := fun x m => Cut.trans ic.toV ie.toV (al x m).toV lt (ne x m)
      have a2 : Asc (c :: e :: cs) := List.pairwise_cons.mpr ⟨fun x m => by rcases List.mem_cons.mp m with rfl | m; exact lt; exact nc x m, as⟩
      refine ⟨c :: e :: cs, rfl, by simpa [odd] using od, fun x m => ?_, ?_⟩
      · rcases List.mem_cons.mp m with rfl | m
        · exact ic
        rcases List.mem_cons.mp m with rfl | m
        · exact ie
        exact al x m
      · cases p with
        | none => exact a2
        | some q =>
          obtain ⟨c', e', rfl, ic', ie', _, _, ee'⟩ := pc_of (hp q rfl)
          have zs : (endD (pcD c' e')).lt (begD (pcD c e)) = true := z.2
          rw [ee', eb] at zs
          show Asc (endD (pcD c' e') :: c :: e :: cs)
          rw [ee']
          refine List.pairwise_cons.mpr ⟨fun x m => ?_, a2⟩
          rcases List.mem_cons.mp m with rfl | m
          · exact zs
          rcases List.mem_cons.mp m with rfl | m
          · exact Cut.trans ie'.toV ic.toV ie.toV zs lt
          exact Cut.trans ie'.toV ic.toV (al x m).toV zs (nc x m)
    · cases h
theorem pcs_of {d : PyData} (h : pcsW d = none) : ∃ cs, d = .tuple (pcsD cs) ∧ Lt cs := by
  cases d with
  | tuple ds =>
    have h : (wrongFrom none 0 ds).map some = none := h
    rw [Option.map_eq_none_iff] at h
    obtain ⟨cs, rfl, od, al, as⟩ := wrong_none h (fun q hq => by cases hq)
    exact ⟨cs, rfl, ⟨al, as, od⟩⟩
  | _ => cases h
/-- one of the class C is raised, v as its index -/
def ThrownI (C : Addr) (v : V) (H : Hp) (E : XK) : Prop := ∀ d H', Same H H' → H d = none → H' d = some (.xd [("index", v)]) → E (.ref C) (some d) H'
theorem ThrownI.same {C : Addr} {v : V} {H H1 : Hp} {E : XK} (t : ThrownI C v H E) (s : Same H H1) : ThrownI C v H1 E := fun d H' s2 n h => t d H' (s.trans s2) (s.free n) h
def ixV : Option Nat → V
  | none => .non
  | some j => .int (j : Nat)
def ixD : Option Nat → PyData
  | none => .none
  | some j => .int (j : Nat)
/-- such a one raised, its attribute written as it is -/
theorem thr_c {K : PySem.W.Frag} {C : Addr} {n : Str} {x : V} {σ : L2.St} {H : Hp} {Q : XK} (T : OwC K C) (no : PySem.W.findIn K (.ref C) n = some none)
    (k : ∀ d H', Same H H' → H d = none → H' d = some (.xd [(n, x)]) → Q (.ref C) (some d) H') : tThr C (spIni K [n]) [] (tCons (tC x) tNil) σ H Q := by
  refine ⟨Nat.le_of_ble_eq_true rfl, fun a ha => ⟨a, C, [x], rfl, rfl, T, fun f hf => by rw [List.mem_singleton.mp hf]; exact no, upd_same, fun H2 bt kt => ⟨rfl, .inl ?_⟩⟩⟩
  rcases kt with ⟨z, _⟩ | ⟨d, hd, h1, h2⟩
  · cases z
  · have da : d ≠ a := fun z => by
      rw [z, upd_same] at hd
      cases hd
    have hd1 : H d = none := by
      rw [upd_ne da] at hd
      exact hd
    refine ⟨d, _, h1, h2, hd1, k d _ (fun b o z => ?_) hd1 upd_same⟩
    rw [upd_ne (ne_of_none z hd1), del_ne (ne_of_none z ha)]
    exact bt b o (ne_of_none z ha) (by rw [upd_ne (ne_of_none z ha)]; exact z)
def spIsPcX (K : PySem.W.Frag) : Sp := fun vs H Q _ => ∃ v d, vs = [v] ∧ An K H v d ∧ Lit4 d ∧ ∀ H', Same H H' → Q (.bl (isPcB d)) H'
def spWrongX (K : PySem.W.Frag) : Sp := fun vs H Q _ => ∃ v ds, vs = [v] ∧ An K H v (.tuple ds) ∧ LitP (.tuple ds) ∧ ∀ H', Same H H' → Q (match wrongFrom none 0 ds with | none => .non | some j => .int (j : Nat)) H'
/-- the built-ins and constants that lots want -/
structure Bp (K : PySem.W.Frag) (mg : Str → Option Value) : Prop where
  c : Bc mg
  en : mg "enumerate" = none
  zip : mg "zip" = none
  lc : ∃ a, mg "_LAST_CUT" = some (.ref a) ∧ ∀ H, Dp K H (.ref a) (cutD last)
/-- the defs about pieces -/
structure Pd (K : PySem.W.Frag) (mg : Str → Option Value) where
  f_is_fraction : Addr × FuncData
  d_is_fraction : Df K mg "is_fraction" s_is_fraction ["given"] f_is_fraction.1 f_is_fraction.2
  f_is_part : Addr × FuncData
  d_is_part : Df K mg "is_part" s_is_part ["given"] f_is_part.1 f_is_part.2
  f_is_less : Addr × FuncData
  d_is_less : Df K mg "is_less" s_is_less ["one", "other"] f_is_less.1 f_is_less.2
  f__first_wrong : Addr × FuncData
  d__first_wrong : Df K mg "_first_wrong" s__first_wrong ["pieces"] f__first_wrong.1 f__first_wrong.2
  f__is_piece : Addr × FuncData
  d__is_piece : Df K mg "_is_piece" s__is_piece ["given"] f__is_piece.1 f__is_piece.2
  f__cuts_at : Addr × FuncData
  d__cuts_at : Df K mg "_cuts_at" s__cuts_at ["piece"] f__cuts_at.1 f__cuts_at.2
  f__is_ahead : Addr × FuncData
  d__is_ahead : Df K mg "_is_ahead" s__is_ahead ["cut", "other"] f__is_ahead.1 f__is_ahead.2
  f_int : Addr × FuncData
  d_int : Df K mg "is_integer" sIsInt ["given"] f_int.1 f_int.2
section
variable {P : Program} {w : World} {K : PySem.W.Frag} {mg : Str → Option Value} {base : Heap}
theorem lit_last : Lit (last.n, last.d) := ⟨by decide, by decide⟩
theorem an_fr {H : Hp} {v : V} {n m : Int} (h : An K H v (.tuple [.int n, .int m])) : Dp K H v (frD (n, m)) := h.dp (by simp only [flat, flat.flats, Bool.and_self])
theorem anAll_four {H : Hp} {xs : List V} {ds : List PyData} (h : AnAll K H xs ds) (e : ds.length = 4) : ∃ x y z u p q r t, xs = [x, y, z, u] ∧ ds = [p, q, r, t] ∧ An K H x p ∧ An K H y q ∧ An K H z r ∧ An K H u t := by
  have e2 := (dpAll_len h).trans e
  match xs, ds, h, e2 with
  | [x, y, z, u], [p, q, r, t], .cons a (.cons b (.cons c (.cons d .nil))), _ => exact ⟨x, y, z, u, p, q, r, t, rfl, rfl, a, b, c, d⟩
theorem isPc_len {ds : List PyData} (h : ds.length ≠ 4) : isPcB (.tuple ds) = false := by
  unfold isPcB
  split
  · rename_i e
    cases e
    exact absurd rfl h
  · rfl
theorem ok_isPcX {f : Addr} {fd : FuncData} (F : Fun K "_is_piece" "_is_piece" s__is_piece f fd) (B : Bp K mg) (M : Pd K mg) : FnOk P w K mg base CX0 4 f fd ["given"] (spIsPcX K) := by
  have GP : FnOk P w K mg base CX0 3 M.f_is_part.1 M.f_is_part.2 ["given"] (spAsk K isPt) := ok_isPartA M.d_is_part.F B.c M.d_int M.d_is_fraction
  have GC : FnOk P w K mg base CX0 1 M.f__cuts_at.1 M.f__cuts_at.2 ["piece"] (spCuts K) := ok_cuts M.d__cuts_at.F
  have GA : FnOk P w K mg base CX0 2 M.f__is_ahead.1 M.f__is_ahead.2 ["cut", "other"] (spAhead K) := ok_ahead M.d__is_ahead.F M.d_is_less
  refine F.ok sc__is_piece (fun vs H Q E h => ?_) (fun cdv A outer s H vs Q E hr h => ?_)
  · obtain ⟨v, d, rfl, _⟩ := h
    rfl
  · obtain ⟨v, d, rfl, an, lit, k⟩ := h
    obtain ⟨al, hal, hlast⟩ := B.lc
    have hr1 : Room 1 _ := hr.mono (by decide)
    have hr2 : Room 2 _ := hr.mono (by decide)
    refine ⟨_, pss_cons (ps_if (PW.pt (pw_or (pt_not (pt_val (pe_callB (call_isi) (by rfl) B.c.isi (by decide +kernel) (pa_cons (pv 0) (pa_cons (pe_bltn (v := .ty "tuple") (by rfl) B.c.tuple (by decide +kernel) rfl) pa_nil))))) (pw_or1 (pt_cmpR op_ne (pe_callB (call_len_seq) (by rfl) B.c.len (by decide +kernel) (pa_cons (pv 0) pa_nil)) pe_int (nomark _))))) (pss_one (ps_ret pe_bl)) pss_nil) (pss_cons (ps_asg (pv 0) (pg_tup (by rfl) (pgs_cons (pg_name (i := 1) sc__is_piece.nd rfl (.inl rfl)) (pgs_cons (pg_name (i := 2) sc__is_piece.nd rfl (.inl rfl)) (pgs_cons (pg_name (i := 3) sc__is_piece.nd rfl (.inl rfl)) (pgs_cons (pg_name (i := 4) sc__is_piece.nd rfl (.inl rfl)) pgs_nil)))))) (pss_cons (ps_if (PW.pt (pw_or (pt_not (pt_val (pe_call GP hr (by rfl) M.d_is_part.g M.d_is_part.F.kp M.d_is_part.b .nil pass0 (pa_cons (pv 1) pa_nil)))) (pw_or (pt_not (pt_val (pe_call GP hr (by rfl) M.d_is_part.g M.d_is_part.F.kp M.d_is_part.b .nil pass0 (pa_cons (pv 2) pa_nil)))) (pw_or (pt_not (pt_val (pe_callB (call_isi) (by rfl) B.c.isi (by decide +kernel) (pa_cons (pv 3) (pa_cons (pe_bltn (v := .ty "bool") (by rfl) B.c.bool (by decide +kernel) rfl) pa_nil))))) (pw_or1 (pt_not (pt_val (pe_callB (call_isi) (by rfl) B.c.isi (by decide +kernel) (pa_cons (pv 4) (pa_cons (pe_bltn (v := .ty "bool") (by rfl) B.c.bool (by decide +kernel) rfl) pa_nil)))))))))) (pss_one (ps_ret pe_bl)) pss_nil) (pss_cons (ps_asg (pe_call GC hr1 (by rfl) M.d__cuts_at.g M.d__cuts_at.F.kp M.d__cuts_at.b .nil pass0 (pa_cons (pv 0) pa_nil)) (pg_tup (by rfl) (pgs_cons (pg_name (i := 5) sc__is_piece.nd rfl (.inl rfl)) (pgs_cons (pg_name (i := 6) sc__is_piece.nd rfl (.inl rfl)) pgs_nil)))) (pss_one (ps_ret (pe_and (pe_call GA hr2 (by rfl) M.d__is_ahead.g M.d__is_ahead.F.kp M.d__is_ahead.b .nil pass0 (pa_cons (pv 5) (pa_cons (pv 6) pa_nil))) (pe_one (pe_not (pe_call GA hr2 (by rfl) M.d__is_ahead.g M.d__is_ahead.F.kp M.d__is_ahead.b .nil pass0 (pa_cons (pe_glob (v := .ref al) rfl hal rfl) (pa_cons (pv 6) pa_nil))))))))))), ?_⟩
    refine ⟨_, rfl, v, .ty "tuple", _, _, _, rfl, .ty "tuple", an.ty, kit_ty kit_tup, _, rfl, ?_⟩
    cases et : isTupB d with
    | false =>
      have e : isPcB d = false := by cases d <;> first | rfl | cases et
      rw [e] at k
      exact iteT (k _ (Same.refl _))
    | true =>
      refine iteF ?_
      have an0 := an
      obtain ⟨a, xs, ds, rfl, rfl, hT, all⟩ := an.isT et
      have len := dpAll_len all
      refine ⟨_, rfl, a, xs, rfl, .inr (SqT.of hT), rfl, _, rfl, ?_⟩
      by_cases hl : ds.length = 4
      · obtain ⟨x, y, f1, t1, p, q, fd', td', rfl, rfl, ax, ay, af, at'⟩ := anAll_four all hl
        refine iteF ?_
        refine ⟨_, rfl, a, _, rfl, SqT.of hT, rfl, _, _, rfl, _, _, rfl, _, _, rfl, _, _, rfl, rfl, ?_⟩
        refine ⟨_, rfl, x, p, rfl, ax, _, rfl, ?_⟩
        cases c1 : isPt p with
        | false =>
          have e : isPcB (.tuple [p, q, fd', td']) = false := by
            unfold isPcB
            split
            · rename_i z
              cases z
              rw [pcB, c1, Bool.false_and]
            · rfl
          rw [e] at k
          exact iteT (k _ (Same.refl _))
        | true =>
        refine iteF ⟨_, rfl, y, q, rfl, ay, _, rfl, ?_⟩
        cases c2 : isPt q with
        | false =>
          have e : isPcB (.tuple [p, q, fd', td']) = false := by
            unfold isPcB
            split
            · rename_i z
              cases z
              rw [pcB, c2, Bool.false_and, Bool.and_false]
            · rfl
          rw [e] at k
          exact iteT (k _ (Same.refl _))
        | true =>
        refine iteF ⟨_, rfl, f1, .ty "bool", _, _, _, rfl, .ty "bool", af.ty, kit_ty kit_bool, _, rfl, ?_⟩
        cases c3 : isBoolB fd' with
        | false =>
          have e : isPcB (.tuple [p, q, fd', td']) = false := by cases fd' <;> first | rfl | cases c3
          rw [e] at k
          exact iteT (k _ (Same.refl _))
        | true =>
        refine iteF ⟨_, rfl, t1, .ty "bool", _, _, _, rfl, .ty "bool", at'.ty, kit_ty kit_bool, _, rfl, ?_⟩
        cases c4 : isBoolB td' with
        | false =>
          have e : isPcB (.tuple [p, q, fd', td']) = false := by cases td' <;> first | (cases fd' <;> rfl) | cases c4
          rw [e] at k
          exact iteT (k _ (Same.refl _))
        | true =>
        refine iteF ?_
        cases af with
        | bl f0 =>
          cases at' with
          | bl t0 =>
            obtain ⟨n, m, rfl, m0, co, n0, le⟩ := partD_of c1
            obtain ⟨n', m', rfl, m0', co', n0', le'⟩ := partD_of c2
            have l1 : Lit (n, m) := (lit _ rfl).2 _ (by simp) n m rfl
            have l2 : Lit (n', m') := (lit _ rfl).2 _ (List.mem_cons_of_mem _ List.mem_cons_self) n' m' rfl
            have hp : Dp K H (.ref a) (pcD ⟨n, m, !f0⟩ ⟨n', m', t0⟩) := pc_mk (by show SqT K H a [x, y, .bl (!(!f0)), .bl t0]; rw [Bool.not_not]; exact SqT.of hT) (an_fr ax) (an_fr ay)
            refine ⟨_, rfl, _, _, _, rfl, hp, fun r x' y' H1 s1 nr hr' dx' dy' => ?_⟩
            refine ⟨r, _, rfl, SqT.of hr', rfl, _, _, rfl, _, _, rfl, rfl, ?_⟩
            have k := k H1 s1
            have ek : isPcB (.tuple [.tuple [.int n, .int m], .tuple [.int n', .int m'], .bool f0, .bool t0]) = ((⟨n, m, !f0⟩ : Cut).lt ⟨n', m', t0⟩ && !(last.lt ⟨n', m', t0⟩)) := by
              show pcB _ _ _ _ = _
              rw [pcB, c1, c2]
              rfl
            rw [ek] at k
            refine ⟨_, rfl, _, rfl, x', y', _, _, rfl, dx', dy', l1, l2, _, rfl, ?_⟩
            cases c5 : (⟨n, m, !f0⟩ : Cut).lt ⟨n', m', t0⟩ with
            | false =>
              rw [c5] at k
              exact iteF k
            | true =>
              rw [c5] at k
              exact iteT ⟨_, rfl, .ref al, y', last, _, rfl, hlast _, dy', lit_last, l2, _, rfl, k⟩
          | _ => cases c4
        | _ => cases c3
      · rw [isPc_len hl] at k
        have e : (!(decide (V.int (xs.length : Int) = V.int 4))) = true := by
          rw [decide_eq_false, Bool.not_false]
          intro z
          rw [V.int.injEq] at z
          exact hl (by omega)
        show if (!(decide (V.int (xs.length : Int) = V.int 4))) = true then _ else _
        rw [e]
        exact iteT (k _ (Same.refl _))
end
end My
set_option Elab.async false
set_option linter.all false
set_option maxRecDepth 100000
set_option maxHeartbeats 4000000
/-! C(..) whose __init__ may raise: what comes out by the context's own words at the caller's slots -/
namespace Gn
open PySem PySem.Spec PyProof.Rows L2
/-- the reading of C(e, ..) -/
def tMakeS (C : Addr) (sp : Sp) (G : L2.St → XK) (t : TA) : TE := fun σ H Q => t σ H fun vs H1 => ∀ x dx, H1 x = none → H1 dx = none → dx ≠ x → sp (.ref x :: vs) (upd (upd H1 dx (.own x)) x (.ins C dx [])) (fun v H2 => v = .non ∧ Q (.ref x) H2) (G σ)
section
variable {X : Cx} {CX : CXT} {k n : Nat} {f C : Addr} {fd : FuncData} {ps : List Str} {sp : Sp} {G : L2.St → XK} {nm : Str} {e : Expr} {es : List Expr} {t : TA} {p pos : Pos}
theorem run_makeS {pins : List (Addr × Obj)} {σ : L2.St} {H : Hp} {s : Shared} {Q : VK} {us : List Value} {vs : List V} (M : Mk X.K C f) (F : FnOk X.prog X.w X.K X.mg X.base CX k f fd ps sp) (hr : Room (k + 1) X.A) (hb : Binds X.K fd ps [])
    (hx : PassesAt CX X σ (G σ)) (I : Inv X pins σ H s) (r : Vals vs us) (h : ∀ x dx, H x = none → H dx = none → dx ≠ x → sp (.ref x :: vs) (upd (upd H dx (.own x)) x (.ins C dx [])) (fun v H2 => v = .non ∧ Q (.ref x) H2) (G σ)) :
    wpAny (model X.prog X.w) X.A (call (.ref C) us) (EP X pins σ Q) X.xe s := by
  have q := h (s.heap.objs.size + 1) s.heap.objs.size (I.hok.fresh (Nat.le_succ _)) (I.hok.fresh (Nat.le_refl _)) (Nat.ne_of_lt (Nat.lt_succ_self _))
  have J := Inv.made (C := C) I
  have rv : Vals (V.ref (s.heap.objs.size + 1) :: vs) (Value.ref (s.heap.objs.size + 1) :: us) := .cons rfl r
  have len : (Value.ref (s.heap.objs.size + 1) :: us).length = ps.length := rv.length.symm.trans (F.len _ _ _ _ q)
  have b := hb _ (Value.ref (s.heap.objs.size + 1) :: us) J.kIn (by rw [List.append_nil]; exact len)
  rw [List.append_nil] at b
  refine wpAny_call (make_map (f := f) I.kIn M.makes M.init (beq_iff_eq.mp M.fn) (codeAny_mono (F.run _ X.stack _ _ ⟨Value.ref (s.heap.objs.size + 1) :: us, []⟩ _ _ _ (G σ) (hr.make C us []) (J.env0.make C us []) b rv q) fun rr s2 hq => ?_))
  match rr, hq with
  | .error z, hq => exact hx pins _ _ z s2 J hq
  | .ok (.ret u), hq =>
    obtain ⟨v, H', I3, rv2, ev, q3⟩ := J.after hq
    subst ev
    exact ⟨rv2, V.ref (s.heap.objs.size + 1), H', I3, rfl, q3⟩
  | .ok .next, hq => exact hq.elim
  | .ok .brk, hq => exact hq.elim
  | .ok .cont, hq => exact hq.elim
/-- C(e, ..), C a class of the module -/
theorem pe_makeS (M : Mk X.K C f) (F : FnOk X.prog X.w X.K X.mg X.base CX k f fd ps sp) (hr : Room (k + 1) X.A) (hg : Gl X nm) (hm : X.mg nm = some (.ref C)) (hb : Binds X.K fd ps []) (hx : ∀ σ, PassesAt CX X σ (G σ))
    (ha : PA X (e :: es) t) (hdb : (nm == ("__debug__" : Str)) = false := by decide) (he : starEach (e :: es) X.env = (false, eval e X.env) :: starEach es X.env := by rfl)
    (hpl : (backTo pos (starEach es X.env)).any (·.1) = false := by rfl) : PE X (.Call (.Name nm p) (e :: es) [] pos) (tMakeS C sp G t) := by
  refine ⟨fun pins s σ H Q I h => wpAny_Call_Name_kw (ld_glob I hg hm ?_ hdb)⟩
  exact PySem.W.callWith_K (h₀ := X.base) I.ok.mod.kin M.kp (thn (ha.run pos pins s σ H _ I h) fun us s1 ⟨vs, H1, I1, r, q⟩ => ⟨I1.kIn, run_makeS M F hr hb (hx σ) I1 r q⟩) he hpl
/-- the reading of C(k = v) -/
def tMakeSK (C : Addr) (sp : Sp) (gV : List V → List V → List V) (G : L2.St → XK) (tk : TA) : TE := fun σ H Q => tk σ H fun zs H1 => zs.length = 1 ∧ ∀ x dx, H1 x = none → H1 dx = none → dx ≠ x → sp (gV [.ref x] zs) (upd (upd H1 dx (.own x)) x (.ins C dx [])) (fun v H2 => v = .non ∧ Q (.ref x) H2) (G σ)
variable {ks : Str} {g : List Value → List Value → List Value} {gV : List V → List V → List V} {kws : List Keyword} {tk : TA}
theorem run_makeSK {pins : List (Addr × Obj)} {σ : L2.St} {H : Hp} {s : Shared} {Q : VK} {ws : List Value} {zs : List V} (M : Mk X.K C f) (F : FnOk X.prog X.w X.K X.mg X.base CX k f fd ps sp) (hr : Room (k + 1) X.A) (hb : KBn X.K fd ps 1 [ks] g gV)
    (hx : PassesAt CX X σ (G σ)) (I : Inv X pins σ H s) (rz : Vals zs ws) (l : zs.length = 1) (h : ∀ x dx, H x = none → H dx = none → dx ≠ x → sp (gV [.ref x] zs) (upd (upd H dx (.own x)) x (.ins C dx [])) (fun v H2 => v = .non ∧ Q (.ref x) H2) (G σ)) :
    wpAny (model X.prog X.w) X.A (call (.ref C) [] ([ks].zip ws)) (EP X pins σ Q) X.xe s := by
  have q := h (s.heap.objs.size + 1) s.heap.objs.size (I.hok.fresh (Nat.le_succ _)) (I.hok.fresh (Nat.le_refl _)) (Nat.ne_of_lt (Nat.lt_succ_self _))
  have J := Inv.made (C := C) I
  have rv : Vals [V.ref (s.heap.objs.size + 1)] [Value.ref (s.heap.objs.size + 1)] := .cons rfl .nil
  have rb := hb.rel rv rz
  refine wpAny_call (make_map (f := f) I.kIn M.makes M.init (beq_iff_eq.mp M.fn) (codeAny_mono (F.run _ X.stack _ _ ⟨[Value.ref (s.heap.objs.size + 1)], [ks].zip ws⟩ (g [Value.ref (s.heap.objs.size + 1)] ws) _ _ (G σ) (hr.make C [] ([ks].zip ws))
    (J.env0.make C [] ([ks].zip ws)) (hb.to _ [Value.ref (s.heap.objs.size + 1)] ws J.kIn rfl (rz.length.symm.trans l)) rb q) fun rr s2 hq => ?_))
  match rr, hq with
  | .error z, hq => exact hx pins _ _ z s2 J hq
  | .ok (.ret u), hq =>
    obtain ⟨v, H', I3, rv2, ev, q3⟩ := J.after hq
    subst ev
    exact ⟨rv2, V.ref (s.heap.objs.size + 1), H', I3, rfl, q3⟩
  | .ok .next, hq => exact hq.elim
  | .ok .brk, hq => exact hq.elim
  | .ok .cont, hq => exact hq.elim
/-- C(k = v) -/
theorem pe_makeSK (M : Mk X.K C f) (F : FnOk X.prog X.w X.K X.mg X.base CX k f fd ps sp) (hr : Room (k + 1) X.A) (hg : Gl X nm) (hm : X.mg nm = some (.ref C)) (hb : KBn X.K fd ps 1 [ks] g gV) (hx : ∀ σ, PassesAt CX X σ (G σ)) (hkw : PK X kws tk)
    (hall : (backToKw pos (keywordEach kws X.env)).all (·.1.isSome) = true := by rfl) (hks : (backToKw pos (keywordEach kws X.env)).filterMap (·.1) = [ks] := by rfl) (hdb : (nm == ("__debug__" : Str)) = false := by decide)
    (hpl : ((backTo pos (starEach [] X.env)).any (·.1) || (backToKw pos (keywordEach kws X.env)).any (·.1.isNone)) = false := by rfl) : PE X (.Call (.Name nm p) [] kws pos) (tMakeSK C sp gV G tk) := by
  refine ⟨fun pins s σ H Q I h => wpAny_Call_Name_kw (ld_glob I hg hm (PySem.W.callWith_KW0 (h₀ := X.base) I.ok.mod.kin M.kp hall ?_ hpl) hdb)⟩
  refine thn (hkw.run pos pins s σ H _ I h) fun ws s2 ⟨zs, H2, I2, rz, l, q⟩ => ⟨I2.kIn, ?_⟩
  rw [hks]
  exact run_makeSK M F hr hb (hx σ) I2 rz l q
end
end Gn
set_option Elab.async false
set_option linter.all false
set_option maxRecDepth 100000
set_option maxHeartbeats 8000000
set_option exponentiation.threshold 4000
namespace My
open PySem PySem.Spec PyProof.Rows L2 Gn Mt
theorem anAll_get {K : PySem.W.Frag} {H : Hp} : ∀ {vs : List V} {ds : List PyData} {i : Nat} {x : V}, AnAll K H vs ds → vs[i]? = some x → ∃ d, ds[i]? = some d ∧ An K H x d
  | _, _, 0, x, .cons h _, e => ⟨_, rfl, by cases e; exact h⟩
  | _, _, i + 1, x, .cons _ t, e => by
    obtain ⟨d, e2, h⟩ := anAll_get (i := i) t (by simpa using e)
    exact ⟨d, by simpa using e2, h⟩
/-! the first wrong piece of any tuple; a lot made of anything -/
section
variable {P : Program} {w : World} {K : PySem.W.Frag} {mg : Str → Option Value} {base : Heap}
theorem lastIfB {c : TT} {t : TS} {D : Ends} {σ : L2.St} {H : Hp} (b : Bool) (h : ∀ R : Bool → Hp → Prop, (∀ H', Same H H' → R b H') → c σ H R) (kt : b = true → ∀ H', Same H H' → t D σ H') (kf : b = false → ∀ H', Same H H' → D.nx σ H') : tIfS c t tNext D σ H := h _ fun H' s => by
  cases b with
  | true => exact iteT (kt rfl H' s)
  | false => exact iteF (kf rfl H' s)
theorem andB {t q : TT} {σ : L2.St} {H : Hp} {R : Bool → Hp → Prop} (c b : Bool) (h1 : ∀ S : Bool → Hp → Prop, S c H → t σ H S) (h2 : c = true → ∀ S : Bool → Hp → Prop, (∀ H', Same H H' → S b H') → q σ H S) (h3 : c = false → b = false) (k : ∀ H', Same H H' → R b H') : tAnd t q σ H R := by
  refine h1 _ ?_
  cases c with
  | true => exact iteT (h2 rfl R k)
  | false =>
    refine iteF ?_
    rw [h3 rfl] at k
    exact k H (Same.refl _)
/-- the one ahead of the i-th -/
def prevD (ds : List PyData) (i : Nat) : Option PyData := if i = 0 then none else ds[i - 1]?
theorem pc_dp {H : Hp} {v : V} {c e : Cut} (h : An K H v (pcD c e)) : Dp K H v (pcD c e) := h.dp (by simp only [pcD, frD, flat, flat.flats, Bool.and_self])
theorem pc_lit {ds : List PyData} (h : ∀ d ∈ ds, Lit4 d) {c e : Cut} (m : pcD c e ∈ ds) : Lit (c.n, c.d) ∧ Lit (e.n, e.d) :=
  ⟨(h _ m _ rfl).2 _ List.mem_cons_self _ _ rfl, (h _ m _ rfl).2 _ (List.mem_cons_of_mem _ List.mem_cons_self) _ _ rfl⟩
theorem ok_wrongX {f : Addr} {fd : FuncData} (F : Fun K "_first_wrong" "_first_wrong" s__first_wrong f fd) (B : Bp K mg) (M : Pd K mg) : FnOk P w K mg base CX0 5 f fd ["pieces"] (spWrongX K) := by
  have GP : FnOk P w K mg base CX0 4 M.f__is_piece.1 M.f__is_piece.2 ["given"] (spIsPcX K) := ok_isPcX M.d__is_piece.F B M
  have GC : FnOk P w K mg base CX0 1 M.f__cuts_at.1 M.f__cuts_at.2 ["piece"] (spCuts K) := ok_cuts M.d__cuts_at.F
  have GA : FnOk P w K mg base CX0 2 M.f__is_ahead.1 M.f__is_ahead.2 ["cut", "other"] (spAhead K) := ok_ahead M.d__is_ahead.F M.d_is_less
  refine F.ok sc__first_wrong (fun vs H Q E h => ?_) (fun cdv A outer s H vs Q E hr h => ?_)
  · obtain ⟨u, ds, rfl, _⟩ := h
    rfl
  · obtain ⟨u, ds, rfl, an, lit, k⟩ := h
    obtain ⟨a, xs, ds', rfl, z, hT, all⟩ := an.isT rfl
    cases z
    have ha : SqT K H a xs := SqT.of hT
    have len := dpAll_len all
    have hr1 : Room 1 _ := hr.mono (by decide)
    have hr2 : Room 2 _ := hr.mono (by decide)
    refine ⟨_, pss_cons (ps_for PassesOwn.never rfl (pi_enumT (by rfl) B.en (pa_cons (pv 0) pa_nil)) (pg_tup (by rfl) (pgs_cons (pg_name (i := 1) sc__first_wrong.nd rfl (.inl rfl)) (pgs_cons (pg_name (i := 2) sc__first_wrong.nd rfl (.inl rfl)) pgs_nil))) (pss_cons (ps_if (pt_not (pt_val (pe_call GP hr (by rfl) M.d__is_piece.g M.d__is_piece.F.kp M.d__is_piece.b .nil pass0 (pa_cons (pv 2) pa_nil)))) (pss_one (ps_ret (pv 1))) pss_nil) (pss_one (ps_if (PW.pt (pw_and (pt_cmpR op_gt (pv 1) pe_int (nomark _)) (pw_and1 (pt_not (pt_val (pe_call GA hr2 (by rfl) M.d__is_ahead.g M.d__is_ahead.F.kp M.d__is_ahead.b .nil pass0 (pa_cons (pe_ix ix_tup (pe_call GC hr1 (by rfl) M.d__cuts_at.g M.d__cuts_at.F.kp M.d__cuts_at.b .nil pass0 (pa_cons (pe_ix ix_tup (pv 0) (pe_op op_sub (pv 1) pe_int) (fun _ _ => rfl)) pa_nil)) pe_int (fun _ _ => rfl)) (pa_cons (pe_ix ix_tup (pe_call GC hr1 (by rfl) M.d__cuts_at.g M.d__cuts_at.F.kp M.d__cuts_at.b .nil pass0 (pa_cons (pv 2) pa_nil)) pe_int (fun _ _ => rfl)) pa_nil)))))))) (pss_one (ps_ret (pv 1))) pss_nil)))) (pss_one (ps_ret pe_non)), ?_⟩
    refine ⟨_, rfl, a, xs, rfl, ha, for_en (K := K) (a := a) (xs := xs) (fun i σ H' => (∃ p q, σ = [some (.ref a), p, q] ∧ Same H H') ∧ wrongFrom none 0 ds = wrongFrom (prevD ds i) i (ds.drop i) ∧ ∀ q, prevD ds i = some q → isPcB q = true) ⟨⟨none, none, rfl, Same.refl _⟩, rfl, (fun q z => by cases z)⟩ (fun i σ H' ⟨⟨_, _, _, s⟩, _⟩ => sqT_same s ha) ?_ ?_⟩
    · rintro i x r σ H1 hi ⟨⟨p, q, rfl, s1⟩, sc, pv⟩ nr
      obtain ⟨d, hd, dx⟩ := anAll_get all hi
      have dr : ds.drop i = d :: ds.drop (i + 1) := by
        have l := List.getElem?_eq_some_iff.mp hd
        rw [← l.2, List.getElem_cons_drop]
      rw [dr, wrongFrom] at sc
      have s2 := same_put (o := HO.tup [V.int (i : Nat), x]) nr
      have g2 : upd H1 r (HO.tup [V.int (i : Nat), x]) r = some (.tup [V.int (i : Nat), x]) := upd_same
      generalize upd H1 r (HO.tup [V.int (i : Nat), x]) = H2 at *
      have S2 := s1.trans s2
      have ld := (lit ds rfl).2 d (List.mem_of_getElem? hd)
      refine ⟨r, _, rfl, SqT.of g2, rfl, _, _, rfl, _, _, rfl, rfl, ?_⟩
      refine ⟨_, rfl, x, d, rfl, dx.same S2, ld, fun H3 s3 => ⟨_, rfl, ?_⟩⟩
      have S3 := S2.trans s3
      cases c1 : isPcB d with
      | false =>
        rw [c1, Bool.false_and, if_neg (by decide)] at sc
        rw [sc] at k
        exact iteT ⟨_, rfl, k _ S3⟩
      | true =>
        refine iteF ?_
        rw [c1, Bool.true_and] at sc
        obtain ⟨c, e, rfl, ic, ie, lt, eb, ee⟩ := pc_of c1
        refine nxI (lastIfB (!(sideB (prevD ds i) (pcD c e))) (fun R kR => andB (decide ((i : Int) > 0)) (!(sideB (prevD ds i) (pcD c e))) (fun S s => ⟨_, rfl, _, _, rfl, rfl, _, rfl, s⟩) (fun z S sS => ?_) (fun z => ?_) kR) (fun z H4 s4 => ?_) (fun z H4 s4 => ?_))
        · have i0 : (i : Int) > 0 := of_decide_eq_true z
          have lx : i < xs.length := (List.getElem?_eq_some_iff.mp hi).1
          have hj : xs[i - 1]? = some xs[i - 1] := List.getElem?_eq_getElem (by omega)
          obtain ⟨d', hd', dx'⟩ := anAll_get all hj
          have pe : prevD ds i = some d' := by rw [prevD, if_neg (by omega)]; exact hd'
          obtain ⟨c', e', rfl, ic', ie', lt', eb', ee'⟩ := pc_of (pv d' pe)
          have es : sideB (prevD ds i) (pcD c e) = e'.lt c := by
            rw [pe]
            show (endD (pcD c' e')).lt (begD (pcD c e)) = _
            rw [ee', eb]
          rw [es] at sS
          have L1 := pc_lit (lit ds rfl).2 (List.mem_of_getElem? hd')
          have L2' := pc_lit (lit ds rfl).2 (List.mem_of_getElem? hd)
          have dp' := pc_dp (dx'.same S3)
          have dp2 := pc_dp (dx.same S3)
          refine ⟨_, rfl, _, rfl, _, _, rfl, rfl, a, xs, (i : Int) - 1, xs[i - 1], rfl, rfl, sqT_same S3 ha, at_of (j := i - 1) (by omega) hj, xs[i - 1], c', e', rfl, dp', fun r1 u1 v1 H5 s5 n5 g5 du dv => ?_⟩
          refine ⟨r1, _, 1, v1, rfl, rfl, SqT.of g5, at_of (j := 1) rfl rfl, _, rfl, x, c, e, rfl, dp_same s5 _ _ dp2, fun r2 u2 v2 H6 s6 n6 g6 du2 dv2 => ?_⟩
          refine ⟨r2, _, 0, u2, rfl, rfl, SqT.of g6, at_of (j := 0) rfl rfl, v1, u2, e', c, rfl, dp_same s6 _ _ dv, du2, L1.2, L2'.1, ?_⟩
          exact ⟨_, rfl, sS _ (s5.trans s6)⟩
        · have i0 : i = 0 := by
            have := of_decide_eq_false z
            omega
          subst i0
          rfl
        · have z : sideB (prevD ds i) (pcD c e) = false := by
            cases y : sideB (prevD ds i) (pcD c e) with
            | false => rfl
            | true => rw [y] at z; cases z
          rw [z, if_neg (by decide)] at sc
          rw [sc] at k
          exact ⟨_, rfl, k _ (S3.trans s4)⟩
        · have z : sideB (prevD ds i) (pcD c e) = true := by
            cases y : sideB (prevD ds i) (pcD c e) with
            | true => rfl
            | false => rw [y] at z; cases z
          rw [if_pos z] at sc
          have pn : prevD ds (i + 1) = some (pcD c e) := by rw [prevD, if_neg (by omega), Nat.add_sub_cancel]; exact hd
          refine ⟨⟨_, _, rfl, S3.trans s4⟩, ?_, fun q hq => ?_⟩
          · rw [pn]; exact sc
          · rw [pn] at hq
            cases hq
            exact c1
    · rintro σ H1 ⟨⟨p, q, rfl, s1⟩, sc, _⟩
      have tk : ds.drop xs.length = [] := List.drop_eq_nil_of_le (by omega)
      rw [tk] at sc
      rw [sc] at k
      exact k H1 s1
end
end My
set_option Elab.async false
set_option linter.all false
set_option maxRecDepth 100000
set_option maxHeartbeats 8000000
set_option exponentiation.threshold 4000
namespace My
open PySem PySem.Spec PyProof.Rows L2 Gn Mt
/-- a lot's cuts, none too long -/
structure LtL (cs : List Cut) : Prop extends Lt cs where
  lit : ∀ c ∈ cs, Lit (c.n, c.d)
/-- a lot stands at v -/
def LotAt (K : PySem.W.Frag) (C : Addr) (H : Hp) (v : V) (cs : List Cut) : Prop := ∃ x dx a, v = .ref x ∧ H x = some (.ins C dx [("_pieces", .ref a)]) ∧ Dp K H (.ref a) (.tuple (pcsD cs))
theorem LotAt.same {K : PySem.W.Frag} {C : Addr} {H H' : Hp} {v : V} {cs : List Cut} (h : LotAt K C H v cs) (s : Same H H') : LotAt K C H' v cs := by
  obtain ⟨x, dx, a, e, h1, h2⟩ := h
  exact ⟨x, dx, a, e, s _ _ h1, dp_same s _ _ h2⟩
/-- the class Lot of the text -/
structure LotC (P : Program) (w : World) (K : PySem.W.Frag) (mg : Str → Option Value) (C fI fP : Addr) (fdI fdP : FuncData) : Prop where
  cl : Cls K C
  nP : NoAttr K C "_pieces"
  mgC : mg "Lot" = some (.ref C)
  mkL : Mk K C fI
  FI : Fun K "__init__" "Lot.__init__" s_linit fI fdI
  bI : Binds K fdI ["self", "pieces"] []
  pp : ∃ p, PropOf K C "pieces" p fP
  FP : Fun K "pieces" "Lot.pieces" s_lpieces fP fdP
  bP : Binds K fdP ["self"] []
def spPieces (K : PySem.W.Frag) (C : Addr) : Sp := fun vs H Q _ => ∃ (v : V) (cs : List Cut), vs = [v] ∧ LotAt K C H v cs ∧ ∀ a, Dp K H (.ref a) (.tuple (pcsD cs)) → Q (.ref a) H
theorem num_of {n a b : Int} (h1 : a ≤ n) (h2 : n ≤ b) : isNum (.int n) a b = true := decide_eq_true ⟨h1, h2⟩
/-- the class of the error for pieces -/
def spInitX (K : PySem.W.Frag) (C CP : Addr) : Sp := fun vs H Q E => ∃ (x dx : Addr) (v : V) (d : PyData), vs = [.ref x, v] ∧ H x = some (.ins C dx []) ∧ An K H v d ∧ LitP d ∧
  (pcsW d = none → ∀ H', (∀ b o, b ≠ x → H b = some o → H' b = some o) → H' x = some (.ins C dx [("_pieces", v)]) → Q .non H') ∧ (∀ wv, pcsW d = some wv → ThrownI CP (ixV wv) H E)
section
variable {P : Program} {w : World} {K : PySem.W.Frag} {mg : Str → Option Value} {base : Heap} {C fI fP CP fE : Addr} {fdI fdP fdE : FuncData}
theorem ok_linitX (T : LotC P w K mg C fI fP fdI fdP) (B : Bp K mg) (M : Pd K mg) (TP : OwE P w K mg base "InvalidPieces" ["index"] CP fE fdE) : FnOk P w K mg base (L2N.CX P w) 6 fI fdI ["self", "pieces"] (spInitX K C CP) := by
  have GW : FnOk P w K mg base CX0 5 M.f__first_wrong.1 M.f__first_wrong.2 ["pieces"] (spWrongX K) := ok_wrongX M.d__first_wrong.F B M
  refine okN T.FI sc_linit (fun vs H Q E h => ?_) (fun cdv A outer s H vs Q E hr h => ?_)
  · obtain ⟨x, dx, v, d, rfl, _⟩ := h
    rfl
  · obtain ⟨x, dx, v, d, rfl, hx, an, lit, k, e⟩ := h
    have hr2 : Room 2 _ := hr.mono (by decide)
    have tk : L2N.Takes (cxOf (L2N.CX P w) P w K mg base ["self", "pieces", "wrong"] "Lot.__init__" (defScope s_linit) fI cdv A outer s H E) (fun C d _ G => E C d G) := L2N.takes_of rfl rfl rfl rfl
    refine ⟨_, pss_cons (ps_if (pt_not (pt_val (pe_callB (call_isi) (by rfl) B.c.isi (by decide +kernel) (pa_cons (pv 1) (pa_cons (pe_bltn (v := .ty "tuple") (by rfl) B.c.tuple (by decide +kernel) rfl) pa_nil))))) (pss_one (L2N.ps_raise rfl tk (pmk_exoN (dvs := []) TP.own TP.ini TP.ty TP.run hr2 TP.b .nil pass0 (by rfl) TP.g (pa_cons pe_non pa_nil)))) pss_nil) (pss_cons (ps_set (i := 2) sc_linit.nd rfl (.inl rfl) (pe_call GW hr (by rfl) M.d__first_wrong.g M.d__first_wrong.F.kp M.d__first_wrong.b .nil pass0 (pa_cons (pv 1) pa_nil))) (pss_cons (ps_if (pt_cmpR op_notN (pv 2) pe_non (nomark _)) (pss_one (L2N.ps_raise rfl tk (pmk_exoN (dvs := []) TP.own TP.ini TP.ty TP.run hr2 TP.b .nil pass0 (by rfl) TP.g (pa_cons (pv 2) pa_nil)))) pss_nil) (pss_one (ps_fld (pv 0) (pv 1) rfl)))), ?_⟩
    refine ⟨_, rfl, v, .ty "tuple", _, _, _, rfl, .ty "tuple", an.ty, kit_ty kit_tup, _, rfl, ?_⟩
    cases et : isTupB d with
    | false =>
      have ew : pcsW d = some none := by cases d <;> first | rfl | cases et
      exact iteT (thr_c TP.own (TP.no "index" (by simp)) (e _ ew))
    | true =>
      refine iteF ?_
      have an0 := an
      obtain ⟨a, xs, ds, rfl, rfl, hT, all⟩ := an.isT et
      refine ⟨_, rfl, .ref a, ds, rfl, an0, lit, fun H1 s1 => ?_⟩
      cases ew : wrongFrom none 0 ds with
      | some j =>
        have ew2 : pcsW (.tuple ds) = some (some j) := by
          show (wrongFrom none 0 ds).map some = _
          rw [ew]; rfl
        refine ⟨_, rfl, rfl, _, rfl, ?_⟩
        exact iteT (thr_of (i := 2) TP.own (TP.no "index" (by simp)) rfl ((e _ ew2).same s1))
      | none =>
        have ew2 : pcsW (.tuple ds) = none := by
          show (wrongFrom none 0 ds).map some = _
          rw [ew]; rfl
        refine ⟨_, rfl, rfl, _, rfl, iteF ?_⟩
        refine ⟨_, rfl, _, rfl, x, C, dx, [], rfl, s1 _ _ hx, T.cl, T.nP, (by show 0 < 1000; decide), ?_⟩
        exact k ew2 _ (fun b o hb e => by rw [upd_ne hb]; exact s1 _ _ e) upd_same
theorem ok_lpieces (T : LotC P w K mg C fI fP fdI fdP) : FnOk P w K mg base CX0 1 fP fdP ["self"] (spPieces K C) := by
  refine T.FP.ok sc_lpieces (fun vs H Q E h => ?_) (fun cdv A outer s H vs Q E hr h => ?_)
  · obtain ⟨v, cs, rfl, _⟩ := h
    rfl
  · obtain ⟨v, cs, rfl, ⟨x, dx, a, rfl, hx, ha⟩, k⟩ := h
    refine ⟨_, pss_one (ps_ret (L2.pe_fld (pv 0) rfl)), ?_⟩
    exact ⟨_, rfl, x, C, dx, _, .ref a, rfl, hx, T.cl, T.nP, rfl, k a ha⟩
end
end My
set_option Elab.async false
set_option maxRecDepth 100000
set_option maxHeartbeats 1000000
set_option linter.all false
/-! which mark comes behind another one: places that are told by f, of the marks below n -/
namespace Mt
/-- places on a rim of length y: unlike ones for the first n marks -/
structure Rim (f : Int → Int) (y n : Int) : Prop where
  r : ∀ k, 0 ≤ f k ∧ f k < y
  s : ∀ i j, f (i - j) = f i - f j ∨ f (i - j) = f i - f j + y
  z : ∀ k, 0 < k → k < n → f k ≠ 0
/-- m is met first behind k -/
def Nx (f : Int → Int) (n k m : Int) : Prop := 0 ≤ m ∧ m < n ∧ m ≠ k ∧ ∀ j, 0 ≤ j → j < n → j ≠ k → f (m - k) ≤ f (j - k)
/-- m is met last behind k -/
def Pv (f : Int → Int) (n k m : Int) : Prop := 0 ≤ m ∧ m < n ∧ m ≠ k ∧ ∀ j, 0 ≤ j → j < n → j ≠ k → f (k - m) ≤ f (k - j)
def behind (n A B k : Int) : Int := if k < n - A then k + A else if B ≤ k then k - B else k + A - B
section
variable {f : Int → Int} {y n : Int}
theorem Rim.y0 (R : Rim f y n) : 0 < y := by
  have := R.r 0; omega
theorem Rim.f0 (R : Rim f y n) : f 0 = 0 := by
  have h := R.s 0 0
  have := R.r 0
  rw [Int.sub_self] at h
  omega
theorem Rim.neg (R : Rim f y n) {k : Int} (h : f k ≠ 0) : f (-k) = y - f k := by
  have h1 := R.s 0 k
  have h2 := R.r (-k)
  have h3 := R.r k
  have h4 := R.f0
  rw [Int.zero_sub] at h1
  omega
theorem Rim.nz (R : Rim f y n) {k : Int} (h : k ≠ 0) (h1 : -n < k) (h2 : k < n) : f k ≠ 0 := by
  rcases Int.lt_or_lt_of_ne h with c | c
  · intro e
    have h3 := R.z (-k) (by omega) (by omega)
    have h4 := R.neg h3
    rw [Int.neg_neg] at h4
    have := R.r (-k)
    omega
  · exact R.z k c h2
theorem Rim.one (R : Rim f y n) {i j : Int} (hi : 0 ≤ i) (hi' : i < n) (hj : 0 ≤ j) (hj' : j < n) (e : f i = f j) : i = j := by
  rcases Int.decEq i j with c | c
  · have h1 := R.nz (k := i - j) (by omega) (by omega) (by omega)
    have h2 := R.s i j
    have := R.r (i - j)
    omega
  · exact c
theorem Nx.one (R : Rim f y n) {k m m' : Int} (h : Nx f n k m) (h' : Nx f n k m') : m = m' := by
  obtain ⟨a, b, c, d⟩ := h
  obtain ⟨a', b', c', d'⟩ := h'
  have e1 := d m' a' b' c'
  have e2 := d' m a b c
  rcases Int.decEq m m' with q | q
  · have h1 := R.nz (k := m - m') (by omega) (by omega) (by omega)
    have h2 := R.s (m - k) (m' - k)
    rw [show m - k - (m' - k) = m - m' by omega] at h2
    have := R.r (m - m')
    omega
  · exact q
theorem Pv.one (R : Rim f y n) {k m m' : Int} (h : Pv f n k m) (h' : Pv f n k m') : m = m' := by
  obtain ⟨a, b, c, d⟩ := h
  obtain ⟨a', b', c', d'⟩ := h'
  have e1 := d m' a' b' c'
  have e2 := d' m a b c
  rcases Int.decEq m m' with q | q
  · have h1 := R.nz (k := m' - m) (by omega) (by omega) (by omega)
    have h2 := R.s (k - m) (k - m')
    rw [show k - m - (k - m') = m' - m by omega] at h2
    have := R.r (m' - m)
    omega
  · exact q
theorem Nx.back (R : Rim f y n) {k m : Int} (hk : 0 ≤ k) (hk' : k < n) (h : Nx f n k m) : Pv f n m k := by
  obtain ⟨a, b, c, d⟩ := h
  refine ⟨hk, hk', Ne.symm c, fun j j0 j1 j2 => ?_⟩
  rcases Int.decEq j k with q | q
  · have h1 := d j j0 j1 q
    have h2 := R.s (m - k) (m - j)
    rw [show m - k - (m - j) = j - k by omega] at h2
    have h3 := R.r (j - k)
    have h4 := R.r (m - j)
    have h5 := R.r (m - k)
    have h6 := R.nz (k := m - j) (by omega) (by omega) (by omega)
    omega
  · subst q; exact Int.le_refl _
/-- the three cases -/
theorem gap (R : Rim f y n) {A B k : Int} (A0 : 0 < A) (A1 : A < n) (B0 : 0 < B) (B1 : B < n) (hA : ∀ k, 0 < k → k < n → f A ≤ f k) (hB : ∀ k, 0 < k → k < n → f k ≤ f B) (k0 : 0 ≤ k) (k1 : k < n) : Nx f n k (behind n A B k) := by
  have a0 := R.z A A0 A1
  have b0 := R.z B B0 B1
  have ra := R.r A
  have rb := R.r B
  have nb := R.neg b0
  unfold behind
  split
  · rename_i c1
    refine ⟨by omega, by omega, by omega, fun j j0 j1 j2 => ?_⟩
    rw [show k + A - k = A by omega]
    rcases Int.lt_or_lt_of_ne j2 with c | c
    · have h1 := hA (A - (j - k)) (by omega) (by omega)
      have h2 := R.s A (j - k)
      have h3 := R.nz (k := j - k) (by omega) (by omega) (by omega)
      have h4 := R.r (j - k)
      have h5 := R.r (A - (j - k))
      omega
    · exact hA _ (by omega) (by omega)
  · rename_i c1
    split
    · rename_i c2
      refine ⟨by omega, by omega, by omega, fun j j0 j1 j2 => ?_⟩
      rw [show k - B - k = -B by omega, nb]
      rcases Int.lt_or_lt_of_ne j2 with c | c
      · have h1 := hB (k - j) (by omega) (by omega)
        have h2 := R.z (k - j) (by omega) (by omega)
        have h3 := R.neg h2
        rw [show -(k - j) = j - k by omega] at h3
        omega
      · have h1 := hB (B + (j - k)) (by omega) (by omega)
        have h2 := R.s (B + (j - k)) (j - k)
        rw [show B + (j - k) - (j - k) = B by omega] at h2
        have h3 := R.nz (k := j - k) (by omega) (by omega) (by omega)
        have h4 := R.r (j - k)
        have h5 := R.r (B + (j - k))
        omega
    · rename_i c2
      have ne : A ≠ B := fun e => by
        subst e
        have e1 : ∀ k, 0 < k → k < n → f k = f A := fun k h h' => by
          have := hA k h h'; have := hB k h h'; omega
        by_cases h : A = 1
        · omega
        · have h1 := e1 (A - 1) (by omega) (by omega)
          have := R.one (i := A - 1) (j := A) (by omega) (by omega) (by omega) (by omega) h1
          omega
      have lt : f A < f B := by
        have h1 := hA B B0 B1
        rcases Int.lt_or_eq_of_le h1 with h | h
        · exact h
        · exact absurd (R.one (by omega) A1 (by omega) B1 h) ne
      have hab := R.s A B
      have rab := R.r (A - B)
      refine ⟨by omega, by omega, by omega, fun j j0 j1 j2 => ?_⟩
      rw [show k + A - B - k = A - B by omega]
      rcases Int.lt_or_lt_of_ne j2 with c | c
      · have h1 := hB (k - j) (by omega) (by omega)
        have h2 := R.z (k - j) (by omega) (by omega)
        have h3 := R.neg h2
        rw [show -(k - j) = j - k by omega] at h3
        have h4 := hA (B - (k - j)) (by omega) (by omega)
        have h5 := R.s B (k - j)
        have h6 := R.r (k - j)
        have h7 := R.r (B - (k - j))
        omega
      · have h1 := hA (j - k) (by omega) (by omega)
        have h2 := hB (A - (j - k)) (by omega) (by omega)
        have h3 := R.s A (j - k)
        have h4 := R.z (A - (j - k)) (by omega) (by omega)
        have h5 := R.r (A - (j - k))
        omega
/-- and so the other way round -/
theorem gapB (R : Rim f y n) {A B k : Int} (A0 : 0 < A) (A1 : A < n) (B0 : 0 < B) (B1 : B < n) (hA : ∀ k, 0 < k → k < n → f A ≤ f k) (hB : ∀ k, 0 < k → k < n → f k ≤ f B) (k0 : 0 ≤ k) (k1 : k < n) : Pv f n k (behind n B A k) := by
  have R' : Rim (fun k => f (-k)) y n := ⟨fun k => R.r (-k), fun i j => by
    show f (-(i - j)) = f (-i) - f (-j) ∨ f (-(i - j)) = f (-i) - f (-j) + y
    rw [show -(i - j) = -i - -j by omega]
    exact R.s (-i) (-j), fun k h h' => R.nz (by omega) (by omega) (by omega)⟩
  have h := gap R' (A := B) (B := A) (k := k) B0 B1 A0 A1 (fun k h h' => by
    show f (-B) ≤ f (-k)
    rw [R.neg (R.z B B0 B1), R.neg (R.z k h h')]
    have := hB k h h'; omega) (fun k h h' => by
    show f (-k) ≤ f (-A)
    rw [R.neg (R.z A A0 A1), R.neg (R.z k h h')]
    have := hA k h h'; omega) k0 k1
  obtain ⟨a, b, c, d⟩ := h
  refine ⟨a, b, c, fun j j0 j1 j2 => ?_⟩
  have := d j j0 j1 j2
  rw [show k - behind n B A k = -(behind n B A k - k) by omega, show k - j = -(j - k) by omega]
  exact this
theorem min_sum (R : Rim f y n) {A B : Int} (A0 : 0 < A) (A1 : A < n) (B0 : 0 < B) (B1 : B < n) (hA : ∀ k, 0 < k → k < n → f A ≤ f k) (hB : ∀ k, 0 < k → k < n → f k ≤ f B) : n ≤ A + B := by
  rcases Int.lt_or_le (A + B) n with c | c
  · have h1 := hA (A + B) (by omega) c
    have h2 := hB (A + B) (by omega) c
    have h3 := R.s (A + B) B
    rw [show A + B - B = A by omega] at h3
    have h4 := R.z A A0 A1
    have h5 := R.z B B0 B1
    have h6 := R.r A
    have h7 := R.r B
    omega
  · exact c
end
/-! the places of a step -/
theorem rim_step {x y n : Int} (hy : 0 < y) (co : Nat.gcd x.natAbs y.natAbs = 1) (hn : n ≤ y) : Rim (fun k => x * k % y) y n := by
  refine ⟨fun k => ⟨Int.emod_nonneg _ (by omega), Int.emod_lt_of_pos _ hy⟩, fun i j => ?_, fun k h h' e => ?_⟩
  · have h1 : x * (i - j) % y = (x * i % y - x * j % y) % y := by
      rw [Int.mul_sub, Int.sub_emod]
    have a1 := Int.emod_nonneg (x * i) (show y ≠ 0 by omega)
    have a2 := Int.emod_lt_of_pos (x * i) hy
    have b1 := Int.emod_nonneg (x * j) (show y ≠ 0 by omega)
    have b2 := Int.emod_lt_of_pos (x * j) hy
    show x * (i - j) % y = x * i % y - x * j % y ∨ x * (i - j) % y = x * i % y - x * j % y + y
    rw [h1]
    rcases Int.lt_or_le (x * i % y) (x * j % y) with c | c
    · right
      rw [← Int.add_emod_right]
      exact Int.emod_eq_of_lt (by omega) (by omega)
    · left
      exact Int.emod_eq_of_lt (by omega) (by omega)
  · have d : y ∣ x * k := Int.dvd_of_emod_eq_zero e
    have d1 : y.natAbs ∣ x.natAbs * k.natAbs := by
      have := Int.natAbs_dvd_natAbs.mpr d
      rwa [Int.natAbs_mul] at this
    have d2 : y.natAbs ∣ k.natAbs := (Nat.Coprime.symm co).dvd_of_dvd_mul_left d1
    have := Nat.le_of_dvd (by omega) d2
    omega
/-- two marks beside 0 as they are looked for: low and high, how far they are, p and q the tops of the neighbours -/
structure Side (x y n low fl high fh p q : Int) : Prop where
  l0 : 0 < low
  l1 : low < n
  h0 : 0 < high
  h1 : high < n
  e1 : low * x - p * y = fl
  e2 : q * y - high * x = fh
  de : low * q - high * p = 1
  fl0 : 0 < fl
  fh0 : 0 < fh
theorem Side.val {x y n low fl high fh p q : Int} (S : Side x y n low fl high fh p q) : low * fh + high * fl = y := by
  have h1 := S.e1; have h2 := S.e2; have h3 := S.de
  grind
theorem mod_at {a p y r : Int} (e : a - p * y = r) (h0 : 0 ≤ r) (h1 : r < y) : a % y = r := by
  rw [show a = r + y * p by grind, Int.add_mul_emod_self_left]
  exact Int.emod_eq_of_lt h0 h1
theorem Side.fly {x y n low fl high fh p q : Int} (S : Side x y n low fl high fh p q) : fl < y ∧ fh < y := by
  have v := S.val
  have l0 := S.l0; have h0 := S.h0; have a := S.fl0; have b := S.fh0
  have h1 : 1 * fh ≤ low * fh := Int.mul_le_mul_of_nonneg_right (by omega) (by omega)
  have h2 : 1 * fl ≤ high * fl := Int.mul_le_mul_of_nonneg_right (by omega) (by omega)
  omega
theorem Side.atl {x y n low fl high fh p q : Int} (S : Side x y n low fl high fh p q) : x * low % y = fl :=
  mod_at (p := p) (by have := S.e1; grind) (by have := S.fl0; omega) S.fly.1
theorem Side.ath {x y n low fl high fh p q : Int} (S : Side x y n low fl high fh p q) : x * high % y = y - fh :=
  mod_at (p := q - 1) (by have := S.e2; grind) (by have := S.fly; omega) (by have := S.fh0; omega)
/-- nothing lies nearer below low + high -/
theorem Side.near {x y n low fl high fh p q : Int} (S : Side x y n low fl high fh p q) {k : Int} (k0 : 0 < k) (k1 : k < low + high) : fl ≤ x * k % y ∧ x * k % y ≤ y - fh := by
  have y0 : 0 < y := by have := S.fly; have := S.fl0; omega
  have e := Int.emod_add_mul_ediv (x * k) y
  have m0 := Int.emod_nonneg (x * k) (show y ≠ 0 by omega)
  have m1 := Int.emod_lt_of_pos (x * k) y0
  generalize x * k % y = g at *
  generalize x * k / y = r at *
  have l0 := S.l0; have h0 := S.h0; have a0 := S.fl0; have b0 := S.fh0
  constructor
  · obtain ⟨u, hu⟩ : ∃ u, u = k * q - r * high := ⟨_, rfl⟩
    obtain ⟨v, hv⟩ : ∃ v, v = r * low - k * p := ⟨_, rfl⟩
    have e1 := S.e1; have e2 := S.e2; have de := S.de
    have c1 : k = u * low + v * high := by grind
    have c2 : g = u * fl - v * fh := by grind
    have u1 : 0 < u := by
      rcases Int.lt_or_le 0 u with c | c
      · exact c
      · have z1 : u * fl ≤ 0 := Int.mul_nonpos_of_nonpos_of_nonneg c (by omega)
        have z2 : u * low ≤ 0 := Int.mul_nonpos_of_nonpos_of_nonneg c (by omega)
        rcases Int.lt_or_le 0 v with d | d
        · have := Int.mul_pos d b0; omega
        · have := Int.mul_nonpos_of_nonpos_of_nonneg d (show 0 ≤ high by omega); omega
    have v1 : v ≤ 0 := by
      rcases Int.lt_or_le 0 v with d | d
      · have z1 : 1 * low ≤ u * low := Int.mul_le_mul_of_nonneg_right (by omega) (by omega)
        have z2 : 1 * high ≤ v * high := Int.mul_le_mul_of_nonneg_right (by omega) (by omega)
        omega
      · exact d
    have z1 : 1 * fl ≤ u * fl := Int.mul_le_mul_of_nonneg_right (by omega) (by omega)
    have z2 := Int.mul_nonpos_of_nonpos_of_nonneg v1 (show 0 ≤ fh by omega)
    omega
  · obtain ⟨u, hu⟩ : ∃ u, u = k * q - (r + 1) * high := ⟨_, rfl⟩
    obtain ⟨v, hv⟩ : ∃ v, v = (r + 1) * low - k * p := ⟨_, rfl⟩
    have e1 := S.e1; have e2 := S.e2; have de := S.de
    have c1 : k = u * low + v * high := by grind
    have c2 : y - g = v * fh - u * fl := by grind
    have v1 : 0 < v := by
      rcases Int.lt_or_le 0 v with c | c
      · exact c
      · have z1 : v * fh ≤ 0 := Int.mul_nonpos_of_nonpos_of_nonneg c (by omega)
        have z2 : v * high ≤ 0 := Int.mul_nonpos_of_nonpos_of_nonneg c (by omega)
        rcases Int.lt_or_le 0 u with d | d
        · have := Int.mul_pos d a0; omega
        · have := Int.mul_nonpos_of_nonpos_of_nonneg d (show 0 ≤ low by omega); omega
    have u1 : u ≤ 0 := by
      rcases Int.lt_or_le 0 u with d | d
      · have z1 : 1 * low ≤ u * low := Int.mul_le_mul_of_nonneg_right (by omega) (by omega)
        have z2 : 1 * high ≤ v * high := Int.mul_le_mul_of_nonneg_right (by omega) (by omega)
        omega
      · exact d
    have z1 : 1 * fh ≤ v * fh := Int.mul_le_mul_of_nonneg_right (by omega) (by omega)
    have z2 := Int.mul_nonpos_of_nonpos_of_nonneg u1 (show 0 ≤ fl by omega)
    omega
theorem Side.start {x y n : Int} (x0 : 0 < x) (xy : x < y) (hn : 2 ≤ n) : Side x y n 1 x 1 (y - x) 0 1 :=
  ⟨by omega, by omega, by omega, by omega, by omega, by omega, by omega, x0, by omega⟩
/-- low is moved on -/
theorem Side.low {x y n low fl high fh p q t : Int} (S : Side x y n low fl high fh p q) (co : Nat.gcd x.natAbs y.natAbs = 1) (hn : n ≤ y) (t0 : 0 ≤ t) (t1 : t * fh ≤ fl) (t2 : t * high ≤ n - 1 - low) : Side x y n (low + t * high) (fl - t * fh) high fh (p + t * q) q := by
  have e1 := S.e1; have e2 := S.e2; have de := S.de
  have l0 := S.l0; have h0 := S.h0; have h1 := S.h1; have b0 := S.fh0
  have y0 : 0 < y := by have := S.fly; omega
  have z : 0 ≤ t * high := Int.mul_nonneg t0 (by omega)
  refine ⟨by omega, by omega, h0, h1, by grind, e2, by grind, ?_, b0⟩
  rcases Int.lt_or_eq_of_le t1 with c | c
  · omega
  · refine absurd ?_ ((rim_step y0 co hn).z (low + t * high) (by omega) (by omega))
    exact mod_at (p := p + t * q) (by grind) (by omega) y0
theorem Side.high {x y n low fl high fh p q t : Int} (S : Side x y n low fl high fh p q) (co : Nat.gcd x.natAbs y.natAbs = 1) (hn : n ≤ y) (t0 : 0 ≤ t) (t1 : t * fl ≤ fh) (t2 : t * low ≤ n - 1 - high) : Side x y n low fl (high + t * low) (fh - t * fl) p (q + t * p) := by
  have e1 := S.e1; have e2 := S.e2; have de := S.de
  have l0 := S.l0; have l1 := S.l1; have h0 := S.h0; have h1 := S.h1; have a0 := S.fl0
  have y0 : 0 < y := by have := S.fly; omega
  have z : 0 ≤ t * low := Int.mul_nonneg t0 (by omega)
  refine ⟨l0, l1, by omega, by omega, e1, by grind, by grind, a0, ?_⟩
  rcases Int.lt_or_eq_of_le t1 with c | c
  · omega
  · refine absurd ?_ ((rim_step y0 co hn).z (high + t * low) (by omega) (by omega))
    exact mod_at (p := q + t * p) (by grind) (by omega) y0
/-- how often: no more than fits, at least once where it fits -/
theorem times_ok {a b c d : Int} (b0 : 0 < b) (d0 : 0 < d) (a0 : 0 ≤ a) (c0 : 0 ≤ c) : 0 ≤ min (a / b) (c / d) ∧ min (a / b) (c / d) * b ≤ a ∧ min (a / b) (c / d) * d ≤ c ∧ (b ≤ a → d ≤ c → 1 ≤ min (a / b) (c / d)) := by
  have h1 : a / b * b ≤ a := Int.ediv_mul_le a (by omega)
  have h2 : c / d * d ≤ c := Int.ediv_mul_le c (by omega)
  have h3 : 0 ≤ a / b := Int.ediv_nonneg a0 (by omega)
  have h4 : 0 ≤ c / d := Int.ediv_nonneg c0 (by omega)
  have m1 : min (a / b) (c / d) ≤ a / b := Int.min_le_left _ _
  have m2 : min (a / b) (c / d) ≤ c / d := Int.min_le_right _ _
  have z1 := Int.mul_le_mul_of_nonneg_right m1 (show 0 ≤ b by omega)
  have z2 := Int.mul_le_mul_of_nonneg_right m2 (show 0 ≤ d by omega)
  refine ⟨by omega, by omega, by omega, fun u v => ?_⟩
  have w1 : 1 ≤ a / b := (Int.le_ediv_iff_mul_le b0).mpr (by omega)
  have w2 : 1 ≤ c / d := (Int.le_ediv_iff_mul_le d0).mpr (by omega)
  omega
/-- one turn of looking for them -/
theorem Side.turn {x y n low fl high fh p q : Int} (S : Side x y n low fl high fh p q) (co : Nat.gcd x.natAbs y.natAbs = 1) (hn : n ≤ y) (go : low + high < n) {t u : Int} (ht : t = min (fl / fh) ((n - 1 - low) / high))
    (hu : u = min (fh / (fl - t * fh)) ((n - 1 - high) / (low + t * high))) : (∃ p' q', Side x y n (low + t * high) (fl - t * fh) (high + u * (low + t * high)) (fh - u * (fl - t * fh)) p' q') ∧
    low ≤ low + t * high ∧ high ≤ high + u * (low + t * high) ∧ low + high < (low + t * high) + (high + u * (low + t * high)) := by
  have l0 := S.l0; have h0 := S.h0; have a0 := S.fl0; have b0 := S.fh0; have l1 := S.l1; have h1 := S.h1
  obtain ⟨w1, w2, w3, w4⟩ := times_ok (a := fl) (c := n - 1 - low) b0 h0 (by omega) (by omega)
  rw [← ht] at w1 w2 w3 w4
  have S1 := S.low co hn w1 w2 w3
  have a1 := S1.fl0; have l2 := S1.l0
  obtain ⟨v1, v2, v3, v4⟩ := times_ok (a := fh) (c := n - 1 - high) a1 l2 (by omega) (by omega)
  rw [← hu] at v1 v2 v3 v4
  have S2 := S1.high co hn v1 v2 v3
  have z1 : 0 ≤ t * high := Int.mul_nonneg w1 (by omega)
  have z2 : 0 ≤ u * (low + t * high) := Int.mul_nonneg v1 (by omega)
  refine ⟨⟨_, _, S2⟩, by omega, by omega, ?_⟩
  rcases Int.lt_or_le fl fh with c | c
  · rcases Int.lt_or_le 0 t with d | d
    · have := Int.mul_pos d h0; omega
    · have t0 : t = 0 := by omega
      subst t0
      rw [Int.zero_mul, Int.sub_zero] at v4
      rw [Int.zero_mul, Int.add_zero] at *
      have := v4 (by omega) (by omega)
      have := Int.mul_pos (show 0 < u by omega) l0
      omega
  · have := w4 c (by omega)
    have := Int.mul_pos (show 0 < t by omega) h0
    omega
/-- where it ends they are the nearest of all -/
theorem Side.found {x y n low fl high fh p q : Int} (S : Side x y n low fl high fh p q) (e : n ≤ low + high) : (∀ k, 0 < k → k < n → x * low % y ≤ x * k % y) ∧ ∀ k, 0 < k → k < n → x * k % y ≤ x * high % y := by
  rw [S.atl, S.ath]
  exact ⟨fun k k0 k1 => (S.near k0 (by omega)).1, fun k k0 k1 => (S.near k0 (by omega)).2⟩
theorem Side.gcd {x y n low fl high fh p q : Int} (S : Side x y n low fl high fh p q) : Nat.gcd low.natAbs high.natAbs = 1 := by
  have d1 : ((Nat.gcd low.natAbs high.natAbs : Nat) : Int) ∣ low := Int.ofNat_dvd_left.mpr (Nat.gcd_dvd_left _ _)
  have d2 : ((Nat.gcd low.natAbs high.natAbs : Nat) : Int) ∣ high := Int.ofNat_dvd_left.mpr (Nat.gcd_dvd_right _ _)
  have d3 := Int.dvd_sub (Int.dvd_mul_of_dvd_left d1 (b := low) (c := q)) (Int.dvd_mul_of_dvd_left d2 (b := high) (c := p))
  rw [S.de] at d3
  have := Int.natAbs_dvd_natAbs.mpr d3
  rw [Int.natAbs_natCast] at this
  exact Nat.dvd_one.mp this
/-- they exist -/
theorem side_ex {x y n : Int} (x0 : 0 < x) (xy : x < y) (co : Nat.gcd x.natAbs y.natAbs = 1) (hn : n ≤ y) (n2 : 2 ≤ n) : ∃ low fl high fh p q, Side x y n low fl high fh p q ∧ n ≤ low + high := by
  have go : ∀ (k : Nat) (low fl high fh p q : Int), Side x y n low fl high fh p q → (2 * n - low - high).toNat ≤ k → ∃ low fl high fh p q, Side x y n low fl high fh p q ∧ n ≤ low + high := by
    intro k
    induction k with
    | zero =>
      intro low fl high fh p q S h
      have := S.l1; have := S.h1; omega
    | succ k ih =>
      intro low fl high fh p q S h
      rcases Int.lt_or_le (low + high) n with c | c
      · obtain ⟨⟨p', q', S'⟩, a, b, d⟩ := S.turn co hn c rfl rfl
        exact ih _ _ _ _ _ _ S' (by omega)
      · exact ⟨_, _, _, _, _, _, S, c⟩
  exact go _ _ _ _ _ _ _ (Side.start x0 xy n2) (Nat.le_refl _)
end Mt
set_option Elab.async false
set_option maxRecDepth 100000
set_option maxHeartbeats 1000000
set_option linter.all false
/-! the order of unlike places as a row of marks -/
namespace Mt
/-- the marks as they are met -/
structure Row (f : Int → Int) (n : Nat) (l : List Int) : Prop where
  len : l.length = n
  mem : ∀ k, k ∈ l ↔ 0 ≤ k ∧ k < n
  up : (l.map f).Pairwise (· < ·)
  ord : ord f (iota n) = l.map fun k => [k]
theorem insU_lenE {v : Int} : ∀ {l : List Int}, v ∉ l → (insU v l).length = l.length + 1
  | [], _ => rfl
  | a :: l, h => by
    unfold insU
    split
    · rfl
    · split
      · rename_i e; exact absurd (by rw [e]; exact List.mem_cons_self) h
      · rw [List.length_cons, insU_lenE (fun z => h (List.mem_cons_of_mem _ z)), List.length_cons]
theorem sortU_lenE : ∀ {l : List Int}, l.Nodup → (sortU l).length = l.length
  | [], _ => rfl
  | a :: l, h => by
    obtain ⟨h1, h2⟩ := List.nodup_cons.mp h
    show (insU a (sortU l)).length = _
    rw [insU_lenE (fun z => h1 (sortU_mem.mp z)), sortU_lenE h2, List.length_cons]
theorem row_ex {f : Int → Int} {n : Nat} (inj : ∀ i j : Int, 0 ≤ i → i < n → 0 ≤ j → j < n → f i = f j → i = j) : ∃ l, Row f n l := by
  have one : ∀ v ∈ sortU ((iota n).map f), ∃ k, k ∈ iota n ∧ f k = v ∧ grp f (iota n) v = [k] := by
    intro v hv
    obtain ⟨k, hk, e⟩ := List.mem_map.mp (sortU_mem.mp hv)
    refine ⟨k, hk, e, ?_⟩
    obtain ⟨k0, k1⟩ := iota_mem.mp hk
    refine strict_one ((iota_pw n).filter _) (List.pairwise_singleton _ _) fun u => ?_
    unfold grp
    rw [List.mem_filter, List.mem_singleton]
    constructor
    · rintro ⟨a, b⟩
      obtain ⟨u0, u1⟩ := iota_mem.mp a
      exact inj u k u0 u1 k0 k1 (by rw [e]; simpa using b)
    · rintro rfl
      exact ⟨hk, by simpa using e⟩
  have nd : ((iota n).map f).Nodup := by
    unfold List.Nodup
    rw [List.pairwise_map]
    refine List.Pairwise.imp_of_mem ?_ (iota_pw n)
    intro a b ha hb h e
    obtain ⟨a0, a1⟩ := iota_mem.mp ha
    obtain ⟨b0, b1⟩ := iota_mem.mp hb
    have := inj a b a0 a1 b0 b1 e
    omega
  let h := fun v => (grp f (iota n) v).headD 0
  have hh : ∀ v ∈ sortU ((iota n).map f), f (h v) = v ∧ h v ∈ iota n ∧ grp f (iota n) v = [h v] := by
    intro v hv
    obtain ⟨k, a, b, c⟩ := one v hv
    have e : h v = k := by
      show (grp f (iota n) v).headD 0 = k
      rw [c]; rfl
    rw [e]; exact ⟨b, a, c⟩
  refine ⟨(sortU ((iota n).map f)).map h, ?_, fun k => ?_, ?_, ?_⟩
  · rw [List.length_map, sortU_lenE nd, List.length_map, iota_len]
  · rw [List.mem_map]
    constructor
    · rintro ⟨v, hv, rfl⟩
      exact iota_mem.mp (hh v hv).2.1
    · intro hk
      have hm : f k ∈ sortU ((iota n).map f) := sortU_mem.mpr (List.mem_map.mpr ⟨k, iota_mem.mpr hk, rfl⟩)
      refine ⟨f k, hm, ?_⟩
      obtain ⟨a, b, _⟩ := hh _ hm
      obtain ⟨b0, b1⟩ := iota_mem.mp b
      exact inj _ _ b0 b1 hk.1 hk.2 a
  · rw [List.map_map]
    have e : (sortU ((iota n).map f)).map (f ∘ h) = sortU ((iota n).map f) := by
      conv => rhs; rw [← List.map_id (sortU ((iota n).map f))]
      exact List.map_congr_left fun v hv => (hh v hv).1
    rw [e]
    exact sortU_pw _
  · unfold Mt.ord
    rw [List.map_map]
    exact List.map_congr_left fun v hv => (hh v hv).2.2
section
variable {f : Int → Int} {y : Int} {n : Nat} {l : List Int}
theorem Row.get (T : Row f n l) {i : Nat} (hi : i < n) : ∃ k, l[i]? = some k ∧ 0 ≤ k ∧ k < n := by
  have h : i < l.length := by rw [T.len]; exact hi
  refine ⟨l[i], List.getElem?_eq_getElem h, ?_⟩
  exact (T.mem _).mp (List.getElem_mem h)
theorem Row.at (T : Row f n l) {k : Int} (k0 : 0 ≤ k) (k1 : k < n) : ∃ i, i < n ∧ l[i]? = some k := by
  obtain ⟨i, hi, e⟩ := List.mem_iff_getElem.mp ((T.mem k).mpr ⟨k0, k1⟩)
  exact ⟨i, by rw [← T.len]; exact hi, by rw [List.getElem?_eq_getElem hi, e]⟩
theorem Row.lt (T : Row f n l) {i j : Nat} {u v : Int} (hi : l[i]? = some u) (hj : l[j]? = some v) (h : i < j) : f u < f v := by
  obtain ⟨h1, e1⟩ := List.getElem?_eq_some_iff.mp hi
  obtain ⟨h2, e2⟩ := List.getElem?_eq_some_iff.mp hj
  subst e1 e2
  have p := List.pairwise_iff_getElem.mp (List.pairwise_map.mp T.up)
  exact p i j h1 h2 h
theorem Row.le (T : Row f n l) {i j : Nat} {u v : Int} (hi : l[i]? = some u) (hj : l[j]? = some v) (h : i ≤ j) : f u ≤ f v := by
  rcases Nat.lt_or_eq_of_le h with c | c
  · exact Int.le_of_lt (T.lt hi hj c)
  · subst c; rw [hi] at hj; cases hj; exact Int.le_refl _
theorem Row.zero (T : Row f n l) (R : Rim f y n) (n0 : 0 < n) : l[0]? = some 0 := by
  obtain ⟨k, hk, k0, k1⟩ := T.get n0
  obtain ⟨i, hi, e⟩ := T.at (k := 0) (by omega) (by omega)
  have h := T.le hk e (Nat.zero_le i)
  have h0 := R.f0
  have h1 := R.r k
  have := R.one k0 k1 (Int.le_refl 0) (by omega) (by omega)
  rw [hk, this]
/-- the first and the last one -/
theorem Row.ends (T : Row f n l) (R : Rim f y n) (n2 : 2 ≤ n) {A B : Int} (hA : l[1]? = some A) (hB : l[n - 1]? = some B) : 0 < A ∧ A < n ∧ 0 < B ∧ B < n ∧ (∀ k : Int, 0 < k → k < n → f A ≤ f k) ∧ ∀ k : Int, 0 < k → k < n → f k ≤ f B := by
  have h0 := T.zero R (by omega)
  have z := R.f0
  have mA := (T.mem A).mp (List.mem_of_getElem? hA)
  have mB := (T.mem B).mp (List.mem_of_getElem? hB)
  have lA := T.lt h0 hA (by omega)
  have lB := T.lt h0 hB (by omega)
  refine ⟨?_, mA.2, ?_, mB.2, fun k k0 k1 => ?_, fun k k0 k1 => ?_⟩
  · rcases Int.lt_or_le 0 A with c | c
    · exact c
    · have : A = 0 := by omega
      rw [this] at lA; omega
  · rcases Int.lt_or_le 0 B with c | c
    · exact c
    · have : B = 0 := by omega
      rw [this] at lB; omega
  · obtain ⟨i, hi, e⟩ := T.at (k := k) (by omega) k1
    refine T.le hA e ?_
    rcases Nat.eq_zero_or_pos i with c | c
    · subst c; rw [h0] at e; cases e; omega
    · exact c
  · obtain ⟨i, hi, e⟩ := T.at (k := k) (by omega) k1
    exact T.le e hB (by omega)
/-- what follows in the row is met first -/
theorem Row.next (T : Row f n l) (R : Rim f y n) (n2 : 2 ≤ n) {j : Nat} (hj : j < n) {k m : Int} (hk : l[j]? = some k) (hm : l[(j + 1) % n]? = some m) : Nx f n k m := by
  have mk := (T.mem k).mp (List.mem_of_getElem? hk)
  have mm := (T.mem m).mp (List.mem_of_getElem? hm)
  have rk := R.r k
  have rm := R.r m
  rcases Nat.lt_or_ge (j + 1) n with c | c
  · rw [Nat.mod_eq_of_lt c] at hm
    have lt := T.lt hk hm (by omega)
    refine ⟨mm.1, mm.2, fun e => by rw [e] at lt; omega, fun i i0 i1 i2 => ?_⟩
    obtain ⟨a, ha, e⟩ := T.at i0 i1
    have s1 := R.s m k
    have r1 := R.r (m - k)
    have s2 := R.s i k
    have r2 := R.r (i - k)
    have ri := R.r i
    rcases Nat.lt_or_ge j a with d | d
    · have := T.le hm e (by omega)
      omega
    · have := T.le e hk d
      have : f i ≠ f k := fun z => i2 (R.one i0 i1 mk.1 mk.2 z)
      omega
  · have e1 : j + 1 = n := by omega
    rw [e1, Nat.mod_self] at hm
    rw [T.zero R (by omega)] at hm
    cases hm
    have h0 := T.zero R (by omega)
    have lt := T.lt h0 hk (by omega)
    have z := R.f0
    refine ⟨by omega, by omega, fun e => by rw [← e] at lt; omega, fun i i0 i1 i2 => ?_⟩
    obtain ⟨a, ha, e⟩ := T.at i0 i1
    have le := T.le e hk (by omega)
    have : f i ≠ f k := fun z => i2 (R.one i0 i1 mk.1 mk.2 z)
    have s1 := R.s 0 k
    have r1 := R.r (0 - k)
    have s2 := R.s i k
    have r2 := R.r (i - k)
    have ri := R.r i
    omega
end
end Mt
set_option linter.all false
set_option maxRecDepth 100000
namespace Mt
/-! ranks: how many places are less than that of a mark -/
theorem filt_up {f : Int → Int} : ∀ {l : List Int} {i : Nat} {k : Int}, (l.map f).Pairwise (· < ·) → l[i]? = some k → (l.filter fun m => decide (f m < f k)).length = i
  | [], i, k, _, h => by simp at h
  | a :: l, 0, k, P, h => by
    rw [List.getElem?_cons_zero] at h
    cases h
    have P' := List.pairwise_cons.mp P
    rw [List.filter_cons_of_neg (by simp), List.filter_eq_nil_iff.mpr]
    · rfl
    · intro b hb
      have := P'.1 (f b) (List.mem_map.mpr ⟨b, hb, rfl⟩)
      simp
      omega
  | a :: l, i + 1, k, P, h => by
    rw [List.getElem?_cons_succ] at h
    have P' := List.pairwise_cons.mp P
    have := P'.1 (f k) (List.mem_map.mpr ⟨k, List.mem_of_getElem? h, rfl⟩)
    rw [List.filter_cons_of_pos (by simpa using this), List.length_cons, filt_up P'.2 h]
theorem filt_more {f : Int → Int} {t : Int} : ∀ {l : List Int} {i : Nat} {k : Int}, (l.map f).Pairwise (· < ·) → l[i]? = some k → f k < t → i < (l.filter fun m => decide (f m < t)).length
  | [], i, k, _, h, _ => by simp at h
  | a :: l, 0, k, P, h, g => by
    rw [List.getElem?_cons_zero] at h
    cases h
    rw [List.filter_cons_of_pos (by simpa using g), List.length_cons]
    omega
  | a :: l, i + 1, k, P, h, g => by
    rw [List.getElem?_cons_succ] at h
    have P' := List.pairwise_cons.mp P
    have := P'.1 (f k) (List.mem_map.mpr ⟨k, List.mem_of_getElem? h, rfl⟩)
    rw [List.filter_cons_of_pos (by simp; omega), List.length_cons]
    have := filt_more P'.2 h g
    omega
theorem below_filt (x y t : Int) (n : Nat) : below x y t n = (((iota n).filter fun m => decide (x * m % y < t)).length : Int) := by
  induction n with
  | zero => rfl
  | succ n ih =>
    show below x y t n + _ = _
    rw [iota_succ, List.filter_append, List.length_append, ih]
    by_cases c : x * (n : Int) % y < t
    · rw [if_pos c, List.filter_cons_of_pos (by simpa using c)]; simp
    · rw [if_neg c, List.filter_cons_of_neg (by simpa using c)]; simp
theorem below_mono {x y s t : Int} (h : s ≤ t) (n : Nat) : below x y s n ≤ below x y t n := by
  induction n with
  | zero => exact Int.le_refl _
  | succ n ih =>
    show below x y s n + _ ≤ below x y t n + _
    split <;> split <;> omega
theorem below_le (x y t : Int) (n : Nat) : 0 ≤ below x y t n ∧ below x y t n ≤ n := by
  induction n with
  | zero => exact ⟨Int.le_refl _, Int.le_refl _⟩
  | succ n ih =>
    show 0 ≤ below x y t n + _ ∧ below x y t n + _ ≤ ((n + 1 : Nat) : Int)
    push_cast
    split <;> omega
section
variable {x y : Int} {n : Nat} {l : List Int}
theorem Row.nodup {f : Int → Int} (T : Row f n l) : l.Nodup := by
  have h := T.up
  rw [List.pairwise_map] at h
  exact h.imp fun {a b} c e => by rw [e] at c; omega
theorem Row.perm {f : Int → Int} (T : Row f n l) : l.Perm (iota n) :=
  (List.perm_ext_iff_of_nodup T.nodup ((iota_pw n).imp fun {a b} c e => by omega)).mpr fun k => by rw [T.mem, iota_mem]
theorem Row.below (T : Row (fun k => x * k % y) n l) {i : Nat} {k : Int} (h : l[i]? = some k) : Mt.below x y (x * k % y) n = i := by
  rw [below_filt, ← (T.perm.filter _).length_eq, filt_up (f := fun k => x * k % y) T.up h]
theorem Row.more (T : Row (fun k => x * k % y) n l) {i : Nat} {k t : Int} (h : l[i]? = some k) (g : x * k % y < t) : (i : Int) < Mt.below x y t n := by
  rw [below_filt, ← (T.perm.filter _).length_eq]
  have := filt_more (f := fun k => x * k % y) T.up h g
  omega
end
/-- a rank is that of one mark -/
theorem rank_one {x y : Int} {n : Nat} (R : Rim (fun k => x * k % y) y n) {j k : Int} (j0 : 0 ≤ j) (j1 : j < n) (k0 : 0 ≤ k) (k1 : k < n) (e : below x y (x * j % y) n = below x y (x * k % y) n) : j = k := by
  obtain ⟨l, T⟩ := row_ex (f := fun k => x * k % y) (n := n) fun i j a b c d e => R.one a b c d e
  obtain ⟨a, ha, ea⟩ := T.at j0 j1
  obtain ⟨b, hb, eb⟩ := T.at k0 k1
  rw [T.below ea, T.below eb] at e
  have : a = b := by omega
  subst this
  rw [ea] at eb
  exact Option.some.inj eb
/-- each rank has its mark -/
theorem rank_ex {x y : Int} {n : Nat} (R : Rim (fun k => x * k % y) y n) {r : Int} (r0 : 0 ≤ r) (r1 : r < n) : ∃ k : Int, 0 ≤ k ∧ k < n ∧ below x y (x * k % y) n = r ∧ ∀ t, (below x y t n ≤ r ↔ t ≤ x * k % y) := by
  obtain ⟨l, T⟩ := row_ex (f := fun k => x * k % y) (n := n) fun i j a b c d e => R.one a b c d e
  obtain ⟨k, hk, k0, k1⟩ := T.get (i := r.toNat) (by omega)
  refine ⟨k, k0, k1, by rw [T.below hk]; omega, fun t => ⟨fun h => ?_, fun h => ?_⟩⟩
  · rcases Int.lt_or_le (x * k % y) t with c | c
    · have := T.more hk c
      omega
    · exact c
  · have := below_mono (x := x) (y := y) h n
    rw [T.below hk] at this
    omega
/-- behind a mark comes the one with the next rank -/
theorem rank_next {x y : Int} {n : Nat} (R : Rim (fun k => x * k % y) y n) (n2 : 2 ≤ n) {k m : Int} (k0 : 0 ≤ k) (k1 : k < n) (h : Nx (fun k => x * k % y) n k m) : below x y (x * m % y) n = (below x y (x * k % y) n + 1) % n := by
  obtain ⟨l, T⟩ := row_ex (f := fun k => x * k % y) (n := n) fun i j a b c d e => R.one a b c d e
  obtain ⟨i, hi, ei⟩ := T.at k0 k1
  obtain ⟨m', hm, m0, m1⟩ := T.get (i := (i + 1) % n) (Nat.mod_lt _ (by omega))
  have e := Nx.one R h (T.next R n2 hi ei hm)
  rw [e, T.below hm, T.below ei]
  rw [Int.natCast_emod]; rfl
/-- all of a few marks stand in their own order -/
theorem below_plain {x y k : Int} (x0 : 0 < x) : ∀ n : Nat, x * n ≤ y → 0 ≤ k → below x y (x * k) n = min k n
  | 0, _, k0 => by show (0 : Int) = min k 0; omega
  | n + 1, h, k0 => by
    push_cast at h
    rw [Int.mul_add, Int.mul_one] at h
    show below x y (x * k) n + _ = min k ((n + 1 : Nat) : Int)
    rw [below_plain x0 n (by omega) k0, Int.emod_eq_of_lt (Int.mul_nonneg (by omega) (by omega)) (by omega)]
    have e : x * (n : Int) < x * k ↔ (n : Int) < k := ⟨fun c => Int.lt_of_mul_lt_mul_left c (by omega), fun c => Int.mul_lt_mul_of_pos_left c x0⟩
    push_cast
    split <;> rename_i c <;> rw [e] at c <;> omega
theorem nx_plain {y n k : Int} (R : Rim (fun k => 1 * k % y) y n) (k0 : 0 ≤ k) (k1 : k + 1 < n) (y2 : 2 ≤ y) : Nx (fun k => 1 * k % y) n k (k + 1) := by
  refine ⟨by omega, k1, by omega, fun j j0 j1 j2 => ?_⟩
  have z := R.nz (k := j - k) (by omega) (by omega) (by omega)
  have r := R.r (j - k)
  have e : (1 : Int) * (k + 1 - k) % y = 1 := by rw [show k + 1 - k = 1 by omega, Int.one_mul]; exact Int.emod_eq_of_lt (by decide) (by omega)
  show 1 * (k + 1 - k) % y ≤ 1 * (j - k) % y
  rw [e]
  have z' : 1 * (j - k) % y ≠ 0 := z
  have r' : 0 ≤ 1 * (j - k) % y := r.1
  omega
/-- no mark of the first ones lies between one and the next one -/
theorem nx_between {x y n k m s : Int} (k0 : 0 ≤ k) (k1 : k < min n y) (y0 : 0 < y) (h : Nx (fun k => x * k % y) (min n y) k m) (s0 : 0 ≤ s) (s1 : s < n) : ¬ (0 < x * (s - k) % y ∧ x * (s - k) % y < x * (m - k) % y) := by
  rintro ⟨a, b⟩
  have e : x * (s - k) % y = x * (s % y - k) % y := by
    have := Int.emod_add_mul_ediv s y
    rw [show s - k = (s % y - k) + y * (s / y) by omega, Int.mul_add, ← Int.mul_assoc, Int.mul_comm x y, Int.mul_assoc, Int.add_mul_emod_self_left]
  rw [e] at a b
  have h1 := Int.emod_lt_of_pos s y0
  have h2 := Int.emod_nonneg s (show y ≠ 0 by omega)
  have h3 : s % y ≤ s := by
    rcases Int.lt_or_le s y with c | c
    · rw [Int.emod_eq_of_lt s0 c]; exact Int.le_refl _
    · omega
  rcases Int.decEq (s % y) k with c | c
  · have := h.2.2.2 (s % y) h2 (by rw [Int.min_def]; split <;> omega) c
    have this' : x * (m - k) % y ≤ x * (s % y - k) % y := this
    omega
  · rw [c, Int.sub_self, Int.mul_zero, Int.zero_emod] at a
    omega
end Mt
set_option linter.all false
set_option maxRecDepth 100000
namespace Mt
/-! the order of any number of marks: the first ones at its places -/
theorem first_in {p : Int → Bool} {k : Int} {n : Nat} (k0 : 0 ≤ k) (k1 : k < n) (h : p k = true) (no : ∀ j, 0 ≤ j → j < k → p j = false) : ((iota n).filter p)[0]? = some k := by
  induction n with
  | zero => omega
  | succ n ih =>
    rw [iota_succ, List.filter_append]
    rcases Int.lt_or_le k n with c | c
    · have e := ih c
      rw [List.getElem?_append_left]
      · exact e
      · exact (List.getElem?_eq_some_iff.mp e).1
    · have e : k = n := by omega
      have z : (iota n).filter p = [] := List.filter_eq_nil_iff.mpr fun j hj => by
        obtain ⟨j0, j1⟩ := iota_mem.mp hj
        rw [no j j0 (by omega)]
        simp
      rw [z, ← e]
      simp [h]
/-- few unlike numbers below a bound -/
theorem nodup_few {ks : List Int} {m : Nat} (nd : ks.Nodup) (h : ∀ k ∈ ks, 0 ≤ k ∧ k < m) : ks.length ≤ m := by
  have p : ks.Perm ((iota m).filter fun k => decide (k ∈ ks)) :=
    (List.perm_ext_iff_of_nodup nd ((List.Pairwise.filter _ ((iota_pw m).imp fun {a b} c e => by omega)))).mpr fun k => by
      rw [List.mem_filter, iota_mem, decide_eq_true_eq]
      exact ⟨fun z => ⟨h k z, z⟩, fun z => z.2⟩
  rw [p.length_eq]
  exact Nat.le_trans (List.length_filter_le _ _) (by rw [iota_len]; exact Nat.le_refl _)
/-- which marks stand first at the places, of any number of marks -/
theorem heads {x y : Int} {n N : Nat} (y0 : 0 < y) (co : Nat.gcd x.natAbs y.natAbs = 1) (eN : (N : Int) = min (n : Int) y) : ∃ l, Row (fun k => x * k % y) N l ∧ ord (fun k => x * k % y) (iota n) = l.map (fun k => grp (fun k => x * k % y) (iota n) (x * k % y)) ∧
    ∀ k ∈ l, (grp (fun k => x * k % y) (iota n) (x * k % y))[0]? = some k := by
  have Nn : (N : Int) ≤ n := by rw [eN]; exact Int.min_le_left _ _
  have Ny : (N : Int) ≤ y := by rw [eN]; exact Int.min_le_right _ _
  have R := rim_step (n := (N : Int)) y0 co Ny
  obtain ⟨l, L⟩ := row_ex (f := fun k => x * k % y) (n := N) fun i j a b c d e => R.one a b c d e
  have red : ∀ k : Int, 0 ≤ k → k < n → 0 ≤ k % y ∧ k % y < N ∧ x * (k % y) % y = x * k % y := fun k k0 k1 => by
    refine ⟨Int.emod_nonneg _ (by omega), ?_, by rw [Int.mul_emod, Int.emod_emod, ← Int.mul_emod]⟩
    have h1 := Int.emod_lt_of_pos k y0
    have h2 : k % y ≤ k := by
      rcases Int.lt_or_le k y with c | c
      · rw [Int.emod_eq_of_lt k0 c]; exact Int.le_refl _
      · omega
    rw [eN, Int.min_def]; split <;> omega
  refine ⟨l, L, ?_, fun k hk => ?_⟩
  · have e : sortU ((iota n).map fun k => x * k % y) = l.map fun k => x * k % y := strict_one (sortU_pw _) L.up fun v => by
      rw [sortU_mem, List.mem_map, List.mem_map]
      constructor
      · rintro ⟨k, hk, rfl⟩
        obtain ⟨k0, k1⟩ := iota_mem.mp hk
        obtain ⟨h0, h1, h2⟩ := red k k0 k1
        exact ⟨k % y, (L.mem _).mpr ⟨h0, h1⟩, h2⟩
      · rintro ⟨k, hk, rfl⟩
        obtain ⟨k0, k1⟩ := (L.mem k).mp hk
        exact ⟨k, iota_mem.mpr ⟨k0, by omega⟩, rfl⟩
    unfold ord
    rw [e, List.map_map]
    rfl
  · obtain ⟨k0, k1⟩ := (L.mem k).mp hk
    refine first_in k0 (by omega) (by simp) fun j j0 j1 => ?_
    rw [beq_eq_false_iff_ne]
    intro e
    have := R.one j0 (by omega) k0 k1 e
    omega
/-- what stands ahead of a mark in the row of the first ones -/
theorem Row.prev {f : Int → Int} {y : Int} {n : Nat} {l : List Int} (T : Row f n l) (R : Rim f y n) (n2 : 2 ≤ n) {j : Nat} (hj : j < n) {k m : Int} (hk : l[j]? = some k) (hm : l[(j + (n - 1)) % n]? = some m) : Pv f n k m := by
  have lt : (j + (n - 1)) % n < n := Nat.mod_lt _ (by omega)
  have e : ((j + (n - 1)) % n + 1) % n = j := by
    rw [Nat.mod_add_mod, show j + (n - 1) + 1 = j + n by omega, Nat.add_mod_right, Nat.mod_eq_of_lt hj]
  have mm := (T.mem m).mp (List.mem_of_getElem? hm)
  exact (T.next R n2 lt hm (by rw [e]; exact hk)).back R mm.1 mm.2
end Mt
set_option Elab.async false
set_option maxRecDepth 100000
set_option maxHeartbeats 2000000
set_option linter.all false
/-! where a row of marks breaks the three cases -/
namespace Mt
def nxt (l : List Int) (k : Int) : Int := l.getD ((l.idxOf k + 1) % l.length) 0
def badB (l : List Int) (k : Int) : Bool := decide (nxt l k ≠ behind l.length (nxt l 0) (l.getLastD 0) k)
def brk (l : List Int) : Option Int := (iota l.length).find? (badB l)
/-- all of 0 .. n - 1, beginning with 0 -/
structure Perm0 (l : List Int) : Prop where
  nd : l.Nodup
  mem : ∀ k, k ∈ l ↔ 0 ≤ k ∧ k < l.length
  hd : l.head? = some 0
theorem idx_at {l : List Int} (nd : l.Nodup) {j : Nat} {k : Int} (h : l[j]? = some k) : l.idxOf k = j := by
  obtain ⟨lt, e⟩ := List.getElem?_eq_some_iff.mp h
  induction l generalizing j with
  | nil => simp at lt
  | cons a l ih =>
    obtain ⟨n1, n2⟩ := List.nodup_cons.mp nd
    cases j with
    | zero =>
      have e : a = k := e
      rw [e]; simp
    | succ j =>
      have lt' : j < l.length := by simpa using lt
      have e' : l[j] = k := e
      have ne : a ≠ k := fun z => n1 (by rw [z, ← e']; exact List.getElem_mem lt')
      have ih' := ih n2 (j := j) (by rw [List.getElem?_eq_getElem lt', e']) lt' e'
      rw [List.idxOf_cons, show (a == k) = false by simpa using ne, cond_false, ih']
theorem nxt_at {l : List Int} (nd : l.Nodup) {j : Nat} {k : Int} (h : l[j]? = some k) : nxt l k = l.getD ((j + 1) % l.length) 0 := by
  unfold nxt
  rw [idx_at nd h]
theorem Perm0.pos {l : List Int} (P : Perm0 l) : 0 < l.length := by
  cases l with
  | nil => have := P.hd; cases this
  | cons a l => exact Nat.succ_pos _
theorem Perm0.zero {l : List Int} (P : Perm0 l) : l[0]? = some 0 := by
  have := P.hd
  rwa [List.head?_eq_getElem?] at this
theorem getD_lt {l : List Int} {j : Nat} (h : j < l.length) : l.getD j 0 = l[j] := by
  rw [List.getD_eq_getElem?_getD, List.getElem?_eq_getElem h]; rfl
theorem last_lt {l : List Int} (h : 0 < l.length) : l.getLastD 0 = l[l.length - 1] := by
  cases l with
  | nil => simp at h
  | cons a l => rw [List.getLastD_eq_getLast?, List.getLast?_eq_getElem?, List.getElem?_eq_getElem (by omega)]; rfl
theorem brk_first {l : List Int} {i : Nat} (hi : i < l.length) (ok : ∀ j : Nat, j < i → badB l j = false) (bad : badB l i = true) : brk l = some (i : Int) := by
  unfold brk iota
  rw [List.find?_map]
  have : (List.range l.length).find? (badB l ∘ Int.ofNat) = some i := by
    rw [List.find?_range_eq_some]
    exact ⟨bad, List.mem_range.mpr hi, fun j hj => by have := ok j hj; simp only [Function.comp]; show (!badB l (j : Int)) = true; rw [this]; rfl⟩
  rw [this]; rfl
theorem brk_none {l : List Int} (ok : ∀ j : Nat, j < l.length → badB l j = false) : brk l = none := by
  unfold brk
  rw [List.find?_eq_none]
  intro k m
  obtain ⟨k0, k1⟩ := iota_mem.mp m
  obtain ⟨n, rfl⟩ := Int.eq_ofNat_of_zero_le k0
  rw [ok n (by omega)]
  simp
theorem Row.perm0 {f : Int → Int} {n : Nat} {l : List Int} {y : Int} (T : Row f n l) (R : Rim f y n) (n0 : 0 < n) : Perm0 l :=
  ⟨T.nodup, fun k => by rw [T.mem, T.len], by rw [List.head?_eq_getElem?]; exact T.zero R n0⟩
theorem Row.whole {f : Int → Int} {n : Nat} {l : List Int} {y : Int} (T : Row f n l) (R : Rim f y n) (n0 : 0 < n) : brk l = none := by
  have nd := T.nodup
  have ln := T.len
  refine brk_none fun k hk => ?_
  rw [ln] at hk
  obtain ⟨j, hj, hjk⟩ := T.at (k := (k : Int)) (by omega) (by omega)
  have z0 := T.zero R n0
  unfold badB
  rw [decide_eq_false_iff_not, Classical.not_not, nxt_at nd hjk, nxt_at nd z0, ln]
  by_cases n1 : n = 1
  · subst n1
    have j0 : j = 0 := by omega
    have k0 : k = 0 := by omega
    subst j0 k0
    have el : l = [0] := by
      cases l with
      | nil => simp at ln
      | cons a r =>
        cases r with
        | nil => cases z0; rfl
        | cons b r => simp at ln
    rw [el]
    decide
  · have n2 : 2 ≤ n := by omega
    have e1 : (0 + 1) % n = 1 := Nat.mod_eq_of_lt (by omega)
    rw [e1]
    have h1 : l[1]? = some l[1] := List.getElem?_eq_getElem (by omega)
    have hB : l[n - 1]? = some (l[n - 1]'(by omega)) := List.getElem?_eq_getElem (by omega)
    obtain ⟨A0, A1, B0, B1, hA, hBB⟩ := T.ends R n2 h1 hB
    have g := gap R A0 A1 B0 B1 hA hBB (k := (k : Int)) (by omega) (by omega)
    have lt : (j + 1) % n < l.length := by rw [ln]; exact Nat.mod_lt _ n0
    have nx := T.next R n2 hj hjk (m := l[(j + 1) % n]) (List.getElem?_eq_getElem lt)
    have e := nx.one R g
    rw [getD_lt lt, getD_lt (show 1 < l.length by omega), last_lt (by omega)]
    have el : l[l.length - 1]'(by omega) = l[n - 1]'(by omega) := by congr 1; omega
    rw [el]
    exact e
/-- ascending by f above a -/
def up (f : Int → Int) : Int → List Int → Bool
  | _, [] => true
  | a, k :: l => if f k ≤ a then false else up f (f k) l
theorem up_pw {f : Int → Int} : ∀ {l : List Int} {a : Int}, up f a l = true → (l.map f).Pairwise (· < ·) ∧ ∀ k ∈ l, a < f k
  | [], _, _ => ⟨List.Pairwise.nil, fun k m => nomatch m⟩
  | k :: l, a, h => by
    unfold up at h
    split at h
    · cases h
    · rename_i c
      obtain ⟨i1, i2⟩ := up_pw h
      refine ⟨List.pairwise_cons.mpr ⟨fun v m => ?_, i1⟩, fun q m => ?_⟩
      · obtain ⟨q, mq, rfl⟩ := List.mem_map.mp m
        exact i2 q mq
      · rcases List.mem_cons.mp m with rfl | m
        · omega
        · have := i2 q m; omega
theorem up_row {x y : Int} {l : List Int} (P : Perm0 l) (s : Stp x y) (h : up (fun k => x * k % y) (-1) l = true) : brk l = none := by
  obtain ⟨pw, _⟩ := up_pw h
  have y0 : 0 < y := by have := s.p0; have := s.pq; omega
  have mnd : (l.map fun k => x * k % y).Nodup := pw.imp fun z e => by omega
  have small : ∀ v ∈ l.map fun k => x * k % y, 0 ≤ v ∧ v < (y.toNat : Nat) := fun v m => by
    obtain ⟨k, _, rfl⟩ := List.mem_map.mp m
    have h1 := Int.emod_nonneg (x * k) (show y ≠ 0 by omega)
    have h2 := Int.emod_lt_of_pos (x * k) y0
    show 0 ≤ x * k % y ∧ x * k % y < _
    omega
  have few := nodup_few mnd small
  rw [List.length_map] at few
  have R : Rim (fun k => x * k % y) y l.length := rim_step y0 (show Nat.gcd x.natAbs y.natAbs = 1 from s.co) (by omega)
  have inj : ∀ {i j : Int}, i ∈ l → j ∈ l → x * i % y = x * j % y → i = j := fun {i j} mi mj e => map_inj mnd mi mj e
  have T : Row (fun k => x * k % y) l.length l := ⟨rfl, P.mem, pw, by
    unfold ord
    have e1 : sortU ((iota l.length).map fun k => x * k % y) = l.map fun k => x * k % y := strict_one (sortU_pw _) pw fun v => by
      rw [sortU_mem, List.mem_map, List.mem_map]
      constructor
      · rintro ⟨k, m, e⟩; exact ⟨k, (P.mem k).mpr (iota_mem.mp m), e⟩
      · rintro ⟨k, m, e⟩; exact ⟨k, iota_mem.mpr ((P.mem k).mp m), e⟩
    rw [e1, List.map_map]
    refine List.map_congr_left fun k m => ?_
    show grp _ _ (x * k % y) = [k]
    unfold grp
    have pwl : ((iota l.length).filter fun j => (x * j % y == x * k % y)).Pairwise (· < ·) := (iota_pw _).filter _
    refine strict_one pwl (List.pairwise_singleton ..) fun v => ?_
    rw [List.mem_filter, List.mem_singleton, beq_iff_eq]
    constructor
    · rintro ⟨mv, e⟩; exact inj ((P.mem v).mpr (iota_mem.mp mv)) m e
    · rintro rfl; exact ⟨iota_mem.mpr ((P.mem v).mp m), rfl⟩⟩
  exact T.whole R P.pos
end Mt
set_option Elab.async false
set_option maxRecDepth 100000
set_option maxHeartbeats 2000000
set_option linter.all false
/-! the lot over points: which steps it holds -/
namespace Mt
theorem fold_out {x : Cut} : ∀ (es : List (Cut × Bool)) (acc : List Cut), (∀ e ∈ es, x.lt e.1 = true) → mem (es.foldl cstep acc) x = mem acc x
  | [], _, _ => rfl
  | e :: es, acc, h => by
    have h0 := h e List.mem_cons_self
    show mem (es.foldl cstep (cstep acc e)) x = _
    rw [fold_out es _ fun c m => h c (List.mem_cons_of_mem _ m)]
    unfold cstep
    split
    · rw [mem_app]
      show xor _ (xor (!x.lt e.1) false) = _
      rw [h0]; simp
    · rfl
theorem mem_in {x : Cut} : ∀ {acc : List Cut}, (∀ c ∈ acc, x.lt c = false) → mem acc x = odd acc.length
  | [], _ => rfl
  | c :: acc, h => by
    show xor (!x.lt c) (mem acc x) = !odd acc.length
    rw [h c List.mem_cons_self, mem_in fun e m => h e (List.mem_cons_of_mem _ m)]
    simp
theorem cstep_odd (acc : List Cut) (e : Cut × Bool) : odd (cstep acc e).length = e.2 := by
  unfold cstep
  split
  · rename_i h
    rw [odd_snoc]
    cases h1 : e.2 <;> cases h2 : odd acc.length <;> simp_all
  · rename_i h
    cases h1 : e.2 <;> cases h2 : odd acc.length <;> simp_all
theorem cstep_in {x : Cut} {acc : List Cut} {e : Cut × Bool} (h : ∀ c ∈ acc, x.lt c = false) (he : x.lt e.1 = false) : ∀ c ∈ cstep acc e, x.lt c = false := fun c m => by
  unfold cstep at m
  split at m
  · rcases List.mem_append.mp m with m | m
    · exact h c m
    · rw [List.mem_singleton.mp m]; exact he
  · exact h c m
theorem ends_out {x : Cut} {acc : List Cut} (h : x.lt last = true) : mem (ends acc) x = mem acc x := by
  unfold ends
  split
  · rw [mem_app]
    show xor _ (xor (!x.lt last) false) = _
    rw [h]; simp
  · rfl
/-- between two points next to each other it is as at their mediant -/
def Steady (f : Int → Int → Bool) : List (Int × Int) → Prop
  | a :: b :: r => (∀ p q, Stp p q → Lss a (p, q) → Lss (p, q) b → f p q = f (med a b).1 (med a b).2) ∧ Steady f (b :: r)
  | _ => True
theorem lss_or {a b : Int × Int} (fa : Frc a) (fb : Frc b) : Lss a b ∨ a = b ∨ Lss b a := by
  rcases Int.lt_trichotomy (a.1 * b.2) (b.1 * a.2) with h | h | h
  · exact .inl h
  · have := Cut.cross fa.d0 fb.d0 fa.co fb.co h
    exact .inr (.inl (Prod.ext this.1 this.2))
  · exact .inr (.inr h)
theorem lss_trans {a b c : Int × Int} (fa : Frc a) (fb : Frc b) (fc : Frc c) (h : Lss a b) (k : Lss b c) : Lss a c := Cut.mul_lt3 fa.d0 fb.d0 fc.d0 h k
theorem lss_irr {a : Int × Int} : ¬ Lss a a := fun h => by unfold Lss at h; omega
theorem Stp.frc {p q : Int} (s : Stp p q) : Frc (p, q) := ⟨s.p0, Int.le_of_lt s.pq, by have := s.p0; have := s.pq; show 0 < q; omega, s.co⟩
theorem at_lt {p q : Int} {a : Int × Int} {b : Bool} (h : Lss (p, q) a) : (at' p q).lt ⟨a.1, a.2, b⟩ = true := lss_lt h false b
theorem at_ge {p q : Int} {a : Int × Int} {b : Bool} (h : Lss a (p, q)) : (at' p q).lt ⟨a.1, a.2, b⟩ = false := by
  have h' : a.1 * q < p * a.2 := h
  unfold at' Cut.lt
  simp only
  rw [if_neg (fun z => by rw [z.1, z.2] at h'; omega), decide_eq_false]
  omega
theorem lot_fold {f : Int → Int → Bool} {p q : Int} (s : Stp p q) : ∀ {r : List (Int × Int)} {a : Int × Int} {acc : List Cut}, (∀ x ∈ a :: r, Frc x) → (a :: r).Pairwise Lss → (a :: r).getLast? = some (1, 1) → Steady f (a :: r) → ¬ Lss (p, q) a → (∀ c ∈ acc, (at' p q).lt c = false) →
    mem (ends ((evs f (a :: r)).foldl cstep acc)) (at' p q) = f p q
  | [], a, acc, v, _, l, _, n, _ => by
    have e : a = (1, 1) := Option.some.inj l
    subst e
    exact absurd (show p * 1 < 1 * q by have := s.pq; omega) n
  | b :: r, a, acc, v, pw, l, st, n, h => by
    have fa := v a List.mem_cons_self
    have fb := v b (List.mem_cons_of_mem _ List.mem_cons_self)
    have pw2 := List.pairwise_cons.mp pw
    have v2 : ∀ x ∈ b :: r, Frc x := fun x m => v x (List.mem_cons_of_mem _ m)
    have l2 : (b :: r).getLast? = some (1, 1) := by rw [← l]; rfl
    have e1ge : (at' p q).lt ⟨a.1, a.2, false⟩ = false := by
      rcases lss_or fa s.frc with k | k | k
      · exact at_ge k
      · rw [k]; exact Cut.irr _
      · exact absurd k n
    have up : Lss (p, q) b → ∀ e ∈ evs f (b :: r), (at' p q).lt e.1 = true := fun hb e me => by
      obtain ⟨_, _, _, i4⟩ := evs_all (f := f) v2 pw2.2 l2
      obtain ⟨x, mx, e1, e2⟩ := i4 e.1 (List.mem_append_left _ (List.mem_map_of_mem me))
      have ec : e.1 = ⟨x.1, x.2, e.1.b⟩ := by
        cases h : e.1 with | mk n d b => rw [h] at e1 e2; simp only at e1 e2; rw [e1, e2]
      rw [ec]
      rcases List.mem_cons.mp mx with rfl | mx
      · exact at_lt hb
      · exact at_lt (lss_trans s.frc fb (v2 x (List.mem_cons_of_mem _ mx)) hb ((List.pairwise_cons.mp pw2.2).1 x mx))
    have h1 := cstep_in (e := (⟨a.1, a.2, false⟩, f a.1 a.2)) h e1ge
    show mem (ends ((evs f (b :: r)).foldl cstep (cstep (cstep acc (⟨a.1, a.2, false⟩, f a.1 a.2)) (⟨a.1, a.2, true⟩, f (med a b).1 (med a b).2)))) (at' p q) = f p q
    rcases lss_or fa s.frc with k | k | k
    · have h2 := cstep_in (e := (⟨a.1, a.2, true⟩, f (med a b).1 (med a b).2)) h1 (at_ge k)
      by_cases hb : Lss (p, q) b
      · rw [ends_out s.lt, fold_out _ _ (up hb), mem_in h2, cstep_odd]
        exact (st.1 p q s k hb).symm
      · exact lot_fold s v2 pw2.2 l2 st.2 hb h2
    · have hb : Lss (p, q) b := by rw [← k]; exact pw2.1 b List.mem_cons_self
      have lt2 : (at' p q).lt ⟨a.1, a.2, true⟩ = true := by
        rw [k]
        unfold at' Cut.lt
        simp
      rw [ends_out s.lt, fold_out _ _ (up hb)]
      have e3 := fold_out (x := at' p q) [(⟨a.1, a.2, true⟩, f (med a b).1 (med a b).2)] (cstep acc (⟨a.1, a.2, false⟩, f a.1 a.2)) (fun e m => by rw [List.mem_singleton.mp m]; exact lt2)
      rw [show (cstep (cstep acc (⟨a.1, a.2, false⟩, f a.1 a.2)) (⟨a.1, a.2, true⟩, f (med a b).1 (med a b).2)) = [((⟨a.1, a.2, true⟩ : Cut), f (med a b).1 (med a b).2)].foldl cstep (cstep acc (⟨a.1, a.2, false⟩, f a.1 a.2)) from rfl, e3, mem_in h1, cstep_odd, k]
    · exact absurd k n
/-- the lot over points holds a step just if it fits -/
theorem mem_lot {f : Int → Int → Bool} {ps : List (Int × Int)} (h : Pts ps) (st : Steady f ps) {p q : Int} (s : Stp p q) : mem (lw (evs f ps)) (at' p q) = f p q := by
  cases ps with
  | nil => exact absurd h.hd (by simp)
  | cons a r =>
    have e : a = (0, 1) := Option.some.inj h.hd
    exact lot_fold s h.v h.asc h.ls st (fun z => by rw [e] at z; have z' : p * 1 < 0 * q := z; have := s.p0; omega) (fun c m => nomatch m)
end Mt
set_option Elab.async false
set_option maxRecDepth 100000
set_option maxHeartbeats 2000000
set_option linter.all false
/-! a step lies in one of the pieces just if it belongs -/
namespace Mt
def inPc (c e x : Cut) : Bool := !x.lt c && x.lt e
def memP : List Cut → Cut → Bool
  | c :: e :: r, x => inPc c e x || memP r x
  | _, _ => false
theorem memP_iff : ∀ {cs : List Cut} {x : Cut}, memP cs x = true ↔ ∃ (i : Nat) (c e : Cut), cs[2 * i]? = some c ∧ cs[2 * i + 1]? = some e ∧ inPc c e x = true
  | [], x => by
    constructor
    · intro h; cases h
    · rintro ⟨i, c, e, h, _⟩
      simp at h
  | [a], x => by
    constructor
    · intro h; cases h
    · rintro ⟨i, c, e, h, k, _⟩
      have := (List.getElem?_eq_some_iff.mp k).1
      simp at this
  | a :: b :: r, x => by
    unfold memP
    rw [Bool.or_eq_true, memP_iff]
    constructor
    · rintro (h | ⟨i, c, e, h, k, z⟩)
      · exact ⟨0, a, b, rfl, rfl, h⟩
      · exact ⟨i + 1, c, e, by rw [show 2 * (i + 1) = 2 * i + 1 + 1 by omega]; exact h, by rw [show 2 * (i + 1) + 1 = 2 * i + 1 + 1 + 1 by omega]; exact k, z⟩
    · rintro ⟨i, c, e, h, k, z⟩
      cases i with
      | zero => cases h; cases k; exact .inl z
      | succ i =>
        rw [show 2 * (i + 1) = 2 * i + 1 + 1 by omega] at h
        rw [show 2 * (i + 1) + 1 = 2 * i + 1 + 1 + 1 by omega] at k
        exact .inr ⟨i, c, e, h, k, z⟩
theorem mem_memP {x : Cut} (vx : x.V) : ∀ {cs : List Cut}, AllV cs → Asc cs → odd cs.length = false → mem cs x = memP cs x
  | [], _, _, _ => rfl
  | [a], _, _, h => by cases h
  | c :: e :: r, v, a, h => by
    have vc := v c List.mem_cons_self
    have ve := v e (List.mem_cons_of_mem _ List.mem_cons_self)
    have vr : AllV r := fun y m => v y (List.mem_cons_of_mem _ (List.mem_cons_of_mem _ m))
    obtain ⟨a1, a2⟩ := List.pairwise_cons.mp a
    obtain ⟨a3, a4⟩ := List.pairwise_cons.mp a2
    have ih := mem_memP vx vr a4 (by simpa [odd] using h)
    have ce := a1 e List.mem_cons_self
    show xor (!x.lt c) (xor (!x.lt e) (mem r x)) = (inPc c e x || memP r x)
    unfold inPc
    by_cases h1 : x.lt e = true
    · have out : mem r x = false := mem_out fun y m => Cut.trans vx ve (vr y m) h1 (a3 y m)
      rw [← ih, out, h1]
      cases x.lt c <;> rfl
    · have h1 : x.lt e = false := by simpa using h1
      have h2 : x.lt c = false := by
        cases z : x.lt c with
        | false => rfl
        | true => rw [Cut.trans vx vc ve z ce] at h1; cases h1
      rw [h1, h2, ih]
      simp
/-- as the ends of a piece tell it -/
theorem in_ends {c e : Cut} (vc : c.V) (ve : e.V) (h : c.lt e = true) {p q : Int} (s : Stp p q) :
    inPc c e (at' p q) = ((decide (c.n * q < p * c.d) && decide (p * e.d < e.n * q)) || ((decide (p = c.n ∧ q = c.d) && !c.b) || (decide (p = e.n ∧ q = e.d) && e.b))) := by
  have q0 : 0 < q := by have := s.p0; have := s.pq; omega
  have n1 : ¬ (p = c.n ∧ q = c.d) → p * c.d ≠ c.n * q := fun z e => z (Cut.cross q0 vc.d s.co vc.co e)
  have n2 : ¬ (p = e.n ∧ q = e.d) → p * e.d ≠ e.n * q := fun z k => z (Cut.cross q0 ve.d s.co ve.co k)
  unfold Cut.lt at h
  unfold inPc at' Cut.lt
  simp only
  by_cases h1 : p = c.n ∧ q = c.d
  · by_cases h2 : p = e.n ∧ q = e.d
    · rw [if_pos ⟨h1.1.symm.trans h2.1, h1.2.symm.trans h2.2⟩] at h
      rw [if_pos h1, if_pos h2, decide_eq_true h1, decide_eq_true h2]
      cases hc : c.b <;> cases he : e.b <;> rw [hc, he] at h <;> simp_all
    · rw [if_neg (fun z => h2 ⟨h1.1.trans z.1, h1.2.trans z.2⟩)] at h
      have h' := of_decide_eq_true h
      rw [← h1.1, ← h1.2] at h'
      rw [if_pos h1, if_neg h2, decide_eq_true h1, decide_eq_false h2, decide_eq_true h', ← h1.1, ← h1.2]
      rw [decide_eq_false (show ¬ p * q < p * q by omega)]
      cases c.b <;> rfl
  · by_cases h2 : p = e.n ∧ q = e.d
    · rw [if_neg (fun z => h1 ⟨h2.1.trans z.1.symm, h2.2.trans z.2.symm⟩)] at h
      have h' := of_decide_eq_true h
      rw [← h2.1, ← h2.2] at h'
      rw [if_neg h1, if_pos h2, decide_eq_false h1, decide_eq_true h2, ← h2.1, ← h2.2]
      rw [decide_eq_false (show ¬ p * q < p * q by omega), decide_eq_false (show ¬ p * c.d < c.n * q by omega)]
      cases e.b <;> simp
    · rw [if_neg h1, if_neg h2, decide_eq_false h1, decide_eq_false h2]
      have e1 : (!decide (p * c.d < c.n * q)) = decide (c.n * q < p * c.d) := by
        have := n1 h1
        by_cases z : p * c.d < c.n * q
        · rw [decide_eq_true z, decide_eq_false (by omega)]; rfl
        · rw [decide_eq_false z, decide_eq_true (by omega)]; rfl
      rw [e1]
      simp
end Mt
set_option Elab.async false
set_option maxRecDepth 100000
set_option maxHeartbeats 1000000
set_option linter.all false
/-! the simplest step of a lot -/
namespace Mt
/-- what a law asks of a pair and a piece's ends -/
def inB (c e : Cut) (p q : Int) : Bool := (decide (c.n * q < p * c.d) && decide (p * e.d < e.n * q)) || ((decide (p = c.n ∧ q = c.d) && !c.b) || (decide (p = e.n ∧ q = e.d) && e.b))
theorem lt_cases {c e : Cut} (h : c.lt e = true) : c.n * e.d < e.n * c.d ∨ (c.n = e.n ∧ c.d = e.d ∧ c.b = false ∧ e.b = true) := by
  unfold Cut.lt at h
  split at h
  · rename_i z
    rw [Bool.and_eq_true] at h
    exact .inr ⟨z.1, z.2, by simpa using h.1, h.2⟩
  · exact .inl (of_decide_eq_true h)
theorem inB_in {c e : Cut} {p q : Int} (lt : c.lt e = true) (h : inB c e p q = true) : inLo c.n c.d (!c.b) p q ∧ inHi e.n e.d e.b p q := by
  unfold inB at h
  rw [Bool.or_eq_true, Bool.or_eq_true, Bool.and_eq_true, Bool.and_eq_true, Bool.and_eq_true, decide_eq_true_eq, decide_eq_true_eq, decide_eq_true_eq, decide_eq_true_eq] at h
  rcases h with ⟨h1, h2⟩ | ⟨⟨rfl, rfl⟩, hb⟩ | ⟨⟨rfl, rfl⟩, hb⟩
  · exact ⟨.inl h1, .inl h2⟩
  · refine ⟨.inr ⟨hb, rfl⟩, ?_⟩
    rcases lt_cases lt with z | ⟨z1, z2, _, z4⟩
    · exact .inl z
    · exact .inr ⟨z4, by rw [z1, z2]⟩
  · refine ⟨?_, .inr ⟨hb, rfl⟩⟩
    rcases lt_cases lt with z | ⟨z1, z2, z3, _⟩
    · exact .inl z
    · exact .inr ⟨by rw [z3]; rfl, by rw [z1, z2]⟩
def liesB : List Cut → Int → Int → Bool
  | c :: e :: r, p, q => inB c e p q || liesB r p q
  | _, _, _ => false
theorem liesB_iff : ∀ {cs : List Cut} {p q : Int}, liesB cs p q = true ↔ ∃ (i : Nat) (c e : Cut), cs[2 * i]? = some c ∧ cs[2 * i + 1]? = some e ∧ inB c e p q = true
  | [], p, q => by
    constructor
    · intro h; cases h
    · rintro ⟨i, c, e, h, _⟩; simp at h
  | [c], p, q => by
    constructor
    · intro h; cases h
    · rintro ⟨i, c', e, _, h, _⟩; simp at h
  | c :: e :: r, p, q => by
    rw [liesB, Bool.or_eq_true, liesB_iff (cs := r)]
    constructor
    · rintro (h | ⟨i, c', e', h1, h2, h3⟩)
      · exact ⟨0, c, e, rfl, rfl, h⟩
      · exact ⟨i + 1, c', e', by rw [show 2 * (i + 1) = 2 * i + 1 + 1 by omega]; exact h1, by rw [show 2 * (i + 1) + 1 = 2 * i + 1 + 1 + 1 by omega]; exact h2, h3⟩
    · rintro ⟨i, c', e', h1, h2, h3⟩
      cases i with
      | zero =>
        cases h1
        cases h2
        exact .inl h3
      | succ i =>
        rw [show 2 * (i + 1) = 2 * i + 1 + 1 by omega] at h1
        rw [show 2 * (i + 1) + 1 = 2 * i + 1 + 1 + 1 by omega] at h2
        exact .inr ⟨i, c', e', h1, h2, h3⟩
theorem asc_get {cs : List Cut} (h : Asc cs) {i j : Nat} {c e : Cut} (hc : cs[i]? = some c) (he : cs[j]? = some e) (lt : i < j) : c.lt e = true := by
  obtain ⟨li, rfl⟩ := List.getElem?_eq_some_iff.mp hc
  obtain ⟨lj, rfl⟩ := List.getElem?_eq_some_iff.mp he
  exact List.pairwise_iff_getElem.mp h i j li lj lt
/-- of a step it is whether it belongs -/
theorem liesB_mem {cs : List Cut} {p q : Int} (L : Lt cs) (s : Stp p q) : liesB cs p q = mem cs (at' p q) := by
  rw [mem_memP s.In.toV L.av L.a L.e, Bool.eq_iff_iff, liesB_iff, memP_iff]
  constructor
  · rintro ⟨i, c, e, hc, he, h⟩
    refine ⟨i, c, e, hc, he, ?_⟩
    rw [in_ends (L.v c (List.mem_of_getElem? hc)).toV (L.v e (List.mem_of_getElem? he)).toV (asc_get L.a hc he (by omega)) s]
    exact h
  · rintro ⟨i, c, e, hc, he, h⟩
    refine ⟨i, c, e, hc, he, ?_⟩
    rw [in_ends (L.v c (List.mem_of_getElem? hc)).toV (L.v e (List.mem_of_getElem? he)).toV (asc_get L.a hc he (by omega)) s] at h
    exact h
structure Bnd (cs : List Cut) : Prop where
  n : ∀ c ∈ cs, c.n < 2 ^ 100
  d : ∀ c ∈ cs, c.d < 2 ^ 100
/-- a piece's ends are the ends of a stretch -/
theorem okF_piece {c e : Cut} (vc : c.In) (ve : e.In) (lt : c.lt e = true) (c1 : c.n < 2 ^ 100) (c2 : c.d < 2 ^ 100) (e1 : e.n < 2 ^ 100) (e2 : e.d < 2 ^ 100) : OkF c.n c.d e.n e.d (!c.b) e.b := by
  have := vc.d
  have := ve.d
  refine ⟨vc.n0, by omega, ve.n0, by omega, fun z => by omega, ?_, c1, c2, e1, e2⟩
  rcases lt_cases lt with z | ⟨z1, z2, z3, z4⟩
  · exact .inl z
  · exact .inr ⟨by rw [z3]; rfl, z4, by rw [z1, z2]⟩
structure SimP (cs : List Cut) (p q : Int) : Prop where
  st : Stp p q
  me : mem cs (at' p q) = true
  mi : ∀ r s, 0 < s → liesB cs r s = true → q ≤ s ∧ (s = q → p ≤ r)
  qb : q < 2 ^ 101
theorem bestF_stp {c e : Cut} {p q : Int} (ve : e.In) (K : OkF c.n c.d e.n e.d (!c.b) e.b) (B : BestF c.n c.d e.n e.d (!c.b) e.b p q) : Stp p q := by
  have p0 := (B.small K).2.2
  have q0 := B.q0
  have d0 := ve.d
  refine ⟨p0, ?_, B.co K⟩
  have nd := ve.nd
  rcases B.hi with z | ⟨zb, z⟩
  · have h1 : e.n * q ≤ e.d * q := Int.mul_le_mul_of_nonneg_right nd (by omega)
    have h2 : p * e.d < q * e.d := by rw [Int.mul_comm q]; omega
    exact cancel_lt (by omega) h2
  · have ne : e.n ≠ e.d := fun y => by
      have co := ve.co
      rw [y, Int.gcd_self] at co
      have d1 : e.d = 1 := by omega
      have l := ve.le
      unfold Cut.lt last at l
      simp only at l
      rw [if_pos ⟨by omega, by omega⟩, zb] at l
      cases l
    have h1 : e.n * q < e.d * q := Int.mul_lt_mul_of_pos_right (by omega) q0
    have h2 : p * e.d < q * e.d := by rw [Int.mul_comm q]; omega
    exact cancel_lt (by omega) h2
theorem bestF_inB {c e : Cut} {p q : Int} (vc : c.V) (ve : e.V) (s : Stp p q) (lo : inLo c.n c.d (!c.b) p q) (hi : inHi e.n e.d e.b p q) : inB c e p q = true := by
  have q0 : 0 < q := by have := s.p0; have := s.pq; omega
  unfold inB
  rw [Bool.or_eq_true, Bool.or_eq_true, Bool.and_eq_true, Bool.and_eq_true, Bool.and_eq_true, decide_eq_true_eq, decide_eq_true_eq, decide_eq_true_eq, decide_eq_true_eq]
  rcases lo with z | ⟨zb, z⟩
  · rcases hi with y | ⟨yb, y⟩
    · exact .inl ⟨z, y⟩
    · exact .inr (.inr ⟨Cut.cross q0 ve.d s.co ve.co y, yb⟩)
  · exact .inr (.inl ⟨Cut.cross q0 vc.d s.co vc.co z.symm, zb⟩)
/-- the least one of the pieces' own -/
theorem simP_of {cs : List Cut} {ps : Nat → Int × Int} (L : Lt cs) (Bn : Bnd cs) (all : ∀ (i : Nat) (c e : Cut), cs[2 * i]? = some c → cs[2 * i + 1]? = some e → BestF c.n c.d e.n e.d (!c.b) e.b (ps i).1 (ps i).2)
    {j : Nat} {c e : Cut} (hc : cs[2 * j]? = some c) (he : cs[2 * j + 1]? = some e) (le : ∀ (i : Nat), 2 * i + 1 < cs.length → (ps j).2 < (ps i).2 ∨ ((ps j).2 = (ps i).2 ∧ (ps j).1 ≤ (ps i).1)) : SimP cs (ps j).1 (ps j).2 := by
  have mc := List.mem_of_getElem? hc
  have mE := List.mem_of_getElem? he
  have lt := asc_get L.a hc he (by omega)
  have K := okF_piece (L.v c mc) (L.v e mE) lt (Bn.n c mc) (Bn.d c mc) (Bn.n e mE) (Bn.d e mE)
  have B := all j c e hc he
  have st := bestF_stp (L.v e mE) K B
  refine ⟨st, ?_, fun r s s0 h => ?_, ?_⟩
  · rw [← liesB_mem L st]
    exact liesB_iff.mpr ⟨j, c, e, hc, he, bestF_inB (L.v c mc).toV (L.v e mE).toV st B.lo B.hi⟩
  · obtain ⟨i, c', e', hc', he', h⟩ := liesB_iff.mp h
    obtain ⟨l1, l2⟩ := inB_in (asc_get L.a hc' he' (by omega)) h
    have z := (all i c' e' hc' he').mi r s s0 l1 l2
    have := le i (List.getElem?_eq_some_iff.mp he').1
    omega
  · have z := (B.small K).2.1
    have := K.b1
    have := K.d1
    omega
theorem SimP.one {cs : List Cut} {p q p' q' : Int} (L : Lt cs) (S : SimP cs p q) (S' : SimP cs p' q') : p = p' ∧ q = q' := by
  have a := S.mi p' q' (by have := S'.st.p0; have := S'.st.pq; omega) (by rw [liesB_mem L S'.st]; exact S'.me)
  have b := S'.mi p q (by have := S.st.p0; have := S.st.pq; omega) (by rw [liesB_mem L S.st]; exact S.me)
  omega
end Mt
set_option Elab.async false
set_option linter.all false
set_option maxRecDepth 100000
set_option maxHeartbeats 4000000
/-! repr of such values, empty dicts too -/
namespace Gn
open PySem PySem.Spec PyProof.Rows L2
section
variable {X : Cx} {pins : List (Addr × Obj)} {σ : L2.St} {H : Hp} {s : Shared}
mutual
theorem An.reads (I : Inv X pins σ H s) : ∀ {v : V} {d : PyData} (u : Value), An X.K H v d → RelV v u → ∃ as, Reads s.heap u d as ∧ ∀ b ∈ as, b ≠ sysModules
  | _, _, _, .non, r => by
    cases r
    exact ⟨_, Reads.none, fun _ h => nomatch h⟩
  | _, _, _, .bl b, r => by
    cases r
    exact ⟨_, Reads.bool b, fun _ h => nomatch h⟩
  | _, _, _, .int i, r => by
    obtain ⟨t, rfl⟩ := r
    exact ⟨_, Reads.int i t, fun _ h => nomatch h⟩
  | _, _, _, .str x, r => by
    obtain ⟨t, rfl⟩ := r
    exact ⟨_, Reads.str x t, fun _ h => nomatch h⟩
  | _, _, _, .lst (a := a) h ne ha, r => by
    cases r
    obtain ⟨_, its, n, rv, ho⟩ := (show ObjOk X.prog X.w H s.heap a (.lst _) from I.hok a _ h)
    obtain ⟨as, hr, hn⟩ := AnAll.reads I its ha rv
    refine ⟨_, Reads.list ho rfl rfl hr, fun b hb => ?_⟩
    rcases List.mem_cons.mp hb with rfl | hb
    · exact ne
    · exact hn b hb
  | _, _, _, .tup (a := a) h ha, r => by
    cases r
    obtain ⟨_, its, rv, o, ho, hc, n, hd⟩ := (show ObjOk X.prog X.w H s.heap a (.tup _) from I.hok a _ h)
    obtain ⟨as, hr, hn⟩ := AnAll.reads I its ha rv
    exact ⟨_, Reads.tuple ho hc hd hr, hn⟩
  | _, _, _, .dct (a := a) h, r => by
    cases r
    obtain ⟨_, nm, vs, kv, o, es, ep, ho, ex, hd, _, pr, _⟩ := (show ObjOk X.prog X.w H s.heap a (.dK []) from I.hok a _ h)
    cases kv
    have e0 : es.toList = [] := by cases hq : es.toList with
      | nil => rfl
      | cons z zs => rw [hq] at pr; cases pr
    refine ⟨_, Reads.dict (as := []) (bs := []) (kvs := []) ho ex.1 hd (by rw [e0]; exact .nil) (by rw [e0]; exact .nil), fun b hb => ?_⟩
    rcases List.mem_cons.mp hb with rfl | hb
    · exact fun z => by rw [z] at nm; cases nm
    · cases hb
theorem AnAll.reads (I : Inv X pins σ H s) : ∀ {vs : List V} {ds : List PyData} (us : List Value), AnAll X.K H vs ds → Vals vs us → ∃ as, ReadsAll s.heap us ds as ∧ ∀ b ∈ as, b ≠ sysModules
  | _, _, _, .nil, r => by
    cases r
    exact ⟨_, ReadsAll.nil, fun _ h => nomatch h⟩
  | _, _, _, .cons h1 h2, r => by
    cases r with
    | cons r1 r2 =>
      obtain ⟨as, q1, n1⟩ := An.reads I _ h1 r1
      obtain ⟨bs, q2, n2⟩ := AnAll.reads I _ h2 r2
      exact ⟨_, ReadsAll.cons q1 q2, fun b hb => (List.mem_append.mp hb).elim (n1 b) (n2 b)⟩
end
end
section
variable {X : Cx}
/-- repr(x), x a list or a tuple of such data -/
def rReprA (K : PySem.W.Frag) : List V → Hp → VK → Prop := fun xs H Q => ∃ a d, xs = [V.ref a] ∧ An K H (.ref a) d ∧ d.showable = true ∧ d.depth < 60 ∧ d.shown.length ≤ sizeLine ∧ Q (.str d.shown) H
theorem cr_reprA (hg : X.A.guards = some []) (hu : X.A.units + 64 < cLine) : CallR X (.builtin "repr") (rReprA X.K) := by
  intro pins s σ H xs us Q I r h
  obtain ⟨a, d, rfl, hd, hs, hdp, hz, q⟩ := h
  rw [Vals.ref1 r]
  obtain ⟨as, rd, hn⟩ := An.reads I _ hd rfl
  exact repr_of_reads' rd hs (fun _ hm => hn _ hm rfl) hg (by omega) (fun _ _ e => e) (fun h' u tk k => ⟨.str d.shown, H, I.kept (t' := tk) k, ⟨u, rfl⟩, q⟩) hz
/-- a list display, its place told not to be that of the modules' dict -/
def tLstZ (t : TA) : TE := fun σ H Q => t σ H fun xs H1 => xs.length ≤ sizeLine ∧ ∀ p, H1 p = none → p ≠ sysModules → Q (.ref p) (upd H1 p (.lst xs))
theorem pe_lstZ {es : List Expr} {pos : Pos} {t : TA} (h : PA X es t) : PE X (.List es pos) (tLstZ t) := by
  refine ⟨fun pins s σ H Q I hq => ?_⟩
  refine wpAny_List_spliced (thn (h.run pos pins s σ H _ I hq) fun us s1 ⟨xs, H1, I1, r, z, q⟩ => ⟨by rw [← r.length]; exact z, ?_⟩)
  have hf : H1 s1.heap.objs.size = none := I1.hok.fresh (Nat.le_refl _)
  refine ⟨.ref s1.heap.objs.size, upd H1 s1.heap.objs.size (.lst xs), I1.laid (t' := s1.toks) (fun b u e => Heap.get?_push_of_some _ e) (Nat.le_refl _) ?_, rfl, q _ hf (Nat.ne_of_gt I1.big)⟩
  exact ⟨z, us, 0, r, Heap.get?_push_size _ rfl⟩
/-- x != y, two lists, y empty: whatever x has -/
def rNeNil (K : PySem.W.Frag) : R2 := fun x y H Q => ∃ a b xs, x = .ref a ∧ y = .ref b ∧ SqL K H a xs ∧ SqL K H b [] ∧ Q (.bl (!xs.isEmpty)) H
theorem op_neNil (hu : X.A.units < cLine) : OpR X (compareOp .NotEq) (rNeNil X.K) := by
  intro pins s σ H x y v u Q I rx ry h
  obtain ⟨a, b, xs, rfl, rfl, ha, hb, q⟩ := h
  cases (show v = Value.ref a from rx)
  cases (show u = Value.ref b from ry)
  obtain ⟨us, r1, p1, _⟩ := I.list ha
  obtain ⟨ws, r2, p2, _⟩ := I.list hb
  cases r2
  cases r1 with
  | nil => exact SeqAt.RcNeAt.lists (e := fun _ => true) p1.isList p2.isList rfl hu (fun j h1 h2 => absurd h2 (Nat.not_lt_zero j)) _ _ _ _ ⟨.bl _, H, I, rfl, q⟩
  | cons r1 r2 => exact SeqAt.RcNeAt.lists_lengths p1.isList p2.isList (by simp) hu _ _ _ _ ⟨.bl _, H, I, rfl, q⟩
end
end Gn
set_option Elab.async false
set_option linter.all false
set_option maxRecDepth 100000
set_option maxHeartbeats 4000000
/-! min of a list of pairs of ints -/
namespace Gn
open PySem PySem.Spec PyProof.Rows L2
def pairD (t : Addr × Int × Int) : PyData := .tuple [.int t.2.1, .int t.2.2]
def pairLe (t u : Addr × Int × Int) : Prop := t.2.1 < u.2.1 ∨ (t.2.1 = u.2.1 ∧ t.2.2 ≤ u.2.2)
/-- the least item: one of the list, none below it -/
theorem minD_ok : ∀ (l : List (Addr × Int × Int)) (t : Addr × Int × Int), ∃ u, (u = t ∨ u ∈ l) ∧ PySem.W.minD (pairD t) (l.map pairD) = pairD u ∧ pairLe u t ∧ ∀ v ∈ l, pairLe u v
  | [], t => ⟨t, .inl rfl, rfl, .inr ⟨rfl, Int.le_refl _⟩, fun v m => by cases m⟩
  | x :: l, t => by
    have e : PySem.W.minD (pairD t) ((x :: l).map pairD) = PySem.W.minD (if PySem.W.dataLt (pairD x) (pairD t) = true then pairD x else pairD t) (l.map pairD) := rfl
    rw [e]
    have lt : PySem.W.dataLt (pairD x) (pairD t) = decide (x.2.1 < t.2.1 ∨ (x.2.1 = t.2.1 ∧ x.2.2 < t.2.2)) := PySem.W.dataLt_ii ..
    by_cases c : x.2.1 < t.2.1 ∨ (x.2.1 = t.2.1 ∧ x.2.2 < t.2.2)
    · rw [lt, decide_eq_true c, if_pos rfl]
      obtain ⟨u, m, eu, l1, l2⟩ := minD_ok l x
      refine ⟨u, .inr ?_, eu, ?_, fun v mv => ?_⟩
      · rcases m with rfl | m
        · exact List.mem_cons_self
        · exact List.mem_cons_of_mem _ m
      · unfold pairLe at l1 ⊢; omega
      · rcases List.mem_cons.mp mv with rfl | mv
        · exact l1
        · exact l2 v mv
    · rw [lt, decide_eq_false c, if_neg (by decide)]
      obtain ⟨u, m, eu, l1, l2⟩ := minD_ok l t
      refine ⟨u, ?_, eu, l1, fun v mv => ?_⟩
      · rcases m with rfl | m
        · exact .inl rfl
        · exact .inr (List.mem_cons_of_mem _ m)
      · rcases List.mem_cons.mp mv with rfl | mv
        · unfold pairLe at l1 ⊢; omega
        · exact l2 v mv
def rMinP (K : PySem.W.Frag) : List V → Hp → VK → Prop := fun vs H Q => ∃ (a : Addr) (ts : List (Addr × Int × Int)), vs = [V.ref a] ∧ SqL K H a (ts.map fun t => V.ref t.1) ∧ (∀ t ∈ ts, H t.1 = some (.tup [.int t.2.1, .int t.2.2])) ∧ ts ≠ [] ∧ ∀ t ∈ ts, (∀ u ∈ ts, pairLe t u) → Q (.ref t.1) H
section
variable {X : Cx}
theorem pairs_an {K : PySem.W.Frag} {H : Hp} : ∀ {ts : List (Addr × Int × Int)}, (∀ t ∈ ts, H t.1 = some (.tup [.int t.2.1, .int t.2.2])) → AnAll K H (ts.map fun t => V.ref t.1) (ts.map pairD)
  | [], _ => .nil
  | t :: ts, h => .cons (.tup (h t List.mem_cons_self) (.cons (.int _) (.cons (.int _) .nil))) (pairs_an fun u m => h u (List.mem_cons_of_mem _ m))
theorem pairs_depth : ∀ ts : List (Addr × Int × Int), PyData.depthAll (ts.map pairD) ≤ 1
  | [] => Nat.zero_le _
  | t :: ts => by
    rw [List.map_cons, PyData.depthAll]
    exact Nat.max_le.mpr ⟨(show (1 : Nat) ≤ 1 from Nat.le_refl 1), pairs_depth ts⟩
theorem reads_pair {h : Heap} {v : Value} {t u : Addr × Int × Int} {as bs : List Addr} (r : Reads h v (pairD t) as) (r' : Reads h v (pairD u) bs) : t.2 = u.2 := by
  have e := (Reads.unique r _ _ r').1
  unfold pairD at e
  have e := PyData.tuple.inj e
  have e1 := PyData.int.inj (List.cons.inj e).1
  have e2 := PyData.int.inj (List.cons.inj (List.cons.inj e).2).1
  exact Prod.ext e1 e2
theorem cr_minP (hc : X.calm = true) (hu : X.A.units + 64 < cLine) : CallR X (.builtin "min") (rMinP X.K) := by
  intro pins s σ H vs us Q I r h
  obtain ⟨a, ts, rfl, hs, al, ne, q⟩ := h
  obtain ⟨its, rv, hl, _⟩ := I.list hs
  rw [Vals.ref1 r]
  cases ts with
  | nil => exact absurd rfl ne
  | cons t0 tl =>
    have an := pairs_an (K := X.K) al
    obtain ⟨as, rd, _⟩ := AnAll.reads I its an rv
    have dp := pairs_depth (t0 :: tl)
    refine PySem.W.min_list_data (I.ok.hd hc) hl.isList (by simpa using rd) ⟨fun x hx y hy => ?_, fun x hx => ?_⟩ (by
      rw [List.map_cons] at dp
      omega) fun i v h' tk bs hv r2 hk => ?_
    · rw [← List.map_cons] at hx hy
      obtain ⟨p, _, rfl⟩ := List.mem_map.mp hx
      obtain ⟨p', _, rfl⟩ := List.mem_map.mp hy
      rfl
    · rw [← List.map_cons] at hx
      obtain ⟨p, _, rfl⟩ := List.mem_map.mp hx
      exact fun z => nomatch z
    · -- the item that stands at i
      have hv2 : its[i]? = some v := by rw [← hv]; simp
      obtain ⟨t, ht, rx⟩ : ∃ t, (t0 :: tl)[i]? = some t ∧ RelV (V.ref t.1) v := by
        have li := (List.getElem?_eq_some_iff.mp hv2).1
        have ll := rv.length
        rw [List.length_map] at ll
        obtain ⟨t, ht⟩ : ∃ t, (t0 :: tl)[i]? = some t := ⟨_, List.getElem?_eq_getElem (by omega)⟩
        obtain ⟨u, hu', ru⟩ := Vals.get (x := V.ref t.1) rv (by rw [List.getElem?_map, ht]; rfl)
        rw [hv2] at hu'
        cases hu'
        exact ⟨t, ht, ru⟩
      have mt := List.mem_of_getElem? ht
      obtain ⟨u, mu, eu, l1, l2⟩ := minD_ok tl t0
      rw [eu] at r2
      -- what it reads as
      have ant : An X.K H (.ref t.1) (pairD t) := .tup (al t mt) (.cons (.int _) (.cons (.int _) .nil))
      obtain ⟨as2, r3, _⟩ := An.reads I v ant rx
      have e := reads_pair (Reads.keeps hk r3) r2
      refine ⟨.ref t.1, H, I.kept hk, rx, q t mt fun w mw => ?_⟩
      unfold pairLe
      rw [e]
      rcases List.mem_cons.mp mw with rfl | mw
      · exact l1
      · exact l2 w mw
end
end Gn
set_option Elab.async false
set_option linter.all false
set_option maxRecDepth 100000
set_option maxHeartbeats 8000000
set_option exponentiation.threshold 4000
namespace My
open PySem PySem.Spec PyProof.Rows L2 Gn Mt
abbrev s_has : Stmt := top 36
theorem sc_has : FnScope ["lot", "step", "ahead", "piece", "begin", "end"] ["lot", "step"] (defScope s_has) := ⟨rfl, rfl, rfl, by decide +kernel, rfl, by decide +kernel, by decide +kernel⟩
abbrev s_check_lot : Stmt := top 38
theorem sc_check_lot : FnScope ["given"] ["given"] (defScope s_check_lot) := ⟨rfl, rfl, rfl, by decide +kernel, rfl, by decide +kernel, by decide +kernel⟩
abbrev s_simplest : Stmt := top 37
section
variable {K : PySem.W.Frag} {H : Hp}
theorem dps_get : ∀ {xs : List V} {ds : List PyData}, DpAll K H xs ds → ∀ {i : Nat} {x : V}, xs[i]? = some x → ∃ d, ds[i]? = some d ∧ Dp K H x d
  | _, _, .nil, i, x, h => by simp at h
  | _, _, .cons a b, 0, x, h => by cases h; exact ⟨_, rfl, a⟩
  | _, _, .cons a b, i + 1, x, h => dps_get b h
theorem dps_at : ∀ {xs : List V} {ds : List PyData}, DpAll K H xs ds → ∀ {i : Nat} {d : PyData}, ds[i]? = some d → ∃ x, xs[i]? = some x ∧ Dp K H x d
  | _, _, .nil, i, x, h => by simp at h
  | _, _, .cons a b, 0, x, h => by cases h; exact ⟨_, rfl, a⟩
  | _, _, .cons a b, i + 1, x, h => dps_at b h
theorem dps_len : ∀ {xs : List V} {ds : List PyData}, DpAll K H xs ds → xs.length = ds.length
  | _, _, .nil => rfl
  | _, _, .cons _ b => congrArg Nat.succ (dps_len b)
theorem dps_snoc : ∀ {xs : List V} {ds : List PyData} {x : V} {d : PyData}, DpAll K H xs ds → Dp K H x d → DpAll K H (xs ++ [x]) (ds ++ [d])
  | _, _, _, _, .nil, h => .cons h .nil
  | _, _, _, _, .cons a b, h => .cons a (dps_snoc b h)
theorem tup_inv {v : V} {ds : List PyData} (h : Dp K H v (.tuple ds)) : ∃ a xs, v = .ref a ∧ SqT K H a xs ∧ DpAll K H xs ds := by
  cases h with
  | tup a b => exact ⟨_, _, rfl, a, b⟩
theorem lst_inv {v : V} {ds : List PyData} (h : Dp K H v (.list ds)) : ∃ a xs, v = .ref a ∧ SqL K H a xs ∧ DpAll K H xs ds := by
  cases h with
  | lst a b => exact ⟨_, _, rfl, a, b⟩
end
theorem pcs_get : ∀ {cs : List Cut} {i : Nat} {d : PyData}, (pcsD cs)[i]? = some d → ∃ c e, cs[2 * i]? = some c ∧ cs[2 * i + 1]? = some e ∧ d = pcD c e
  | c :: e :: r, 0, d, h => ⟨c, e, rfl, rfl, (Option.some.inj h).symm⟩
  | c :: e :: r, i + 1, d, h => by
    obtain ⟨a, b, h1, h2, h3⟩ := pcs_get (cs := r) (i := i) h
    refine ⟨a, b, ?_, ?_, h3⟩
    · rw [show 2 * (i + 1) = 2 * i + 1 + 1 by omega]; exact h1
    · rw [show 2 * (i + 1) + 1 = 2 * i + 1 + 1 + 1 by omega]; exact h2
  | [], i, d, h => by simp [pcsD] at h
  | [c], i, d, h => by simp [pcsD] at h
theorem pcs_noL : ∀ {cs : List Cut} {d : PyData}, d ∈ pcsD cs → noL d = true
  | c :: e :: r, d, h => by
    rcases List.mem_cons.mp h with rfl | h
    · rfl
    · exact pcs_noL (cs := r) h
  | [], _, h => nomatch h
  | [_], _, h => nomatch h
theorem pcs_len : ∀ {cs : List Cut}, odd cs.length = false → 2 * (pcsD cs).length = cs.length
  | [], _ => rfl
  | [c], h => by simp [odd] at h
  | c :: e :: r, h => by
    have := pcs_len (cs := r) (by simpa [odd] using h)
    show 2 * ((pcsD r).length + 1) = r.length + 1 + 1
    omega
theorem pcs_at {cs : List Cut} (h : odd cs.length = false) {i : Nat} (hi : i < (pcsD cs).length) : ∃ c e, cs[2 * i]? = some c ∧ cs[2 * i + 1]? = some e ∧ (pcsD cs)[i]? = some (pcD c e) := by
  obtain ⟨c, e, h1, h2, h3⟩ := pcs_get (List.getElem?_eq_getElem hi)
  exact ⟨c, e, h1, h2, by rw [← h3]; exact List.getElem?_eq_getElem hi⟩
theorem asc_at {cs : List Cut} (h : Asc cs) {i j : Nat} {c e : Cut} (hc : cs[i]? = some c) (he : cs[j]? = some e) (lt : i < j) : c.lt e = true := by
  obtain ⟨li, rfl⟩ := List.getElem?_eq_some_iff.mp hc
  obtain ⟨lj, rfl⟩ := List.getElem?_eq_some_iff.mp he
  exact List.pairwise_iff_getElem.mp h i j li lj lt
theorem evens_at {α : Type} : ∀ (l : List α) (i : Nat), (evens l)[i]? = l[2 * i]?
  | [], i => by simp [evens]
  | [a], 0 => rfl
  | [a], i + 1 => by simp [evens]
  | a :: b :: r, 0 => rfl
  | a :: b :: r, i + 1 => by
    rw [show 2 * (i + 1) = 2 * i + 1 + 1 by omega]
    exact evens_at r i
theorem evens_both {α : Type} : ∀ (l : List α), odd l.length = false → 2 * (evens l).length = l.length ∧ 2 * (evens (l.drop 1)).length = l.length
  | [], _ => ⟨rfl, rfl⟩
  | [a], h => by simp [odd] at h
  | [a, b], _ => ⟨rfl, rfl⟩
  | [a, b, c], h => by simp [odd] at h
  | a :: b :: c :: d :: r, h => by
    obtain ⟨h1, h2⟩ := evens_both (c :: d :: r) (by simpa [odd] using h)
    refine ⟨?_, ?_⟩
    · show 2 * ((evens (c :: d :: r)).length + 1) = (c :: d :: r).length + 1 + 1
      omega
    · show 2 * ((evens ((c :: d :: r).drop 1)).length + 1) = (c :: d :: r).length + 1 + 1
      omega
/-! of lots: whether it is one, whether a step belongs, the simplest step -/
/-- what isinstance(x, Lot) asks of the class -/
structure LotI (K : PySem.W.Frag) (C : Addr) : Prop where
  ca : PySem.W.findIn K (.ref C) "__class__" = some (some (.builtin "object.__class__"))
  cn : PySem.W.specialIn K (.builtin "object.__class__") "__get__" = some (some (.builtin "getset_descriptor.__get__"))
  ct : PySem.W.takesIn K (.builtin "object.__class__") = some true
  cm : PySem.W.mroIn K C (.type "object") = some true
  yes : PySem.W.kitOne K (.ref C) (.ref C) = some true
/-- one of the class C is raised, without attributes -/
def ThrownN (C : Addr) (H : Hp) (E : XK) : Prop := ∀ d H', Same H H' → (∀ y, d = some y → H' y = some (.xd [])) → E (.ref C) d H'
theorem ThrownN.same {C : Addr} {H H1 : Hp} {E : XK} (t : ThrownN C H E) (s : Same H H1) : ThrownN C H1 E := fun d H' s2 h => t d H' (s.trans s2) h
theorem thr_0 {K : PySem.W.Frag} {C : Addr} {σ : L2.St} {H : Hp} {Q : XK} (T : OwC K C) (k : ThrownN C H Q) : tThr C (spIni K []) [] tNil σ H Q := by
  refine ⟨Nat.le_of_ble_eq_true rfl, fun a ha => ⟨a, C, [], rfl, rfl, T, (fun f hf => by cases hf), upd_same, fun H2 bt kt => ⟨rfl, ?_⟩⟩⟩
  rcases kt with ⟨_, h⟩ | ⟨d, hd, h1, h2⟩
  · refine .inr ⟨h, k none _ (fun b o z => ?_) (fun y z => by cases z)⟩
    rw [del_ne (ne_of_none z ha)]
    exact bt b o (ne_of_none z ha) (by rw [upd_ne (ne_of_none z ha)]; exact z)
  · have da : d ≠ a := fun z => by
      rw [z, upd_same] at hd
      cases hd
    have hd1 : H d = none := by
      rw [upd_ne da] at hd
      exact hd
    refine .inl ⟨d, _, h1, h2, hd1, k (some d) _ (fun b o z => ?_) (fun y z => by cases z; exact upd_same)⟩
    rw [upd_ne (ne_of_none z hd1), del_ne (ne_of_none z ha)]
    exact bt b o (ne_of_none z ha) (by rw [upd_ne (ne_of_none z ha)]; exact z)
abbrev NSI : List Str := ["lot", "steps", "top", "bottom", "low", "high", "first", "last"]
theorem sc_simplest : FnScope NSI ["lot"] (defScope s_simplest) := ⟨rfl, rfl, rfl, by decide +kernel, rfl, by decide +kernel, by decide +kernel⟩
def spChkL (C : Addr) : Sp := fun vs H Q _ => ∃ x dx fs, vs = [.ref x] ∧ H x = some (.ins C dx fs) ∧ Q .non H
def spHas (K : PySem.W.Frag) (C : Addr) : Sp := fun vs H Q _ => ∃ (v : V) (cs : List Cut) (t : Addr) (p q : Int), vs = [v, .ref t] ∧ LotAt K C H v cs ∧ LtL cs ∧ H t = some (.tup [.int p, .int q]) ∧ Stp p q ∧ q.natAbs < 2 ^ 200 ∧ ∀ H', Same H H' → Q (.bl (mem cs (at' p q))) H'
def spSimp (K : PySem.W.Frag) (C CN : Addr) : Sp := fun vs H Q E => ∃ (v : V) (cs : List Cut), vs = [v] ∧ LotAt K C H v cs ∧ Lt cs ∧ Bnd cs ∧ cs.length ≤ 100 ∧ (cs = [] → ThrownN CN H E) ∧ (cs ≠ [] → ∀ p q r H', SimP cs p q → Same H H' → H' r = some (.tup [.int p, .int q]) → Q (.ref r) H')
/-- what these ask of the module -/
structure Ls (P : Program) (w : World) (K : PySem.W.Frag) (mg : Str → Option Value) (C : Addr) where
  LI : LotI K C
  c : Bc mg
  si : SiF K mg
  min : mg "min" = none
  ii : Addr × FuncData
  d_ii : Df K mg "is_integer" sIsInt ["given"] ii.1 ii.2
  fr : Addr × FuncData
  d_fr : Df K mg "is_fraction" sIsFr ["given"] fr.1 fr.2
  st : Addr × FuncData
  d_st : Df K mg "is_step" sIsStep ["given"] st.1 st.2
  cs : Addr × FuncData
  d_cs : Df K mg "check_step" sChStep ["given"] cs.1 cs.2
  cl : Addr × FuncData
  d_cl : Df K mg "check_lot" s_check_lot ["given"] cl.1 cl.2
  cu : Addr × FuncData
  d_cu : Df K mg "_cuts_at" s__cuts_at ["piece"] cu.1 cu.2
  ah : Addr × FuncData
  d_ah : Df K mg "_is_ahead" s__is_ahead ["cut", "other"] ah.1 ah.2
  le : Addr × FuncData
  d_le : Df K mg "is_less" s_is_less ["one", "other"] le.1 le.2
theorem stp_is {p q : Int} (s : Stp p q) : IsStep p q := ⟨s.p0, s.pq, s.co⟩
/-- the getter, what it gives named -/
def spGet (C : Addr) : Sp := fun vs H Q _ => ∃ x dx v, vs = [V.ref x] ∧ H x = some (.ins C dx [("_pieces", v)]) ∧ Q v H
section
variable {P : Program} {w : World} {K : PySem.W.Frag} {mg : Str → Option Value} {base : Heap} {C fI fP CN : Addr} {fdI fdP : FuncData}
theorem ok_lget (T : LotC P w K mg C fI fP fdI fdP) : FnOk P w K mg base CX0 1 fP fdP ["self"] (spGet C) := by
  refine T.FP.ok sc_lpieces (fun vs H Q E h => ?_) (fun cdv A outer s H vs Q E hr h => ?_)
  · obtain ⟨x, dx, v, rfl, _⟩ := h
    rfl
  · obtain ⟨x, dx, v, rfl, hx, k⟩ := h
    exact ⟨_, pss_one (ps_ret (L2.pe_fld (pv 0) rfl)), ⟨_, rfl, x, C, dx, _, v, rfl, hx, T.cl, T.nP, rfl, k⟩⟩
theorem ok_chkL {f : Addr} {fd : FuncData} (F : Fun K "check_lot" "check_lot" s_check_lot f fd) (T : LotC P w K mg C fI fP fdI fdP) (LI : LotI K C) (B : Bc mg) : FnOk P w K mg base CX0 1 f fd ["given"] (spChkL C) := by
  refine F.ok sc_check_lot (fun vs H Q E h => ?_) (fun cdv A outer s H vs Q E hr h => ?_)
  · obtain ⟨x, dx, fs, rfl, _⟩ := h
    rfl
  · obtain ⟨x, dx, fs, rfl, hx, k⟩ := h
    refine ⟨_, pss_one (ps_if (pt_not (pt_val (pe_callB (call_isi) (by rfl) B.isi (by decide +kernel) (pa_cons (pv 0) (pa_cons (pe_glob (v := .ref C) rfl T.mgC rfl) pa_nil))))) (pss_one ps_never) pss_nil), ?_⟩
    exact ⟨_, rfl, .ref x, .ref C, _, _, true, rfl, .own C, .base (.ins hx T.cl LI.ca LI.cn LI.ct LI.cm), LI.yes, _, rfl, iteF k⟩
theorem ok_has {f : Addr} {fd : FuncData} (F : Fun K "has" "has" s_has f fd) (T : LotC P w K mg C fI fP fdI fdP) (M : Ls P w K mg C) : FnOk P w K mg base CX0 5 f fd ["lot", "step"] (spHas K C) := by
  have GP : FnOk P w K mg base CX0 1 fP fdP ["self"] (spGet C) := ok_lget T
  have GC : FnOk P w K mg base CX0 1 M.cl.1 M.cl.2 ["given"] (spChkL C) := ok_chkL M.d_cl.F T M.LI M.c
  have GS : FnOk P w K mg base CX0 4 M.cs.1 M.cs.2 ["given"] (spIsSt .non) := ok_chStep M.d_cs.F M.c M.d_ii M.d_fr M.d_st
  have GU : FnOk P w K mg base CX0 1 M.cu.1 M.cu.2 ["piece"] (spCuts K) := ok_cuts M.d_cu.F
  have GA : FnOk P w K mg base CX0 2 M.ah.1 M.ah.2 ["cut", "other"] (spAhead K) := ok_ahead M.d_ah.F M.d_le
  obtain ⟨pP, hpP⟩ := T.pp
  refine F.ok sc_has (fun vs H Q E h => ?_) (fun cdv A outer s H vs Q E hr h => ?_)
  · obtain ⟨v, cs, t, p, q, rfl, _⟩ := h
    rfl
  · obtain ⟨v, cs, t, p, q, rfl, ⟨x, dx, a, rfl, hx, hda⟩, L, ht, st, qb, k⟩ := h
    have hr1 : Room 1 _ := hr.mono (by decide)
    have hr2 : Room 2 _ := hr.mono (by decide)
    have p0 := st.p0
    have pq := st.pq
    refine ⟨_, pss_cons (ps_expr (pe_call GC hr1 (by rfl) M.d_cl.g M.d_cl.F.kp M.d_cl.b .nil pass0 (pa_cons (pv 0) pa_nil))) (pss_cons (ps_expr (pe_call GS hr (by rfl) M.d_cs.g M.d_cs.F.kp M.d_cs.b .nil pass0 (pa_cons (pv 1) pa_nil))) (pss_cons (ps_set (i := 2) sc_has.nd rfl (.inl rfl) (pe_tup (pa_cons (pv 1) (pa_cons pe_int pa_nil)))) (pss_cons (ps_for PassesOwn.never rfl (pi_tup (pe_prop (pv 0) T.cl hpP GP hr2 T.bP .nil pass0 rfl)) (pg_name (i := 3) sc_has.nd rfl (.inl rfl)) (pss_cons (ps_asg (pe_call GU hr1 (by rfl) M.d_cu.g M.d_cu.F.kp M.d_cu.b .nil pass0 (pa_cons (pv 3) pa_nil)) (pg_tup (by rfl) (pgs_cons (pg_name (i := 4) sc_has.nd rfl (.inl rfl)) (pgs_cons (pg_name (i := 5) sc_has.nd rfl (.inl rfl)) pgs_nil)))) (pss_one (ps_if (PW.pt (pw_and (pt_not (pt_val (pe_call GA hr2 (by rfl) M.d_ah.g M.d_ah.F.kp M.d_ah.b .nil pass0 (pa_cons (pv 2) (pa_cons (pv 4) pa_nil))))) (pw_and1 (pt_val (pe_call GA hr2 (by rfl) M.d_ah.g M.d_ah.F.kp M.d_ah.b .nil pass0 (pa_cons (pv 2) (pa_cons (pv 5) pa_nil))))))) (pss_one (ps_ret pe_bl)) pss_nil)))) (pss_one (ps_ret pe_bl))))), ?_⟩
    refine ⟨_, rfl, x, dx, _, rfl, hx, ?_⟩
    refine ⟨_, rfl, t, p, q, rfl, ⟨ht, stp_is st⟩, ?_⟩
    refine ⟨_, rfl, (by show 2 ≤ sizeLine; decide), fun r nr => ?_⟩
    have s1 := same_put (o := HO.tup [V.ref t, V.int 0]) nr
    have g1 : upd H r (HO.tup [V.ref t, V.int 0]) r = some (.tup [V.ref t, V.int 0]) := upd_same
    generalize upd H r (HO.tup [V.ref t, V.int 0]) = H1 at *
    obtain ⟨a', xs, ea, ha, hxs⟩ := tup_inv hda
    cases ea
    have dA : Dp K H1 (.ref r) (cutD (at' p q)) := .tup (SqT.of g1) (.cons (.tup (SqT.of (s1 _ _ ht)) (.cons (.int _) (.cons (.int _) .nil))) (.cons (.int _) .nil))
    have lA : Lit ((at' p q).n, (at' p q).d) := ⟨Nat.lt_of_lt_of_le (show p.natAbs < 2 ^ 200 by omega) (Nat.pow_le_pow_right (by decide) (by decide)), Nat.lt_of_lt_of_le qb (Nat.pow_le_pow_right (by decide) (by decide))⟩
    rw [mem_memP st.In.toV L.toLt.av L.a L.e] at k
    have lx := dps_len hxs
    have l2 := pcs_len L.e
    refine nxI ⟨_, rfl, x, dx, _, rfl, s1 _ _ hx, x, dx, .ref a, rfl, s1 _ _ hx, a, rfl, ⟨_, sqT_same s1 ha⟩, for_tup (K := K) (a := a) (xs := xs) (fun i σ H' => ∃ (p3 p4 p5 : Option V), σ = [some (.ref x), some (.ref t), some (.ref r), p3, p4, p5] ∧ Same H1 H' ∧ ∀ (j : Nat) (c e : Cut), j < i → cs[2 * j]? = some c → cs[2 * j + 1]? = some e → inPc c e (at' p q) = false)
      ⟨none, none, none, rfl, Same.refl _, fun j c e h => absurd h (by omega)⟩ (fun i σ H' _ ⟨_, _, _, _, s, _⟩ => sqT_same (s1.trans s) ha) ?_ ?_⟩
    · rintro i y σ H2 hi ⟨p3, p4, p5, rfl, s2, no⟩
      obtain ⟨d, hd, dx⟩ := dps_get (dps_same (s1.trans s2) _ _ hxs) hi
      obtain ⟨c, e, hc, he, rfl⟩ := pcs_get hd
      refine ⟨_, rfl, _, c, e, rfl, dx, fun r2 x2 y2 H3 s3 nr2 hr2 d1 d2 => ?_⟩
      refine ⟨r2, _, rfl, SqT.of hr2, rfl, _, _, rfl, _, _, rfl, rfl, nxI ?_⟩
      refine ⟨_, rfl, _, rfl, _, _, at' p q, c, rfl, dp_same (s2.trans s3) _ _ dA, d1, lA, L.lit c (List.mem_of_getElem? hc), _, rfl, ?_⟩
      have go : inPc c e (at' p q) = false → ∃ (p3 p4 p5 : Option V), [some (V.ref x), some (.ref t), some (.ref r), some y, some x2, some y2] = [some (V.ref x), some (.ref t), some (.ref r), p3, p4, p5] ∧ Same H1 H3 ∧ ∀ (j : Nat) (c e : Cut), j < i + 1 → cs[2 * j]? = some c → cs[2 * j + 1]? = some e → inPc c e (at' p q) = false := fun z => ⟨_, _, _, rfl, s2.trans s3, fun j c' e' hj hc' he' => by
        by_cases w : j = i
        · subst w
          rw [hc] at hc'; rw [he] at he'
          cases hc'; cases he'
          exact z
        · exact no j c' e' (by omega) hc' he'⟩
      cases e1 : (at' p q).lt c with
      | true => exact iteF (nxI (go (by unfold inPc; rw [e1]; rfl)))
      | false =>
        refine iteT ⟨_, rfl, _, rfl, _, _, at' p q, e, rfl, dp_same (s2.trans s3) _ _ dA, d2, lA, L.lit e (List.mem_of_getElem? he), _, rfl, ?_⟩
        cases e2 : (at' p q).lt e with
        | false => exact iteF (nxI (go (by unfold inPc; rw [e1, e2]; rfl)))
        | true =>
          have y : memP cs (at' p q) = true := memP_iff.mpr ⟨i, c, e, hc, he, by unfold inPc; rw [e1, e2]; rfl⟩
          rw [y] at k
          exact iteT (k _ (s1.trans (s2.trans s3)))
    · rintro σ H2 ⟨p3, p4, p5, rfl, s2, no⟩
      have y : memP cs (at' p q) = false := by
        cases h : memP cs (at' p q) with
        | false => rfl
        | true =>
          obtain ⟨i, c, e, hc, he, z⟩ := memP_iff.mp h
          have := (List.getElem?_eq_some_iff.mp he).1
          rw [no i c e (by omega) hc he] at z
          cases z
      rw [y] at k
      exact k _ (s1.trans s2)
theorem ok_simplest {f : Addr} {fd : FuncData} (F : Fun K "simplest" "simplest" s_simplest f fd) (T : LotC P w K mg C fI fP fdI fdP) (M : Ls P w K mg C) {eN : Addr × FuncData} (tN : OwE P w K mg base "NoStep" [] CN eN.1 eN.2) : FnOk P w K mg base (L2N.CX P w) 4 f fd ["lot"] (spSimp K C CN) := by
  have GP : FnOk P w K mg base CX0 1 fP fdP ["self"] (spGet C) := ok_lget T
  have GC : FnOk P w K mg base CX0 1 M.cl.1 M.cl.2 ["given"] (spChkL C) := ok_chkL M.d_cl.F T M.LI M.c
  have GS : FnOk P w K mg base CX0 2 M.si.fm.1 M.si.fm.2 ["low", "high", "first", "last"] (spSimF K) := ok_simF M.si.m.F M.si
  obtain ⟨pP, hpP⟩ := T.pp
  refine okN F sc_simplest (fun vs H Q E h => ?_) (fun cdv A outer s H vs Q E hr h => ?_)
  · obtain ⟨v, cs, rfl, _⟩ := h
    rfl
  · obtain ⟨v, cs, rfl, ⟨x, dx, a, rfl, hx, hda⟩, L, Bn, few, kN, k⟩ := h
    have hr1 : Room 1 _ := hr.mono (by decide)
    have hr2 : Room 2 _ := hr.mono (by decide)
    have hu := hr.units
    have tk : L2N.Takes (cxOf (L2N.CX P w) P w K mg base NSI "simplest" (defScope s_simplest) f cdv A outer s H E) (fun C d _ G => E C d G) := L2N.takes_of rfl rfl rfl rfl
    refine ⟨_, pss_cons (ps_expr (pe_call GC hr1 (by rfl) M.d_cl.g M.d_cl.F.kp M.d_cl.b .nil pass0 (pa_cons (pv 0) pa_nil))) (pss_cons (ps_if (pt_not (pt_truth (pe_prop (pv 0) T.cl hpP GP hr2 T.bP .nil pass0 rfl) (by intro _; rfl))) (pss_one (L2N.ps_raise rfl tk (pmk_exoN0 (dvs := []) tN.own tN.ini tN.ty tN.run hr2 tN.b .nil pass0 (by rfl) tN.g))) pss_nil) (pss_cons ((ps_setLc (i := 1) (te := tCall (spSimF K) [] E0 (tCons (tVar 4) (tCons (tVar 5) (tCons (tVar 6) (tCons (tVar 7) tNil))))) (own := [("low", 4), ("high", 5), ("first", 6), ("last", 7)]) (g := (gTup K 4 (gCons (gName 4) (gCons (gName 5) (gCons (gName 6) (gCons (gName 7) gNil)))))) (tt := tYes) rfl sc_simplest.nd rfl rfl (sw_true rfl rfl rfl (by decide +kernel)) (pi_tup (pe_prop (pv 0) T.cl hpP GP hr2 T.bP .nil pass0 rfl)) (blkOk_by (N := NSI) (sc := defScope s_simplest) (by decide +kernel)) (fun _ _ _ _ _ => (pg_tup (by rfl) (pgs_cons (pg_name (i := 4) sc_simplest.nd rfl (.inl rfl)) (pgs_cons (pg_name (i := 5) sc_simplest.nd rfl (.inl rfl)) (pgs_cons (pg_name (i := 6) sc_simplest.nd rfl (.inl rfl)) (pgs_cons (pg_name (i := 7) sc_simplest.nd rfl (.inl rfl)) pgs_nil)))))) (fun _ _ _ _ _ => pts_nil) (fun _ _ _ _ _ => (pe_call GS hr2 (by rfl) M.si.m.g M.si.m.F.kp M.si.m.b .nil pass0 (pa_cons (pv 4) (pa_cons (pv 5) (pa_cons (pv 6) (pa_cons (pv 7) pa_nil)))))))) (pss_cons (ps_asg (pe_callB (cr_minP rfl hu) (by rfl) M.min (by decide +kernel) (pa_cons (pe_lc (te := tTup (tCons (tVar 3) (tCons (tVar 2) tNil))) (own := [("top", 2), ("bottom", 3)]) (g := (gTup K 2 (gCons (gName 2) (gCons (gName 3) gNil)))) (tt := tYes) rfl sc_simplest.nd (pi_list (pv 1)) (blkOk_by (N := NSI) (sc := defScope s_simplest) (by decide +kernel)) (fun _ _ _ _ _ => (pg_tup (by rfl) (pgs_cons (pg_name (i := 2) sc_simplest.nd rfl (.inl rfl)) (pgs_cons (pg_name (i := 3) sc_simplest.nd rfl (.inl rfl)) pgs_nil)))) (fun _ _ _ _ _ => pts_nil) (fun _ _ _ _ _ => (pe_tup (pa_cons (pv 3) (pa_cons (pv 2) pa_nil))))) pa_nil)) (pg_tup (by rfl) (pgs_cons (pg_name (i := 3) sc_simplest.nd rfl (.inl rfl)) (pgs_cons (pg_name (i := 2) sc_simplest.nd rfl (.inl rfl)) pgs_nil)))) (pss_one (ps_ret (pe_tup (pa_cons (pv 2) (pa_cons (pv 3) pa_nil)))))))), ?_⟩
    refine ⟨_, rfl, x, dx, _, rfl, hx, ?_⟩
    obtain ⟨a', xs, ea, ha, hxs⟩ := tup_inv hda
    cases ea
    have lx := dps_len hxs
    have l2 := pcs_len L.e
    refine ⟨_, rfl, x, dx, _, rfl, hx, x, dx, .ref a, rfl, hx, !xs.isEmpty, .inr (.inl ⟨xs, ha, rfl⟩), ?_⟩
    by_cases nil : cs = []
    · have e : xs = [] := List.eq_nil_of_length_eq_zero (by rw [lx, nil]; rfl)
      rw [e]
      exact iteT (thr_0 tN.own (kN nil))
    · have pos : 0 < xs.length := by
        have : cs.length ≠ 0 := fun z => nil (List.eq_nil_of_length_eq_zero z)
        omega
      have e : xs.isEmpty = false := by
        cases xs with
        | nil => simp at pos
        | cons _ _ => rfl
      rw [e]
      refine iteF ?_
      refine nxI ⟨_, rfl, x, dx, _, rfl, hx, x, dx, .ref a, rfl, hx, a, rfl, ⟨_, ha⟩, fun D nD => ?_⟩
      have s1 := same_put (o := HO.lst []) nD
      refine lc_tup (K := K) (a := a) (xs := xs) (fun j H' => ∃ ts : List (Addr × Int × Int), H' D = some (.lst (ts.map fun t => V.ref t.1)) ∧ ts.length = j ∧ (∀ t ∈ ts, H' t.1 = some (.tup [.int t.2.1, .int t.2.2])) ∧ (∀ (i : Nat) (t : Addr × Int × Int) (c e : Cut), ts[i]? = some t → cs[2 * i]? = some c → cs[2 * i + 1]? = some e → BestF c.n c.d e.n e.d (!c.b) e.b t.2.1 t.2.2) ∧ Same H H')
        ⟨[], upd_same, rfl, (fun t m => by cases m), (fun i t c e h => by simp at h), s1⟩ (fun j H' _ ⟨_, _, _, _, _, s⟩ => sqT_same s ha) ?_ ?_
      · rintro j y H1 hj ⟨ts, hD, lt, al, best, e1⟩
        obtain ⟨d, hd, dy⟩ := dps_get (dps_same e1 _ _ hxs) hj
        obtain ⟨c, e, hc, he, rfl⟩ := pcs_get hd
        obtain ⟨t', lo, hi, rfl, ht, dl, dh⟩ := pc_inv dy
        obtain ⟨al', rfl, hal⟩ := fr_inv dl
        obtain ⟨ah', rfl, hah⟩ := fr_inv dh
        have mc := List.mem_of_getElem? hc
        have me := List.mem_of_getElem? he
        have K1 := okF_piece (L.v c mc) (L.v e me) (asc_get L.a hc he (by omega)) (Bn.n c mc) (Bn.d c mc) (Bn.n e me) (Bn.d e me)
        refine ⟨t', _, rfl, ht, rfl, _, _, rfl, _, _, rfl, _, _, rfl, _, _, rfl, rfl, rfl, ?_⟩
        refine ⟨_, rfl, _, rfl, _, rfl, _, rfl, al', ah', c.n, c.d, e.n, e.d, !c.b, e.b, rfl, hal, hah, K1, fun p q r H2 B s2 hr => ?_⟩
        have hD2 := s2 _ _ hD
        have nr : r ≠ D := fun z => by rw [z, hD2] at hr; cases hr
        refine ⟨_, hD2, small1000 (by rw [List.length_map]; have := (List.getElem?_eq_some_iff.mp hj).1; omega), ts ++ [(r, p, q)], by rw [upd_same, List.map_append]; rfl, by rw [List.length_append, lt]; rfl, fun t m => ?_, fun i t c2 e2 h h1 h2 => ?_, fun b o z => ?_⟩
        · rcases List.mem_append.mp m with m | m
          · have z := s2 _ _ (al t m)
            rw [upd_ne (fun w => by rw [w, hD2] at z; cases z)]
            exact z
          · rw [List.mem_singleton.mp m, upd_ne nr]
            exact hr
        · rcases Nat.lt_or_ge i ts.length with w | w
          · rw [List.getElem?_append_left w] at h
            exact best i t c2 e2 h h1 h2
          · rw [List.getElem?_append_right w] at h
            have e0 : i - ts.length = 0 := by
              have := (List.getElem?_eq_some_iff.mp h).1
              simp at this
              omega
            have ei : i = j := by omega
            rw [e0] at h
            cases h
            rw [ei] at h1 h2
            rw [hc] at h1
            rw [he] at h2
            cases h1
            cases h2
            exact B
        · rw [upd_ne (ne_of_none z nD)]
          exact s2 _ _ (e1 _ _ z)
      · rintro H1 ⟨ts, hD, lt, al, best, e1⟩
        refine nxI ⟨_, rfl, D, rfl, ⟨_, SqL.of hD⟩, fun D2 nD2 => ?_⟩
        have s2 := same_put (o := HO.lst []) nD2
        refine lc_list (K := K) (a := D) (xs := ts.map fun t => V.ref t.1) (fun j H' => ∃ us : List (Addr × Int × Int), H' D2 = some (.lst (us.map fun t => V.ref t.1)) ∧ us.length = j ∧ (∀ t ∈ us, H' t.1 = some (.tup [.int t.2.1, .int t.2.2])) ∧ (∀ (i : Nat) (u t : Addr × Int × Int), us[i]? = some u → ts[i]? = some t → u.2 = (t.2.2, t.2.1)) ∧ Same H1 H')
          ⟨[], upd_same, rfl, (fun t m => by cases m), (fun i u t h => by simp at h), s2⟩ (fun j H' _ ⟨_, _, _, _, _, s⟩ => SqL.of (s _ _ hD)) ?_ ?_
        · rintro j y H2 hj ⟨us, hU, lu, au, eq, e2⟩
          rw [List.getElem?_map] at hj
          obtain ⟨t, ht, rfl⟩ := Option.map_eq_some_iff.mp hj
          have jl := (List.getElem?_eq_some_iff.mp ht).1
          have gt := e2 _ _ (al t (List.mem_of_getElem? ht))
          refine ⟨t.1, _, rfl, SqT.of gt, rfl, _, _, rfl, _, _, rfl, rfl, rfl, ?_⟩
          refine ⟨_, rfl, _, rfl, (by show 2 ≤ sizeLine; decide), fun p np => ?_⟩
          have s3 := same_put (o := HO.tup [V.int t.2.2, V.int t.2.1]) np
          have g3 : upd H2 p (HO.tup [V.int t.2.2, V.int t.2.1]) p = some (.tup [V.int t.2.2, V.int t.2.1]) := upd_same
          generalize upd H2 p (HO.tup [V.int t.2.2, V.int t.2.1]) = H3 at *
          have hU3 := s3 _ _ hU
          have nr : p ≠ D2 := fun z => by rw [z, hU3] at g3; cases g3
          refine ⟨_, hU3, small1000 (by rw [List.length_map]; omega), us ++ [(p, t.2.2, t.2.1)], by rw [upd_same, List.map_append]; rfl, by rw [List.length_append, lu]; rfl, fun u m => ?_, fun i u t2 h h1 => ?_, fun b o z => ?_⟩
          · rcases List.mem_append.mp m with m | m
            · have z := s3 _ _ (au u m)
              rw [upd_ne (fun w => by rw [w, hU3] at z; cases z)]
              exact z
            · rw [List.mem_singleton.mp m, upd_ne nr]
              exact g3
          · rcases Nat.lt_or_ge i us.length with w | w
            · rw [List.getElem?_append_left w] at h
              exact eq i u t2 h h1
            · rw [List.getElem?_append_right w] at h
              have e0 : i - us.length = 0 := by
                have := (List.getElem?_eq_some_iff.mp h).1
                simp at this
                omega
              have ei : i = j := by omega
              rw [e0] at h
              cases h
              rw [ei, ht] at h1
              cases h1
              rfl
          · rw [upd_ne (ne_of_none z nD2)]
            exact s3 _ _ (e2 _ _ z)
        · rintro H2 ⟨us, hU, lu, au, eq, e2⟩
          rw [List.length_map] at lu
          refine ⟨D2, us, rfl, SqL.of hU, au, fun z => by rw [z] at lu; simp at lu; omega, fun u mu le => ?_⟩
          refine ⟨u.1, _, rfl, SqT.of (au u mu), rfl, _, _, rfl, _, _, rfl, rfl, ?_⟩
          refine nxI ⟨_, rfl, _, rfl, (by show 2 ≤ sizeLine; decide), fun r nr => ?_⟩
          obtain ⟨j, hj⟩ := List.getElem?_of_mem mu
          have jl := (List.getElem?_eq_some_iff.mp hj).1
          obtain ⟨t, ht⟩ : ∃ t, ts[j]? = some t := ⟨_, List.getElem?_eq_getElem (by omega)⟩
          obtain ⟨c, e, hc, he, _⟩ := pcs_at L.e (i := j) (by omega)
          have eu := eq j u t hj ht
          have S : SimP cs u.2.2 u.2.1 := by
            have z := simP_of (ps := fun i => (ts.getD i (0, 0, 0)).2) L Bn (fun i c' e' h1 h2 => by
              have il : i < ts.length := by have := (List.getElem?_eq_some_iff.mp h2).1; omega
              have g : ts[i]? = some (ts.getD i (0, 0, 0)) := by rw [List.getD_eq_getElem?_getD, List.getElem?_eq_getElem il]; rfl
              exact best i _ c' e' g h1 h2) hc he (fun i hi => by
              have il : i < ts.length := by omega
              have g : ts[i]? = some (ts.getD i (0, 0, 0)) := by rw [List.getD_eq_getElem?_getD, List.getElem?_eq_getElem il]; rfl
              obtain ⟨v, hv⟩ : ∃ v, us[i]? = some v := ⟨_, List.getElem?_eq_getElem (by omega)⟩
              have ev := eq i v _ hv g
              have z := le v (List.mem_of_getElem? hv)
              unfold pairLe at z
              rw [eu, ev] at z
              have gj : ts.getD j (0, 0, 0) = t := by rw [List.getD_eq_getElem?_getD, ht]; rfl
              rw [gj]
              exact z)
            have gj : ts.getD j (0, 0, 0) = t := by rw [List.getD_eq_getElem?_getD, ht]; rfl
            rw [gj] at z
            rw [eu]
            exact z
          exact k nil _ _ r _ S (e1.trans (e2.trans (same_put nr))) upd_same
end
end My
set_option Elab.async false
set_option linter.all false
set_option maxRecDepth 100000
set_option maxHeartbeats 8000000
set_option exponentiation.threshold 4000
namespace My
open PySem PySem.Spec PyProof.Rows L2 Gn Mt
abbrev s_fraction_text : Stmt := top 39
theorem sc_fraction_text : FnScope ["fraction", "top", "bottom"] ["fraction"] (defScope s_fraction_text) := ⟨rfl, rfl, rfl, by decide +kernel, rfl, by decide +kernel, by decide +kernel⟩
abbrev s__text_of : Stmt := top 44
theorem sc__text_of : FnScope ["pieces"] ["pieces"] (defScope s__text_of) := ⟨rfl, rfl, rfl, by decide +kernel, rfl, by decide +kernel, by decide +kernel⟩
abbrev s__word_of : Stmt := top 45
theorem sc__word_of : FnScope ["piece", "low", "high", "first", "last", "opening", "closing"] ["piece"] (defScope s__word_of) := ⟨rfl, rfl, rfl, by decide +kernel, rfl, by decide +kernel, by decide +kernel⟩
abbrev s__digits_of : Stmt := top 46
theorem sc__digits_of : FnScope ["number", "groups", "group"] ["number"] (defScope s__digits_of) := ⟨rfl, rfl, rfl, by decide +kernel, rfl, by decide +kernel, by decide +kernel⟩
theorem same_updQ {H H1 : Hp} {D : Addr} {o : HO} (s : Same H H1) (n : H D = none) : Same H (upd H1 D o) := fun b z e => by
  rw [upd_ne (ne_of_none e n)]
  exact s b z e
/-! texts of lots -/
theorem scTextX : FnScope ["pieces", "piece"] ["pieces"] (defScope s__text_of) := ⟨rfl, rfl, rfl, by decide +kernel, rfl, by decide +kernel, by decide +kernel⟩
def numT (i : Int) : Str := PySem.Str.ofString (toString i)
def frT (p : Int × Int) : Str := ((Str.empty ++ numT p.1) ++ ("/" : Str)) ++ numT p.2
def wordT (c e : Cut) : Str :=
  if c.n = e.n ∧ c.d = e.d then ((Str.empty ++ ("[" : Str)) ++ frT (c.n, c.d)) ++ ("]" : Str)
  else ((((Str.empty ++ (if (!c.b) = true then ("[" : Str) else ("(" : Str))) ++ frT (c.n, c.d)) ++ ("," : Str)) ++ frT (e.n, e.d)) ++ (if e.b = true then ("]" : Str) else (")" : Str))
def wordsT : List Cut → List Str
  | c :: e :: r => wordT c e :: wordsT r
  | _ => []
def textT (cs : List Cut) : Str := if pcsD cs = [] then ("none" : Str) else Txt.join (" " : Str) (wordsT cs)
theorem words_at : ∀ {cs : List Cut} {i : Nat} {c e : Cut}, cs[2 * i]? = some c → cs[2 * i + 1]? = some e → (wordsT cs)[i]? = some (wordT c e)
  | [], i, c, e, h, _ => by simp at h
  | [a], i, c, e, _, k => by
    have := (List.getElem?_eq_some_iff.mp k).1
    simp at this
  | a :: b :: r, i, c, e, h, k => by
    cases i with
    | zero => cases h; cases k; rfl
    | succ i =>
      rw [show 2 * (i + 1) = 2 * i + 1 + 1 by omega] at h
      rw [show 2 * (i + 1) + 1 = 2 * i + 1 + 1 + 1 by omega] at k
      exact words_at (cs := r) h k
theorem words_len : ∀ cs : List Cut, (wordsT cs).length = (pcsD cs).length
  | [] => rfl
  | [_] => rfl
  | _ :: _ :: r => by rw [wordsT, pcsD, List.length_cons, List.length_cons, words_len r]
def Smi (i : Int) : Prop := 0 ≤ i ∧ i < 2 ^ 62
theorem log_of {i : Int} (h : Smi i) : i.natAbs.log2 < 1920 := Nat.lt_of_lt_of_le (PySem.Flt.log2_lt_of (k := 62) (by decide) (by have := h.1; have := h.2; omega)) (by decide)
theorem numT_len {i : Int} (h : Smi i) : (numT i).length ≤ 1921 := int_text_len_1921 (log_of h)
theorem frT_len {p : Int × Int} (h1 : Smi p.1) (h2 : Smi p.2) : (frT p).length ≤ 3850 := by
  have a := numT_len h1
  have b := numT_len h2
  unfold frT
  rw [strLen_append, strLen_append, strLen_append]
  have e : Str.empty.length = 0 := rfl
  have f : ("/" : Str).length = 1 := by decide
  omega
theorem wordT_len {c e : Cut} (h1 : Smi c.n) (h2 : Smi c.d) (h3 : Smi e.n) (h4 : Smi e.d) : (wordT c e).length ≤ 8000 := by
  have a := frT_len (p := (c.n, c.d)) h1 h2
  have b := frT_len (p := (e.n, e.d)) h3 h4
  have e0 : Str.empty.length = 0 := rfl
  have e1 : ("[" : Str).length = 1 := by decide
  have e2 : ("]" : Str).length = 1 := by decide
  have e3 : ("(" : Str).length = 1 := by decide
  have e4 : (")" : Str).length = 1 := by decide
  have e5 : ("," : Str).length = 1 := by decide
  unfold wordT
  split
  · rw [strLen_append, strLen_append, strLen_append]; omega
  · rw [strLen_append, strLen_append, strLen_append, strLen_append, strLen_append]
    split <;> split <;> omega
theorem words_sum : ∀ {cs : List Cut}, (∀ c ∈ cs, Smi c.n ∧ Smi c.d) → ((wordsT cs).map (·.length)).sum ≤ (wordsT cs).length * 8000
  | [], _ => Nat.le_refl _
  | [_], _ => Nat.le_refl _
  | c :: e :: r, h => by
    have a := h c List.mem_cons_self
    have b := h e (List.mem_cons_of_mem _ List.mem_cons_self)
    have i := words_sum (cs := r) fun x m => h x (List.mem_cons_of_mem _ (List.mem_cons_of_mem _ m))
    have l := wordT_len a.1 a.2 b.1 b.2
    rw [wordsT, List.map_cons, List.sum_cons, List.length_cons]
    omega
def spDig : Sp := fun vs H Q _ => ∃ i : Int, vs = [.int i] ∧ Smi i ∧ ∀ H', Same H H' → Q (.str (numT i)) H'
def spFrT (K : PySem.W.Frag) : Sp := fun vs H Q _ => ∃ (u : V) (p : Int × Int), vs = [u] ∧ Dp K H u (frD p) ∧ Smi p.1 ∧ Smi p.2 ∧ ∀ H', Same H H' → Q (.str (frT p)) H'
def spWord (K : PySem.W.Frag) : Sp := fun vs H Q _ => ∃ (u : V) (c e : Cut), vs = [u] ∧ Dp K H u (pcD c e) ∧ Smi c.n ∧ Smi c.d ∧ Smi e.n ∧ Smi e.d ∧ ∀ H', Same H H' → Q (.str (wordT c e)) H'
def spText (K : PySem.W.Frag) : Sp := fun vs H Q _ => ∃ (u : V) (cs : List Cut), vs = [u] ∧ Dp K H u (.tuple (pcsD cs)) ∧ odd cs.length = false ∧ (∀ c ∈ cs, Smi c.n ∧ Smi c.d) ∧ (pcsD cs).length ≤ 1000 ∧ ∀ H', Same H H' → Q (.str (textT cs)) H'
structure Bt (mg : Str → Option Value) : Prop where
  str : mg "str" = none
  gr : ∃ g tk, mg "_GROUP" = some (.int g tk) ∧ 2 ^ 62 ≤ g
section
variable {P : Program} {w : World} {K : PySem.W.Frag} {mg : Str → Option Value} {base : Heap}
theorem ok_digits {f : Addr} {fd : FuncData} (F : Fun K "_digits_of" "_digits_of" s__digits_of f fd) (B : Bt mg) : FnOk P w K mg base CX0 1 f fd ["number"] spDig := by
  obtain ⟨g, tk, hg, g62⟩ := B.gr
  refine F.ok sc__digits_of (fun vs H Q E h => ?_) (fun cdv A outer s H vs Q E hr h => ?_)
  · obtain ⟨i, rfl, _⟩ := h
    rfl
  · obtain ⟨i, rfl, sm, k⟩ := h
    refine ⟨_, pss_cons (ps_set (i := 1) sc__digits_of.nd rfl (.inl rfl) (pe_lst pa_nil)) (pss_cons (ps_while PassesOwn.never (pt_cmpR op_ge (pv 0) (pe_glob (v := .int g) rfl hg ⟨tk, rfl⟩) (nomark _)) pss_never) (pss_cons (ps_expr (pe_bm PySem.F.plainAttrs_list PySem.F.slot_list_append PySem.F.type_list_append mt_append (pv 1) (pa_cons (pe_callTy call_str_int (by rfl) B.str (by decide +kernel) (pa_cons (pv 0) pa_nil)) pa_nil))) (pss_one (ps_ret (pe_join pe_str (pe_revL (pv 1))))))), ?_⟩
    refine ⟨Nat.zero_le _, fun D nD => nxI ?_⟩
    have s1 := same_put (o := HO.lst []) nD
    have g1 : upd H D (HO.lst []) D = some (.lst []) := upd_same
    generalize upd H D (HO.lst []) = H1 at *
    refine while_by (fun σ H' => σ = [some (.int i), some (.ref D), none] ∧ H' = H1) (fun _ _ => 0) ⟨rfl, rfl⟩ ?_ ?_
    · rintro σ H' ⟨rfl, rfl⟩
      have no : ¬ (g ≤ i) := by have := sm.2; omega
      refine ⟨_, rfl, _, _, rfl, rfl, _, rfl, ite2 (fun c => absurd (of_decide_eq_true c) no) (fun _ => nxI ?_)⟩
      refine ⟨_, rfl, .inl ⟨rfl, _, SqL.of g1⟩, _, rfl, i, rfl, log_of sm, D, _, _, rfl, rfl, g1, (by show 0 < sizeLine; decide), ?_⟩
      have h2 : Same H (upd H' D (.lst ([] ++ [V.str (numT i)]))) := same_updQ s1 nD
      refine ⟨⟨_, rfl⟩, _, rfl, D, _, rfl, SqL.of upd_same, fun p np => ?_⟩
      have s3 := same_put (o := HO.lst ([] ++ [V.str (numT i)] : List V).reverse) np
      refine ⟨_, p, [numT i], rfl, rfl, .inl (SqL.of upd_same), ?_, k _ (h2.trans s3)⟩
      have := numT_len sm
      show (numT i).length + 0 + 1 * Str.length _ ≤ _
      have e : ("" : Str).length = 0 := by decide
      omega
    · rintro σ H Q Q' hQ ⟨x, hx, i, j, e1, e2, b, e3, h⟩
      exact ⟨x, hx, i, j, e1, e2, b, e3, hQ _ _ h⟩
theorem ok_frText {f fD : Addr} {fd fdD : FuncData} (F : Fun K "fraction_text" "fraction_text" s_fraction_text f fd) (B : Bt mg) (Di : Df K mg "_digits_of" s__digits_of ["number"] fD fdD) : FnOk P w K mg base CX0 2 f fd ["fraction"] (spFrT K) := by
  have GD : FnOk P w K mg base CX0 1 fD fdD ["number"] spDig := ok_digits Di.F B
  refine F.ok sc_fraction_text (fun vs H Q E h => ?_) (fun cdv A outer s H vs Q E hr h => ?_)
  · obtain ⟨u, p, rfl, _⟩ := h
    rfl
  · obtain ⟨u, p, rfl, hp, s1, s2, k⟩ := h
    obtain ⟨a, rfl, ha⟩ := fr_inv hp
    refine ⟨_, pss_cons (ps_asg (pv 0) (pg_tup (by rfl) (pgs_cons (pg_name (i := 1) sc_fraction_text.nd rfl (.inl rfl)) (pgs_cons (pg_name (i := 2) sc_fraction_text.nd rfl (.inl rfl)) pgs_nil)))) (pss_one (ps_ret (pe_joined (.cons (pe_fmt (pe_call GD hr (by rfl) Di.g Di.F.kp Di.b .nil pass0 (pa_cons (pv 1) pa_nil))) (.cons pe_str (.cons (pe_fmt (pe_call GD hr (by rfl) Di.g Di.F.kp Di.b .nil pass0 (pa_cons (pv 2) pa_nil))) .nil)))))), ?_⟩
    have l1 := numT_len s1
    have l2 := numT_len s2
    have e0 : Str.empty.length = 0 := rfl
    have e1 : ("/" : Str).length = 1 := by decide
    have big : 4000 ≤ sizeLine := by decide
    refine ⟨_, rfl, a, _, rfl, ha, rfl, _, _, rfl, _, _, rfl, rfl, ?_⟩
    refine ⟨_, rfl, p.1, rfl, s1, fun H1 f1 => .inl ⟨_, rfl, Nat.le_trans (Nat.le_trans l1 (by decide)) big, _, rfl, by rw [strLen_append]; omega, _, rfl, by rw [strLen_append, strLen_append]; omega, ?_⟩⟩
    exact ⟨_, rfl, p.2, rfl, s2, fun H2 f2 => .inl ⟨_, rfl, Nat.le_trans (Nat.le_trans l2 (by decide)) big, _, rfl, by rw [strLen_append, strLen_append, strLen_append]; omega, k _ (f1.trans f2)⟩⟩
theorem ok_word {f fT fD : Addr} {fd fdT fdD : FuncData} (F : Fun K "_word_of" "_word_of" s__word_of f fd) (B : Bt mg) (Di : Df K mg "_digits_of" s__digits_of ["number"] fD fdD) (Ft : Df K mg "fraction_text" s_fraction_text ["fraction"] fT fdT) : FnOk P w K mg base CX0 3 f fd ["piece"] (spWord K) := by
  have GF : FnOk P w K mg base CX0 2 fT fdT ["fraction"] (spFrT K) := ok_frText Ft.F B Di
  refine F.ok sc__word_of (fun vs H Q E h => ?_) (fun cdv A outer s H vs Q E hr h => ?_)
  · obtain ⟨u, c, e, rfl, _⟩ := h
    rfl
  · obtain ⟨u, c, e, rfl, hp, s1, s2, s3, s4, k⟩ := h
    have hu := hr.units
    obtain ⟨a, x, y, rfl, ha, dx, dy⟩ := pc_inv hp
    refine ⟨_, pss_cons (ps_asg (pv 0) (pg_tup (by rfl) (pgs_cons (pg_name (i := 1) sc__word_of.nd rfl (.inl rfl)) (pgs_cons (pg_name (i := 2) sc__word_of.nd rfl (.inl rfl)) (pgs_cons (pg_name (i := 3) sc__word_of.nd rfl (.inl rfl)) (pgs_cons (pg_name (i := 4) sc__word_of.nd rfl (.inl rfl)) pgs_nil)))))) (pss_cons (ps_if (pt_cmpR (op_eqD hu) (pv 1) (pv 2) (nomark _)) (pss_one (ps_ret (pe_joined (.cons pe_str (.cons (pe_fmt (pe_call GF hr (by rfl) Ft.g Ft.F.kp Ft.b .nil pass0 (pa_cons (pv 1) pa_nil))) (.cons pe_str .nil)))))) pss_nil) (pss_cons (ps_par (i := 5) (j := 6) (by rfl) sc__word_of.nd rfl rfl (by decide) rfl rfl (pa_cons (pe_ifExp (pt_val (pv 3)) pe_str pe_str) (pa_cons (pe_ifExp (pt_val (pv 4)) pe_str pe_str) pa_nil)) (by rfl)) (pss_one (ps_ret (pe_joined (.cons (pe_fmt (pv 5)) (.cons (pe_fmt (pe_call GF hr (by rfl) Ft.g Ft.F.kp Ft.b .nil pass0 (pa_cons (pv 1) pa_nil))) (.cons pe_str (.cons (pe_fmt (pe_call GF hr (by rfl) Ft.g Ft.F.kp Ft.b .nil pass0 (pa_cons (pv 2) pa_nil))) (.cons (pe_fmt (pv 6)) .nil)))))))))), ?_⟩
    have l1 := frT_len (p := (c.n, c.d)) s1 s2
    have l2 := frT_len (p := (e.n, e.d)) s3 s4
    have e0 : Str.empty.length = 0 := rfl
    have e1 : ("[" : Str).length = 1 := by decide
    have e2 : ("]" : Str).length = 1 := by decide
    have e3 : ("(" : Str).length = 1 := by decide
    have e4 : (")" : Str).length = 1 := by decide
    have e5 : ("," : Str).length = 1 := by decide
    have big : 9000 ≤ sizeLine := by decide
    have up : ∀ {n : Nat}, n ≤ 9000 → n ≤ sizeLine := fun h => Nat.le_trans h big
    refine ⟨_, rfl, a, _, rfl, ha, rfl, _, _, rfl, _, _, rfl, _, _, rfl, _, _, rfl, rfl, ?_⟩
    refine ⟨_, rfl, _, rfl, frD (c.n, c.d), frD (e.n, e.d), dx, dy, fr_shaped _, fr_shaped _, _, rfl, ?_⟩
    rw [fr_eqv]
    refine ite2 (fun z => ?_) (fun z => ?_)
    · have q : c.n = e.n ∧ c.d = e.d := of_decide_eq_true z
      unfold wordT at k
      rw [if_pos q] at k
      refine ⟨_, rfl, up (by rw [strLen_append]; omega), _, rfl, x, (c.n, c.d), rfl, dx, s1, s2, fun H1 f1 => .inl ⟨_, rfl, up (by omega), _, rfl, up (by rw [strLen_append, strLen_append]; omega), _, rfl, up (by rw [strLen_append, strLen_append, strLen_append]; omega), k _ f1⟩⟩
    · have q : ¬ (c.n = e.n ∧ c.d = e.d) := fun y => z (decide_eq_true y)
      unfold wordT at k
      rw [if_neg q] at k
      obtain ⟨op, eo⟩ : ∃ op : Str, op = if (!c.b) = true then ("[" : Str) else ("(" : Str) := ⟨_, rfl⟩
      obtain ⟨cl, ec⟩ : ∃ cl : Str, cl = if e.b = true then ("]" : Str) else (")" : Str) := ⟨_, rfl⟩
      have lo : op.length ≤ 1 := by rw [eo]; split <;> omega
      have lc : cl.length ≤ 1 := by rw [ec]; split <;> omega
      rw [← eo, ← ec] at k
      refine nextI (nxI ?_)
      refine if_any (fun v => v = .str op) (!c.b) (fun S' s => ⟨_, rfl, _, rfl, s⟩) (fun z S' s => s _ (by rw [eo, z]; rfl)) (fun z S' s => s _ (by rw [eo, z]; rfl)) (fun v hv => ?_)
      subst hv
      refine if_any (fun v => v = .str cl) e.b (fun S' s => ⟨_, rfl, _, rfl, s⟩) (fun z S' s => s _ (by rw [ec, z]; rfl)) (fun z S' s => s _ (by rw [ec, z]; rfl)) (fun v hv => ?_)
      subst hv
      refine ⟨_, _, rfl, nxI ?_⟩
      refine ⟨_, rfl, .inl ⟨_, rfl, up (by omega), _, rfl, up (by rw [strLen_append]; omega), ?_⟩⟩
      refine ⟨_, rfl, x, (c.n, c.d), rfl, dx, s1, s2, fun H1 f1 => .inl ⟨_, rfl, up (by omega), _, rfl, up (by rw [strLen_append, strLen_append]; omega), _, rfl, up (by rw [strLen_append, strLen_append, strLen_append]; omega), ?_⟩⟩
      refine ⟨_, rfl, y, (e.n, e.d), rfl, dp_same f1 _ _ dy, s3, s4, fun H2 f2 => .inl ⟨_, rfl, up (by omega), _, rfl, up (by rw [strLen_append, strLen_append, strLen_append, strLen_append]; omega), ?_⟩⟩
      exact ⟨_, rfl, .inl ⟨_, rfl, up (by omega), _, rfl, up (by rw [strLen_append, strLen_append, strLen_append, strLen_append, strLen_append]; omega), k _ (f1.trans f2)⟩⟩
theorem ok_text {f fW fT fD : Addr} {fd fdW fdT fdD : FuncData} (F : Fun K "_text_of" "_text_of" s__text_of f fd) (B : Bt mg) (Di : Df K mg "_digits_of" s__digits_of ["number"] fD fdD) (Ft : Df K mg "fraction_text" s_fraction_text ["fraction"] fT fdT) (Wo : Df K mg "_word_of" s__word_of ["piece"] fW fdW) : FnOk P w K mg base CX0 4 f fd ["pieces"] (spText K) := by
  have GW : FnOk P w K mg base CX0 3 fW fdW ["piece"] (spWord K) := ok_word Wo.F B Di Ft
  refine F.ok scTextX (fun vs H Q E h => ?_) (fun cdv A outer s H vs Q E hr h => ?_)
  · obtain ⟨u, cs, rfl, _⟩ := h
    rfl
  · obtain ⟨u, cs, rfl, hu', od, sm, few, k⟩ := h
    obtain ⟨a, xs, rfl, ha, hx⟩ := tup_inv hu'
    have lx := dps_len hx
    refine ⟨_, pss_cons (ps_if (pt_not (pt_truth (pv 0) (by intro _; rfl))) (pss_one (ps_ret pe_str)) pss_nil) (pss_one (ps_ret (pe_join pe_str (pe_lc (te := tCall (spWord K) [] E0 (tCons (tVar 1) tNil)) (own := [("piece", 1)]) (g := gName 1) (tt := tYes) rfl scTextX.nd (pi_tup (pv 0)) (blkOk_by (N := ["pieces", "piece"]) (sc := defScope s__text_of) (by decide +kernel)) (fun _ _ _ _ _ => pg_name (i := 1) scTextX.nd rfl (.inl rfl)) (fun _ _ _ _ _ => pts_nil) (fun _ _ _ _ _ => (pe_call GW hr (by rfl) Wo.g Wo.F.kp Wo.b .nil pass0 (pa_cons (pv 1) pa_nil))))))), ?_⟩
    refine ⟨_, rfl, !xs.isEmpty, .inr (.inl ⟨_, ha, rfl⟩), ite2 (fun c1 => ?_) (fun c1 => ?_)⟩
    · have e : xs = [] := by cases xs with | nil => rfl | cons _ _ => cases c1
      subst e
      have e2 : pcsD cs = [] := List.length_eq_zero_iff.mp lx.symm
      unfold textT at k
      rw [if_pos e2] at k
      exact k _ (Same.refl _)
    · have ne : pcsD cs ≠ [] := fun z => by
        rw [z] at lx
        have : xs = [] := List.length_eq_zero_iff.mp lx
        subst this
        exact c1 rfl
      unfold textT at k
      rw [if_neg ne] at k
      have lw := words_len cs
      refine nextI (nxI ⟨⟨_, rfl⟩, _, rfl, a, rfl, ⟨_, ha⟩, fun D nD => ?_⟩)
      have s0 := same_put (o := HO.lst []) nD
      refine lc_tup (K := K) (a := a) (xs := xs) (fun i H' => H' D = some (.lst (((wordsT cs).take i).map V.str)) ∧ Same H H') ⟨upd_same, s0⟩ (fun i H' _ ⟨_, e⟩ => sqT_same e ha) ?_ ?_
      · rintro i x H1 hi ⟨hD, e1⟩
        have il := (List.getElem?_eq_some_iff.mp hi).1
        obtain ⟨d, hd, dx⟩ := dps_get (dps_same e1 _ _ hx) hi
        obtain ⟨c, e, hc, he, rfl⟩ := pcs_get hd
        have mc := sm c (List.mem_of_getElem? hc)
        have me := sm e (List.mem_of_getElem? he)
        refine ⟨rfl, _, rfl, x, c, e, rfl, dx, mc.1, mc.2, me.1, me.2, fun H2 s2 => ⟨_, s2 _ _ hD, small1000 (by rw [List.length_map, List.length_take]; omega), ?_, fun b o z => ?_⟩⟩
        · rw [upd_same, List.take_add_one, words_at hc he, List.map_append]; rfl
        · rw [upd_ne (ne_of_none z nD)]
          exact s2 _ _ (e1 _ _ z)
      rintro H1 ⟨hD, e1⟩
      rw [lx, ← lw, List.take_length] at hD
      refine ⟨_, D, wordsT cs, rfl, rfl, .inl (SqL.of hD), ?_, k _ e1⟩
      have bnd := words_sum (cs := cs) sm
      have e : (" " : Str).length = 1 := by decide
      show ((wordsT cs).map (·.length)).sum + (wordsT cs).length * (" " : Str).length ≤ _
      rw [e]
      omega
end
end My
set_option Elab.async false
set_option linter.all false
set_option maxRecDepth 100000
set_option maxHeartbeats 4000000
/-! c(e, ..), c a local name that stands for a class of the module -/
namespace Gn
open PySem PySem.Spec PyProof.Rows L2
section
variable {X : Cx} {CX : CXT} {k i : Nat} {f C : Addr} {fd : FuncData} {ps : List Str} {sp : Sp} {G : L2.St → XK} {nm : Str} {e : Expr} {es : List Expr} {t : TA} {p pos : Pos}
def tMakeV (i : Nat) (C : Addr) (sp : Sp) (G : L2.St → XK) (t : TA) : TE := fun σ H Q => σ[i]? = some (some (.ref C)) ∧ tMakeS C sp G t σ H Q
theorem pe_makeV (M : Mk X.K C f) (F : FnOk X.prog X.w X.K X.mg X.base CX k f fd ps sp) (hr : Room (k + 1) X.A) (at_ : X.N[i]? = some nm) (vi : Vis X.env.scope nm) (hb : Binds X.K fd ps []) (hx : ∀ σ, PassesAt CX X σ (G σ))
    (ha : PA X (e :: es) t) (nd : (nm == ("__debug__" : Str)) = false := by decide) (nc : (nm == ("__classdict__" : Str)) = false := by decide) (he : starEach (e :: es) X.env = (false, eval e X.env) :: starEach es X.env := by rfl)
    (hpl : (backTo pos (starEach es X.env)).any (·.1) = false := by rfl) : PE X (.Call (.Name nm p) (e :: es) [] pos) (tMakeV i C sp G t) := by
  refine ⟨fun pins s σ H Q I ⟨slot, h⟩ => ?_⟩
  refine wpAny_Call_Name_kw (thn ((pe_var (pos := p) (i := i) at_ vi nd nc).run pins s σ H (fun v G1 => v = .ref C ∧ G1 = H) I ⟨.ref C, slot, rfl, rfl⟩) fun u s1 ⟨v, H1, I1, rv, ev, eG⟩ => ?_)
  subst ev eG
  obtain rfl : u = Value.ref C := rv
  exact PySem.W.callWith_K (h₀ := X.base) I1.ok.mod.kin M.kp (thn (ha.run pos pins s1 σ H1 _ I1 h) fun us s2 ⟨vs, H2, I2, r, q⟩ => ⟨I2.kIn, run_makeS M F hr hb (hx σ) I2 r q⟩) he hpl
end
end Gn
set_option Elab.async false
set_option linter.all false
set_option maxRecDepth 100000
set_option maxHeartbeats 4000000
/-! list(x): its place told not to be that of the modules' dict; pieces of tuples -/
namespace Gn
open PySem PySem.Spec PyProof.Rows L2
section
variable {X : Cx}
theorem call_list_ofZ : CallR X (.type "list") (fun xs H Q => ∃ p ys, xs = [.ref p] ∧ (SqL X.K H p ys ∨ SqT X.K H p ys) ∧ ∀ l, H l = none → l ≠ sysModules → Q (.ref l) (upd H l (.lst ys))) := by
  intro pins s σ H xs us Q I r h
  obtain ⟨p, ys, rfl, hq, q⟩ := h
  obtain ⟨u, rfl, rx⟩ := vals1 r
  cases rx
  have fin : ∀ (its : List Value), Vals ys its → ys.length ≤ sizeLine → ∀ (h' : Heap) (c' : Nat), (∀ b o', s.heap.get? b = some o' → h'.get? b = some o') →
      h'.get? s.heap.objs.size = some { cls := .type "list", dict := none, data := .seq its.toArray c', slots := #[] } → EP X pins σ Q (.ref s.heap.objs.size) { s with heap := h' } := fun its r' hz h' c' kp e =>
    ⟨.ref s.heap.objs.size, _, I.laid (t' := s.toks) kp (Nat.le_refl _) (show ObjOk X.prog X.w _ h' _ (.lst ys) from ⟨hz, its, c', r', e⟩), rfl, q _ (I.hok.fresh (Nat.le_refl _)) (Nat.ne_of_gt I.big)⟩
  rcases hq with hq | hq
  · obtain ⟨its, r', pl, hz⟩ := I.list hq
    have hlen := r'.length
    obtain ⟨o, ho, hc, n, hd⟩ := pl.isList
    exact call_list_seq p (.inl rfl) ho hc hd (fun h' c' kp e => fin its r' hz h' c' kp e) (by simp only [List.size_toArray] <;> omega)
  · obtain ⟨its, r', pl, hz⟩ := I.tuple hq
    have hlen := r'.length
    obtain ⟨o, ho, hc, n, hd⟩ := pl
    exact call_list_seq p (.inr rfl) ho hc hd (fun h' c' kp e => fin its r' hz h' c' kp e) (by simp only [List.size_toArray] <;> omega)
end
theorem anAll_drop {K : PySem.W.Frag} {H : Hp} : ∀ {xs : List V} {ds : List PyData} (k : Nat), AnAll K H xs ds → AnAll K H (xs.drop k) (ds.drop k)
  | _, _, 0, h => h
  | _, _, k + 1, .nil => .nil
  | _, _, k + 1, .cons _ t => anAll_drop k t
theorem anAll_take {K : PySem.W.Frag} {H : Hp} : ∀ {xs : List V} {ds : List PyData} (k : Nat), AnAll K H xs ds → AnAll K H (xs.take k) (ds.take k)
  | _, _, 0, h => by rw [List.take_zero, List.take_zero]; exact .nil
  | _, _, k + 1, .nil => .nil
  | _, _, k + 1, .cons h t => .cons h (anAll_take k t)
theorem anAll_app {K : PySem.W.Frag} {H : Hp} : ∀ {xs ys : List V} {ds es : List PyData}, AnAll K H xs ds → AnAll K H ys es → AnAll K H (xs ++ ys) (ds ++ es)
  | _, _, _, _, .nil, h => h
  | _, _, _, _, .cons h t, h2 => .cons h (anAll_app t h2)
theorem anAll_rev {K : PySem.W.Frag} {H : Hp} : ∀ {xs : List V} {ds : List PyData}, AnAll K H xs ds → AnAll K H xs.reverse ds.reverse
  | _, _, .nil => .nil
  | _, _, .cons h t => by
    rw [List.reverse_cons, List.reverse_cons]
    exact anAll_app (anAll_rev t) (.cons h .nil)
/-- a tuple of such data, its items out of some, not too many -/
def TupOf (K : PySem.W.Frag) (H : Hp) (c : Addr) (n : Nat) (ok : PyData → Prop) : Prop := ∃ xs ds, H c = some (.tup xs) ∧ AnAll K H xs ds ∧ ds.length ≤ n ∧ ∀ d ∈ ds, ok d
theorem TupOf.same {K : PySem.W.Frag} {H H' : Hp} {c : Addr} {n : Nat} {ok : PyData → Prop} (h : TupOf K H c n ok) (s : Same H H') : TupOf K H' c n ok := by
  obtain ⟨xs, ds, h1, h2, h3, h4⟩ := h
  exact ⟨xs, ds, s _ _ h1, h2.same s, h3, h4⟩
theorem anAll_ln {K : PySem.W.Frag} {H : Hp} {xs : List V} {ds : List PyData} (h : AnAll K H xs ds) : xs.length = ds.length := dpAll_len h
theorem sl_any {K : PySem.W.Frag} {H : Hp} {a : Addr} {n : Nat} {ok : PyData → Prop} {lo hi : Option Int} {Q : VK} (h : TupOf K H a n ok) (k : ∀ c H', Same H H' → TupOf K H' c n ok → Q (.ref c) H') : rSlA K (.ref a) lo hi H Q := by
  have h0 := h
  obtain ⟨xs, ds, h1, h2, h3, h4⟩ := h
  refine ⟨a, xs, rfl, SqT.of h1, fun _ => k a H (Same.refl _) h0, fun _ p np => ?_⟩
  have s := same_put (o := HO.tup (cutV xs lo hi)) np
  refine k p _ s ⟨cutV xs lo hi, (ds.drop (HT.sIx xs.length 0 lo)).take (HT.sIx xs.length xs.length hi - HT.sIx xs.length 0 lo), upd_same, (anAll_take _ (anAll_drop _ h2)).same s, ?_, fun d m => h4 d (List.mem_of_mem_drop (List.mem_of_mem_take m))⟩
  rw [List.length_take, List.length_drop]
  omega
theorem cat_any {K : PySem.W.Frag} {H : Hp} {a b : Addr} {n m : Nat} {ok : PyData → Prop} {Q : VK} (h : TupOf K H a n ok) (h' : TupOf K H b m ok) (nm : n + m ≤ 1000) (k : ∀ c H', Same H H' → TupOf K H' c (n + m) ok → Q (.ref c) H') : rCatA K (.ref a) (.ref b) H Q := by
  obtain ⟨xs, ds, h1, h2, h3, h4⟩ := h
  obtain ⟨ys, es, g1, g2, g3, g4⟩ := h'
  have l1 := anAll_ln h2
  have l2 := anAll_ln g2
  refine ⟨a, b, xs, ys, rfl, rfl, SqT.of h1, SqT.of g1, Nat.le_of_lt (small1000 (by omega)), fun _ => k b H (Same.refl _) ⟨ys, es, g1, g2, by omega, g4⟩, fun _ _ => k a H (Same.refl _) ⟨xs, ds, h1, h2, by omega, h4⟩, fun _ _ p np => ?_⟩
  have s := same_put (o := HO.tup (xs ++ ys)) np
  refine k p _ s ⟨xs ++ ys, ds ++ es, upd_same, anAll_app (h2.same s) (g2.same s), by rw [List.length_append]; omega, fun d m => (List.mem_append.mp m).elim (h4 d) (g4 d)⟩
end Gn
set_option Elab.async false
set_option linter.all false
set_option maxRecDepth 100000
set_option maxHeartbeats 8000000
set_option exponentiation.threshold 4000
namespace My
open PySem PySem.Spec PyProof.Rows L2 Gn Mt
abbrev s__are_digits : Stmt := top 49
theorem sc__are_digits : FnScope ["text"] ["text"] (defScope s__are_digits) := ⟨rfl, rfl, rfl, by decide +kernel, rfl, by decide +kernel, by decide +kernel⟩
abbrev s__read_digits : Stmt := top 50
theorem sc__read_digits : FnScope ["text", "head", "number", "at"] ["text"] (defScope s__read_digits) := ⟨rfl, rfl, rfl, by decide +kernel, rfl, by decide +kernel, by decide +kernel⟩
abbrev s__read_fraction : Stmt := top 48
theorem sc__read_fraction : FnScope ["text", "top", "_", "bottom"] ["text"] (defScope s__read_fraction) := ⟨rfl, rfl, rfl, by decide +kernel, rfl, by decide +kernel, by decide +kernel⟩
abbrev s__read_pieces : Stmt := top 47
/-! texts of lots read -/
mutual
theorem an_tupN {K : PySem.W.Frag} {H H' : Hp} (e : ∀ a xs, H a = some (.tup xs) → H' a = some (.tup xs)) : ∀ {v : V} {d : PyData}, An K H v d → noL d = true → An K H' v d
  | _, _, .non, _ => .non
  | _, _, .bl b, _ => .bl b
  | _, _, .int i, _ => .int i
  | _, _, .str x, _ => .str x
  | _, _, .lst _ _ _, f => by unfold noL at f; cases f
  | _, _, .tup h s, f => by
    unfold noL at f
    exact .tup (e _ _ h) (anAll_tupN e s f)
  | _, _, .dct _, f => by unfold noL at f; cases f
theorem anAll_tupN {K : PySem.W.Frag} {H H' : Hp} (e : ∀ a xs, H a = some (.tup xs) → H' a = some (.tup xs)) : ∀ {vs : List V} {ds : List PyData}, AnAll K H vs ds → noLs ds = true → AnAll K H' vs ds
  | _, _, .nil, _ => .nil
  | _, _, .cons h s, f => by
    unfold noLs at f
    rw [Bool.and_eq_true] at f
    exact .cons (an_tupN e h f.1) (anAll_tupN e s f.2)
end
theorem last_of {K : PySem.W.Frag} {H : Hp} : ∀ {xs : List V} {ds : List PyData}, AnAll K H xs ds → xs ≠ [] → ∃ xs0 x ds0 d, xs = xs0 ++ [x] ∧ ds = ds0 ++ [d] ∧ An K H x d
  | _, _, .nil, h => absurd rfl h
  | [x], [d], .cons a .nil, _ => ⟨[], x, [], d, rfl, rfl, a⟩
  | x :: y :: r, d :: e :: s, .cons a b, _ => by
    obtain ⟨xs0, z, ds0, f, h1, h2, h3⟩ := last_of b (by simp)
    exact ⟨x :: xs0, z, d :: ds0, f, by rw [h1]; rfl, by rw [h2]; rfl, h3⟩
theorem last_an {K : PySem.W.Frag} {H : Hp} {xs : List V} {ds : List PyData} (h : AnAll K H xs ds) (ne : xs ≠ []) : ∃ v, atI xs (-1) = some v ∧ An K H v (ds.getLastD .none) := by
  obtain ⟨xs0, x, ds0, d, rfl, rfl, a⟩ := last_of h ne
  refine ⟨x, atI_last xs0 x, ?_⟩
  rw [List.getLastD_eq_getLast?, List.getLast?_concat]
  exact a
theorem first_an {K : PySem.W.Frag} {H : Hp} {xs : List V} {ds : List PyData} (h : AnAll K H xs ds) (ne : xs ≠ []) : ∃ v, xs[0]? = some v ∧ An K H v (ds.getD 0 .none) := by
  cases h with
  | nil => exact absurd rfl ne
  | cons a b => exact ⟨_, rfl, a⟩
theorem anAll_upd {K : PySem.W.Frag} {H : Hp} {D : Addr} {ys zs xs : List V} {ds : List PyData} (hD : H D = some (.lst ys)) (h : AnAll K H xs ds) (n : ∀ d ∈ ds, noL d = true) : AnAll K (upd H D (.lst zs)) xs ds :=
  anAll_tupN (fun a xs h => by rw [upd_ne (fun z => by rw [z, hD] at h; cases h)]; exact h) h (noLs_iff.mpr n)
theorem an_upd {K : PySem.W.Frag} {H : Hp} {D : Addr} {ys zs : List V} {x : V} {d : PyData} (hD : H D = some (.lst ys)) (h : An K H x d) (n : noL d = true) : An K (upd H D (.lst zs)) x d :=
  an_tupN (fun a xs h => by rw [upd_ne (fun z => by rw [z, hD] at h; cases h)]; exact h) h n
def digB (x : Str) : Bool := Txt.isascii x && Txt.isdigit x
/-- a text that is read as a number -/
def okNB (x : Str) : Bool := decide (0 < x.length) && (decide (x.length ≤ 500) && ((PySem.intText? x).isSome && decide (cutS x none (some (x.length : Int)) = x)))
def numR (x : Str) : Int := (PySem.intText? x).getD 0
def okFrB (x : Str) : Bool := decide (x.length ≤ 500) && (!(digB (Txt.partition x ("/" : Str)).1 && digB (Txt.partition x ("/" : Str)).2.2) || (okNB (Txt.partition x ("/" : Str)).1 && okNB (Txt.partition x ("/" : Str)).2.2))
/-- what a part of a word is read as -/
def rdFrD (x : Str) : PyData := if (digB (Txt.partition x ("/" : Str)).1 && digB (Txt.partition x ("/" : Str)).2.2) = true then .tuple [.int (numR (Txt.partition x ("/" : Str)).1), .int (numR (Txt.partition x ("/" : Str)).2.2)] else .none
def partsR (w : Str) : List Str := Txt.split (cutS w (some 1) (some (-1))) ("," : Str)
def rdPcD (w : Str) : PyData := .tuple [((partsR w).map rdFrD).getD 0 .none, ((partsR w).map rdFrD).getLastD .none, .bool (decide (cutS w none (some 1) = ("[" : Str))), .bool (decide (cutS w (some (-1)) none = ("]" : Str)))]
def okWB (w : Str) : Bool := decide (w.length ≤ 500) && (decide ((cutS w (some 1) (some (-1))).length ≤ 500) && (decide (partsR w ≠ []) && (decide ((partsR w).length ≤ 100) && (partsR w).all okFrB)))
def rdPsD (x : Str) : PyData := if x = ("none" : Str) then .tuple [] else .tuple ((Txt.split x (" " : Str)).map rdPcD)
def okRdB (x : Str) : Bool := decide (x.length ≤ 500) && (decide ((Txt.split x (" " : Str)).length ≤ 100) && (Txt.split x (" " : Str)).all okWB)
theorem rd_noL (x : Str) : noL (rdFrD x) = true := by
  unfold rdFrD
  split
  · rfl
  · rfl
theorem getD_noL {ds : List PyData} (h : ∀ d ∈ ds, noL d = true) : noL (ds.getD 0 .none) = true ∧ noL (ds.getLastD .none) = true := by
  constructor
  · cases ds with
    | nil => rfl
    | cons d r => exact h d List.mem_cons_self
  · rw [List.getLastD_eq_getLast?]
    cases e : ds.getLast? with
    | none => rfl
    | some d => exact h d (List.mem_of_getLast? e)
theorem rdPc_noL (w : Str) : noL (rdPcD w) = true := by
  obtain ⟨h1, h2⟩ := getD_noL (ds := (partsR w).map rdFrD) fun d m => by
    obtain ⟨x, _, rfl⟩ := List.mem_map.mp m
    exact rd_noL x
  unfold rdPcD
  show noLs [_, _, _, _] = true
  simp only [noLs, h1, h2, noL, Bool.and_self]
theorem okNB_in {x : Str} (h : okNB x = true) : 0 < x.length ∧ x.length ≤ 500 ∧ PySem.intText? x = some (numR x) ∧ cutS x none (some (x.length : Int)) = x := by
  unfold okNB at h
  simp only [Bool.and_eq_true, decide_eq_true_eq] at h
  obtain ⟨h1, h2, h3, h4⟩ := h
  refine ⟨h1, h2, ?_, h4⟩
  unfold numR
  cases e : PySem.intText? x with
  | none => rw [e] at h3; cases h3
  | some n => rfl
def spDgt : Sp := fun vs H Q _ => ∃ x : Str, vs = [.str x] ∧ Q (.bl (digB x)) H
def spRdD : Sp := fun vs H Q _ => ∃ x : Str, vs = [.str x] ∧ okNB x = true ∧ Q (.int (numR x)) H
def spRdF (K : PySem.W.Frag) : Sp := fun vs H Q _ => ∃ x : Str, vs = [.str x] ∧ okFrB x = true ∧ ∀ v H', Same H H' → An K H' v (rdFrD x) → Q v H'
def spRdP (K : PySem.W.Frag) : Sp := fun vs H Q _ => ∃ x : Str, vs = [.str x] ∧ okRdB x = true ∧ ∀ v H', Same H H' → An K H' v (rdPsD x) → Q v H'
def spRead (K : PySem.W.Frag) (C : Addr) : Sp := fun vs H Q _ => ∃ (x : Str) (cs : List Cut), vs = [.ref C, .str x] ∧ okRdB x = true ∧ rdPsD x = .tuple (pcsD cs) ∧ pcsW (rdPsD x) = none ∧ LitP (rdPsD x) ∧ odd cs.length = false ∧ (∀ c ∈ cs, Smi c.n ∧ Smi c.d) ∧ textT cs = x ∧ ∀ y H', Same H H' → LotAt K C H' y cs → Q y H'
abbrev NRP : List Str := ["text", "pieces", "word", "ends", "part"]
theorem sc_RP : FnScope NRP ["text"] (defScope s__read_pieces) := ⟨rfl, rfl, rfl, by decide +kernel, rfl, by decide +kernel, by decide +kernel⟩
abbrev s_lread : Stmt := inClass (top 35) 1
theorem sc_lread : FnScope ["cls", "text", "pieces"] ["cls", "text"] (defScope s_lread) := ⟨rfl, rfl, rfl, by decide +kernel, rfl, by decide +kernel, by decide +kernel⟩
/-- what the reader asks of the module -/
structure Rd (K : PySem.W.Frag) (mg : Str → Option Value) where
  c : Bc mg
  bt : Bt mg
  range : mg "range" = none
  dg : ∃ tk, mg "_DIGITS" = some (.int 600 tk)
  f_ad : Addr × FuncData
  ad : Df K mg "_are_digits" s__are_digits ["text"] f_ad.1 f_ad.2
  f_rd : Addr × FuncData
  rd : Df K mg "_read_digits" s__read_digits ["text"] f_rd.1 f_rd.2
  f_rf : Addr × FuncData
  rf : Df K mg "_read_fraction" s__read_fraction ["text"] f_rf.1 f_rf.2
  f_rp : Addr × FuncData
  rp : Df K mg "_read_pieces" s__read_pieces ["text"] f_rp.1 f_rp.2
  f_di : Addr × FuncData
  di : Df K mg "_digits_of" s__digits_of ["number"] f_di.1 f_di.2
  f_ft : Addr × FuncData
  ft : Df K mg "fraction_text" s_fraction_text ["fraction"] f_ft.1 f_ft.2
  f_wo : Addr × FuncData
  wo : Df K mg "_word_of" s__word_of ["piece"] f_wo.1 f_wo.2
  f_tx : Addr × FuncData
  tx : Df K mg "_text_of" s__text_of ["pieces"] f_tx.1 f_tx.2
section
variable {P : Program} {w : World} {K : PySem.W.Frag} {mg : Str → Option Value} {base : Heap}
theorem ok_dgt {f : Addr} {fd : FuncData} (F : Fun K "_are_digits" "_are_digits" s__are_digits f fd) : FnOk P w K mg base CX0 1 f fd ["text"] spDgt := by
  refine F.ok sc__are_digits (fun vs H Q E h => ?_) (fun cdv A outer s H vs Q E hr h => ?_)
  · obtain ⟨x, rfl, _⟩ := h
    rfl
  · obtain ⟨x, rfl, k⟩ := h
    refine ⟨_, pss_one (ps_ret (pe_and (pe_bm0 PySem.F.plainAttrs_str PySem.F.slot_str_isascii PySem.F.type_str_isascii mt_isascii (pv 0)) (pe_one (pe_m0 PySem.F.slot_str_isdigit PySem.F.type_str_isdigit mt_isdigit (pv 0))))), ?_⟩
    unfold digB at k
    refine ⟨_, rfl, rfl, x, rfl, rfl, trivial, _, rfl, ?_⟩
    cases e : Txt.isascii x with
    | false =>
      rw [e] at k
      exact iteF k
    | true =>
      rw [e, Bool.true_and] at k
      exact iteT ⟨_, rfl, ⟨_, rfl⟩, x, rfl, rfl, trivial, k⟩
theorem rg_none {n : Nat} (h : n ≤ 500) : RgC (n : Int) (n : Int) 600 0 := by
  have : ∀ m ∈ List.range 501, Builtin.Range.small ((m : Nat) : Int) ((m : Nat) : Int) 600 = true ∧ Builtin.Range.rangeSize ((m : Nat) : Int) ((m : Nat) : Int) 600 = ((0 : Nat) : Int) := by decide +kernel
  obtain ⟨h1, h2⟩ := this n (List.mem_range.mpr (by omega))
  exact ⟨by decide, by decide, h1, h2⟩
theorem ok_rdD {f : Addr} {fd : FuncData} (F : Fun K "_read_digits" "_read_digits" s__read_digits f fd) (B : Bc mg) (rg : mg "range" = none) (dg : ∃ tk, mg "_DIGITS" = some (.int 600 tk)) : FnOk P w K mg base CX0 1 f fd ["text"] spRdD := by
  obtain ⟨tk, hg⟩ := dg
  refine F.ok sc__read_digits (fun vs H Q E h => ?_) (fun cdv A outer s H vs Q E hr h => ?_)
  · obtain ⟨x, rfl, _⟩ := h
    rfl
  · obtain ⟨x, rfl, ok, k⟩ := h
    obtain ⟨l0, l1, en, ec⟩ := okNB_in ok
    have big : 9000 ≤ sizeLine := by decide
    refine ⟨_, pss_cons (ps_set (i := 1) sc__read_digits.nd rfl (.inl rfl) (pe_op op_modN (pe_callB (call_len_str) (by rfl) B.len (by decide +kernel) (pa_cons (pv 0) pa_nil)) (pe_glob (v := .int 600) rfl hg ⟨tk, rfl⟩))) (pss_cons (ps_set (i := 2) sc__read_digits.nd rfl (.inl rfl) (pe_callTy (call_int_str) (by rfl) B.int (by decide +kernel) (pa_cons (pe_orT (pe_slice sl_str (pv 0) po_none (po_some (pv 1))) (pe_one pe_str)) pa_nil))) (pss_cons (ps_for PassesOwn.never rfl (pi_range3 (by rfl) rg (pa_cons (pv 1) (pa_cons (pe_callB (call_len_str) (by rfl) B.len (by decide +kernel) (pa_cons (pv 0) pa_nil)) (pa_cons (pe_glob (v := .int 600) rfl hg ⟨tk, rfl⟩) pa_nil)))) (pg_name (i := 3) sc__read_digits.nd rfl (.inl rfl)) pss_never) (pss_one (ps_ret (pv 2))))), ?_⟩
    refine ⟨_, rfl, x, rfl, by omega, (x.length : Int), 600, rfl, rfl, (show (600 : Int) ≠ 0 by decide), ?_⟩
    have em : (x.length : Int).fmod 600 = (x.length : Int) := by rw [Int.fmod_eq_emod_of_nonneg _ (by decide)]; omega
    show gName 1 (.int ((x.length : Int).fmod 600)) _ _ _
    rw [em]
    refine ⟨_, rfl, _, rfl, (x.length : Int), rfl, x, rfl, by omega, ?_⟩
    rw [ec]
    refine ⟨true, ⟨by omega, ?_⟩, ?_⟩
    · cases e : ((x.length : Int) != 0) with
      | true => rfl
      | false => rw [bne_eq_false_iff_eq] at e; omega
    refine iteT ⟨x, numR x, rfl, en, by omega, ?_⟩
    refine nxI ⟨_, rfl, _, rfl, x, rfl, by omega, (x.length : Int), (x.length : Int), 600, 0, rfl, rg_none l1, ?_⟩
    refine for_rangeC (lo := (x.length : Int)) (c := 600) (n := 0) (fun i σ H' => σ = [some (.str x), some (.int (x.length : Int)), some (.int (numR x)), none] ∧ H' = H) ⟨rfl, rfl⟩ (fun i σ H' h => absurd h (by omega)) ?_
    rintro σ H' ⟨rfl, rfl⟩
    exact nxI ⟨_, rfl, k⟩
theorem ok_rdF {f : Addr} {fd : FuncData} (F : Fun K "_read_fraction" "_read_fraction" s__read_fraction f fd) (M : Rd K mg) : FnOk P w K mg base CX0 2 f fd ["text"] (spRdF K) := by
  have GA : FnOk P w K mg base CX0 1 M.f_ad.1 M.f_ad.2 ["text"] spDgt := ok_dgt M.ad.F
  have GD : FnOk P w K mg base CX0 1 M.f_rd.1 M.f_rd.2 ["text"] spRdD := ok_rdD M.rd.F M.c M.range M.dg
  refine F.ok sc__read_fraction (fun vs H Q E h => ?_) (fun cdv A outer s H vs Q E hr h => ?_)
  · obtain ⟨x, rfl, _⟩ := h
    rfl
  · obtain ⟨x, rfl, ok, k⟩ := h
    have big : 9000 ≤ sizeLine := by decide
    unfold okFrB at ok
    rw [Bool.and_eq_true, decide_eq_true_eq] at ok
    obtain ⟨lx, ok⟩ := ok
    unfold rdFrD at k
    refine ⟨_, pss_cons (ps_asg (pe_partition (pv 0) pe_str) (pg_tup (by rfl) (pgs_cons (pg_name (i := 1) sc__read_fraction.nd rfl (.inl rfl)) (pgs_cons (pg_name (i := 2) sc__read_fraction.nd rfl (.inl rfl)) (pgs_cons (pg_name (i := 3) sc__read_fraction.nd rfl (.inl rfl)) pgs_nil))))) (pss_cons (ps_if (PW.pt (pw_or (pt_not (pt_val (pe_call GA hr (by rfl) M.ad.g M.ad.F.kp M.ad.b .nil pass0 (pa_cons (pv 1) pa_nil)))) (pw_or1 (pt_not (pt_val (pe_call GA hr (by rfl) M.ad.g M.ad.F.kp M.ad.b .nil pass0 (pa_cons (pv 3) pa_nil))))))) (pss_one (ps_ret pe_non)) pss_nil) (pss_one (ps_ret (pe_tup (pa_cons (pe_call GD hr (by rfl) M.rd.g M.rd.F.kp M.rd.b .nil pass0 (pa_cons (pv 1) pa_nil)) (pa_cons (pe_call GD hr (by rfl) M.rd.g M.rd.F.kp M.rd.b .nil pass0 (pa_cons (pv 3) pa_nil)) pa_nil)))))), ?_⟩
    refine ⟨_, rfl, ⟨_, rfl⟩, x, ("/" : Str), rfl, rfl, by decide, by omega, fun p np => ?_⟩
    have s1 := same_put (o := HO.tup [V.str (Txt.partition x ("/" : Str)).1, V.str (Txt.partition x ("/" : Str)).2.1, V.str (Txt.partition x ("/" : Str)).2.2]) np
    have g1 : upd H p (HO.tup [V.str (Txt.partition x ("/" : Str)).1, V.str (Txt.partition x ("/" : Str)).2.1, V.str (Txt.partition x ("/" : Str)).2.2]) p = some (.tup [V.str (Txt.partition x ("/" : Str)).1, V.str (Txt.partition x ("/" : Str)).2.1, V.str (Txt.partition x ("/" : Str)).2.2]) := upd_same
    generalize upd H p (HO.tup [V.str (Txt.partition x ("/" : Str)).1, V.str (Txt.partition x ("/" : Str)).2.1, V.str (Txt.partition x ("/" : Str)).2.2]) = H1 at *
    generalize (Txt.partition x ("/" : Str)).1 = a at *
    generalize (Txt.partition x ("/" : Str)).2.1 = m at *
    generalize (Txt.partition x ("/" : Str)).2.2 = b at *
    refine ⟨p, _, rfl, SqT.of g1, rfl, _, _, rfl, _, _, rfl, _, _, rfl, rfl, ?_⟩
    refine nxI ⟨_, rfl, a, rfl, _, rfl, ?_⟩
    cases ea : digB a with
    | false =>
      rw [ea] at k
      exact iteT (k _ _ s1 .non)
    | true =>
      refine iteF ⟨_, rfl, b, rfl, _, rfl, ?_⟩
      cases eb : digB b with
      | false =>
        rw [ea, eb] at k
        exact iteT (k _ _ s1 .non)
      | true =>
        rw [ea, eb] at k ok
        rw [Bool.and_self, Bool.not_true, Bool.false_or, Bool.and_eq_true] at ok
        refine iteF (nxI ⟨_, rfl, a, rfl, ok.1, _, rfl, b, rfl, ok.2, (by show 2 ≤ sizeLine; decide), fun r nr => ?_⟩)
        exact k _ _ (s1.trans (same_put nr)) (.tup upd_same (.cons (.int _) (.cons (.int _) .nil)))
theorem ok_rdP {f : Addr} {fd : FuncData} (F : Fun K "_read_pieces" "_read_pieces" s__read_pieces f fd) (M : Rd K mg) : FnOk P w K mg base CX0 3 f fd ["text"] (spRdP K) := by
  have GF : FnOk P w K mg base CX0 2 M.f_rf.1 M.f_rf.2 ["text"] (spRdF K) := ok_rdF M.rf.F M
  refine F.ok sc_RP (fun vs H Q E h => ?_) (fun cdv A outer s H vs Q E hr h => ?_)
  · obtain ⟨x, rfl, _⟩ := h
    rfl
  · obtain ⟨x, rfl, ok, k⟩ := h
    have big : 9000 ≤ sizeLine := by decide
    unfold okRdB at ok
    simp only [Bool.and_eq_true, decide_eq_true_eq] at ok
    obtain ⟨lx, lw, okw⟩ := ok
    unfold rdPsD at k
    refine ⟨_, pss_cons (ps_if (pt_cmpR op_eq (pv 0) pe_str (nomark _)) (pss_one (ps_ret (pe_tup pa_nil))) pss_nil) (pss_cons (ps_set (i := 1) sc_RP.nd rfl (.inl rfl) (pe_lst pa_nil)) (pss_cons (ps_for PassesOwn.never rfl (pi_list (pe_split (pv 0) pe_str)) (pg_name (i := 2) sc_RP.nd rfl (.inl rfl)) (pss_cons ((ps_setLc (i := 3) (te := tCall (spRdF K) [] E0 (tCons (tVar 4) tNil)) (own := [("part", 4)]) (g := (gName 4)) (tt := tYes) rfl sc_RP.nd rfl rfl (sw_true rfl rfl rfl (by decide +kernel)) (pi_list (pe_split (pe_slice sl_str (pv 2) (po_some pe_int) (po_some (pe_un un_neg pe_int))) pe_str)) (blkOk_by (N := NRP) (sc := defScope s__read_pieces) (by decide +kernel)) (fun _ _ _ _ _ => (pg_name (i := 4) sc_RP.nd rfl (.inl rfl))) (fun _ _ _ _ _ => pts_nil) (fun _ _ _ _ _ => (pe_call GF hr (by rfl) M.rf.g M.rf.F.kp M.rf.b .nil pass0 (pa_cons (pv 4) pa_nil))))) (pss_one (ps_expr (pe_bm PySem.F.plainAttrs_list PySem.F.slot_list_append PySem.F.type_list_append mt_append (pv 1) (pa_cons (pe_tup (pa_cons (pe_ix ix_list (pv 3) pe_int (fun _ _ => rfl)) (pa_cons (pe_ix ix_list (pv 3) (pe_un un_neg pe_int) (fun _ _ => rfl)) (pa_cons (pe_cmpR op_eq (pe_slice sl_str (pv 2) po_none (po_some pe_int)) pe_str (nomark _)) (pa_cons (pe_cmpR op_eq (pe_slice sl_str (pv 2) (po_some (pe_un un_neg pe_int)) po_none) pe_str (nomark _)) pa_nil))))) pa_nil)))))) (pss_one (ps_ret (pe_callTy (cr_tupL) (by rfl) M.c.tuple (by decide +kernel) (pa_cons (pv 1) pa_nil)))))), ?_⟩
    have es : decide (V.str x = V.str ("none" : Str)) = decide (x = ("none" : Str)) := by rw [decide_eq_decide, V.str.injEq]
    refine ⟨_, rfl, rfl, _, rfl, ?_⟩
    rw [es]
    by_cases z : x = ("none" : Str)
    · rw [decide_eq_true z]
      rw [if_pos z] at k
      refine iteT ⟨(by show 0 ≤ sizeLine; decide), fun p np => k _ _ (same_put np) (.tup upd_same .nil)⟩
    · rw [decide_eq_false z]
      rw [if_neg z] at k
      refine iteF (nxI ⟨(by show 0 ≤ sizeLine; decide), fun D nD => ?_⟩)
      have s1 := same_put (o := HO.lst []) nD
      have g1 : upd H D (HO.lst []) D = some (.lst []) := upd_same
      generalize upd H D (HO.lst []) = H1 at *
      refine nxI ⟨_, rfl, ⟨_, rfl⟩, x, (" " : Str), rfl, rfl, by decide, by omega, fun W nW => ?_⟩
      generalize eW : Txt.split x (" " : Str) = ws at *
      have s2 := same_put (o := HO.lst (ws.map V.str)) nW
      have g2 : upd H1 W (HO.lst (ws.map V.str)) W = some (.lst (ws.map V.str)) := upd_same
      have g1' := s2 _ _ g1
      generalize upd H1 W (HO.lst (ws.map V.str)) = H2 at *
      refine ⟨W, rfl, ⟨_, SqL.of g2⟩, for_list (K := K) (a := W) (xs := ws.map V.str) (fun i σ H' => ∃ (p2 p3 : Option V), σ = [some (.str x), some (.ref D), p2, p3, none] ∧ (∃ ys, H' D = some (.lst ys) ∧ AnAll K H' ys ((ws.take i).map rdPcD) ∧ ys.length = i) ∧ H' W = some (.lst (ws.map V.str)) ∧ Same H H')
        ⟨none, none, rfl, ⟨[], g1', .nil, rfl⟩, g2, s1.trans s2⟩ (fun i σ H' _ ⟨_, _, _, _, e, _⟩ => SqL.of e) ?_ ?_⟩
      · rintro i y σ H3 hi ⟨p2, p3, rfl, ⟨ys, hD, ay, ly⟩, hW, e3⟩
        rw [List.getElem?_map] at hi
        obtain ⟨wd, hwd, rfl⟩ := Option.map_eq_some_iff.mp hi
        have il := (List.getElem?_eq_some_iff.mp hwd).1
        have okW := List.all_eq_true.mp okw wd (List.mem_of_getElem? hwd)
        unfold okWB at okW
        simp only [Bool.and_eq_true, decide_eq_true_eq] at okW
        obtain ⟨l1, l2, ne, l3, okp⟩ := okW
        refine ⟨_, rfl, 1, rfl, 1, rfl, -1, rfl, wd, rfl, by omega, ⟨_, rfl⟩, _, ("," : Str), rfl, rfl, by decide, by omega, fun Pa nPa => ?_⟩
        have eP : Txt.split (cutS wd (some 1) (some (-1))) ("," : Str) = partsR wd := rfl
        rw [eP]
        have s4 := same_put (o := HO.lst ((partsR wd).map V.str)) nPa
        have g4 : upd H3 Pa (HO.lst ((partsR wd).map V.str)) Pa = some (.lst ((partsR wd).map V.str)) := upd_same
        have hD4 := s4 _ _ hD
        have hW4 := s4 _ _ hW
        have ay4 := ay.same s4
        have E4 := e3.trans s4
        generalize upd H3 Pa (HO.lst ((partsR wd).map V.str)) = H4 at *
        refine ⟨Pa, rfl, ⟨_, SqL.of g4⟩, fun D2 nD2 => ?_⟩
        have s5 := same_put (o := HO.lst []) nD2
        refine lc_list (K := K) (a := Pa) (xs := (partsR wd).map V.str) (fun j H' => (∃ us, H' D2 = some (.lst us) ∧ AnAll K H' us (((partsR wd).take j).map rdFrD) ∧ us.length = j) ∧ Same H4 H') ⟨⟨[], upd_same, .nil, rfl⟩, s5⟩ (fun j H' _ ⟨_, e⟩ => SqL.of (e _ _ g4)) ?_ ?_
        · rintro j z H5 hj ⟨⟨us, hU, au, lu⟩, e5⟩
          rw [List.getElem?_map] at hj
          obtain ⟨pt, hpt, rfl⟩ := Option.map_eq_some_iff.mp hj
          have jl := (List.getElem?_eq_some_iff.mp hpt).1
          refine ⟨rfl, _, rfl, pt, rfl, List.all_eq_true.mp okp pt (List.mem_of_getElem? hpt), fun v H6 s6 av => ?_⟩
          have hU6 := s6 _ _ hU
          refine ⟨us, hU6, small1000 (by omega), ⟨us ++ [v], upd_same, ?_, by rw [List.length_append, lu]; rfl⟩, fun b o e => ?_⟩
          · rw [List.take_add_one, hpt, List.map_append]
            exact anAll_app (anAll_upd hU6 (au.same s6) fun d m => by
              obtain ⟨q, _, rfl⟩ := List.mem_map.mp m
              exact rd_noL q) (.cons (an_upd hU6 av (rd_noL pt)) .nil)
          · rw [upd_ne (ne_of_none e nD2)]
            exact s6 _ _ (e5 _ _ e)
        · rintro H5 ⟨⟨us, hU, au, lu⟩, e5⟩
          rw [List.length_map] at lu au
          rw [List.take_length] at au
          have une : us ≠ [] := fun z => by
            rw [z] at lu
            exact ne (List.eq_nil_of_length_eq_zero lu.symm)
          obtain ⟨v0, h0, a0⟩ := first_an au une
          obtain ⟨v1, h1, a1⟩ := last_an au une
          have hD5 := e5 _ _ hD4
          have hW5 := e5 _ _ hW4
          have eo : ∀ {u q : Str}, decide (V.str u = V.str q) = decide (u = q) := fun {u q} => by rw [decide_eq_decide, V.str.injEq]
          refine nxI ⟨_, rfl, .inl ⟨rfl, _, SqL.of hD5⟩, _, rfl, D2, us, 0, v0, rfl, rfl, SqL.of hU, at_of (j := 0) rfl h0, ?_⟩
          refine ⟨_, rfl, 1, rfl, D2, us, -1, v1, rfl, rfl, SqL.of hU, h1, ?_⟩
          refine ⟨_, rfl, 1, rfl, wd, rfl, by omega, rfl, _, rfl, 1, rfl, -1, rfl, wd, rfl, by omega, rfl, (by show 4 ≤ sizeLine; decide), fun T nT => ?_⟩
          rw [eo, eo]
          have s6 := same_put (o := HO.tup [v0, v1, V.bl (decide (cutS wd none (some 1) = ("[" : Str))), V.bl (decide (cutS wd (some (-1)) none = ("]" : Str)))]) nT
          have g6 : upd H5 T (HO.tup [v0, v1, V.bl (decide (cutS wd none (some 1) = ("[" : Str))), V.bl (decide (cutS wd (some (-1)) none = ("]" : Str)))]) T = some (.tup [v0, v1, V.bl (decide (cutS wd none (some 1) = ("[" : Str))), V.bl (decide (cutS wd (some (-1)) none = ("]" : Str)))]) := upd_same
          generalize upd H5 T (HO.tup [v0, v1, V.bl (decide (cutS wd none (some 1) = ("[" : Str))), V.bl (decide (cutS wd (some (-1)) none = ("]" : Str)))]) = H6 at *
          have aT : An K H6 (.ref T) (rdPcD wd) := .tup g6 (.cons (a0.same s6) (.cons (a1.same s6) (.cons (.bl _) (.cons (.bl _) .nil))))
          have hD6 := s6 _ _ hD5
          refine ⟨D, ys, .ref T, rfl, rfl, hD6, small1000 (by omega), nxI ⟨_, _, rfl, ⟨ys ++ [.ref T], upd_same, ?_, by rw [List.length_append, ly]; rfl⟩, ?_, ?_⟩⟩
          · rw [List.take_add_one, hwd, List.map_append]
            exact anAll_app (anAll_upd hD6 (ay4.same (e5.trans s6)) fun d m => by
              obtain ⟨q, _, rfl⟩ := List.mem_map.mp m
              exact rdPc_noL q) (.cons (an_upd hD6 aT (rdPc_noL wd)) .nil)
          · have wd' : W ≠ D := fun z => by
              rw [z] at nW
              rw [nW] at g1
              cases g1
            rw [upd_ne wd']
            exact s6 _ _ hW5
          · exact fun b o e => by
              rw [upd_ne (ne_of_none e nD)]
              exact s6 _ _ (e5 _ _ (E4 _ _ e))
      · rintro σ H3 ⟨p2, p3, rfl, ⟨ys, hD, ay, ly⟩, hW, e3⟩
        rw [List.length_map, List.take_length] at ay
        refine nxI ⟨_, rfl, D, ys, rfl, SqL.of hD, fun T nT => ?_⟩
        have s4 := same_put (o := HO.tup ys) nT
        exact k _ _ (e3.trans s4) (.tup upd_same (ay.same s4))
end
end My
set_option Elab.async false
set_option linter.all false
set_option maxRecDepth 100000
set_option maxHeartbeats 8000000
set_option exponentiation.threshold 4000
namespace My
open PySem PySem.Spec PyProof.Rows L2 Gn Mt
/-! Lot.read -/
theorem kit_strS : kitB "str" "str" = some true := by decide +kernel
theorem takesN0 {X : Cx} : L2N.Takes X (fun _ _ _ _ => False) := fun _ _ ⟨_, _, _, _, _, _, _, _, _, _, _, _, _, _, _, _, z⟩ => z.elim
theorem same_made {H : Hp} {x dx C : Addr} (n1 : H x = none) (n2 : H dx = none) (ne : dx ≠ x) : Same H (upd (upd H dx (.own x)) x (.ins C dx [])) :=
  (same_put n2).trans (same_put (by rw [upd_ne (Ne.symm ne)]; exact n1))
/-- Lot(thing), thing right -/
theorem make_lot {K : PySem.W.Frag} {H : Hp} {Q : VK} {C CP : Addr} {v : V} {d : PyData} {E' : XK} (an : An K H v d) (lit : LitP d) (z : pcsW d = none) (k : ∀ x dx H', Same H H' → H' x = some (.ins C dx [("_pieces", v)]) → Q (.ref x) H') :
    ∀ x dx, H x = none → H dx = none → dx ≠ x → spInitX K C CP (.ref x :: [v]) (upd (upd H dx (.own x)) x (.ins C dx [])) (fun u H2 => u = .non ∧ Q (.ref x) H2) E' := fun x dx n1 n2 ne => by
  have s0 := same_made (C := C) n1 n2 ne
  refine ⟨x, dx, v, d, rfl, upd_same, an.same s0, lit, fun _ H' kp hx => ⟨rfl, ?_⟩, fun w y => by rw [z] at y; cases y⟩
  exact k x dx H' (fun b o e => kp b o (fun y => by rw [y, n1] at e; cases e) (s0 _ _ e)) hx
theorem pcs_flats : ∀ cs : List Cut, flat.flats (pcsD cs) = true
  | [] => by simp only [pcsD, flat.flats]
  | [_] => by simp only [pcsD, flat.flats]
  | c :: e :: r => by simp only [pcsD, pcD, frD, flat.flats, flat, pcs_flats r, Bool.and_self]
section
variable {P : Program} {w : World} {K : PySem.W.Frag} {mg : Str → Option Value} {base : Heap} {C fI fP CP fE : Addr} {fdI fdP fdE : FuncData}
theorem ok_lread {f : Addr} {fd : FuncData} (F : Fun K "read" "Lot.read" s_lread f fd) (T : LotC P w K mg C fI fP fdI fdP) (B : Bp K mg) (D : Pd K mg) (TP : OwE P w K mg base "InvalidPieces" ["index"] CP fE fdE) (M : Rd K mg) : FnOk P w K mg base CX0 8 f fd ["cls", "text"] (spRead K C) := by
  have GI : FnOk P w K mg base (L2N.CX P w) 6 fI fdI ["self", "pieces"] (spInitX K C CP) := ok_linitX T B D TP
  have GW : FnOk P w K mg base CX0 5 D.f__first_wrong.1 D.f__first_wrong.2 ["pieces"] (spWrongX K) := ok_wrongX D.d__first_wrong.F B D
  have GP : FnOk P w K mg base CX0 3 M.f_rp.1 M.f_rp.2 ["text"] (spRdP K) := ok_rdP M.rp.F M
  have GT : FnOk P w K mg base CX0 4 M.f_tx.1 M.f_tx.2 ["pieces"] (spText K) := ok_text M.tx.F M.bt M.di M.ft M.wo
  refine F.ok sc_lread (fun vs H Q E h => ?_) (fun cdv A outer s H vs Q E hr h => ?_)
  · obtain ⟨x, cs, rfl, _⟩ := h
    rfl
  · obtain ⟨x, cs, rfl, ok, eD, right, lit, od, sm, et, k⟩ := h
    have hr3 : Room 3 _ := hr.mono (by decide)
    have hr4 : Room 4 _ := hr.mono (by decide)
    have hr5 : Room 5 _ := hr.mono (by decide)
    have hr7 : Room (6 + 1) _ := hr.mono (by decide)
    refine ⟨_, pss_cons (ps_if (pt_not (pt_val (pe_callB (call_isi) (by rfl) M.c.isi (by decide +kernel) (pa_cons (pv 1) (pa_cons (pe_bltn (v := .ty "str") (by rfl) M.bt.str (by decide +kernel) rfl) pa_nil))))) (pss_one ps_never) pss_nil) (pss_cons (ps_set (i := 2) sc_lread.nd rfl (.inl rfl) (pe_call GP hr3 (by rfl) M.rp.g M.rp.F.kp M.rp.b .nil pass0 (pa_cons (pv 1) pa_nil))) (pss_cons (ps_if (PW.pt (pw_or (pt_cmpR op_notN (pe_call GW hr5 (by rfl) D.d__first_wrong.g D.d__first_wrong.F.kp D.d__first_wrong.b .nil pass0 (pa_cons (pv 2) pa_nil)) pe_non (nomark _)) (pw_or1 (pt_cmpR op_ne (pe_call GT hr4 (by rfl) M.tx.g M.tx.F.kp M.tx.b .nil pass0 (pa_cons (pv 2) pa_nil)) (pv 1) (nomark _))))) (pss_one ps_never) pss_nil) (pss_one (ps_ret (pe_makeV (i := 0) T.mkL GI hr7 rfl (.inl rfl) T.bI (fun σ => L2N.passAt takesN0 σ) (pa_cons (pv 2) pa_nil)))))), ?_⟩
    refine ⟨_, rfl, .str x, .ty "str", _, _, true, rfl, .ty "str", (An.str (K := K) (H := H) x).ty, kit_ty kit_strS, _, rfl, iteF ?_⟩
    refine nxI ⟨_, rfl, x, rfl, ok, fun v H1 s1 an => ?_⟩
    rw [eD] at an right lit
    refine nxI ⟨_, rfl, v, _, rfl, an, lit, fun H2 s2 => ?_⟩
    have e0 : wrongFrom none 0 (pcsD cs) = none := Option.map_eq_none_iff.mp right
    rw [e0]
    refine ⟨rfl, _, rfl, iteF ?_⟩
    have fl : flat (.tuple (pcsD cs)) = true := by
      simp only [flat]
      exact pcs_flats cs
    have dp : Dp K H2 v (.tuple (pcsD cs)) := (an.same s2).dp fl
    refine ⟨_, rfl, v, cs, rfl, dp, od, sm, ?_, fun H3 s3 => ?_⟩
    · have := (lit _ rfl).1
      omega
    rw [et]
    refine ⟨_, rfl, rfl, _, rfl, ?_⟩
    rw [decide_eq_true rfl]
    refine iteF (nxI ⟨rfl, _, rfl, make_lot (an.same (s2.trans s3)) lit right fun y dy H4 s4 hy => ?_⟩)
    obtain ⟨a, xs, ds', rfl, _⟩ := an.isT rfl
    exact k _ _ (s1.trans (s2.trans (s3.trans s4))) ⟨y, dy, a, rfl, hy, dp_same (s3.trans s4) _ _ dp⟩
end
end My
set_option Elab.async false
set_option linter.all false
set_option maxRecDepth 100000
set_option maxHeartbeats 4000000
namespace Gn
open PySem PySem.Spec PyProof.Rows L2
/-! sorted(set of ints), as many as a set has here -/
section
variable {P : Program} {w : World} {A : Around} {E : Value → Shared → Prop} {s : Shared} {a : Addr}
/-- what comes of it -/
def Comes (s : Shared) (S : Int → Bool) (n : Nat) (Q : Value → Shared → Prop) : Prop :=
  ∀ (z : Shared) (at_ : Addr) (res : Array Value) (ep : Nat) (ks : List Int), (∀ b o, s.heap.get? b = some o → z.heap.get? b = some o) → z.gens = s.gens → z.os = s.os → s.heap.objs.size ≤ at_ →
    z.heap.get? at_ = some (seqObj "list" res ep) → IntsAre res.toList ks → ks.Pairwise (· < ·) → (∀ k, k ∈ ks ↔ S k = true) → ks.length = n → Q (.ref at_) z
theorem sorted_big {S : Int → Bool} {n : Nat} {Q : Value → Shared → Prop} (R : SetR w s.heap a S n) (quiet : A.handled = none) (h : Comes s S n Q) : wpAny (model P w) A (call (.builtin "sorted") [.ref a]) Q E s := by
  obtain ⟨ob, els, gen, tb, isO, isS, dat, good, uni, mem, few, fits, cnt, ris, ord⟩ := R
  apply Calls.call_function_entry kind_sorted plain_sorted entry_sorted (args_sorted1 _)
  unfold Builtin.«sorted»
  apply wpAny_bind (m := checkCount "sorted" 1 1 _)
  apply wpAny_pure
  refine wpAny_bind (collect_set (A := A.in1) quiet ⟨ob, isO, isS.1, dat⟩ fits few ris ord fun y vs old more ge oe perm => ?_)
  have many : vs.length = n := by
    rw [perm.length_eq, List.length_map, Array.length_toList]
    exact cnt
  have nums : IntsAre vs (vs.map Builtin.Re.reRawOf) := ints_of vs fun v hv => by
    obtain ⟨e, he, q⟩ := List.mem_map.mp (perm.mem_iff.mp hv)
    obtain ⟨k, tk, h1, _⟩ := good e he
    rw [← q]
    exact ⟨k, tk, h1⟩
  have same : (vs.map Builtin.Re.reRawOf).Perm (els.toList.map keyOf) := by
    have l := perm.map Builtin.Re.reRawOf
    rw [List.map_map] at l
    exact l
  have line : vs.length ≤ sizeLine := by
    rw [many, ← cnt, sizeLine_eq]
    have : scanBound = 4096 := rfl
    omega
  refine wpAny_bind (wpAny_newList ?_ line)
  have new : (y.heap.push (seqObj "list" vs.toArray 0)).get? y.heap.objs.size = some (seqObj "list" vs.toArray 0) := Heap.get?_push_size _ rfl
  refine wpAny_bind (wpAny_holding (wpAny_call_entry slot_list_sort ⟨_, new, rfl⟩ entry_list_sort (SrtO.list_sort_ord SrtO.swo_int new line (fun h2 => SrtO.ints_sortable nums h2) fun out hs hb => ⟨_, rfl, ?_⟩) (args_list_sort _)))
  obtain ⟨i1, i2, i3⟩ := SrtO.ints_out nums hs hb
  have i4 : (out.map SrtO.iv).Perm (els.toList.map keyOf) := i2.trans same
  obtain ⟨ep, hep⟩ := sortedHeap_at (vs := vs) (out := out.toArray) new
  refine wpAny_pure ⟨_, rfl, h _ y.heap.objs.size out.toArray ep (out.map SrtO.iv) (fun b o e => ?_) ge oe more hep (by simpa using i1) (lt_of_le_nodup _ i3 (i4.nodup_iff.mpr uni)) (fun k => by rw [i4.mem_iff, ← mem k]) ?_⟩
  · have e1 := old b o e
    have lt := Heap.lt_size e1
    show (sortedHeap (y.heap.push (seqObj "list" vs.toArray 0)) y.heap.objs.size vs out.toArray).get? b = some o
    rw [sortedHeap_old (Nat.ne_of_lt lt) (by rw [size_push']; exact Nat.le_succ_of_le lt)]
    exact Heap.get?_push_of_some _ e1
  · rw [i4.length_eq, List.length_map, Array.length_toList]
    exact cnt
end
/-- sorted(a set), any set of ints there is -/
def rSortedSetN (w : World) : List V → Hp → VK → Prop := fun vs H Q => ∃ (a : Addr) (S : Int → Bool) (n : Nat), vs = [V.ref a] ∧ H a = some (SetO w a S n) ∧
  ∀ (ks : List Int) (p : Addr), ks.Pairwise (· < ·) → (∀ k : Int, k ∈ ks ↔ S k = true) → ks.length = n → H p = none → Q (.ref p) (upd H p (.lst (ks.map V.int)))
theorem cr_sortedSetN {X : Cx} (hc : X.calm = true) : CallR X (.builtin "sorted") (rSortedSetN X.w) := by
  intro pins s σ H vs us Q I r h
  obtain ⟨a, S, n, rfl, ha, q⟩ := h
  rw [Vals.ref1 r]
  have R := setO_get I ha
  have small : n < scanBound := by
    obtain ⟨_, _, _, _, _, _, _, _, _, _, few, _, cnt, _⟩ := id R
    omega
  refine sorted_big R (I.ok.hd hc) fun z p res ep ks old ge oe more hp nums lt mem cnt => ?_
  have fitsL : (ks.map V.int).length ≤ sizeLine := by
    rw [List.length_map, cnt, sizeLine_eq]
    have : scanBound = 4096 := rfl
    omega
  have free : H p = none := I.hok.fresh more
  have J : Inv X pins σ (upd H p (.lst (ks.map V.int))) { s with heap := z.heap, gens := z.gens, drawn := z.drawn, toks := z.toks } :=
    I.call (ch := []) (Un.laid old more free) (I.hok.laid old more ⟨fitsL, res.toList, ep, vals_of_ints nums, hp⟩) (by rw [ge]; exact I.bare) (fun _ y => nomatch y)
  have same : z = { s with heap := z.heap, gens := z.gens, drawn := z.drawn, toks := z.toks } := by
    cases z; cases s; cases oe; rfl
  rw [same]
  exact ⟨.ref p, _, J, rfl, q ks p lt mem cnt free⟩
end Gn
set_option Elab.async false
set_option linter.all false
set_option maxRecDepth 100000
set_option maxHeartbeats 8000000
set_option exponentiation.threshold 4000
namespace My
open PySem PySem.Spec PyProof.Rows L2 Gn Mt
abbrev s__law_pieces : Stmt := top 60
theorem sc__law_pieces : FnScope ["_law_tin_here", "_law_many", "_law_k", "_law_cuts", "_law_found", "_law_way", "_law_low_here", "_law_high"] ["_law_tin_here", "_law_many"] (defScope s__law_pieces) := ⟨rfl, rfl, rfl, by decide +kernel, rfl, by decide +kernel, by decide +kernel⟩
/-! drawn pieces -/
mutual
theorem an_sipN {K : PySem.W.Frag} {H H' : Hp} {t : Addr} (T : Tin H t) (e : Sipped H H' t) : ∀ {v : V} {d : PyData}, An K H v d → noL d = true → An K H' v d
  | _, _, .non, _ => .non
  | _, _, .bl b, _ => .bl b
  | _, _, .int i, _ => .int i
  | _, _, .str x, _ => .str x
  | _, _, .lst _ _ _, f => by unfold noL at f; cases f
  | _, _, .tup (a := a) h s, f => by
    unfold noL at f
    refine .tup (e.2 _ _ h fun z => ?_) (anAll_sipN T e s f)
    obtain ⟨_, _, _, ht, _⟩ := T
    rw [z, ht] at h
    cases h
  | _, _, .dct _, f => by unfold noL at f; cases f
theorem anAll_sipN {K : PySem.W.Frag} {H H' : Hp} {t : Addr} (T : Tin H t) (e : Sipped H H' t) : ∀ {vs : List V} {ds : List PyData}, AnAll K H vs ds → noLs ds = true → AnAll K H' vs ds
  | _, _, .nil, _ => .nil
  | _, _, .cons h s, f => by
    unfold noLs at f
    rw [Bool.and_eq_true] at f
    exact .cons (an_sipN T e h f.1) (anAll_sipN T e s f.2)
end
/-- draws leave it -/
def sipB : PyData → Bool
  | .list ds => (ds.length != 3 || ds.all isTupB) && noLs ds
  | d => noL d
theorem sipped_put {H0 G : Hp} {t D : Addr} {o : HO} (s : Sipped H0 G t) (n : H0 D = none) (nt : D ≠ t) : Sipped H0 (upd G D o) t := by
  obtain ⟨⟨a, b, c, h, r⟩, k⟩ := s
  exact ⟨⟨a, b, c, by rw [upd_ne (Ne.symm nt)]; exact h, r⟩, fun x z e ne => by rw [upd_ne (ne_of_none e n)]; exact k x z e ne⟩
theorem sipped_trans {H0 G G' : Hp} {t : Addr} (s : Sipped H0 G t) (s' : Sipped G G' t) : Sipped H0 G' t := ⟨s'.1, fun b o e n => s'.2 _ _ (s.2 _ _ e n) n⟩
theorem sipped_sm {H0 G G' : Hp} {t : Addr} (s : Sipped H0 G t) (s' : Same G G') : Sipped H0 G' t := sipped_trans s (Sipped.ofSame s.1 s')
/-- a small fraction from 0 to 1 -/
structure Sml (p : Int × Int) : Prop where
  n0 : 0 ≤ p.1
  le : p.1 ≤ p.2
  d1 : 1 ≤ p.2
  d24 : p.2 ≤ 24
def GoodP (d : PyData) : Prop := ∃ (p q : Int × Int) (f t : Bool), d = .tuple [frD p, frD q, .bool f, .bool t] ∧ Sml p ∧ Sml q
theorem sml_low {a : Int} (h0 : 0 ≤ a) (h : a ≤ 24) : Sml (a / ((Nat.gcd a.natAbs (24 : Int).natAbs : Nat) : Int), 24 / ((Nat.gcd a.natAbs (24 : Int).natAbs : Nat) : Int)) := by
  have g1 : 1 ≤ Nat.gcd a.natAbs (24 : Int).natAbs := Nat.gcd_pos_of_pos_right _ (by decide)
  have g2 : Nat.gcd a.natAbs (24 : Int).natAbs ≤ 24 := Nat.le_of_dvd (by decide) (Nat.gcd_dvd_right _ _)
  generalize Nat.gcd a.natAbs (24 : Int).natAbs = g at *
  have gp : (0 : Int) < (g : Int) := by omega
  refine ⟨Int.ediv_nonneg h0 (by omega), Int.ediv_le_ediv gp h, ?_, ?_⟩
  · show 1 ≤ 24 / (g : Int)
    exact (Int.le_ediv_iff_mul_le gp).mpr (by omega)
  · show 24 / (g : Int) ≤ 24
    exact Int.ediv_le_self _ (by decide)
theorem good_noL {d : PyData} (h : GoodP d) : noL d = true := by
  obtain ⟨p, q, f, t, rfl, _⟩ := h
  rfl
theorem app_pc {K : PySem.W.Frag} {H : Hp} {D : Addr} {xs : List V} {ds : List PyData} {v : V} {d : PyData} (hD : H D = some (.lst xs)) (all : AnAll K H xs ds) (good : ∀ e ∈ ds, GoodP e) (h : An K H v d) (g : GoodP d) : AnAll K (upd H D (.lst (xs ++ [v]))) (xs ++ [v]) (ds ++ [d]) := by
  have e : ∀ a ys, H a = some (.tup ys) → upd H D (.lst (xs ++ [v])) a = some (.tup ys) := fun a ys z => by
    rw [upd_ne (fun q => by rw [q, hD] at z; cases z)]
    exact z
  exact anAll_app (anAll_tupN e all (noLs_iff.mpr fun d m => good_noL (good d m))) (.cons (an_tupN e h (good_noL g)) .nil)
theorem app_good {ds : List PyData} {d : PyData} (good : ∀ e ∈ ds, GoodP e) (g : GoodP d) : ∀ e ∈ ds ++ [d], GoodP e := fun e m => by
  rcases List.mem_append.mp m with m | m
  · exact good e m
  · rw [List.mem_singleton.mp m]; exact g
/-- all cuts at small fractions -/
def SmlC (cs : List Cut) : Prop := ∀ c ∈ cs, Sml (c.n, c.d)
/-! drawn pieces are right -/
def f24 (y : Int) : Int × Int := (y / ((Nat.gcd y.natAbs (24 : Int).natAbs : Nat) : Int), 24 / ((Nat.gcd y.natAbs (24 : Int).natAbs : Nat) : Int))
def c24 (y : Int) (b : Bool) : Cut := ⟨(f24 y).1, (f24 y).2, b⟩
theorem c24_in {y : Int} (h0 : 0 ≤ y) (h : y ≤ 23) (b : Bool) : (c24 y b).In := by
  have : ∀ m ∈ List.range 24, 0 < (f24 ((m : Nat) : Int)).2 ∧ Int.gcd (f24 ((m : Nat) : Int)).1 (f24 ((m : Nat) : Int)).2 = 1 ∧ 0 ≤ (f24 ((m : Nat) : Int)).1 ∧ last.lt (c24 ((m : Nat) : Int) true) = false ∧ last.lt (c24 ((m : Nat) : Int) false) = false := by decide +kernel
  obtain ⟨h1, h2, h3, h4, h5⟩ := this y.toNat (List.mem_range.mpr (by omega))
  rw [Int.toNat_of_nonneg h0] at h1 h2 h3 h4 h5
  exact ⟨⟨h1, h2⟩, h3, by cases b <;> assumption⟩
theorem c24_lt {y z : Int} (h0 : 0 ≤ y) (h1 : y < z) (h : z ≤ 23) (b b' : Bool) : (c24 y b).lt (c24 z b') = true := by
  have : ∀ m ∈ List.range 24, ∀ n ∈ List.range 24, m < n → (c24 ((m : Nat) : Int) true).lt (c24 ((n : Nat) : Int) true) = true ∧ (c24 ((m : Nat) : Int) true).lt (c24 ((n : Nat) : Int) false) = true ∧ (c24 ((m : Nat) : Int) false).lt (c24 ((n : Nat) : Int) true) = true ∧ (c24 ((m : Nat) : Int) false).lt (c24 ((n : Nat) : Int) false) = true := by decide +kernel
  obtain ⟨k1, k2, k3, k4⟩ := this y.toNat (List.mem_range.mpr (by omega)) z.toNat (List.mem_range.mpr (by omega)) (by omega)
  rw [Int.toNat_of_nonneg h0, Int.toNat_of_nonneg (by omega)] at k1 k2 k3 k4
  cases b <;> cases b' <;> assumption
theorem c24_self (y : Int) : (c24 y false).lt (c24 y true) = true := by
  unfold Cut.lt c24
  rw [if_pos ⟨rfl, rfl⟩]
  rfl
theorem lt_app2 {cs : List Cut} {c e : Cut} (L : Lt cs) (vc : c.In) (ve : e.In) (h : c.lt e = true) (hc : ∀ x ∈ cs, x.lt c = true) : Lt (cs ++ [c, e]) where
  v := fun x m => by
    rcases List.mem_append.mp m with m | m
    · exact L.v x m
    · simp only [List.mem_cons, List.mem_nil_iff, or_false] at m
      rcases m with rfl | rfl
      · exact vc
      · exact ve
  a := by
    refine List.pairwise_append.mpr ⟨L.a, List.pairwise_cons.mpr ⟨fun x m => by rw [List.mem_singleton.mp m]; exact h, List.pairwise_singleton _ _⟩, fun x mx y my => ?_⟩
    simp only [List.mem_cons, List.mem_nil_iff, or_false] at my
    rcases my with rfl | rfl
    · exact hc x mx
    · exact Cut.trans (L.v x mx).toV vc.toV ve.toV (hc x mx) h
  e := by
    rw [List.length_append]
    show odd (cs.length + 2) = false
    simpa [odd] using L.e
theorem pcs_app2 : ∀ {cs : List Cut} (c e : Cut), odd cs.length = false → pcsD (cs ++ [c, e]) = pcsD cs ++ [pcD c e]
  | [], _, _, _ => rfl
  | [_], _, _, o => by simp [odd] at o
  | a :: b :: r, c, e, o => by
    show pcD a b :: pcsD (r ++ [c, e]) = pcD a b :: (pcsD r ++ [pcD c e])
    rw [pcs_app2 (cs := r) c e (by simpa [odd] using o)]
/-- right pieces of small fractions -/
def Fin9 (ds : List PyData) : Prop := ∃ cs, ds = pcsD cs ∧ Lt cs ∧ SmlC cs
/-- and all of them ahead of what is still to come -/
def Rt (ys : List Int) (j : Nat) (ds : List PyData) : Prop := ∃ cs, ds = pcsD cs ∧ Lt cs ∧ SmlC cs ∧ ∀ c ∈ cs, ∀ q ∈ ys.drop j, c.lt (c24 q false) = true
theorem rt_fin {ys : List Int} {j : Nat} {ds : List PyData} (h : Rt ys j ds) : Fin9 ds := by
  obtain ⟨cs, e, L, s, _⟩ := h
  exact ⟨cs, e, L, s⟩
theorem rt_nil {ys : List Int} : Rt ys 0 [] := ⟨[], rfl, ⟨(fun c m => by cases m), List.Pairwise.nil, rfl⟩, (fun c m => by cases m), fun c m => by cases m⟩
theorem sml24 {y : Int} (h0 : 0 ≤ y) (h : y ≤ 23) (b : Bool) : Sml ((c24 y b).n, (c24 y b).d) := sml_low h0 (by omega)
theorem rt_more {ys : List Int} {j k : Nat} {ds : List PyData} {y1 y2 : Int} {b1 b2 : Bool} (pw : ys.Pairwise (· < ·)) (rg : ∀ q ∈ ys, 0 ≤ q ∧ q ≤ 23) (h : Rt ys j ds) (m1 : y1 ∈ ys.drop j) (m2 : y2 ∈ ys) (le : (c24 y1 b1).lt (c24 y2 b2) = true) (jk : j ≤ k) (aft : ∀ q ∈ ys.drop k, y1 < q ∧ y2 < q) :
    Rt ys k (ds ++ [pcD (c24 y1 b1) (c24 y2 b2)]) := by
  obtain ⟨cs, rfl, L, s, up⟩ := h
  have r1 := rg y1 (List.mem_of_mem_drop m1)
  have r2 := rg y2 m2
  have v1 := c24_in r1.1 r1.2 b1
  have hc : ∀ x ∈ cs, x.lt (c24 y1 b1) = true := fun x mx => by
    have h1 := up x mx y1 m1
    cases b1 with
    | false => exact h1
    | true => exact Cut.trans (L.v x mx).toV (c24_in r1.1 r1.2 false).toV v1.toV h1 (c24_self y1)
  refine ⟨cs ++ [c24 y1 b1, c24 y2 b2], (pcs_app2 _ _ L.e).symm, lt_app2 L v1 (c24_in r2.1 r2.2 b2) le hc, fun c m => ?_, fun c m q mq => ?_⟩
  · rcases List.mem_append.mp m with m | m
    · exact s c m
    · simp only [List.mem_cons, List.mem_nil_iff, or_false] at m
      rcases m with rfl | rfl
      · exact sml24 r1.1 r1.2 b1
      · exact sml24 r2.1 r2.2 b2
  · have rq := rg q (List.mem_of_mem_drop mq)
    obtain ⟨a1, a2⟩ := aft q mq
    rcases List.mem_append.mp m with m | m
    · refine up c m q ?_
      have e : ys.drop k = (ys.drop j).drop (k - j) := by rw [List.drop_drop]; congr 1; omega
      rw [e] at mq
      exact List.mem_of_mem_drop mq
    · simp only [List.mem_cons, List.mem_nil_iff, or_false] at m
      rcases m with rfl | rfl
      · exact c24_lt r1.1 a1 rq.2 b1 false
      · exact c24_lt r2.1 a2 rq.2 b2 false
theorem drop_get {ys : List Int} {j : Nat} (lt : j < ys.length) : ys[j] ∈ ys.drop j := List.mem_iff_getElem.mpr ⟨0, by rw [List.length_drop]; omega, by simp⟩
theorem aft_of {ys : List Int} (pw : ys.Pairwise (· < ·)) {i k : Nat} (li : i < ys.length) (lt : i < k) : ∀ q ∈ ys.drop k, ys[i] < q := fun q m => by
  obtain ⟨n, hn, rfl⟩ := List.mem_iff_getElem.mp m
  rw [List.getElem_drop]
  rw [List.length_drop] at hn
  exact List.pairwise_iff_getElem.mp pw i (k + n) li (by omega) (by omega)
theorem rt_one {ys : List Int} {j : Nat} {ds : List PyData} (pw : ys.Pairwise (· < ·)) (rg : ∀ q ∈ ys, 0 ≤ q ∧ q ≤ 23) (h : Rt ys j ds) (lt : j < ys.length) : Rt ys (j + 1) (ds ++ [.tuple [frD (f24 ys[j]), frD (f24 ys[j]), .bool true, .bool true]]) :=
  rt_more (b1 := false) (b2 := true) pw rg h (drop_get lt) (List.getElem_mem lt) (c24_self _) (by omega) fun q m => ⟨aft_of pw lt (by omega) q m, aft_of pw lt (by omega) q m⟩
theorem rt_two {ys : List Int} {j : Nat} {ds : List PyData} (pw : ys.Pairwise (· < ·)) (rg : ∀ q ∈ ys, 0 ≤ q ∧ q ≤ 23) (h : Rt ys j ds) (lt : j + 1 < ys.length) (v1 v2 : Bool) : Rt ys (j + 2) (ds ++ [.tuple [frD (f24 ys[j]), frD (f24 ys[j + 1]), .bool v1, .bool v2]]) := by
  have r1 := rg ys[j] (List.getElem_mem _)
  have r2 := rg ys[j + 1] (List.getElem_mem _)
  have l := List.pairwise_iff_getElem.mp pw j (j + 1) (by omega) lt (by omega)
  have z := rt_more (b1 := !v1) (b2 := v2) pw rg h (drop_get (by omega)) (List.getElem_mem lt) (c24_lt r1.1 l r2.2 _ _) (show j ≤ j + 2 by omega) fun q m => ⟨aft_of pw (by omega) (by omega) q m, aft_of pw lt (by omega) q m⟩
  have e : pcD (c24 ys[j] (!v1)) (c24 ys[j + 1] v2) = .tuple [frD (f24 ys[j]), frD (f24 ys[j + 1]), .bool v1, .bool v2] := by cases v1 <;> rfl
  rw [e] at z
  exact z
theorem fin_last {ds : List PyData} {p q : Int × Int} {f : Bool} (h : Fin9 (ds ++ [.tuple [frD p, frD q, .bool f, .bool false]])) (ne : ¬ (q.1 = 1 ∧ q.2 = 1)) : Fin9 (ds ++ [.tuple [frD p, frD q, .bool f, .bool false]] ++ [.tuple [frD q, frD (1, 1), .bool false, .bool false]]) := by
  obtain ⟨cs, e0, L, s⟩ := h
  have ln := congrArg List.length e0
  rw [List.length_append] at ln
  have l2 := pcs_len L.e
  have lp : 0 < (pcsD cs).length := by rw [← ln]; simp
  obtain ⟨c, e, hc, he, hp⟩ := pcs_at L.e (i := (pcsD cs).length - 1) (by omega)
  rw [← e0] at hp
  have e1 : (ds ++ [PyData.tuple [frD p, frD q, .bool f, .bool false]])[(ds ++ [PyData.tuple [frD p, frD q, .bool f, .bool false]]).length - 1]? = some (.tuple [frD p, frD q, .bool f, .bool false]) := by simp
  rw [e1] at hp
  have hp := Option.some.inj hp
  have hp : PyData.tuple [frD p, frD q, .bool f, .bool false] = .tuple [frD (c.n, c.d), frD (e.n, e.d), .bool (!c.b), .bool e.b] := hp
  have q1 : frD q = frD (e.n, e.d) := (List.cons.inj (List.cons.inj (PyData.tuple.inj hp)).2).1
  have q2 : PyData.bool false = .bool e.b := (List.cons.inj (List.cons.inj (List.cons.inj (List.cons.inj (PyData.tuple.inj hp)).2).2).2).1
  have eb : e.b = false := (PyData.bool.inj q2).symm
  have q3 : q.1 = e.n := PyData.int.inj (List.cons.inj (PyData.tuple.inj q1)).1
  have q4 : q.2 = e.d := PyData.int.inj (List.cons.inj (List.cons.inj (PyData.tuple.inj q1)).2).1
  have me := List.mem_of_getElem? he
  have ve := L.v e me
  have se := s e me
  have vn : (⟨q.1, q.2, true⟩ : Cut).In := by
    refine ⟨⟨by show 0 < q.2; rw [q4]; exact ve.d, by show Int.gcd q.1 q.2 = 1; rw [q3, q4]; exact ve.co⟩, by show 0 ≤ q.1; rw [q3]; exact ve.n0, ?_⟩
    unfold Cut.lt last
    simp only
    rw [if_neg (fun z => ne ⟨z.1.symm, z.2.symm⟩), decide_eq_false]
    have := ve.nd
    rw [q3, q4]
    omega
  have lt1 : (⟨q.1, q.2, true⟩ : Cut).lt last = true := by
    unfold Cut.lt last
    simp only
    rw [if_neg ne, decide_eq_true]
    have nd := ve.nd
    have : q.1 ≠ q.2 := fun z => by
      have co := ve.co
      rw [← q3, ← q4, z, Int.gcd_self] at co
      have := ve.d
      exact ne ⟨by omega, by omega⟩
    rw [q3, q4] at *
    omega
  have self : e.lt ⟨q.1, q.2, true⟩ = true := by
    unfold Cut.lt
    simp only
    rw [if_pos ⟨q3.symm, q4.symm⟩, eb]
    rfl
  have hx : ∀ x ∈ cs, x.lt ⟨q.1, q.2, true⟩ = true := fun x mx => by
    obtain ⟨i, hi⟩ := List.getElem?_of_mem mx
    have il := (List.getElem?_eq_some_iff.mp hi).1
    by_cases w : i = 2 * ((pcsD cs).length - 1) + 1
    · rw [w, he] at hi
      cases hi
      exact self
    · exact Cut.trans (L.v x mx).toV ve.toV vn.toV (asc_get L.a hi he (by omega)) self
  refine ⟨cs ++ [⟨q.1, q.2, true⟩, last], ?_, lt_app2 L vn last_in lt1 hx, fun c m => ?_⟩
  · rw [pcs_app2 _ _ L.e, ← e0]
    rfl
  · rcases List.mem_append.mp m with m | m
    · exact s c m
    · simp only [List.mem_cons, List.mem_nil_iff, or_false] at m
      rcases m with rfl | rfl
      · rw [← q3, ← q4] at se
        exact se
      · exact ⟨by decide, by decide, by decide, by decide⟩
def spPcs (K : PySem.W.Frag) : Sp := fun vs H Q _ => ∃ (t : Addr) (m : Int), vs = [.ref t, .int m] ∧ Tin H t ∧ 1 ≤ m ∧ m ≤ 4 ∧ ∀ r xs ds H', Sipped H H' t → H' r = some (.tup xs) → AnAll K H' xs ds → Fin9 ds → ds.length ≤ 9 → Q (.ref r) H'
section
variable {P : Program} {w : World} {K : PySem.W.Frag} {mg : Str → Option Value} {base : Heap}
theorem ok_pieces {f fS fL fG : Addr} {fd fdS fdL fdG : FuncData} (F : Fun K "_law_pieces" "_law_pieces" s__law_pieces f fd) (B : Bl mg) (rg : mg "range" = none) (so : mg "sorted" = none) (se : mg "set" = none) (tu : mg "tuple" = none) (Si : Df K mg "_law_sip" sSip ["_law_tin_here", "_law_top"] fS fdS) (Lo : Df K mg "_law_low" sLow ["_law_top", "_law_bottom"] fL fdL) (Gc : Df K mg "_law_gcd" sGcd ["_law_one", "_law_two"] fG fdG) : FnOk P w K mg base CX0 3 f fd ["_law_tin_here", "_law_many"] (spPcs K) := by
  have LS : FnOk P w K mg base CX0 1 fS fdS ["_law_tin_here", "_law_top"] spSip := ok_sip Si.F B
  have LL : FnOk P w K mg base CX0 2 fL fdL ["_law_top", "_law_bottom"] spLow := ok_low Lo.F B Gc
  refine F.ok sc__law_pieces (fun vs H Q E h => ?_) (fun cdv A outer s H vs Q E hr h => ?_)
  · obtain ⟨t, m, rfl, _⟩ := h
    rfl
  · obtain ⟨t, m, rfl, T0, m1, m4, k⟩ := h
    have hu := hr.units
    have hr1 : Room 1 _ := hr.mono (by decide)
    have hr2 : Room 2 _ := hr.mono (by decide)
    refine ⟨_, pss_cons (ps_set (i := 3) sc__law_pieces.nd rfl (.inl rfl) (pe_callB (cr_sortedSetN rfl) (by rfl) so (by decide +kernel) (pa_cons (pe_callTy (cr_setN rfl) (by rfl) se (by decide +kernel) (pa_cons (pe_lc (te := tCall spSip [] E0 (tCons (tVar 0) (tCons (tC (.int 24)) tNil))) (own := [("_law_k", 2)]) (g := gName 2) (tt := tYes) rfl sc__law_pieces.nd (pi_range1 rfl rg (pa_cons (pe_op op_mul pe_int (pv 1)) pa_nil)) (blkOk_by (N := ["_law_tin_here", "_law_many", "_law_k", "_law_cuts", "_law_found", "_law_way", "_law_low_here", "_law_high"]) (sc := defScope s__law_pieces) (by decide +kernel)) (fun _ _ _ _ _ => pg_name (i := 2) sc__law_pieces.nd rfl (.inl rfl)) (fun _ _ _ _ _ => pts_nil) (fun _ _ _ _ _ => (pe_call LS hr1 (by rfl) Si.g Si.F.kp Si.b .nil pass0 (pa_cons (pv 0) (pa_cons pe_int pa_nil))))) pa_nil)) pa_nil))) (pss_cons (ps_par (i := 4) (j := 2) (by rfl) sc__law_pieces.nd rfl rfl (by decide) rfl rfl (pa_cons (pe_lst pa_nil) (pa_cons pe_int pa_nil)) (by rfl)) (pss_cons (ps_while PassesOwn.never (pt_cmpR op_lt (pe_op op_add (pv 2) pe_int) (pe_callB (call_len_seq) (by rfl) B.len (by decide +kernel) (pa_cons (pv 3) pa_nil)) (nomark _)) (pss_cons (ps_par3 (i := 5) (j := 6) (l := 7) (by rfl) sc__law_pieces.nd rfl rfl rfl (by decide) (by decide) (by decide) rfl rfl rfl (pa_cons (pe_call LS hr1 (by rfl) Si.g Si.F.kp Si.b .nil pass0 (pa_cons (pv 0) (pa_cons pe_int pa_nil))) (pa_cons (pe_call LL hr2 (by rfl) Lo.g Lo.F.kp Lo.b .nil pass0 (pa_cons (pe_ix ix_list (pv 3) (pv 2) (fun _ _ => rfl)) (pa_cons pe_int pa_nil))) (pa_cons (pe_call LL hr2 (by rfl) Lo.g Lo.F.kp Lo.b .nil pass0 (pa_cons (pe_ix ix_list (pv 3) (pe_op op_add (pv 2) pe_int) (fun _ _ => rfl)) (pa_cons pe_int pa_nil))) pa_nil))) (by rfl)) (pss_one (ps_if (pt_cmpR op_eq (pv 5) pe_int (nomark _)) (pss_cons (ps_expr (pe_bm PySem.F.plainAttrs_list PySem.F.slot_list_append PySem.F.type_list_append mt_append (pv 4) (pa_cons (pe_tup (pa_cons (pv 6) (pa_cons (pv 6) (pa_cons pe_bl (pa_cons pe_bl pa_nil))))) pa_nil))) (pss_one (ps_set (i := 2) sc__law_pieces.nd rfl (.inl rfl) (pe_op op_add (pv 2) pe_int)))) (pss_cons (ps_expr (pe_bm PySem.F.plainAttrs_list PySem.F.slot_list_append PySem.F.type_list_append mt_append (pv 4) (pa_cons (pe_tup (pa_cons (pv 6) (pa_cons (pv 7) (pa_cons (pe_cmpR op_eq (pe_call LS hr1 (by rfl) Si.g Si.F.kp Si.b .nil pass0 (pa_cons (pv 0) (pa_cons pe_int pa_nil))) pe_int (nomark _)) (pa_cons (pe_cmpR op_eq (pe_call LS hr1 (by rfl) Si.g Si.F.kp Si.b .nil pass0 (pa_cons (pv 0) (pa_cons pe_int pa_nil))) pe_int (nomark _)) pa_nil))))) pa_nil))) (pss_one (ps_set (i := 2) sc__law_pieces.nd rfl (.inl rfl) (pe_op op_add (pv 2) pe_int)))))))) (pss_cons (ps_if (PW.pt (pw_and (pt_cmpR (op_neNil (Nat.lt_of_le_of_lt (Nat.le_add_right _ 64) hu)) (pv 4) (pe_lst pa_nil) (nomark _)) (pw_and (pt_cmpR op_eq (pe_call LS hr1 (by rfl) Si.g Si.F.kp Si.b .nil pass0 (pa_cons (pv 0) (pa_cons pe_int pa_nil))) pe_int (nomark _)) (pw_and (pt_cmpR (op_neD hu) (pe_ix ix_tup (pe_ix ix_list (pv 4) (pe_un un_neg pe_int) (fun _ _ => rfl)) pe_int (fun _ _ => rfl)) (pe_tup (pa_cons pe_int (pa_cons pe_int pa_nil))) (nomark _)) (pw_and1 (pt_not (pt_val (pe_ix ix_tup (pe_ix ix_list (pv 4) (pe_un un_neg pe_int) (fun _ _ => rfl)) pe_int (fun _ _ => rfl))))))))) (pss_one (ps_expr (pe_bm PySem.F.plainAttrs_list PySem.F.slot_list_append PySem.F.type_list_append mt_append (pv 4) (pa_cons (pe_tup (pa_cons (pe_ix ix_tup (pe_ix ix_list (pv 4) (pe_un un_neg pe_int) (fun _ _ => rfl)) pe_int (fun _ _ => rfl)) (pa_cons (pe_tup (pa_cons pe_int (pa_cons pe_int pa_nil))) (pa_cons pe_bl (pa_cons pe_bl pa_nil))))) pa_nil)))) pss_nil) (pss_one (ps_ret (pe_callTy cr_tupL (by rfl) tu (by decide +kernel) (pa_cons (pv 4) pa_nil))))))), ?_⟩
    refine ⟨_, rfl, _, _, rfl, rfl, .inl ⟨by decide, by decide⟩, 2 * m, rfl, by omega, by omega, fun E nE => ?_⟩
    have nEt : E ≠ t := T0.not nE
    have sE := same_put (o := HO.lst []) nE
    refine lc_range (lo := 0) (n := (2 * m).toNat) (fun i H' => ∃ rs : List Int, H' E = some (.lst (rs.map V.int)) ∧ rs.length = i ∧ (∀ r ∈ rs, 0 ≤ r ∧ r ≤ 23) ∧ Sipped H H' t) ⟨[], upd_same, rfl, (fun r mr => nomatch mr), Sipped.ofSame T0 sE⟩ ?_ ?_
    · rintro i H2 hi ⟨rs, g1, g2, g3, g4⟩
      refine ⟨rfl, _, rfl, t, 24, rfl, g4.1, by decide, by decide, fun e H3 e0 e1 s3 => ?_⟩
      refine ⟨_, s3.2 _ _ g1 nEt, small1000 (by rw [List.length_map]; omega), rs ++ [e], by rw [upd_same, List.map_append]; rfl, by rw [List.length_append, g2]; rfl, fun r mr => ?_, sipped_put (sipped_trans g4 s3) nE nEt⟩
      rcases List.mem_append.mp mr with mr | mr
      · exact g3 r mr
      · rw [List.mem_singleton.mp mr]; omega
    rintro H2 ⟨rs, g1, g2, g3, g4⟩
    refine ⟨E, rs, rfl, SqL.of g1, by omega, fun p ks np kd kl km => ?_⟩
    have s5 := same_put (o := SetO w p (fun j => decide (j ∈ rs)) ks.length) np
    refine ⟨p, _, _, rfl, upd_same, fun ys p2 yp ym yl n2 => ?_⟩
    have s6 := same_put (o := HO.lst (ys.map V.int)) n2
    have S6 := sipped_sm g4 (s5.trans s6)
    have T5 := (Sipped.ofSame g4.1 s5).1
    have tC : p2 ≠ t := T5.not n2
    have rgy : ∀ q ∈ ys, 0 ≤ q ∧ q ≤ 23 := fun q mq => g3 q (of_decide_eq_true ((ym q).mp mq))
    have few : ys.length ≤ 8 := by omega
    generalize hH : upd (upd _ _ _) _ _ = H6
    have S6 : Sipped H H6 t := by rw [← hH]; exact S6
    have hC : H6 p2 = some (.lst (ys.map V.int)) := by rw [← hH]; exact upd_same
    refine nxI ⟨Nat.zero_le _, fun D nD => ⟨_, _, rfl, nxI ?_⟩⟩
    have f3 := same_put (o := HO.lst []) nD
    have gD : upd H6 D (HO.lst []) D = some (.lst []) := upd_same
    have hC7 := f3 _ _ hC
    have tD : D ≠ t := S6.1.not nD
    have nCD : p2 ≠ D := fun z => by rw [z, nD] at hC; cases hC
    have S7 := sipped_sm S6 f3
    generalize upd H6 D (HO.lst []) = H7 at *
    have n0D : H D = none := by
      cases z : H D with
      | none => rfl
      | some o => rw [S6.2 _ _ z tD] at nD; cases nD
    refine while_by (fun σ H' => ∃ (j : Nat) (xs : List V) (ds : List PyData) (w1 w2 w3 : Option V), σ = [some (.ref t), some (.int m), some (.int (j : Nat)), some (.ref p2), some (.ref D), w1, w2, w3] ∧ Sipped H H' t ∧ H' p2 = some (.lst (ys.map V.int)) ∧ H' D = some (.lst xs) ∧ AnAll K H' xs ds ∧ (∀ d ∈ ds, GoodP d) ∧ Rt ys j ds ∧ ds.length ≤ j ∧ j ≤ ys.length)
      (fun (σ : L2.St) (_ : Hp) => match (σ[2]? : Option (Option V)) with | some (some (V.int i)) => ((ys.length : Int) + 1 - i).toNat | _ => 0) ⟨0, [], [], _, _, _, rfl, S7, hC7, gD, .nil, (fun d h => nomatch h), rt_nil, Nat.le_refl _, Nat.zero_le _⟩ ?_ ?_
    · rintro σ H8 ⟨j, xs, ds, w1, w2, w3, rfl, S8, hC8, hD8, all, good, rt, ld, lj⟩
      refine ⟨_, rfl, _, _, rfl, rfl, _, rfl, p2, _, rfl, .inl (SqL.of hC8), _, _, rfl, rfl, _, rfl, ?_⟩
      rw [List.length_map]
      have lx := dpAll_len all
      refine ite2 (fun c => ?_) (fun c => nxI ?_)
      · have lt : j + 1 < ys.length := by have := of_decide_eq_true c; omega
        have h1 : (ys.map V.int)[j]? = some (.int ys[j]) := by rw [List.getElem?_map, List.getElem?_eq_getElem (by omega)]; rfl
        have h2 : (ys.map V.int)[j + 1]? = some (.int ys[j + 1]) := by rw [List.getElem?_map, List.getElem?_eq_getElem lt]; rfl
        have r1 := rgy ys[j] (List.getElem_mem _)
        have r2 := rgy ys[j + 1] (List.getElem_mem _)
        have sm1 := sml_low r1.1 (by omega)
        have sm2 := sml_low r2.1 (by omega)
        have R1 := rt_one yp rgy rt (show j < ys.length by omega)
        have R2 := rt_two yp rgy rt lt
        unfold f24 at R1 R2
        generalize ys[j] = y1 at *
        generalize ys[j + 1] = y2 at *
        refine ⟨_, rfl, t, 3, rfl, S8.1, by decide, by decide, fun way H9 w0 w3 s9 => ?_⟩
        have hC9 := s9.2 _ _ hC8 tC
        have hD9 := s9.2 _ _ hD8 tD
        have S9 := sipped_trans S8 s9
        have all9 := anAll_sipN S8.1 s9 all (noLs_iff.mpr fun d m => good_noL (good d m))
        refine ⟨_, rfl, _, rfl, p2, _, (j : Int), .int y1, rfl, rfl, SqL.of hC9, at_of (j := j) rfl h1, y1, 24, rfl, r1.1, by decide, by decide, fun q1 nq1 => ?_⟩
        have f10 := same_put (o := HO.tup [.int (y1 / ((Nat.gcd y1.natAbs (24 : Int).natAbs : Nat) : Int)), .int (24 / ((Nat.gcd y1.natAbs (24 : Int).natAbs : Nat) : Int))]) nq1
        have g10 : upd H9 q1 (HO.tup [.int (y1 / ((Nat.gcd y1.natAbs (24 : Int).natAbs : Nat) : Int)), .int (24 / ((Nat.gcd y1.natAbs (24 : Int).natAbs : Nat) : Int))]) q1 = some (.tup [.int (y1 / ((Nat.gcd y1.natAbs (24 : Int).natAbs : Nat) : Int)), .int (24 / ((Nat.gcd y1.natAbs (24 : Int).natAbs : Nat) : Int))]) := upd_same
        generalize upd H9 q1 (HO.tup [.int (y1 / ((Nat.gcd y1.natAbs (24 : Int).natAbs : Nat) : Int)), .int (24 / ((Nat.gcd y1.natAbs (24 : Int).natAbs : Nat) : Int))]) = H10 at *
        refine ⟨_, rfl, _, rfl, _, _, rfl, rfl, p2, _, (j : Int) + 1, .int y2, rfl, rfl, SqL.of (f10 _ _ hC9), at_of (j := j + 1) (by omega) h2, y2, 24, rfl, r2.1, by decide, by decide, fun q2 nq2 => ?_⟩
        have f11 := same_put (o := HO.tup [.int (y2 / ((Nat.gcd y2.natAbs (24 : Int).natAbs : Nat) : Int)), .int (24 / ((Nat.gcd y2.natAbs (24 : Int).natAbs : Nat) : Int))]) nq2
        have g11 : upd H10 q2 (HO.tup [.int (y2 / ((Nat.gcd y2.natAbs (24 : Int).natAbs : Nat) : Int)), .int (24 / ((Nat.gcd y2.natAbs (24 : Int).natAbs : Nat) : Int))]) q2 = some (.tup [.int (y2 / ((Nat.gcd y2.natAbs (24 : Int).natAbs : Nat) : Int)), .int (24 / ((Nat.gcd y2.natAbs (24 : Int).natAbs : Nat) : Int))]) := upd_same
        generalize upd H10 q2 (HO.tup [.int (y2 / ((Nat.gcd y2.natAbs (24 : Int).natAbs : Nat) : Int)), .int (24 / ((Nat.gcd y2.natAbs (24 : Int).natAbs : Nat) : Int))]) = H11 at *
        have g1 := f11 _ _ g10
        generalize y1 / ((Nat.gcd y1.natAbs (24 : Int).natAbs : Nat) : Int) = n1 at *
        generalize (24 : Int) / ((Nat.gcd y1.natAbs (24 : Int).natAbs : Nat) : Int) = d1 at *
        generalize y2 / ((Nat.gcd y2.natAbs (24 : Int).natAbs : Nat) : Int) = n2' at *
        generalize (24 : Int) / ((Nat.gcd y2.natAbs (24 : Int).natAbs : Nat) : Int) = d2 at *
        have S11 := sipped_sm S9 (f10.trans f11)
        have hC11 := f11 _ _ (f10 _ _ hC9)
        have hD11 := f11 _ _ (f10 _ _ hD9)
        have all11 := AnAll.same (f10.trans f11) all9
        have a1 : An K H11 (.ref q1) (frD (n1, d1)) := .tup g1 (.cons (.int _) (.cons (.int _) .nil))
        have a2 : An K H11 (.ref q2) (frD (n2', d2)) := .tup g11 (.cons (.int _) (.cons (.int _) .nil))
        refine ⟨_, _, _, rfl, nxI ?_⟩
        refine ⟨_, rfl, rfl, _, rfl, ite2 (fun cw => ?_) (fun cw => ?_)⟩
        · refine ⟨_, rfl, .inl ⟨rfl, _, SqL.of hD11⟩, _, rfl, _, rfl, (by show 4 ≤ sizeLine; decide), fun pt npt => ?_⟩
          have f12 := same_put (o := HO.tup [V.ref q1, V.ref q1, V.bl true, V.bl true]) npt
          have g12 : upd H11 pt (HO.tup [V.ref q1, V.ref q1, V.bl true, V.bl true]) pt = some (.tup [V.ref q1, V.ref q1, V.bl true, V.bl true]) := upd_same
          generalize upd H11 pt (HO.tup [V.ref q1, V.ref q1, V.bl true, V.bl true]) = H12 at *
          have ap : An K H12 (.ref pt) (.tuple [frD (n1, d1), frD (n1, d1), .bool true, .bool true]) := .tup g12 (.cons (a1.same f12) (.cons (a1.same f12) (.cons (.bl _) (.cons (.bl _) .nil))))
          have gp : GoodP (.tuple [frD (n1, d1), frD (n1, d1), .bool true, .bool true]) := ⟨_, _, _, _, rfl, sm1, sm1⟩
          refine ⟨D, xs, .ref pt, rfl, rfl, f12 _ _ hD11, small1000 (by omega), nxI ⟨_, rfl, _, _, rfl, rfl, ?_⟩⟩
          exact nxI ⟨⟨j + 1, _, ds ++ [.tuple [frD (n1, d1), frD (n1, d1), .bool true, .bool true]], _, _, _, rfl, sipped_put (sipped_sm S11 f12) n0D tD, by rw [upd_ne nCD]; exact f12 _ _ hC11, upd_same, app_pc (f12 _ _ hD11) (AnAll.same f12 all11) good ap gp, app_good good gp, R1, by rw [List.length_append]; show ds.length + 1 ≤ j + 1; omega, by omega⟩, by show ((ys.length : Int) + 1 - ((j : Int) + 1)).toNat < ((ys.length : Int) + 1 - (j : Int)).toNat; omega⟩
        · refine ⟨_, rfl, .inl ⟨rfl, _, SqL.of hD11⟩, _, rfl, _, rfl, _, rfl, t, 2, rfl, S11.1, by decide, by decide, fun u1 H12 _ _ s12 => ?_⟩
          have S12 := sipped_trans S11 s12
          refine ⟨rfl, _, rfl, t, 2, rfl, S12.1, by decide, by decide, fun u2 H13 _ _ s13 => ?_⟩
          have S13 := sipped_trans S12 s13
          have b1 := an_sipN S12.1 s13 (an_sipN S11.1 s12 a1 rfl) rfl
          have b2 := an_sipN S12.1 s13 (an_sipN S11.1 s12 a2 rfl) rfl
          have all13 := anAll_sipN S12.1 s13 (anAll_sipN S11.1 s12 all11 (noLs_iff.mpr fun d m => good_noL (good d m))) (noLs_iff.mpr fun d m => good_noL (good d m))
          have hD13 := s13.2 _ _ (s12.2 _ _ hD11 tD) tD
          have hC13 := s13.2 _ _ (s12.2 _ _ hC11 tC) tC
          refine ⟨rfl, (by show 4 ≤ sizeLine; decide), fun pt npt => ?_⟩
          have f14 := same_put (o := HO.tup [V.ref q1, V.ref q2, V.bl (decide (V.int u1 = V.int 0)), V.bl (decide (V.int u2 = V.int 0))]) npt
          have g14 : upd H13 pt (HO.tup [V.ref q1, V.ref q2, V.bl (decide (V.int u1 = V.int 0)), V.bl (decide (V.int u2 = V.int 0))]) pt = some (.tup [V.ref q1, V.ref q2, V.bl (decide (V.int u1 = V.int 0)), V.bl (decide (V.int u2 = V.int 0))]) := upd_same
          generalize upd H13 pt (HO.tup [V.ref q1, V.ref q2, V.bl (decide (V.int u1 = V.int 0)), V.bl (decide (V.int u2 = V.int 0))]) = H14 at *
          generalize decide (V.int u1 = V.int 0) = v1 at *
          generalize decide (V.int u2 = V.int 0) = v2 at *
          have ap : An K H14 (.ref pt) (.tuple [frD (n1, d1), frD (n2', d2), .bool v1, .bool v2]) := .tup g14 (.cons (b1.same f14) (.cons (b2.same f14) (.cons (.bl _) (.cons (.bl _) .nil))))
          have gp : GoodP (.tuple [frD (n1, d1), frD (n2', d2), .bool v1, .bool v2]) := ⟨_, _, _, _, rfl, sm1, sm2⟩
          refine ⟨D, xs, .ref pt, rfl, rfl, f14 _ _ hD13, small1000 (by omega), nxI ⟨_, rfl, _, _, rfl, rfl, ?_⟩⟩
          exact nxI ⟨⟨j + 2, _, ds ++ [.tuple [frD (n1, d1), frD (n2', d2), .bool v1, .bool v2]], _, _, _, rfl, sipped_put (sipped_sm S13 f14) n0D tD, by rw [upd_ne nCD]; exact f14 _ _ hC13, upd_same, app_pc (f14 _ _ hD13) (AnAll.same f14 all13) good ap gp, app_good good gp, R2 v1 v2, by rw [List.length_append]; show ds.length + 1 ≤ j + 2; omega, by omega⟩, by show ((ys.length : Int) + 1 - ((j : Int) + 2)).toNat < ((ys.length : Int) + 1 - (j : Int)).toNat; omega⟩
      · have fin : ∀ (G : Hp) (zs : List V) (es : List PyData), Sipped H G t → G D = some (.lst zs) → AnAll K G zs es → Fin9 es → es.length ≤ 9 → ∀ r, G r = none → Q (.ref r) (upd G r (.tup zs)) := fun G zs es s h a g l r nr => k r zs es _ (sipped_sm s (same_put nr)) upd_same (AnAll.same (same_put nr) a) g l
        refine ⟨_, rfl, Nat.zero_le _, fun e0 ne0 => ?_⟩
        have f0 := same_put (o := HO.lst []) ne0
        refine ⟨D, e0, xs, rfl, rfl, SqL.of (f0 _ _ hD8), SqL.of upd_same, _, rfl, ?_⟩
        have S9 := sipped_sm S8 f0
        have hD9 := f0 _ _ hD8
        have all9 := AnAll.same f0 all
        generalize upd H8 e0 (HO.lst []) = H9 at *
        refine ite2 (fun c1 => ?_) (fun c1 => iteF (nextI (nxI ⟨_, rfl, D, xs, rfl, SqL.of hD9, fun r nr => fin H9 xs ds S9 hD9 all9 (rt_fin rt) (by omega) r nr⟩)))
        refine ⟨_, rfl, t, 4, rfl, S9.1, by decide, by decide, fun u1 H10 _ _ s10 => ?_⟩
        have hD10 := s10.2 _ _ hD9 tD
        have S10 := sipped_trans S9 s10
        have all10 := anAll_sipN S9.1 s10 all9 (noLs_iff.mpr fun d m => good_noL (good d m))
        refine ⟨rfl, _, rfl, ite2 (fun c2 => ?_) (fun c2 => iteF (nextI (nxI ⟨_, rfl, D, xs, rfl, SqL.of hD10, fun r nr => fin H10 xs ds S10 hD10 all10 (rt_fin rt) (by omega) r nr⟩)))⟩
        obtain ⟨xs0, x, ds0, d, rfl, rfl, ax⟩ : ∃ xs0 x ds0 d, xs = xs0 ++ [x] ∧ ds = ds0 ++ [d] ∧ An K H10 x d := last_of all10 (by rintro rfl; simp at c1)
        obtain ⟨pp, qq, ff, tt, rfl, sp, sq⟩ := good d (by simp)
        rw [List.length_append] at ld
        obtain ⟨ap, ys4, ds4, rfl, z4, hT4, all4⟩ := ax.isT rfl
        cases z4
        obtain ⟨y1, y2, y3, y4, e1, e2, e3, e4, rfl, z5, ay1, ay2, ay3, ay4⟩ := anAll_four all4 rfl
        cases z5
        cases ay3
        cases ay4
        have sq4 : SqT K H10 ap [y1, y2, .bl ff, .bl tt] := SqT.of hT4
        have hl : atI (xs0 ++ [V.ref ap]) (-1) = some (.ref ap) := atI_last _ _
        refine ⟨_, rfl, 1, rfl, D, _, -1, .ref ap, rfl, rfl, SqL.of hD10, hl, ap, _, 1, y2, rfl, rfl, sq4, at_of (j := 1) rfl rfl, (by show 2 ≤ sizeLine; decide), fun r1 nr1 => ?_⟩
        have f11 := same_put (o := HO.tup [V.int 1, V.int 1]) nr1
        have g11 : upd H10 r1 (HO.tup [V.int 1, V.int 1]) r1 = some (.tup [V.int 1, V.int 1]) := upd_same
        generalize upd H10 r1 (HO.tup [V.int 1, V.int 1]) = H11 at *
        have hD11 := f11 _ _ hD10
        have S11 := sipped_sm S10 f11
        have all11 := AnAll.same f11 all10
        have ay := ay2.same f11
        refine ⟨_, _, an_fr ay, fr_mk (x := 1) (y := 1) (SqT.of g11), fr_shaped _, fr_shaped _, _, rfl, ite2 (fun c3 => ?_) (fun c3 => iteF (nextI (nxI ⟨_, rfl, D, _, rfl, SqL.of hD11, fun r nr => fin H11 _ _ S11 hD11 all11 (rt_fin rt) (by rw [List.length_append]; omega) r nr⟩)))⟩
        refine ⟨_, rfl, 1, rfl, D, _, -1, .ref ap, rfl, rfl, SqL.of hD11, hl, ap, _, 3, .bl tt, rfl, rfl, sqT_same f11 sq4, at_of (j := 3) rfl rfl, _, rfl, ite2 (fun c4 => ?_) (fun c4 => nextI (nxI ⟨_, rfl, D, _, rfl, SqL.of hD11, fun r nr => fin H11 _ _ S11 hD11 all11 (rt_fin rt) (by rw [List.length_append]; omega) r nr⟩))⟩
        have et : tt = false := by cases tt with | true => cases c4 | false => rfl
        subst et
        refine ⟨_, rfl, .inl ⟨rfl, _, SqL.of hD11⟩, _, rfl, 1, rfl, D, _, -1, .ref ap, rfl, rfl, SqL.of hD11, hl, ap, _, 1, y2, rfl, rfl, sqT_same f11 sq4, at_of (j := 1) rfl rfl, (by show 2 ≤ sizeLine; decide), fun r2 nr2 => ?_⟩
        have f12 := same_put (o := HO.tup [V.int 1, V.int 1]) nr2
        have g12 : upd H11 r2 (HO.tup [V.int 1, V.int 1]) r2 = some (.tup [V.int 1, V.int 1]) := upd_same
        generalize upd H11 r2 (HO.tup [V.int 1, V.int 1]) = H12 at *
        refine ⟨(by show 4 ≤ sizeLine; decide), fun pt npt => ?_⟩
        have f13 := same_put (o := HO.tup [y2, V.ref r2, V.bl false, V.bl false]) npt
        have g13 : upd H12 pt (HO.tup [y2, V.ref r2, V.bl false, V.bl false]) pt = some (.tup [y2, V.ref r2, V.bl false, V.bl false]) := upd_same
        have g12 := f13 _ _ g12
        generalize upd H12 pt (HO.tup [y2, V.ref r2, V.bl false, V.bl false]) = H13 at *
        have f123 := f12.trans f13
        have ap2 : An K H13 (.ref pt) (.tuple [frD qq, frD (1, 1), .bool false, .bool false]) := .tup g13 (.cons (ay.same f123) (.cons (.tup g12 (.cons (.int _) (.cons (.int _) .nil))) (.cons (.bl _) (.cons (.bl _) .nil))))
        have gp : GoodP (.tuple [frD qq, frD (1, 1), .bool false, .bool false]) := ⟨_, _, _, _, rfl, sq, ⟨by decide, by decide, by decide, by decide⟩⟩
        have l9 : (xs0 ++ [V.ref ap]).length ≤ 9 := by rw [List.length_append] at lx ⊢; rw [List.length_append] at lx; omega
        refine ⟨D, _, .ref pt, rfl, rfl, f123 _ _ hD11, small1000 (by omega), nxI ?_⟩
        exact ⟨_, rfl, D, _, rfl, SqL.of upd_same, fun r nr => fin _ _ _ (sipped_put (sipped_sm S11 f123) n0D tD) upd_same (app_pc (f123 _ _ hD11) (AnAll.same f123 all11) good ap2 gp) (fin_last (f := ff) (rt_fin rt) (fun z => by rw [fr_eqv, decide_eq_true z] at c3; cases c3)) (by rw [List.length_append, List.length_append]; show ds0.length + 1 + 1 ≤ 9; have : ds0.length + [_].length ≤ j := ld; simp at this; omega) r nr⟩
    · rintro σ H Q Q' hQ ⟨x, hx, i, j, e1, e2, y, hy, p, ys, e3, h3, i', j', e4, e5, b, e6, h⟩
      exact ⟨x, hx, i, j, e1, e2, y, hy, p, ys, e3, h3, i', j', e4, e5, b, e6, hQ _ _ h⟩
end
end My
set_option Elab.async false
set_option linter.all false
set_option maxRecDepth 100000
set_option maxHeartbeats 8000000
set_option exponentiation.threshold 4000
namespace My
open PySem PySem.Spec PyProof.Rows L2 Gn Mt
abbrev s__law_under : Stmt := top 58
theorem sc__law_under : FnScope ["_law_one", "_law_two"] ["_law_one", "_law_two"] (defScope s__law_under) := ⟨rfl, rfl, rfl, by decide +kernel, rfl, by decide +kernel, by decide +kernel⟩
abbrev s__law_lies : Stmt := top 59
theorem sc__law_lies : FnScope ["_law_rows_here", "_law_x", "_law_low_here", "_law_high", "_law_first_here", "_law_last"] ["_law_rows_here", "_law_x"] (defScope s__law_lies) := ⟨rfl, rfl, rfl, by decide +kernel, rfl, by decide +kernel, by decide +kernel⟩
/-! whether a pair lies in pieces, as the law tells it; the first one by looking; narrow pieces -/
theorem andS {t q : TT} {σ : L2.St} {H : Hp} {R : Bool → Hp → Prop} (a b : Bool) (h1 : ∀ S : Bool → Hp → Prop, (∀ H', Same H H' → S a H') → t σ H S) (h2 : ∀ H1, Same H H1 → ∀ S : Bool → Hp → Prop, (∀ H', Same H1 H' → S b H') → q σ H1 S) (k : ∀ H', Same H H' → R (a && b) H') : tAnd t q σ H R := h1 _ fun H1 s1 => by
  cases a with
  | true => exact h2 H1 s1 _ fun H2 s2 => k H2 (s1.trans s2)
  | false => exact k H1 s1
theorem orS {t q : TT} {σ : L2.St} {H : Hp} {R : Bool → Hp → Prop} (a b : Bool) (h1 : ∀ S : Bool → Hp → Prop, (∀ H', Same H H' → S a H') → t σ H S) (h2 : ∀ H1, Same H H1 → ∀ S : Bool → Hp → Prop, (∀ H', Same H1 H' → S b H') → q σ H1 S) (k : ∀ H', Same H H' → R (a || b) H') : tOr t q σ H R := h1 _ fun H1 s1 => by
  cases a with
  | true => exact k H1 s1
  | false => exact h2 H1 s1 _ fun H2 s2 => k H2 (s1.trans s2)
def spLies2 (K : PySem.W.Frag) : Sp := fun vs H Q _ => ∃ (u v : V) (cs : List Cut) (p q : Int), vs = [u, v] ∧ Dp K H u (.tuple (pcsD cs)) ∧ LtL cs ∧ Dp K H v (frD (p, q)) ∧ Lit (p, q) ∧ ∀ H', Same H H' → Q (.bl (liesB cs p q)) H'
section
variable {P : Program} {w : World} {K : PySem.W.Frag} {mg : Str → Option Value} {base : Heap}
theorem ok_under {f : Addr} {fd : FuncData} (F : Fun K "_law_under" "_law_under" s__law_under f fd) : FnOk P w K mg base CX0 1 f fd ["_law_one", "_law_two"] (spLess K) := by
  refine F.ok sc__law_under (fun vs H Q E h => ?_) (fun cdv A outer s H vs Q E hr h => ?_)
  · obtain ⟨u, v, p, q, rfl, _⟩ := h
    rfl
  · obtain ⟨u, v, p, q, rfl, h1, h2, l1, l2, k⟩ := h
    refine ⟨_, pss_one (ps_ret (pe_cmpR op_lt (pe_op op_mulW (pe_ix ix_tup (pv 0) pe_int (fun _ _ => rfl)) (pe_ix ix_tup (pv 1) pe_int (fun _ _ => rfl))) (pe_op op_mulW (pe_ix ix_tup (pv 1) pe_int (fun _ _ => rfl)) (pe_ix ix_tup (pv 0) pe_int (fun _ _ => rfl))) (nomark _))), ?_⟩
    obtain ⟨a, rfl, ha⟩ := fr_inv h1
    obtain ⟨b, rfl, hb⟩ := fr_inv h2
    refine ⟨_, rfl, a, _, 0, .int p.1, rfl, rfl, ha, at_of (j := 0) rfl rfl, _, rfl, b, _, 1, .int q.2, rfl, rfl, hb, at_of (j := 1) rfl rfl, _, _, rfl, rfl, wide_mul l1.1 l2.2 (by decide) (by decide) (by decide), ?_⟩
    exact ⟨_, rfl, b, _, 0, .int q.1, rfl, rfl, hb, at_of (j := 0) rfl rfl, _, rfl, a, _, 1, .int p.2, rfl, rfl, ha, at_of (j := 1) rfl rfl, _, _, rfl, rfl, wide_mul l2.1 l1.2 (by decide) (by decide) (by decide), _, _, rfl, rfl, k⟩
theorem ok_lies {f fU : Addr} {fd fdU : FuncData} (F : Fun K "_law_lies" "_law_lies" s__law_lies f fd) (U : Df K mg "_law_under" s__law_under ["_law_one", "_law_two"] fU fdU) : FnOk P w K mg base CX0 2 f fd ["_law_rows_here", "_law_x"] (spLies2 K) := by
  have GU : FnOk P w K mg base CX0 1 fU fdU ["_law_one", "_law_two"] (spLess K) := ok_under U.F
  refine F.ok sc__law_lies (fun vs H Q E h => ?_) (fun cdv A outer s H vs Q E hr h => ?_)
  · obtain ⟨u, v, cs, p, q, rfl, _⟩ := h
    rfl
  · obtain ⟨u, v, cs, p, q, rfl, hu', L, hv, li, k⟩ := h
    have hu := hr.units
    obtain ⟨a, xs, rfl, ha, hx⟩ := tup_inv hu'
    refine ⟨_, pss_cons (ps_for PassesOwn.never rfl (pi_tup (pv 0)) (pg_tup (by rfl) (pgs_cons (pg_name (i := 2) sc__law_lies.nd rfl (.inl rfl)) (pgs_cons (pg_name (i := 3) sc__law_lies.nd rfl (.inl rfl)) (pgs_cons (pg_name (i := 4) sc__law_lies.nd rfl (.inl rfl)) (pgs_cons (pg_name (i := 5) sc__law_lies.nd rfl (.inl rfl)) pgs_nil))))) (pss_one (ps_if (PW.pt (pw_or (PW.pt (pw_and (pt_val (pe_call GU hr (by rfl) U.g U.F.kp U.b .nil pass0 (pa_cons (pv 2) (pa_cons (pv 1) pa_nil)))) (pw_and1 (pt_val (pe_call GU hr (by rfl) U.g U.F.kp U.b .nil pass0 (pa_cons (pv 1) (pa_cons (pv 3) pa_nil))))))) (pw_or (PW.pt (pw_and (pt_cmpR (op_eqD hu) (pv 1) (pv 2) (nomark _)) (pw_and1 (pt_val (pv 4))))) (pw_or1 (PW.pt (pw_and (pt_cmpR (op_eqD hu) (pv 1) (pv 3) (nomark _)) (pw_and1 (pt_val (pv 5))))))))) (pss_one (ps_ret pe_bl)) pss_nil))) (pss_one (ps_ret pe_bl)), ?_⟩
    refine ⟨_, rfl, a, rfl, ⟨_, ha⟩, for_tup (K := K) (a := a) (xs := xs) (fun i σ H' => ∃ p2 p3 p4 p5, σ = [some (.ref a), some v, p2, p3, p4, p5] ∧ (∀ (j : Nat) (c e : Cut), j < i → cs[2 * j]? = some c → cs[2 * j + 1]? = some e → inB c e p q = false) ∧ Same H H') ⟨none, none, none, none, rfl, (fun j c e hj => absurd hj (by omega)), Same.refl _⟩ (fun i σ H' _ ⟨_, _, _, _, _, _, s⟩ => sqT_same s ha) ?_ ?_⟩
    · rintro i x σ H1 hi ⟨p2, p3, p4, p5, rfl, no, s1⟩
      obtain ⟨d, hd, dx⟩ := dps_get (dps_same s1 _ _ hx) hi
      obtain ⟨c, e, hc, he, rfl⟩ := pcs_get hd
      obtain ⟨t, lo, hi', rfl, ht, dl, dh⟩ := pc_inv dx
      have mc := List.mem_of_getElem? hc
      have me := List.mem_of_getElem? he
      have lt := asc_at L.a hc he (by omega)
      have hv1 := dp_same s1 _ _ hv
      have cond : inB c e p q = ((decide (c.n * q < p * c.d) && decide (p * e.d < e.n * q)) || ((decide (p = c.n ∧ q = c.d) && !c.b) || (decide (p = e.n ∧ q = e.d) && e.b))) := rfl
      refine ⟨t, _, rfl, ht, rfl, _, _, rfl, _, _, rfl, _, _, rfl, _, _, rfl, rfl, ?_⟩
      refine orS (decide (c.n * q < p * c.d) && decide (p * e.d < e.n * q)) ((decide (p = c.n ∧ q = c.d) && !c.b) || (decide (p = e.n ∧ q = e.d) && e.b)) (fun S sS => ?_) (fun H2 s2 S sS => ?_) (fun H2 s2 => ?_)
      · refine andS (decide (c.n * q < p * c.d)) (decide (p * e.d < e.n * q)) (fun S2 sS2 => ?_) (fun H2 s2 S2 sS2 => ?_) sS
        · exact ⟨_, rfl, _, rfl, lo, v, (c.n, c.d), (p, q), rfl, dl, hv1, L.lit c mc, li, _, rfl, sS2 _ (Same.refl _)⟩
        · exact ⟨_, rfl, _, rfl, v, hi', (p, q), (e.n, e.d), rfl, dp_same s2 _ _ hv1, dp_same s2 _ _ dh, li, L.lit e me, _, rfl, sS2 _ (Same.refl _)⟩
      · refine orS (decide (p = c.n ∧ q = c.d) && !c.b) (decide (p = e.n ∧ q = e.d) && e.b) (fun S2 sS2 => ?_) (fun H3 s3 S2 sS2 => ?_) sS
        · refine andS (decide (p = c.n ∧ q = c.d)) (!c.b) (fun S3 sS3 => ?_) (fun H3 s3 S3 sS3 => ?_) sS2
          · refine ⟨_, rfl, _, rfl, _, _, dp_same s2 _ _ hv1, dp_same s2 _ _ dl, fr_shaped _, fr_shaped _, _, rfl, ?_⟩
            rw [fr_eqv]
            exact sS3 _ (Same.refl _)
          · exact ⟨_, rfl, _, rfl, sS3 _ (Same.refl _)⟩
        · refine andS (decide (p = e.n ∧ q = e.d)) e.b (fun S3 sS3 => ?_) (fun H4 s4 S3 sS3 => ?_) sS2
          · refine ⟨_, rfl, _, rfl, _, _, dp_same (s2.trans s3) _ _ hv1, dp_same (s2.trans s3) _ _ dh, fr_shaped _, fr_shaped _, _, rfl, ?_⟩
            rw [fr_eqv]
            exact sS3 _ (Same.refl _)
          · exact ⟨_, rfl, _, rfl, sS3 _ (Same.refl _)⟩
      · rw [← cond]
        refine ite2 (fun z => ?_) (fun z => ?_)
        · have y : liesB cs p q = true := liesB_iff.mpr ⟨i, c, e, hc, he, z⟩
          rw [y] at k
          exact k _ (s1.trans s2)
        · refine nxI ⟨_, _, _, _, rfl, fun j c' e' hj hc' he' => ?_, s1.trans s2⟩
          by_cases y : j = i
          · subst y
            rw [hc] at hc'; rw [he] at he'
            cases hc'; cases he'
            simpa using z
          · exact no j c' e' (by omega) hc' he'
    · rintro σ H1 ⟨p2, p3, p4, p5, rfl, no, s1⟩
      have y : liesB cs p q = false := by
        cases h : liesB cs p q with
        | false => rfl
        | true =>
          obtain ⟨i, c, e, hc, he, z⟩ := liesB_iff.mp h
          have lx := dps_len hx
          have hl := pcs_len L.e
          have := (List.getElem?_eq_some_iff.mp he).1
          rw [no i c e (by omega) hc he] at z
          cases z
      rw [y] at k
      exact k _ s1
end
end My
set_option Elab.async false
set_option linter.all false
set_option maxRecDepth 100000
set_option maxHeartbeats 8000000
set_option exponentiation.threshold 2000
namespace My
open PySem PySem.Spec PyProof.Rows L2 L2H Gn Mt
/-! what the law tells of an error -/
abbrev sLError : Stmt := top 64
abbrev sLClass : Stmt := top 65
abbrev sLField : Stmt := top 66
theorem scLClass : FnScope ["_law_e", "_law_sorts", "_law_found", "_law_word", "_law_fits_here"] ["_law_e"] (defScope sLClass) := ⟨rfl, rfl, rfl, by decide +kernel, rfl, by decide +kernel, by decide +kernel⟩
theorem scLField : FnScope ["_law_e"] ["_law_e"] (defScope sLField) := ⟨rfl, rfl, rfl, by decide +kernel, rfl, by decide +kernel, by decide +kernel⟩
theorem scLError : FnScope ["_law_act", "_law_found", "_law_e", "_law_bases", "_law_plain"] ["_law_act"] (defScope sLError) := ⟨rfl, rfl, rfl, by decide +kernel, rfl, by decide +kernel, by decide +kernel⟩
/-- the classes in the law's order -/
def nmOf : Nat → Str
  | 0 => "InvalidText" | 1 => "InvalidNumber" | 2 => "InvalidStep" | 3 => "InvalidArc" | 4 => "InvalidSighting" | 5 => "InvalidSightings" | 6 => "NotALot" | 7 => "InvalidPieces" | 8 => "InvalidOrder" | 9 => "InvalidIndex" | 10 => "NoStep" | 11 => "TooMany" | _ => "Broken"
def wdOf : Nat → Str
  | 0 => "text" | 1 => "number" | 2 => "step" | 3 => "arc" | 4 => "sighting" | 5 => "sightings" | 6 => "lot" | 7 => "pieces" | 8 => "order" | 9 => "index" | 10 => "none" | 11 => "many" | _ => "broken"
/-- what they have -/
def fdOf (i : Nat) : Option Str := if i = 5 ∨ i = 7 ∨ i = 8 ∨ i = 12 then some "index" else if i = 10 then none else if i = 11 then some "most" else some "given"
structure Er (mg : Str → Option Value) where
  c : Nat → Addr
  R0 : Addr
  R1 : Addr
  R2 : Addr
  g : ∀ i, i < 13 → mg (nmOf i) = some (.ref (c i))
  g0 : mg "NotRight" = some (.ref R0)
  g1 : mg "NotKnown" = some (.ref R1)
  g2 : mg "NotPossible" = some (.ref R2)
  v0 : mg "ValueError" = none
  v1 : mg "LookupError" = none
  v2 : mg "ArithmeticError" = none
  isi : mg "isinstance" = none
  len : mg "len" = none
/-- an error of the class that stands at i -/
structure Held (K : PySem.W.Frag) {mg : Str → Option Value} (B : Er mg) (D : Addr) (i0 : Nat) : Prop where
  ex : ExcC K D
  xf : XfC K D
  lt : i0 < 13
  one : ∀ i, i < 13 → PySem.W.kitOne K (.ref D) (.ref (B.c i)) = some (decide (i = i0))
  no : ∀ n, fdOf i0 = some n → PySem.W.findIn K (.ref D) n = some none
  bs : ∃ b0 b1 b2 : Bool, [b0, b1, b2].count true = 1 ∧ PySem.W.kitOne K (.ref D) (.ref B.R0) = some b0 ∧ PySem.W.kitOne K (.ref D) (.ref B.R1) = some b1 ∧ PySem.W.kitOne K (.ref D) (.ref B.R2) = some b2 ∧
    PySem.W.kitOne K (.ref D) (.type "ValueError") = some b0 ∧ PySem.W.kitOne K (.ref D) (.type "LookupError") = some b1 ∧ PySem.W.kitOne K (.ref D) (.type "ArithmeticError") = some b2
  ma : PySem.W.exmAny K (.ref D) [.ref B.R0, .ref B.R1, .ref B.R2] = some true
/-- what it has -/
def FldAt (H : Hp) (d : Option Addr) (i0 : Nat) (v : V) : Prop := match fdOf i0 with
  | none => v = .non
  | some n => ∃ dd fs, d = some dd ∧ H dd = some (.xd fs) ∧ fs.lookup n = some v
def DictAt (H : Hp) (d : Option Addr) : Prop := ∀ y, d = some y → ∃ fs, H y = some (.xd fs)
def spLClass (K : PySem.W.Frag) {mg : Str → Option Value} (B : Er mg) : Addr × Obj → Sp := fun p vs H Q _ => ∃ (D : Addr) (d : Option Addr) (i0 : Nat), vs = [.ref p.1] ∧ Zc (.ref D) d p.2 ∧ (∃ w, p.2.data = .fields w) ∧ Held K B D i0 ∧ DictAt H d ∧ ∀ H', Same H H' → Q (.str (wdOf i0)) H'
def spLField (K : PySem.W.Frag) {mg : Str → Option Value} (B : Er mg) : Addr × Obj → Sp := fun p vs H Q _ => ∃ (D : Addr) (d : Option Addr) (i0 : Nat) (v : V), vs = [.ref p.1] ∧ Zc (.ref D) d p.2 ∧ (∃ w, p.2.data = .fields w) ∧ Held K B D i0 ∧ DictAt H d ∧ FldAt H d i0 v ∧ ∀ H', Same H H' → Q v H'
theorem isP_of {K : PySem.W.Frag} {a C D : Addr} {d : Option Addr} {b : Bool} {H : Hp} {Q : VK} (X : ExcC K D) (hd : DictAt H d) (o : PySem.W.kitOne K (.ref D) (.ref C) = some b) (q : Q (.bl b) H) : rIsP K (.ref D) a d [.ref a, .ref C] H Q :=
  ⟨D, .ref C, .ref C, b, rfl, X, rfl, hd, fun u r => r, o, q⟩
theorem isPt_of {K : PySem.W.Frag} {a D : Addr} {n : String} {d : Option Addr} {b : Bool} {H : Hp} {Q : VK} (X : ExcC K D) (hd : DictAt H d) (o : PySem.W.kitOne K (.ref D) (.type n) = some b) (q : Q (.bl b) H) : rIsP K (.ref D) a d [.ref a, .ty n] H Q :=
  ⟨D, .ty n, .type n, b, rfl, X, rfl, hd, fun u r => r, o, q⟩
theorem DictAt.same {H H' : Hp} {d : Option Addr} (h : DictAt H d) (e : Same H H') : DictAt H' d := fun y z => by
  obtain ⟨fs, x⟩ := h y z
  exact ⟨fs, e _ _ x⟩
section
variable {P : Program} {w : World} {K : PySem.W.Frag} {mg : Str → Option Value} {base : Heap}
theorem ok_lclass {f : Addr} {fd : FuncData} (F : Fun K "_law_class" "_law_class" sLClass f fd) (B : Er mg) : FnP P w K mg base CX0 1 f fd ["_law_e"] (spLClass K B) := by
  refine funP F scLClass (fun p vs H Q E h => ?_) (fun cdv A outer s H vs Q E p hot hr h => ?_)
  · obtain ⟨D, d, i0, rfl, _⟩ := h
    rfl
  · obtain ⟨D, d, i0, rfl, hz, hf, hd, hD, q⟩ := h
    have mp : (p.1, p.2) ∈ (cxH CX0 P w K mg base ["_law_e", "_law_sorts", "_law_found", "_law_word", "_law_fits_here"] "_law_class" (defScope sLClass) f cdv A outer s H E p).pn := List.mem_cons_self
    refine ⟨_, pss_cons (ps_set (i := 1) scLClass.nd rfl (.inl rfl) (pe_lst (pa_cons (pe_lst (pa_cons pe_str (pa_cons (pe_callB (cr_isP mp hz hf) (by rfl) B.isi (by decide +kernel) (pa_cons (pv 0) (pa_cons (pe_glob (v := .ref (B.c 0)) rfl (B.g 0 (by decide)) rfl) pa_nil))) pa_nil))) (pa_cons (pe_lst (pa_cons pe_str (pa_cons (pe_callB (cr_isP mp hz hf) (by rfl) B.isi (by decide +kernel) (pa_cons (pv 0) (pa_cons (pe_glob (v := .ref (B.c 1)) rfl (B.g 1 (by decide)) rfl) pa_nil))) pa_nil))) pa_nil))))
      (pss_cons (ps_set (i := 1) scLClass.nd rfl (.inl rfl) (pe_op op_cat (pv 1) (pe_lst (pa_cons (pe_lst (pa_cons pe_str (pa_cons (pe_callB (cr_isP mp hz hf) (by rfl) B.isi (by decide +kernel) (pa_cons (pv 0) (pa_cons (pe_glob (v := .ref (B.c 2)) rfl (B.g 2 (by decide)) rfl) pa_nil))) pa_nil))) (pa_cons (pe_lst (pa_cons pe_str (pa_cons (pe_callB (cr_isP mp hz hf) (by rfl) B.isi (by decide +kernel) (pa_cons (pv 0) (pa_cons (pe_glob (v := .ref (B.c 3)) rfl (B.g 3 (by decide)) rfl) pa_nil))) pa_nil))) pa_nil)))))
      (pss_cons (ps_set (i := 1) scLClass.nd rfl (.inl rfl) (pe_op op_cat (pv 1) (pe_lst (pa_cons (pe_lst (pa_cons pe_str (pa_cons (pe_callB (cr_isP mp hz hf) (by rfl) B.isi (by decide +kernel) (pa_cons (pv 0) (pa_cons (pe_glob (v := .ref (B.c 4)) rfl (B.g 4 (by decide)) rfl) pa_nil))) pa_nil))) (pa_cons (pe_lst (pa_cons pe_str (pa_cons (pe_callB (cr_isP mp hz hf) (by rfl) B.isi (by decide +kernel) (pa_cons (pv 0) (pa_cons (pe_glob (v := .ref (B.c 5)) rfl (B.g 5 (by decide)) rfl) pa_nil))) pa_nil))) pa_nil)))))
      (pss_cons (ps_set (i := 1) scLClass.nd rfl (.inl rfl) (pe_op op_cat (pv 1) (pe_lst (pa_cons (pe_lst (pa_cons pe_str (pa_cons (pe_callB (cr_isP mp hz hf) (by rfl) B.isi (by decide +kernel) (pa_cons (pv 0) (pa_cons (pe_glob (v := .ref (B.c 6)) rfl (B.g 6 (by decide)) rfl) pa_nil))) pa_nil))) (pa_cons (pe_lst (pa_cons pe_str (pa_cons (pe_callB (cr_isP mp hz hf) (by rfl) B.isi (by decide +kernel) (pa_cons (pv 0) (pa_cons (pe_glob (v := .ref (B.c 7)) rfl (B.g 7 (by decide)) rfl) pa_nil))) pa_nil))) pa_nil)))))
      (pss_cons (ps_set (i := 1) scLClass.nd rfl (.inl rfl) (pe_op op_cat (pv 1) (pe_lst (pa_cons (pe_lst (pa_cons pe_str (pa_cons (pe_callB (cr_isP mp hz hf) (by rfl) B.isi (by decide +kernel) (pa_cons (pv 0) (pa_cons (pe_glob (v := .ref (B.c 8)) rfl (B.g 8 (by decide)) rfl) pa_nil))) pa_nil))) (pa_cons (pe_lst (pa_cons pe_str (pa_cons (pe_callB (cr_isP mp hz hf) (by rfl) B.isi (by decide +kernel) (pa_cons (pv 0) (pa_cons (pe_glob (v := .ref (B.c 9)) rfl (B.g 9 (by decide)) rfl) pa_nil))) pa_nil))) pa_nil)))))
      (pss_cons (ps_set (i := 1) scLClass.nd rfl (.inl rfl) (pe_op op_cat (pv 1) (pe_lst (pa_cons (pe_lst (pa_cons pe_str (pa_cons (pe_callB (cr_isP mp hz hf) (by rfl) B.isi (by decide +kernel) (pa_cons (pv 0) (pa_cons (pe_glob (v := .ref (B.c 10)) rfl (B.g 10 (by decide)) rfl) pa_nil))) pa_nil))) (pa_cons (pe_lst (pa_cons pe_str (pa_cons (pe_callB (cr_isP mp hz hf) (by rfl) B.isi (by decide +kernel) (pa_cons (pv 0) (pa_cons (pe_glob (v := .ref (B.c 11)) rfl (B.g 11 (by decide)) rfl) pa_nil))) pa_nil))) (pa_cons (pe_lst (pa_cons pe_str (pa_cons (pe_callB (cr_isP mp hz hf) (by rfl) B.isi (by decide +kernel) (pa_cons (pv 0) (pa_cons (pe_glob (v := .ref (B.c 12)) rfl (B.g 12 (by decide)) rfl) pa_nil))) pa_nil))) pa_nil))))))
      (pss_cons (ps_setLcH (i := 2) (g := gLst K 2 (gCons (gName 3) (gCons (gName 4) gNil))) (te := tVar 3) (tt := tTest (tVar 4)) (own := [("_law_word", 3), ("_law_fits_here", 4)]) (p := p) ⟨hot.1, hot.2⟩ mp scLClass.nd rfl rfl (sw_true rfl rfl rfl (by decide +kernel)) (pv 1) (blkOk_by (N := ["_law_e", "_law_sorts", "_law_found", "_law_word", "_law_fits_here"]) (sc := defScope sLClass) (by decide +kernel)) (fun _ _ _ _ _ S => pg_lstH S (pgs_cons (pg_name (i := 3) scLClass.nd rfl (.inl rfl)) (pgs_cons (pg_name (i := 4) scLClass.nd rfl (.inl rfl)) pgs_nil))) (fun _ _ _ _ _ _ => pts_one (pt_val (pv 4))) (fun _ _ _ _ _ _ => pv 3))
      (pss_one (ps_ret (pe_ifExp (pt_cmpR op_eq (pe_callB call_len_seq (by rfl) B.len PySem.boot_len (pa_cons (pv 2) pa_nil)) pe_int (nomark _)) (pe_ix ix_list (pv 2) pe_int (fun _ _ => rfl)) pe_str))))))))), ?_⟩
    dsimp only [gName, tSeq, tAsg]
    have S : Same H H := Same.refl H
    refine ⟨_, rfl, ?_⟩
    dsimp only [tCB, tCons, tC, tNil]
    refine isP_of hd.ex (hD.same S) (hd.one 0 (by decide)) ?_
    refine ⟨(by show 2 ≤ sizeLine; decide), fun a0 h0 => ?_⟩
    have e := same_put (o := HO.lst [.str "text", .bl (decide (0 = i0))]) h0
    have S := S.trans e
    have f0 : upd H a0 (HO.lst [.str "text", .bl (decide (0 = i0))]) a0 = some (HO.lst [.str "text", .bl (decide (0 = i0))]) := upd_same
    generalize upd H a0 (HO.lst [.str "text", .bl (decide (0 = i0))]) = G0 at *
    clear e
    refine ⟨_, rfl, ?_⟩
    dsimp only [tCB, tCons, tC, tNil]
    refine isP_of hd.ex (hD.same S) (hd.one 1 (by decide)) ?_
    refine ⟨(by show 2 ≤ sizeLine; decide), fun a1 h1 => ?_⟩
    have e := same_put (o := HO.lst [.str "number", .bl (decide (1 = i0))]) h1
    have f0 := e _ _ f0
    have S := S.trans e
    have f1 : upd G0 a1 (HO.lst [.str "number", .bl (decide (1 = i0))]) a1 = some (HO.lst [.str "number", .bl (decide (1 = i0))]) := upd_same
    generalize upd G0 a1 (HO.lst [.str "number", .bl (decide (1 = i0))]) = G1 at *
    clear e
    refine ⟨(by show 2 ≤ sizeLine; decide), fun b0 k0 => ?_⟩
    have e := same_put (o := HO.lst [.ref a0, .ref a1]) k0
    have f0 := e _ _ f0
    have f1 := e _ _ f1
    have S := S.trans e
    have fb : upd G1 b0 (HO.lst [.ref a0, .ref a1]) b0 = some (HO.lst [.ref a0, .ref a1]) := upd_same
    generalize upd G1 b0 (HO.lst [.ref a0, .ref a1]) = G2 at *
    clear e
    have fl := fb
    refine ⟨_, rfl, ?_⟩
    refine ⟨_, rfl, ?_⟩
    dsimp only [tCB, tCons, tC, tNil]
    refine isP_of hd.ex (hD.same S) (hd.one 2 (by decide)) ?_
    refine ⟨(by show 2 ≤ sizeLine; decide), fun a2 h2 => ?_⟩
    have e := same_put (o := HO.lst [.str "step", .bl (decide (2 = i0))]) h2
    have f0 := e _ _ f0
    have f1 := e _ _ f1
    have fl := e _ _ fl
    have S := S.trans e
    have f2 : upd G2 a2 (HO.lst [.str "step", .bl (decide (2 = i0))]) a2 = some (HO.lst [.str "step", .bl (decide (2 = i0))]) := upd_same
    generalize upd G2 a2 (HO.lst [.str "step", .bl (decide (2 = i0))]) = G3 at *
    clear e
    refine ⟨_, rfl, ?_⟩
    dsimp only [tCB, tCons, tC, tNil]
    refine isP_of hd.ex (hD.same S) (hd.one 3 (by decide)) ?_
    refine ⟨(by show 2 ≤ sizeLine; decide), fun a3 h3 => ?_⟩
    have e := same_put (o := HO.lst [.str "arc", .bl (decide (3 = i0))]) h3
    have f0 := e _ _ f0
    have f1 := e _ _ f1
    have f2 := e _ _ f2
    have fl := e _ _ fl
    have S := S.trans e
    have f3 : upd G3 a3 (HO.lst [.str "arc", .bl (decide (3 = i0))]) a3 = some (HO.lst [.str "arc", .bl (decide (3 = i0))]) := upd_same
    generalize upd G3 a3 (HO.lst [.str "arc", .bl (decide (3 = i0))]) = G4 at *
    clear e
    refine ⟨(by show 2 ≤ sizeLine; decide), fun b1 k1 => ?_⟩
    have e := same_put (o := HO.lst [.ref a2, .ref a3]) k1
    have f0 := e _ _ f0
    have f1 := e _ _ f1
    have f2 := e _ _ f2
    have f3 := e _ _ f3
    have fl := e _ _ fl
    have S := S.trans e
    have fb : upd G4 b1 (HO.lst [.ref a2, .ref a3]) b1 = some (HO.lst [.ref a2, .ref a3]) := upd_same
    generalize upd G4 b1 (HO.lst [.ref a2, .ref a3]) = G5 at *
    clear e
    refine ⟨b0, b1, [.ref a0, .ref a1], [.ref a2, .ref a3], rfl, rfl, fl, fb, (by show 4 ≤ sizeLine; decide), fun l1 m1 => ?_⟩
    have e := same_put (o := HO.lst ([.ref a0, .ref a1] ++ [.ref a2, .ref a3])) m1
    have f0 := e _ _ f0
    have f1 := e _ _ f1
    have f2 := e _ _ f2
    have f3 := e _ _ f3
    have S := S.trans e
    have fl : upd G5 l1 (HO.lst ([.ref a0, .ref a1] ++ [.ref a2, .ref a3])) l1 = some (HO.lst [.ref a0, .ref a1, .ref a2, .ref a3]) := upd_same
    generalize upd G5 l1 (HO.lst ([.ref a0, .ref a1] ++ [.ref a2, .ref a3])) = G6 at *
    clear e fb
    refine ⟨_, rfl, ?_⟩
    refine ⟨_, rfl, ?_⟩
    dsimp only [tCB, tCons, tC, tNil]
    refine isP_of hd.ex (hD.same S) (hd.one 4 (by decide)) ?_
    refine ⟨(by show 2 ≤ sizeLine; decide), fun a4 h4 => ?_⟩
    have e := same_put (o := HO.lst [.str "sighting", .bl (decide (4 = i0))]) h4
    have f0 := e _ _ f0
    have f1 := e _ _ f1
    have f2 := e _ _ f2
    have f3 := e _ _ f3
    have fl := e _ _ fl
    have S := S.trans e
    have f4 : upd G6 a4 (HO.lst [.str "sighting", .bl (decide (4 = i0))]) a4 = some (HO.lst [.str "sighting", .bl (decide (4 = i0))]) := upd_same
    generalize upd G6 a4 (HO.lst [.str "sighting", .bl (decide (4 = i0))]) = G7 at *
    clear e
    refine ⟨_, rfl, ?_⟩
    dsimp only [tCB, tCons, tC, tNil]
    refine isP_of hd.ex (hD.same S) (hd.one 5 (by decide)) ?_
    refine ⟨(by show 2 ≤ sizeLine; decide), fun a5 h5 => ?_⟩
    have e := same_put (o := HO.lst [.str "sightings", .bl (decide (5 = i0))]) h5
    have f0 := e _ _ f0
    have f1 := e _ _ f1
    have f2 := e _ _ f2
    have f3 := e _ _ f3
    have f4 := e _ _ f4
    have fl := e _ _ fl
    have S := S.trans e
    have f5 : upd G7 a5 (HO.lst [.str "sightings", .bl (decide (5 = i0))]) a5 = some (HO.lst [.str "sightings", .bl (decide (5 = i0))]) := upd_same
    generalize upd G7 a5 (HO.lst [.str "sightings", .bl (decide (5 = i0))]) = G8 at *
    clear e
    refine ⟨(by show 2 ≤ sizeLine; decide), fun b2 k2 => ?_⟩
    have e := same_put (o := HO.lst [.ref a4, .ref a5]) k2
    have f0 := e _ _ f0
    have f1 := e _ _ f1
    have f2 := e _ _ f2
    have f3 := e _ _ f3
    have f4 := e _ _ f4
    have f5 := e _ _ f5
    have fl := e _ _ fl
    have S := S.trans e
    have fb : upd G8 b2 (HO.lst [.ref a4, .ref a5]) b2 = some (HO.lst [.ref a4, .ref a5]) := upd_same
    generalize upd G8 b2 (HO.lst [.ref a4, .ref a5]) = G9 at *
    clear e
    refine ⟨l1, b2, [.ref a0, .ref a1, .ref a2, .ref a3], [.ref a4, .ref a5], rfl, rfl, fl, fb, (by show 6 ≤ sizeLine; decide), fun l2 m2 => ?_⟩
    have e := same_put (o := HO.lst ([.ref a0, .ref a1, .ref a2, .ref a3] ++ [.ref a4, .ref a5])) m2
    have f0 := e _ _ f0
    have f1 := e _ _ f1
    have f2 := e _ _ f2
    have f3 := e _ _ f3
    have f4 := e _ _ f4
    have f5 := e _ _ f5
    have S := S.trans e
    have fl : upd G9 l2 (HO.lst ([.ref a0, .ref a1, .ref a2, .ref a3] ++ [.ref a4, .ref a5])) l2 = some (HO.lst [.ref a0, .ref a1, .ref a2, .ref a3, .ref a4, .ref a5]) := upd_same
    generalize upd G9 l2 (HO.lst ([.ref a0, .ref a1, .ref a2, .ref a3] ++ [.ref a4, .ref a5])) = G10 at *
    clear e fb
    refine ⟨_, rfl, ?_⟩
    refine ⟨_, rfl, ?_⟩
    dsimp only [tCB, tCons, tC, tNil]
    refine isP_of hd.ex (hD.same S) (hd.one 6 (by decide)) ?_
    refine ⟨(by show 2 ≤ sizeLine; decide), fun a6 h6 => ?_⟩
    have e := same_put (o := HO.lst [.str "lot", .bl (decide (6 = i0))]) h6
    have f0 := e _ _ f0
    have f1 := e _ _ f1
    have f2 := e _ _ f2
    have f3 := e _ _ f3
    have f4 := e _ _ f4
    have f5 := e _ _ f5
    have fl := e _ _ fl
    have S := S.trans e
    have f6 : upd G10 a6 (HO.lst [.str "lot", .bl (decide (6 = i0))]) a6 = some (HO.lst [.str "lot", .bl (decide (6 = i0))]) := upd_same
    generalize upd G10 a6 (HO.lst [.str "lot", .bl (decide (6 = i0))]) = G11 at *
    clear e
    refine ⟨_, rfl, ?_⟩
    dsimp only [tCB, tCons, tC, tNil]
    refine isP_of hd.ex (hD.same S) (hd.one 7 (by decide)) ?_
    refine ⟨(by show 2 ≤ sizeLine; decide), fun a7 h7 => ?_⟩
    have e := same_put (o := HO.lst [.str "pieces", .bl (decide (7 = i0))]) h7
    have f0 := e _ _ f0
    have f1 := e _ _ f1
    have f2 := e _ _ f2
    have f3 := e _ _ f3
    have f4 := e _ _ f4
    have f5 := e _ _ f5
    have f6 := e _ _ f6
    have fl := e _ _ fl
    have S := S.trans e
    have f7 : upd G11 a7 (HO.lst [.str "pieces", .bl (decide (7 = i0))]) a7 = some (HO.lst [.str "pieces", .bl (decide (7 = i0))]) := upd_same
    generalize upd G11 a7 (HO.lst [.str "pieces", .bl (decide (7 = i0))]) = G12 at *
    clear e
    refine ⟨(by show 2 ≤ sizeLine; decide), fun b3 k3 => ?_⟩
    have e := same_put (o := HO.lst [.ref a6, .ref a7]) k3
    have f0 := e _ _ f0
    have f1 := e _ _ f1
    have f2 := e _ _ f2
    have f3 := e _ _ f3
    have f4 := e _ _ f4
    have f5 := e _ _ f5
    have f6 := e _ _ f6
    have f7 := e _ _ f7
    have fl := e _ _ fl
    have S := S.trans e
    have fb : upd G12 b3 (HO.lst [.ref a6, .ref a7]) b3 = some (HO.lst [.ref a6, .ref a7]) := upd_same
    generalize upd G12 b3 (HO.lst [.ref a6, .ref a7]) = G13 at *
    clear e
    refine ⟨l2, b3, [.ref a0, .ref a1, .ref a2, .ref a3, .ref a4, .ref a5], [.ref a6, .ref a7], rfl, rfl, fl, fb, (by show 8 ≤ sizeLine; decide), fun l3 m3 => ?_⟩
    have e := same_put (o := HO.lst ([.ref a0, .ref a1, .ref a2, .ref a3, .ref a4, .ref a5] ++ [.ref a6, .ref a7])) m3
    have f0 := e _ _ f0
    have f1 := e _ _ f1
    have f2 := e _ _ f2
    have f3 := e _ _ f3
    have f4 := e _ _ f4
    have f5 := e _ _ f5
    have f6 := e _ _ f6
    have f7 := e _ _ f7
    have S := S.trans e
    have fl : upd G13 l3 (HO.lst ([.ref a0, .ref a1, .ref a2, .ref a3, .ref a4, .ref a5] ++ [.ref a6, .ref a7])) l3 = some (HO.lst [.ref a0, .ref a1, .ref a2, .ref a3, .ref a4, .ref a5, .ref a6, .ref a7]) := upd_same
    generalize upd G13 l3 (HO.lst ([.ref a0, .ref a1, .ref a2, .ref a3, .ref a4, .ref a5] ++ [.ref a6, .ref a7])) = G14 at *
    clear e fb
    refine ⟨_, rfl, ?_⟩
    refine ⟨_, rfl, ?_⟩
    dsimp only [tCB, tCons, tC, tNil]
    refine isP_of hd.ex (hD.same S) (hd.one 8 (by decide)) ?_
    refine ⟨(by show 2 ≤ sizeLine; decide), fun a8 h8 => ?_⟩
    have e := same_put (o := HO.lst [.str "order", .bl (decide (8 = i0))]) h8
    have f0 := e _ _ f0
    have f1 := e _ _ f1
    have f2 := e _ _ f2
    have f3 := e _ _ f3
    have f4 := e _ _ f4
    have f5 := e _ _ f5
    have f6 := e _ _ f6
    have f7 := e _ _ f7
    have fl := e _ _ fl
    have S := S.trans e
    have f8 : upd G14 a8 (HO.lst [.str "order", .bl (decide (8 = i0))]) a8 = some (HO.lst [.str "order", .bl (decide (8 = i0))]) := upd_same
    generalize upd G14 a8 (HO.lst [.str "order", .bl (decide (8 = i0))]) = G15 at *
    clear e
    refine ⟨_, rfl, ?_⟩
    dsimp only [tCB, tCons, tC, tNil]
    refine isP_of hd.ex (hD.same S) (hd.one 9 (by decide)) ?_
    refine ⟨(by show 2 ≤ sizeLine; decide), fun a9 h9 => ?_⟩
    have e := same_put (o := HO.lst [.str "index", .bl (decide (9 = i0))]) h9
    have f0 := e _ _ f0
    have f1 := e _ _ f1
    have f2 := e _ _ f2
    have f3 := e _ _ f3
    have f4 := e _ _ f4
    have f5 := e _ _ f5
    have f6 := e _ _ f6
    have f7 := e _ _ f7
    have f8 := e _ _ f8
    have fl := e _ _ fl
    have S := S.trans e
    have f9 : upd G15 a9 (HO.lst [.str "index", .bl (decide (9 = i0))]) a9 = some (HO.lst [.str "index", .bl (decide (9 = i0))]) := upd_same
    generalize upd G15 a9 (HO.lst [.str "index", .bl (decide (9 = i0))]) = G16 at *
    clear e
    refine ⟨(by show 2 ≤ sizeLine; decide), fun b4 k4 => ?_⟩
    have e := same_put (o := HO.lst [.ref a8, .ref a9]) k4
    have f0 := e _ _ f0
    have f1 := e _ _ f1
    have f2 := e _ _ f2
    have f3 := e _ _ f3
    have f4 := e _ _ f4
    have f5 := e _ _ f5
    have f6 := e _ _ f6
    have f7 := e _ _ f7
    have f8 := e _ _ f8
    have f9 := e _ _ f9
    have fl := e _ _ fl
    have S := S.trans e
    have fb : upd G16 b4 (HO.lst [.ref a8, .ref a9]) b4 = some (HO.lst [.ref a8, .ref a9]) := upd_same
    generalize upd G16 b4 (HO.lst [.ref a8, .ref a9]) = G17 at *
    clear e
    refine ⟨l3, b4, [.ref a0, .ref a1, .ref a2, .ref a3, .ref a4, .ref a5, .ref a6, .ref a7], [.ref a8, .ref a9], rfl, rfl, fl, fb, (by show 10 ≤ sizeLine; decide), fun l4 m4 => ?_⟩
    have e := same_put (o := HO.lst ([.ref a0, .ref a1, .ref a2, .ref a3, .ref a4, .ref a5, .ref a6, .ref a7] ++ [.ref a8, .ref a9])) m4
    have f0 := e _ _ f0
    have f1 := e _ _ f1
    have f2 := e _ _ f2
    have f3 := e _ _ f3
    have f4 := e _ _ f4
    have f5 := e _ _ f5
    have f6 := e _ _ f6
    have f7 := e _ _ f7
    have f8 := e _ _ f8
    have f9 := e _ _ f9
    have S := S.trans e
    have fl : upd G17 l4 (HO.lst ([.ref a0, .ref a1, .ref a2, .ref a3, .ref a4, .ref a5, .ref a6, .ref a7] ++ [.ref a8, .ref a9])) l4 = some (HO.lst [.ref a0, .ref a1, .ref a2, .ref a3, .ref a4, .ref a5, .ref a6, .ref a7, .ref a8, .ref a9]) := upd_same
    generalize upd G17 l4 (HO.lst ([.ref a0, .ref a1, .ref a2, .ref a3, .ref a4, .ref a5, .ref a6, .ref a7] ++ [.ref a8, .ref a9])) = G18 at *
    clear e fb
    refine ⟨_, rfl, ?_⟩
    refine ⟨_, rfl, ?_⟩
    dsimp only [tCB, tCons, tC, tNil]
    refine isP_of hd.ex (hD.same S) (hd.one 10 (by decide)) ?_
    refine ⟨(by show 2 ≤ sizeLine; decide), fun a10 h10 => ?_⟩
    have e := same_put (o := HO.lst [.str "none", .bl (decide (10 = i0))]) h10
    have f0 := e _ _ f0
    have f1 := e _ _ f1
    have f2 := e _ _ f2
    have f3 := e _ _ f3
    have f4 := e _ _ f4
    have f5 := e _ _ f5
    have f6 := e _ _ f6
    have f7 := e _ _ f7
    have f8 := e _ _ f8
    have f9 := e _ _ f9
    have fl := e _ _ fl
    have S := S.trans e
    have f10 : upd G18 a10 (HO.lst [.str "none", .bl (decide (10 = i0))]) a10 = some (HO.lst [.str "none", .bl (decide (10 = i0))]) := upd_same
    generalize upd G18 a10 (HO.lst [.str "none", .bl (decide (10 = i0))]) = G19 at *
    clear e
    refine ⟨_, rfl, ?_⟩
    dsimp only [tCB, tCons, tC, tNil]
    refine isP_of hd.ex (hD.same S) (hd.one 11 (by decide)) ?_
    refine ⟨(by show 2 ≤ sizeLine; decide), fun a11 h11 => ?_⟩
    have e := same_put (o := HO.lst [.str "many", .bl (decide (11 = i0))]) h11
    have f0 := e _ _ f0
    have f1 := e _ _ f1
    have f2 := e _ _ f2
    have f3 := e _ _ f3
    have f4 := e _ _ f4
    have f5 := e _ _ f5
    have f6 := e _ _ f6
    have f7 := e _ _ f7
    have f8 := e _ _ f8
    have f9 := e _ _ f9
    have f10 := e _ _ f10
    have fl := e _ _ fl
    have S := S.trans e
    have f11 : upd G19 a11 (HO.lst [.str "many", .bl (decide (11 = i0))]) a11 = some (HO.lst [.str "many", .bl (decide (11 = i0))]) := upd_same
    generalize upd G19 a11 (HO.lst [.str "many", .bl (decide (11 = i0))]) = G20 at *
    clear e
    refine ⟨_, rfl, ?_⟩
    dsimp only [tCB, tCons, tC, tNil]
    refine isP_of hd.ex (hD.same S) (hd.one 12 (by decide)) ?_
    refine ⟨(by show 2 ≤ sizeLine; decide), fun a12 h12 => ?_⟩
    have e := same_put (o := HO.lst [.str "broken", .bl (decide (12 = i0))]) h12
    have f0 := e _ _ f0
    have f1 := e _ _ f1
    have f2 := e _ _ f2
    have f3 := e _ _ f3
    have f4 := e _ _ f4
    have f5 := e _ _ f5
    have f6 := e _ _ f6
    have f7 := e _ _ f7
    have f8 := e _ _ f8
    have f9 := e _ _ f9
    have f10 := e _ _ f10
    have f11 := e _ _ f11
    have fl := e _ _ fl
    have S := S.trans e
    have f12 : upd G20 a12 (HO.lst [.str "broken", .bl (decide (12 = i0))]) a12 = some (HO.lst [.str "broken", .bl (decide (12 = i0))]) := upd_same
    generalize upd G20 a12 (HO.lst [.str "broken", .bl (decide (12 = i0))]) = G21 at *
    clear e
    refine ⟨(by show 3 ≤ sizeLine; decide), fun b5 k5 => ?_⟩
    have e := same_put (o := HO.lst [.ref a10, .ref a11, .ref a12]) k5
    have f0 := e _ _ f0
    have f1 := e _ _ f1
    have f2 := e _ _ f2
    have f3 := e _ _ f3
    have f4 := e _ _ f4
    have f5 := e _ _ f5
    have f6 := e _ _ f6
    have f7 := e _ _ f7
    have f8 := e _ _ f8
    have f9 := e _ _ f9
    have f10 := e _ _ f10
    have f11 := e _ _ f11
    have f12 := e _ _ f12
    have fl := e _ _ fl
    have S := S.trans e
    have fb : upd G21 b5 (HO.lst [.ref a10, .ref a11, .ref a12]) b5 = some (HO.lst [.ref a10, .ref a11, .ref a12]) := upd_same
    generalize upd G21 b5 (HO.lst [.ref a10, .ref a11, .ref a12]) = G22 at *
    clear e
    refine ⟨l4, b5, [.ref a0, .ref a1, .ref a2, .ref a3, .ref a4, .ref a5, .ref a6, .ref a7, .ref a8, .ref a9], [.ref a10, .ref a11, .ref a12], rfl, rfl, fl, fb, (by show 13 ≤ sizeLine; decide), fun l5 m5 => ?_⟩
    have e := same_put (o := HO.lst ([.ref a0, .ref a1, .ref a2, .ref a3, .ref a4, .ref a5, .ref a6, .ref a7, .ref a8, .ref a9] ++ [.ref a10, .ref a11, .ref a12])) m5
    have f0 := e _ _ f0
    have f1 := e _ _ f1
    have f2 := e _ _ f2
    have f3 := e _ _ f3
    have f4 := e _ _ f4
    have f5 := e _ _ f5
    have f6 := e _ _ f6
    have f7 := e _ _ f7
    have f8 := e _ _ f8
    have f9 := e _ _ f9
    have f10 := e _ _ f10
    have f11 := e _ _ f11
    have f12 := e _ _ f12
    have S := S.trans e
    have fl : upd G22 l5 (HO.lst ([.ref a0, .ref a1, .ref a2, .ref a3, .ref a4, .ref a5, .ref a6, .ref a7, .ref a8, .ref a9] ++ [.ref a10, .ref a11, .ref a12])) l5 = some (HO.lst [.ref a0, .ref a1, .ref a2, .ref a3, .ref a4, .ref a5, .ref a6, .ref a7, .ref a8, .ref a9, .ref a10, .ref a11, .ref a12]) := upd_same
    generalize upd G22 l5 (HO.lst ([.ref a0, .ref a1, .ref a2, .ref a3, .ref a4, .ref a5, .ref a6, .ref a7, .ref a8, .ref a9] ++ [.ref a10, .ref a11, .ref a12])) = G23 at *
    clear e fb
    have all : ∀ (i : Nat) (v : V), ([.ref a0, .ref a1, .ref a2, .ref a3, .ref a4, .ref a5, .ref a6, .ref a7, .ref a8, .ref a9, .ref a10, .ref a11, .ref a12] : List V)[i]? = some v → i < 13 ∧ ∃ a, v = .ref a ∧ G23 a = some (.lst [.str (wdOf i), .bl (decide (i = i0))]) := by
      intro i v hv
      rcases i with _ | _ | _ | _ | _ | _ | _ | _ | _ | _ | _ | _ | _ | i
      · cases hv; exact ⟨by decide, a0, rfl, f0⟩
      · cases hv; exact ⟨by decide, a1, rfl, f1⟩
      · cases hv; exact ⟨by decide, a2, rfl, f2⟩
      · cases hv; exact ⟨by decide, a3, rfl, f3⟩
      · cases hv; exact ⟨by decide, a4, rfl, f4⟩
      · cases hv; exact ⟨by decide, a5, rfl, f5⟩
      · cases hv; exact ⟨by decide, a6, rfl, f6⟩
      · cases hv; exact ⟨by decide, a7, rfl, f7⟩
      · cases hv; exact ⟨by decide, a8, rfl, f8⟩
      · cases hv; exact ⟨by decide, a9, rfl, f9⟩
      · cases hv; exact ⟨by decide, a10, rfl, f10⟩
      · cases hv; exact ⟨by decide, a11, rfl, f11⟩
      · cases hv; exact ⟨by decide, a12, rfl, f12⟩
      · simp at hv
    refine ⟨_, rfl, l5, rfl, ⟨_, SqL.of fl⟩, fun D1 hD1 => ?_⟩
    refine lc_list (K := K) (a := l5) (xs := [.ref a0, .ref a1, .ref a2, .ref a3, .ref a4, .ref a5, .ref a6, .ref a7, .ref a8, .ref a9, .ref a10, .ref a11, .ref a12]) (fun j H2 => H2 D1 = some (.lst (((List.range j).filter fun i => decide (i = i0)).map fun i => V.str (wdOf i))) ∧ Same G23 H2) ⟨upd_same, same_put hD1⟩ (fun j H2 _ ⟨_, e⟩ => SqL.of (e _ _ fl)) ?_ ?_
    · rintro j v H2 hj ⟨h1, h2⟩
      obtain ⟨j13, a, rfl, ha⟩ := all j v hj
      refine ⟨a, _, rfl, SqL.of (h2 _ _ ha), rfl, _, _, rfl, _, _, rfl, rfl, ?_⟩
      refine ⟨rfl, _, rfl, _, rfl, ?_⟩
      have er : ((List.range (j + 1)).filter fun i => decide (i = i0)).map (fun i => V.str (wdOf i)) = ((List.range j).filter fun i => decide (i = i0)).map (fun i => V.str (wdOf i)) ++ (if j = i0 then [V.str (wdOf j)] else []) := by
        rw [List.range_succ, List.filter_append, List.map_append]
        congr 1
        by_cases c : j = i0
        · simp [c]
        · simp [c]
      refine ite2 (fun hc => ?_) (fun hc => ?_)
      · have c : j = i0 := of_decide_eq_true hc
        refine ⟨_, rfl, _, h1, ?_, ?_, fun b o e => ?_⟩
        · refine small1000 (Nat.le_trans (by rw [List.length_map]; exact List.length_filter_le _ _) (by rw [List.length_range]; omega))
        · rw [upd_same, er, if_pos c]
        · rw [upd_ne (ne_of_none e hD1)]
          exact h2 _ _ e
      · have c : ¬ j = i0 := fun z => hc (decide_eq_true z)
        exact ⟨by rw [er, if_neg c, List.append_nil]; exact h1, h2⟩
    · rintro H2 ⟨h1, h2⟩
      have e1 : ((List.range 13).filter fun i => decide (i = i0)) = [i0] := by
        have := hd.lt
        rcases i0 with _ | _ | _ | _ | _ | _ | _ | _ | _ | _ | _ | _ | _ | i0 <;> first | rfl | omega
      rw [show ([.ref a0, .ref a1, .ref a2, .ref a3, .ref a4, .ref a5, .ref a6, .ref a7, .ref a8, .ref a9, .ref a10, .ref a11, .ref a12] : List V).length = 13 from rfl, e1] at h1
      refine ⟨_, rfl, D1, _, rfl, .inl (SqL.of h1), rfl, _, rfl, iteT ?_⟩
      refine ⟨_, rfl, D1, _, 0, .str (wdOf i0), rfl, rfl, SqL.of h1, at_of (j := 0) rfl rfl, ?_⟩
      exact q _ (S.trans h2)
end
end My
set_option Elab.async false
set_option linter.all false
set_option maxRecDepth 100000
set_option maxHeartbeats 8000000
set_option exponentiation.threshold 2000
namespace My
open PySem PySem.Spec PyProof.Rows L2 L2H Gn Mt
theorem any_of {K : PySem.W.Frag} {mg : Str → Option Value} {B : Er mg} {D : Addr} {i0 : Nat} (h : Held K B D i0) : ∀ is : List Nat, (∀ i ∈ is, i < 13) → PySem.W.kitAny K (.ref D) (is.map fun i => Value.ref (B.c i)) = some (is.any fun i => decide (i = i0))
  | [], _ => rfl
  | i :: is, l => by
    rw [List.map_cons, List.any_cons]
    unfold PySem.W.kitAny
    rw [h.one i (l i (by simp))]
    cases decide (i = i0)
    · rw [Bool.false_or]; exact any_of h is fun j m => l j (by simp [m])
    · rfl
section
variable {P : Program} {w : World} {K : PySem.W.Frag} {mg : Str → Option Value} {base : Heap}
theorem ok_lfield {f : Addr} {fd : FuncData} (F : Fun K "_law_field" "_law_field" sLField f fd) (B : Er mg) : FnP P w K mg base CX0 1 f fd ["_law_e"] (spLField K B) := by
  refine funP F scLField (fun p vs H Q E h => ?_) (fun cdv A outer s H vs Q E p hot hr h => ?_)
  · obtain ⟨D, d, i0, v, rfl, _⟩ := h
    rfl
  · obtain ⟨D, d, i0, v, rfl, hz, hf, hd, hD, hv, q⟩ := h
    have mp : (p.1, p.2) ∈ (cxH CX0 P w K mg base ["_law_e"] "_law_field" (defScope sLField) f cdv A outer s H E p).pn := List.mem_cons_self
    refine ⟨_, pss_cons (ps_if (pt_val (pe_callB (cr_isPT mp hz hf) (by rfl) B.isi (by decide +kernel) (pa_cons (pv 0) (pa_cons (pe_tup (pa_cons (pe_glob (v := .ref (B.c 7)) rfl (B.g 7 (by decide)) rfl) (pa_cons (pe_glob (v := .ref (B.c 8)) rfl (B.g 8 (by decide)) rfl)
          (pa_cons (pe_glob (v := .ref (B.c 5)) rfl (B.g 5 (by decide)) rfl) (pa_cons (pe_glob (v := .ref (B.c 12)) rfl (B.g 12 (by decide)) rfl) pa_nil))))) pa_nil)))) (pss_one (ps_ret (pe_xfP mp hz hf (pv 0)))) pss_nil)
      (pss_cons (ps_if (pt_val (pe_callB (cr_isP mp hz hf) (by rfl) B.isi (by decide +kernel) (pa_cons (pv 0) (pa_cons (pe_glob (v := .ref (B.c 10)) rfl (B.g 10 (by decide)) rfl) pa_nil)))) (pss_one (ps_ret pe_non)) pss_nil)
      (pss_one (ps_ret (pe_ifExp (pt_val (pe_callB (cr_isP mp hz hf) (by rfl) B.isi (by decide +kernel) (pa_cons (pv 0) (pa_cons (pe_glob (v := .ref (B.c 11)) rfl (B.g 11 (by decide)) rfl) pa_nil)))) (pe_xfP mp hz hf (pv 0)) (pe_xfP mp hz hf (pv 0)))))), ?_⟩
    refine ⟨_, rfl, (by show 4 ≤ sizeLine; decide), fun tp ht => ?_⟩
    have s1 := same_put (o := HO.tup [.ref (B.c 7), .ref (B.c 8), .ref (B.c 5), .ref (B.c 12)]) ht
    have fld : ∀ (n : Str), fdOf i0 = some n → ∀ R : VK, (∀ H', Same H H' → R v H') → tXfP K p.1 (.ref D) d n (tVar 0) (start ["_law_e"] [.ref p.1]) (upd H tp (.tup [.ref (B.c 7), .ref (B.c 8), .ref (B.c 5), .ref (B.c 12)])) R := fun n hn R k => by
      unfold FldAt at hv
      rw [hn] at hv
      obtain ⟨dd, fs, rfl, h1, h2⟩ := hv
      exact ⟨.ref p.1, rfl, D, dd, fs, v, rfl, rfl, hd.xf, hd.no n hn, rfl, s1 _ _ h1, h2, k _ s1⟩
    refine ⟨D, tp, _, [.ref (B.c 7), .ref (B.c 8), .ref (B.c 5), .ref (B.c 12)], _, rfl, hd.ex, rfl, upd_same, ?_, hD.same s1, any_of hd [7, 8, 5, 12] (by decide), ?_⟩
    · exact .cons (.own _) (.cons (.own _) (.cons (.own _) (.cons (.own _) .nil)))
    refine ⟨_, rfl, ite2 (fun hc => ?_) (fun hc => ?_)⟩
    · refine fld "index" ?_ _ fun H' e => q _ e
      unfold fdOf
      rw [if_pos]
      simp at hc
      omega
    · have n1 : ¬ (i0 = 5 ∨ i0 = 7 ∨ i0 = 8 ∨ i0 = 12) := fun z => hc (by simp; omega)
      refine ⟨_, rfl, ?_⟩
      dsimp only [tCB, tCons, tC, tNil]
      refine isP_of hd.ex (hD.same s1) (hd.one 10 (by decide)) ⟨_, rfl, ite2 (fun h10 => ?_) (fun h10 => ?_)⟩
      · have e10 : 10 = i0 := of_decide_eq_true h10
        have : v = .non := by
          unfold FldAt fdOf at hv
          rw [if_neg n1, if_pos e10.symm] at hv
          exact hv
        rw [← this]
        exact q _ s1
      · have n10 : ¬ i0 = 10 := fun z => h10 (decide_eq_true z.symm)
        refine ⟨_, rfl, ?_⟩
        dsimp only [tCB, tCons, tC, tNil]
        refine isP_of hd.ex (hD.same s1) (hd.one 11 (by decide)) ⟨_, rfl, ite2 (fun h11 => ?_) (fun h11 => ?_)⟩
        · have e11 : 11 = i0 := of_decide_eq_true h11
          refine fld "most" ?_ _ fun H' e => q _ e
          unfold fdOf
          rw [if_neg n1, if_neg n10, if_pos e11.symm]
        · have n11 : ¬ i0 = 11 := fun z => h11 (decide_eq_true z.symm)
          refine fld "given" ?_ _ fun H' e => q _ e
          unfold fdOf
          rw [if_neg n1, if_neg n10, if_neg n11]
end
end My
set_option Elab.async false
set_option linter.all false
set_option maxRecDepth 100000
set_option maxHeartbeats 8000000
set_option exponentiation.threshold 2000
namespace My
open PySem PySem.Spec PyProof.Rows L2 L2H Gn Mt
/-- what is tried raises one of the package's errors, or returns -/
def RaisesAs (K : PySem.W.Frag) {mg : Str → Option Value} (B : Er mg) (Q : VK) : XK := fun C d G => ∃ (D : Addr) (i0 : Nat) (v : V), C = .ref D ∧ Held K B D i0 ∧ DictAt G d ∧ FldAt G d i0 v ∧ ∀ r G', Same G G' → r ≠ sysModules → G' r = some (.lst [.str (wdOf i0), v]) → Q (.ref r) G'
def TellsAs (Q : VK) : VK := fun v G => ∀ r G', Same G G' → G' r = some (.lst [.str "told", v]) → Q (.ref r) G'
def TTe (K : PySem.W.Frag) {mg : Str → Option Value} (B : Er mg) : (XK → Hp → VK → Prop) → Hp → VK → Prop := fun tl H Q =>
  ∀ (E' : XK) (Q' : VK), (∀ C d G, RaisesAs K B Q C d G → E' C d G) → (∀ v G, TellsAs Q v G → Q' v G) → tl E' H Q'
/-- _law_class(e), _law_field(e) within the handler -/
def tErrC (K : PySem.W.Frag) {mg : Str → Option Value} (B : Er mg) (x : Addr) (C : Value) (d : Option Addr) : TE := fun σ H Q => tVar 2 σ H fun y H1 => y = .ref x ∧ ∃ D i0, C = .ref D ∧ Held K B D i0 ∧ DictAt H1 d ∧ ∀ H', Same H1 H' → Q (.str (wdOf i0)) H'
def tErrF (K : PySem.W.Frag) {mg : Str → Option Value} (B : Er mg) (x : Addr) (C : Value) (d : Option Addr) : TE := fun σ H Q => tVar 2 σ H fun y H1 => y = .ref x ∧ ∃ D i0 v, C = .ref D ∧ Held K B D i0 ∧ DictAt H1 d ∧ FldAt H1 d i0 v ∧ ∀ H', Same H1 H' → Q v H'
def hnd0 : List Stmt → List Stmt
  | .Try _ (.ExceptHandler _ _ b _ :: _) _ _ _ :: _ => b
  | _ => []
abbrev NE : List Str := ["_law_act", "_law_found", "_law_e", "_law_bases", "_law_plain"]
abbrev cxE (X : Cx) (s : Shared) (H : Hp) (g : Addr) (cdv : Value) : Cx := (cxOf CX0 X.prog X.w X.K X.mg X.base NE "_law_error" (defScope sLError) g cdv X.A X.stack s H E0).nox
def tsErr (K : PySem.W.Frag) {mg : Str → Option Value} (B : Er mg) : Addr → Value → Option Addr → TS := fun x C d =>
  tSeq (tAsg (tLst (tCons (tCB (rIsP K C x d) (tCons (tVar 2) (tCons (tC (V.ref B.R0)) tNil))) (tCons (tCB (rIsP K C x d) (tCons (tVar 2) (tCons (tC (V.ref B.R1)) tNil))) (tCons (tCB (rIsP K C x d) (tCons (tVar 2) (tCons (tC (V.ref B.R2)) tNil))) tNil)))) (gName 3))
    (tSeq (tAsg (tLst (tCons (tCB (rIsP K C x d) (tCons (tVar 2) (tCons (tC (V.ty "ValueError")) tNil))) (tCons (tCB (rIsP K C x d) (tCons (tVar 2) (tCons (tC (V.ty "LookupError")) tNil))) (tCons (tCB (rIsP K C x d) (tCons (tVar 2) (tCons (tC (V.ty "ArithmeticError")) tNil))) tNil)))) (gName 4))
      (tRet (tLstZ (tCons (tIf (tAnd (tTest (tOp (rEqD K) (tVar 3) (tVar 4))) (tTest (tOp rEq (tBM K "list" (rCntB K) (tVar 3) (tCons (tC (V.bl true)) tNil)) (tC (V.int 1))))) (tErrC K B x C d) (tC (V.str "odd"))) (tCons (tErrF K B x C d) tNil)))))
section
variable {X : Cx}
theorem err_suite {g fC fF : Addr} {fdC fdF : FuncData} {cdv : Value} {s : Shared} {H : Hp} (B : Er X.mg) (CL : Df X.K X.mg "_law_class" sLClass ["_law_e"] fC fdC) (CF : Df X.K X.mg "_law_field" sLField ["_law_e"] fF fdF) (rH : RoomH 1 (cxE X s H g cdv).A)
    (x : Addr) (oe : Obj) (C : Value) (d : Option Addr) (pn : List (Addr × Obj)) (z : L2N.Zn C d oe) (hf : ∃ vs, oe.data = .fields vs) : PSs ((cxE X s H g cdv).suite x ((x, oe) :: pn)) (hnd0 (defBody sLError)) (tsErr X.K B x C d) := by
  have GC : FnP X.prog X.w X.K X.mg X.base CX0 1 fC fdC ["_law_e"] (spLClass X.K B) := ok_lclass CL.F B
  have GF : FnP X.prog X.w X.K X.mg X.base CX0 1 fF fdF ["_law_e"] (spLField X.K B) := ok_lfield CF.F B
  have hu : (cxE X s H g cdv).A.units + 64 < cLine := by have := rH.un; omega
  exact pss_cons (ps_set (i := 3) scLError.nd rfl (.inl rfl) (pe_lst (pa_cons (pe_callB (cr_isP (a := x) (oe := oe) List.mem_cons_self z.zc hf) (by rfl) B.isi (by decide +kernel) (pa_cons (pv 2) (pa_cons (pe_glob (v := .ref B.R0) rfl B.g0 rfl) pa_nil)))
          (pa_cons (pe_callB (cr_isP (a := x) (oe := oe) List.mem_cons_self z.zc hf) (by rfl) B.isi (by decide +kernel) (pa_cons (pv 2) (pa_cons (pe_glob (v := .ref B.R1) rfl B.g1 rfl) pa_nil)))
          (pa_cons (pe_callB (cr_isP (a := x) (oe := oe) List.mem_cons_self z.zc hf) (by rfl) B.isi (by decide +kernel) (pa_cons (pv 2) (pa_cons (pe_glob (v := .ref B.R2) rfl B.g2 rfl) pa_nil))) pa_nil)))))
        (pss_cons (ps_set (i := 4) scLError.nd rfl (.inl rfl) (pe_lst (pa_cons (pe_callB (cr_isP (a := x) (oe := oe) List.mem_cons_self z.zc hf) (by rfl) B.isi (by decide +kernel) (pa_cons (pv 2) (pa_cons (pe_bltn (v := .ty "ValueError") (by rfl) B.v0 (by decide +kernel) rfl) pa_nil)))
          (pa_cons (pe_callB (cr_isP (a := x) (oe := oe) List.mem_cons_self z.zc hf) (by rfl) B.isi (by decide +kernel) (pa_cons (pv 2) (pa_cons (pe_bltn (v := .ty "LookupError") (by rfl) B.v1 (by decide +kernel) rfl) pa_nil)))
          (pa_cons (pe_callB (cr_isP (a := x) (oe := oe) List.mem_cons_self z.zc hf) (by rfl) B.isi (by decide +kernel) (pa_cons (pv 2) (pa_cons (pe_bltn (v := .ty "ArithmeticError") (by rfl) B.v2 (by decide +kernel) rfl) pa_nil))) pa_nil)))))
        (pss_one (ps_ret (pe_lstZ (pa_cons (pe_ifExp (PW.pt (pw_and (pt_cmpR (op_eqD (X := (cxE X s H g cdv).suite x ((x, oe) :: pn)) hu) (pv 3) (pv 4) (nomark _)) (pw_and1 (pt_cmpR op_eq (pe_bm PySem.F.plainAttrs_list PySem.F.slot_list_count PySem.F.type_list_count mt_countB (pv 3) (pa_cons pe_bl pa_nil)) pe_int (nomark _)))))
            (PE.imp (t' := tErrC X.K B x C d) (pe_callP GC (q := (x, oe)) ⟨rH.dp, rH.un⟩ List.mem_cons_self ⟨rfl, hf.choose, hf.choose_spec, z.2.2 _ hf.choose_spec⟩ (by rfl) CL.g CL.F.kp CL.b pass0 (pa_cons (pv 2) pa_nil)) (fun σ G Q ⟨y, e1, e2, D, i0, e3, hd, hD, q⟩ => ⟨y, e1, D, d, i0, by rw [e2]; rfl, by rw [← e3]; exact z.zc, hf, hd, hD, q⟩)) pe_str)
          (pa_cons (PE.imp (t' := tErrF X.K B x C d) (pe_callP GF (q := (x, oe)) ⟨rH.dp, rH.un⟩ List.mem_cons_self ⟨rfl, hf.choose, hf.choose_spec, z.2.2 _ hf.choose_spec⟩ (by rfl) CF.g CF.F.kp CF.b pass0 (pa_cons (pv 2) pa_nil)) (fun σ G Q ⟨y, e1, e2, D, i0, v, e3, hd, hD, hv, q⟩ => ⟨y, e1, D, d, i0, v, by rw [e2]; rfl, by rw [← e3]; exact z.zc, hf, hd, hD, hv, q⟩)) pa_nil))))))
theorem err_reads {K : PySem.W.Frag} {mg : Str → Option Value} (B : Er mg) {x D : Addr} {d : Option Addr} {i0 : Nat} {v : V} {Dn : Ends} {u1 u2 u3 u4 : Option V} {G : Hp} (hd : Held K B D i0) (hD : DictAt G d) (hv : FldAt G d i0 v)
    (q : ∀ r G', Same G G' → r ≠ sysModules → G' r = some (.lst [.str (wdOf i0), v]) → Dn.rt (.ref r) G') : tsErr K B x (.ref D) d Dn [u1, u2, some (.ref x), u3, u4] G := by
  obtain ⟨b0, b1, b2, cnt, k0, k1, k2, l0, l1, l2⟩ := hd.bs
  have sh : SeqAt.shaped (PyData.list [.bool b0, .bool b1, .bool b2]) = true := by cases b0 <;> cases b1 <;> cases b2 <;> decide +kernel
  unfold tsErr
  dsimp only [tSeq, tAsg, gName]
  refine ⟨_, rfl, ?_⟩
  dsimp only [tCB, tCons, tC, tNil]
  refine isP_of hd.ex hD k0 ⟨_, rfl, ?_⟩
  dsimp only [tCB, tCons, tC, tNil]
  refine isP_of hd.ex hD k1 ⟨_, rfl, ?_⟩
  dsimp only [tCB, tCons, tC, tNil]
  refine isP_of hd.ex hD k2 ⟨(by show 3 ≤ sizeLine; decide), fun p1 h1 => ?_⟩
  have s1 := same_put (o := HO.lst [.bl b0, .bl b1, .bl b2]) h1
  have f1 : upd G p1 (HO.lst [.bl b0, .bl b1, .bl b2]) p1 = some (.lst ([b0, b1, b2].map V.bl)) := upd_same
  generalize upd G p1 (HO.lst [.bl b0, .bl b1, .bl b2]) = G1 at *
  refine ⟨_, rfl, ?_⟩
  dsimp only [tCB, tCons, tC, tNil]
  refine isPt_of hd.ex (hD.same s1) l0 ⟨_, rfl, ?_⟩
  dsimp only [tCB, tCons, tC, tNil]
  refine isPt_of hd.ex (hD.same s1) l1 ⟨_, rfl, ?_⟩
  dsimp only [tCB, tCons, tC, tNil]
  refine isPt_of hd.ex (hD.same s1) l2 ⟨(by show 3 ≤ sizeLine; decide), fun p2 h2 => ?_⟩
  have s2 := same_put (o := HO.lst [.bl b0, .bl b1, .bl b2]) h2
  have f2 : upd G1 p2 (HO.lst [.bl b0, .bl b1, .bl b2]) p2 = some (.lst ([b0, b1, b2].map V.bl)) := upd_same
  have f1 := s2 _ _ f1
  generalize upd G1 p2 (HO.lst [.bl b0, .bl b1, .bl b2]) = G2 at *
  have S2 := s1.trans s2
  refine ⟨_, rfl, _, rfl, .list [.bool b0, .bool b1, .bool b2], .list [.bool b0, .bool b1, .bool b2], .lst (SqL.of f1) (.cons (.bl b0) (.cons (.bl b1) (.cons (.bl b2) .nil))), .lst (SqL.of f2) (.cons (.bl b0) (.cons (.bl b1) (.cons (.bl b2) .nil))), sh, sh, _, rfl, ?_⟩
  rw [SeqAt.eqv_refl (PyData.list [.bool b0, .bool b1, .bool b2]) (by cases b0 <;> cases b1 <;> cases b2 <;> decide +kernel)]
  refine iteT ⟨_, rfl, .inl ⟨rfl, _, SqL.of f1⟩, p1, [b0, b1, b2], true, rfl, rfl, SqL.of f1, rfl, _, rfl, ?_⟩
  rw [cnt]
  refine iteT ⟨_, rfl, rfl, D, i0, rfl, hd, hD.same S2, fun G3 s3 => ?_⟩
  have S3 := S2.trans s3
  refine ⟨_, rfl, rfl, D, i0, v, rfl, hd, hD.same S3, ?_, fun G4 s4 => ?_⟩
  · unfold FldAt at hv ⊢
    cases e : fdOf i0 with
    | none => rw [e] at hv; exact hv
    | some n =>
      rw [e] at hv
      obtain ⟨dd, fs, h1, h2, h3⟩ := hv
      exact ⟨dd, fs, h1, S3 _ _ h2, h3⟩
  refine ⟨(by show 2 ≤ sizeLine; decide), fun r hr np => q r _ ((S3.trans s4).trans (same_put hr)) np upd_same⟩
theorem error_gives {g fC fF : Addr} {fdC fdF : FuncData} {q : Str} {k : Nat} (B : Er X.mg) (CL : Df X.K X.mg "_law_class" sLClass ["_law_e"] fC fdC) (CF : Df X.K X.mg "_law_field" sLField ["_law_e"] fF fdF) (cdv : Value) :
    GivesN X NE "_law_error" (defScope sLError) g cdv (defBody sLError) "_law_act" q k (TTe X.K B) := by
  intro f c s H Q tl act hc hr want
  have rH : RoomH 1 (cxE X s H g cdv).A := (roomH_of hr).mono (by omega)
  refine ⟨_, pss_cons (ps_try_triN (j := 2) (ts := tsErr X.K B) rfl rfl scLError.nd rfl rfl ⟨rfl, by decide, .inl B.g0⟩ ⟨rfl, by decide, .inl B.g1⟩ ⟨rfl, by decide, .inl B.g2⟩ takesN0
      (fun W pn xe tk _ => pss_one (ps_set (i := 1) scLError.nd rfl (.inl rfl) (act W pn xe _ _ tk))) (err_suite B CL CF rH))
    (pss_one (ps_ret (pe_lst (pa_cons pe_str (pa_cons (pv 1) pa_nil))))), ?_⟩
  dsimp only [gName, tSeq, tAsg]
  refine ⟨rfl, hc, want _ _ (fun C d G w => ?_) (fun v G w => ?_)⟩
  · obtain ⟨D, i0, v, rfl, hd, hD, hv, w⟩ := w
    exact ⟨true, hd.ma, fun _ x hx => err_reads B hd hD hv w, fun z => nomatch z⟩
  · refine ⟨_, rfl, (by show 2 ≤ sizeLine; decide), fun r hr' => ?_⟩
    exact w r _ (same_put hr') upd_same
end
end My
set_option Elab.async false
set_option linter.all false
set_option maxRecDepth 100000
set_option maxHeartbeats 8000000
set_option exponentiation.threshold 2000
namespace My
open PySem PySem.Spec PyProof.Rows L2 L2H Gn
/-! the law's own questions -/
abbrev sLUnder : Stmt := top 58
abbrev sLNum : Stmt := top 61
abbrev sLPart : Stmt := top 62
abbrev sLIsSt : Stmt := top 63
theorem scLNum : FnScope ["_law_thing", "_law_low_here", "_law_high"] ["_law_thing", "_law_low_here", "_law_high"] (defScope sLNum) := ⟨rfl, rfl, rfl, by decide +kernel, rfl, by decide +kernel, by decide +kernel⟩
theorem scLPart : FnScope ["_law_thing"] ["_law_thing"] (defScope sLPart) := ⟨rfl, rfl, rfl, by decide +kernel, rfl, by decide +kernel, by decide +kernel⟩
theorem scLIsSt : FnScope ["_law_thing"] ["_law_thing"] (defScope sLIsSt) := ⟨rfl, rfl, rfl, by decide +kernel, rfl, by decide +kernel, by decide +kernel⟩
theorem scLUnder : FnScope ["_law_one", "_law_two"] ["_law_one", "_law_two"] (defScope sLUnder) := ⟨rfl, rfl, rfl, by decide +kernel, rfl, by decide +kernel, by decide +kernel⟩
/-- a pair of integers has its second one in bounds -/
def Lt60 (d : PyData) : Prop := ∀ p b, d = .tuple [p, .int b] → b ≤ 10 ^ 60
def spAsk60 (K : PySem.W.Frag) (r : PyData → Bool) : Sp := fun vs H Q _ => ∃ v d, vs = [v] ∧ An K H v d ∧ Lt60 d ∧ Q (.bl (r d)) H
section
variable {P : Program} {w : World} {K : PySem.W.Frag} {mg : Str → Option Value} {base : Heap}
theorem ok_lNum {f : Addr} {fd : FuncData} (F : Fun K "_law_is_number" "_law_is_number" sLNum f fd) (B : Bc mg) : FnOk P w K mg base CX0 1 f fd ["_law_thing", "_law_low_here", "_law_high"] (spNumA K) := by
  refine F.ok scLNum (fun vs H Q E h => ?_) (fun cdv A outer s H vs Q E hr h => ?_)
  · obtain ⟨v, d, a, b, rfl, _⟩ := h
    rfl
  · obtain ⟨v, d, a, b, rfl, an, q⟩ := h
    refine ⟨_, pss_one (ps_ret (pe_and (pe_callB call_isi (by rfl) B.isi (by decide +kernel) (pa_cons (pv 0) (pa_cons (pe_bltn (v := .ty "int") (by rfl) B.int (by decide +kernel) rfl) pa_nil)))
      (pe_and (pe_not (pe_callB call_isi (by rfl) B.isi (by decide +kernel) (pa_cons (pv 0) (pa_cons (pe_bltn (v := .ty "bool") (by rfl) B.bool (by decide +kernel) rfl) pa_nil)))) (pe_one (pe_chain op_le op_le (pv 1) (pv 0) (pv 2)))))), ?_⟩
    refine ⟨_, rfl, v, .ty "int", _, _, _, rfl, .ty "int", an.ty, kit_ty kit_int, _, rfl, ?_⟩
    cases ei : isIntB d with
    | false =>
      have e : isNum d a b = false := by cases d <;> first | rfl | cases ei
      rw [e] at q
      exact iteF q
    | true =>
      refine iteT ⟨_, rfl, v, .ty "bool", _, _, _, rfl, .ty "bool", an.ty, kit_ty kit_bool, ?_⟩
      cases eb : isBoolB d with
      | true =>
        have e : isNum d a b = false := by cases d <;> first | rfl | cases eb
        rw [e] at q
        exact ⟨_, rfl, _, rfl, iteF q⟩
      | false =>
        have e3 : isInt d = true := by cases d <;> first | rfl | (cases ei; done) | (cases eb; done)
        obtain ⟨i, rfl, rfl⟩ := an.isI e3
        refine ⟨_, rfl, _, rfl, iteT ⟨_, rfl, _, rfl, _, _, rfl, rfl, _, rfl, ?_⟩⟩
        refine ite2 (fun hc => ?_) (fun hc => ?_)
        · have h1 : a ≤ i := of_decide_eq_true hc
          refine ⟨_, rfl, _, _, rfl, rfl, ?_⟩
          have e : isNum (.int i) a b = decide (i ≤ b) := by
            show decide (a ≤ i ∧ i ≤ b) = _
            rw [decide_eq_decide]; exact ⟨fun z => z.2, fun z => ⟨h1, z⟩⟩
          rw [e] at q
          exact q
        · have h1 : ¬ a ≤ i := fun z => hc (decide_eq_true z)
          have e : isNum (.int i) a b = false := decide_eq_false fun z => h1 z.1
          rw [e] at q
          exact q
theorem ok_lPart {f fN fG : Addr} {fd fdN fdG : FuncData} (F : Fun K "_law_is_part" "_law_is_part" sLPart f fd) (B : Bc mg) (Bl' : Bl mg) (N : Df K mg "_law_is_number" sLNum ["_law_thing", "_law_low_here", "_law_high"] fN fdN) (G : Df K mg "_law_gcd" sGcd ["_law_one", "_law_two"] fG fdG) : FnOk P w K mg base CX0 2 f fd ["_law_thing"] (spAsk60 K isPt) := by
  have GN : FnOk P w K mg base CX0 1 fN fdN ["_law_thing", "_law_low_here", "_law_high"] (spNumA K) := ok_lNum N.F B
  have GG : FnOk P w K mg base CX0 1 fG fdG ["_law_one", "_law_two"] spGcd := ok_gcd G.F Bl'
  refine F.ok scLPart (fun vs H Q E h => ?_) (fun cdv A outer s H vs Q E hr h => ?_)
  · obtain ⟨v, d, rfl, _⟩ := h
    rfl
  · obtain ⟨v, d, rfl, an, h60, q⟩ := h
    refine ⟨_, pss_cons (ps_if (PW.pt (pw_or (pt_not (pt_val (pe_callB call_isi (by rfl) B.isi (by decide +kernel) (pa_cons (pv 0) (pa_cons (pe_bltn (v := .ty "tuple") (by rfl) B.tuple (by decide +kernel) rfl) pa_nil)))))
        (pw_or (pt_cmpR op_ne (pe_callB call_len_seq (by rfl) B.len PySem.boot_len (pa_cons (pv 0) pa_nil)) pe_int (nomark _))
        (pw_or1 (pt_not (pt_val (pe_call GN hr (by rfl) N.g N.F.kp N.b .nil pass0 (pa_cons (pe_ix ix_tup (pv 0) pe_int (fun _ _ => rfl)) (pa_cons pe_int (pa_cons (pe_op op_pow pe_int pe_int) pa_nil)))))))))) (pss_one (ps_ret pe_bl)) pss_nil)
      (pss_one (ps_ret (pe_and (pe_call GN hr (by rfl) N.g N.F.kp N.b .nil pass0 (pa_cons (pe_ix ix_tup (pv 0) pe_int (fun _ _ => rfl)) (pa_cons pe_int (pa_cons (pe_ix ix_tup (pv 0) pe_int (fun _ _ => rfl)) pa_nil))))
        (pe_one (pe_cmpR op_eq (pe_call GG hr (by rfl) G.g G.F.kp G.b .nil pass0 (pa_cons (pe_ix ix_tup (pv 0) pe_int (fun _ _ => rfl)) (pa_cons (pe_ix ix_tup (pv 0) pe_int (fun _ _ => rfl)) pa_nil))) pe_int (nomark _)))))), ?_⟩
    refine ⟨_, rfl, v, .ty "tuple", _, _, _, rfl, .ty "tuple", an.ty, kit_ty kit_tup, _, rfl, ?_⟩
    cases et : isTupB d with
    | false =>
      rw [isPt_fr (isFr_ty et)] at q
      exact iteT q
    | true =>
      refine iteF ?_
      obtain ⟨a, xs, ds, rfl, rfl, hT, all⟩ := an.isT et
      refine ⟨_, rfl, a, xs, rfl, .inr (SqT.of hT), rfl, _, rfl, ?_⟩
      by_cases hl : xs.length = 2
      · obtain ⟨x, y, p, p', rfl, rfl, dx, dy⟩ := dpAll_two all hl
        refine iteF ⟨_, rfl, a, _, 1, y, rfl, rfl, SqT.of hT, at_of (j := 1) rfl rfl, ?_⟩
        refine ⟨_, _, rfl, rfl, ⟨by decide, by decide, by decide⟩, y, p', 1, 10 ^ 60, rfl, dy, _, rfl, ?_⟩
        cases c : isNum p' 1 (10 ^ 60) with
        | false =>
          have e : isPt (.tuple [p, p']) = false := by
            refine isPt_fr ?_
            cases ei : isInt p' with
            | false => exact isFr_no (.inr ei)
            | true =>
              obtain ⟨j, rfl, rfl⟩ := dy.isI ei
              have j2 : j ≤ 10 ^ 60 := h60 p j rfl
              have j1 : ¬ 1 ≤ j := fun z => nomatch c.symm.trans (num_of z j2)
              cases p with
              | int i => simp only [isFr, decide_eq_false j1, Bool.false_and]
              | _ => rfl
          rw [e] at q
          exact iteT q
        | true =>
          have ei : isInt p' = true := by
            cases p' with
            | int i => rfl
            | _ => cases c
          obtain ⟨j, rfl, rfl⟩ := dy.isI ei
          have j1 := (of_decide_eq_true (show decide (1 ≤ j ∧ j ≤ 10 ^ 60) = true from c)).1
          refine iteF ⟨_, rfl, a, _, 0, x, rfl, rfl, SqT.of hT, at_of (j := 0) rfl rfl, ?_⟩
          refine ⟨_, rfl, a, _, 1, .int j, rfl, rfl, SqT.of hT, at_of (j := 1) rfl rfl, x, p, 0, j, rfl, dx, _, rfl, ?_⟩
          cases c0 : isNum p 0 j with
          | false =>
            have e : isPt (.tuple [p, .int j]) = false := by
              cases p with
              | int i =>
                have z : ¬ (0 ≤ i ∧ i ≤ j) := of_decide_eq_false c0
                have y1 : (decide (0 ≤ i) && decide (i ≤ j)) = false := by
                  rw [← Bool.decide_and]; exact decide_eq_false z
                simp only [isPt, y1, Bool.and_false]
              | _ => rfl
            rw [e] at q
            exact iteF q
          | true =>
            have e0 : isInt p = true := by
              cases p with
              | int i => rfl
              | _ => cases c0
            obtain ⟨i, rfl, rfl⟩ := dx.isI e0
            have i0 := of_decide_eq_true (show decide (0 ≤ i ∧ i ≤ j) = true from c0)
            refine iteT ⟨_, rfl, a, _, 0, .int i, rfl, rfl, SqT.of hT, at_of (j := 0) rfl rfl, ?_⟩
            refine ⟨_, rfl, a, _, 1, .int j, rfl, rfl, SqT.of hT, at_of (j := 1) rfl rfl, i, j, rfl, i0.1, by omega, rfl, ?_⟩
            have e : decide (V.int ((Nat.gcd i.natAbs j.natAbs : Nat) : Int) = V.int 1) = isPt (.tuple [.int i, .int j]) := by
              simp only [isPt, isFr, decide_eq_true j1, decide_eq_true i0.1, decide_eq_true i0.2, Bool.true_and, Bool.and_true]
              rw [decide_eq_decide, V.int.injEq]
              show ((Int.gcd i j : Nat) : Int) = 1 ↔ _
              omega
            show Q (.bl (decide (V.int ((Nat.gcd i.natAbs j.natAbs : Nat) : Int) = V.int 1))) H
            rw [e]
            exact q
      · rw [isPt_fr (isFr_len (fun z => hl ((dpAll_len all).trans z)))] at q
        have e : (!(decide (V.int (xs.length : Int) = V.int 2))) = true := by
          rw [decide_eq_false, Bool.not_false]
          intro z
          rw [V.int.injEq] at z
          exact hl (by omega)
        show if (!(decide (V.int (xs.length : Int) = V.int 2))) = true then _ else _
        rw [e]
        exact iteT q
end
end My
set_option Elab.async false
set_option linter.all false
set_option maxRecDepth 100000
set_option maxHeartbeats 8000000
set_option exponentiation.threshold 2000
namespace My
open PySem PySem.Spec PyProof.Rows L2 L2H Gn
/-! the law's own questions, what is due, whether it came -/
theorem fr_of {K : PySem.W.Frag} {H : Hp} {v : V} {d : PyData} (h : An K H v d) (e : isFr d = true) : ∃ a t b, v = .ref a ∧ d = .tuple [.int t, .int b] ∧ H a = some (.tup [.int t, .int b]) ∧ 1 ≤ b ∧ Int.gcd t b = 1 := by
  obtain ⟨t, b, rfl, b1, co⟩ := isFr_of e
  obtain ⟨a, xs, ds, rfl, z, sq, all⟩ := h.isT rfl
  cases z
  obtain ⟨x, y, p, p', rfl, z, dx, dy⟩ := dpAll_two all ((dpAll_len all).trans rfl)
  cases z
  cases dx
  cases dy
  exact ⟨a, t, b, rfl, rfl, sq, b1, co⟩
section
variable {P : Program} {w : World} {K : PySem.W.Frag} {mg : Str → Option Value} {base : Heap}
theorem ok_lIsSt {f fN fG fP : Addr} {fd fdN fdG fdP : FuncData} (F : Fun K "_law_is_step" "_law_is_step" sLIsSt f fd) (B : Bc mg) (Bl' : Bl mg) (N : Df K mg "_law_is_number" sLNum ["_law_thing", "_law_low_here", "_law_high"] fN fdN) (G : Df K mg "_law_gcd" sGcd ["_law_one", "_law_two"] fG fdG) (Pt : Df K mg "_law_is_part" sLPart ["_law_thing"] fP fdP) : FnOk P w K mg base CX0 3 f fd ["_law_thing"] (spAsk60 K isSt) := by
  have GP : FnOk P w K mg base CX0 2 fP fdP ["_law_thing"] (spAsk60 K isPt) := ok_lPart Pt.F B Bl' N G
  refine F.ok scLIsSt (fun vs H Q E h => ?_) (fun cdv A outer s H vs Q E hr h => ?_)
  · obtain ⟨v, d, rfl, _⟩ := h
    rfl
  · obtain ⟨v, d, rfl, an, h60, q⟩ := h
    refine ⟨_, pss_one (ps_ret (pe_and (pe_call GP hr (by rfl) Pt.g Pt.F.kp Pt.b .nil pass0 (pa_cons (pv 0) pa_nil)) (pe_one (pe_cmpR op_lt (pe_ix ix_tup (pv 0) pe_int (fun _ _ => rfl)) (pe_ix ix_tup (pv 0) pe_int (fun _ _ => rfl)) (nomark _))))), ?_⟩
    refine ⟨_, rfl, v, d, rfl, an, h60, _, rfl, ?_⟩
    cases ep : isPt d with
    | false =>
      have e : isSt d = false := by
        unfold isPt at ep
        unfold isSt
        split
        · rename_i t b
          simp only at ep
          cases ef : isFr (.tuple [.int t, .int b]) with
          | false => rfl
          | true =>
            rw [ef, Bool.true_and, ← Bool.decide_and] at ep
            have z : ¬ (0 ≤ t ∧ t ≤ b) := of_decide_eq_false ep
            rw [Bool.true_and, ← Bool.decide_and]
            exact decide_eq_false fun y => z ⟨y.1, by omega⟩
        · rfl
      rw [e] at q
      exact iteF q
    | true =>
      have ef : isFr d = true := by
        cases z : isFr d with
        | true => rfl
        | false => rw [isPt_fr z] at ep; cases ep
      obtain ⟨a, t, b, rfl, rfl, hT, b1, co⟩ := fr_of an ef
      refine iteT ⟨_, rfl, a, _, 0, .int t, rfl, rfl, SqT.of hT, at_of (j := 0) rfl rfl, ?_⟩
      refine ⟨_, rfl, a, _, 1, .int b, rfl, rfl, SqT.of hT, at_of (j := 1) rfl rfl, _, _, rfl, rfl, ?_⟩
      have e : isSt (.tuple [.int t, .int b]) = decide (t < b) := by
        have z : (decide (0 ≤ t) && decide (t ≤ b)) = true := by
          simp only [isPt, ef, Bool.true_and] at ep; exact ep
        have t0 := of_decide_eq_true (Bool.and_eq_true_iff.mp z).1
        simp only [isSt, ef, Bool.true_and, decide_eq_true t0]
      rw [e] at q
      exact q
end
end My
set_option Elab.async false
set_option linter.all false
set_option maxRecDepth 100000
set_option maxHeartbeats 8000000
set_option exponentiation.threshold 4000
namespace My
open PySem PySem.Spec PyProof.Rows L2 Gn Mt
abbrev s__law_first : Stmt := top 67
theorem sc__law_first : FnScope ["_law_rows_here", "_law_most", "_law_bottom", "_law_top"] ["_law_rows_here", "_law_most"] (defScope s__law_first) := ⟨rfl, rfl, rfl, by decide +kernel, rfl, by decide +kernel, by decide +kernel⟩
/-! the first pair by looking -/
structure FirstAt (cs : List Cut) (m t b : Int) : Prop where
  t0 : 0 ≤ t
  tb : t < b
  bm : b ≤ m
  li : liesB cs t b = true
  no : ∀ t' b', 0 ≤ t' → t' < b' → (b' < b ∨ (b' = b ∧ t' < t)) → liesB cs t' b' = false
def spFirst (K : PySem.W.Frag) : Sp := fun vs H Q _ => ∃ (u : V) (cs : List Cut) (m : Int), vs = [u, .int m] ∧ Dp K H u (.tuple (pcsD cs)) ∧ LtL cs ∧ 0 ≤ m ∧ m ≤ 60 ∧ (∀ t b r H', FirstAt cs m t b → Same H H' → H' r = some (.tup [.int t, .int b]) → Q (.ref r) H') ∧
  ((∀ t b, 0 ≤ t → t < b → b ≤ m → liesB cs t b = false) → ∀ H', Same H H' → Q .non H')
section
variable {P : Program} {w : World} {K : PySem.W.Frag} {mg : Str → Option Value} {base : Heap}
theorem ok_first {f fL fU : Addr} {fd fdL fdU : FuncData} (F : Fun K "_law_first" "_law_first" s__law_first f fd) (rg : mg "range" = none) (Ll : Df K mg "_law_lies" s__law_lies ["_law_rows_here", "_law_x"] fL fdL) (U : Df K mg "_law_under" s__law_under ["_law_one", "_law_two"] fU fdU) : FnOk P w K mg base CX0 3 f fd ["_law_rows_here", "_law_most"] (spFirst K) := by
  have GL : FnOk P w K mg base CX0 2 fL fdL ["_law_rows_here", "_law_x"] (spLies2 K) := ok_lies Ll.F U
  refine F.ok sc__law_first (fun vs H Q E h => ?_) (fun cdv A outer s H vs Q E hr h => ?_)
  · obtain ⟨u, cs, m, rfl, _⟩ := h
    rfl
  · obtain ⟨u, cs, m, rfl, hv, L, m0, m60, kF, kN⟩ := h
    refine ⟨_, pss_cons (ps_for PassesOwn.never rfl (pi_range2 (by rfl) rg (pa_cons pe_int (pa_cons (pe_op op_add (pv 1) pe_int) pa_nil))) (pg_name (i := 2) sc__law_first.nd rfl (.inl rfl)) (pss_one (ps_for PassesOwn.never rfl (pi_range1 rfl rg (pa_cons (pv 2) pa_nil)) (pg_name (i := 3) sc__law_first.nd rfl (.inl rfl)) (pss_one (ps_if (pt_val (pe_call GL hr (by rfl) Ll.g Ll.F.kp Ll.b .nil pass0 (pa_cons (pv 0) (pa_cons (pe_tup (pa_cons (pv 3) (pa_cons (pv 2) pa_nil))) pa_nil)))) (pss_one (ps_ret (pe_tup (pa_cons (pv 3) (pa_cons (pv 2) pa_nil))))) pss_nil))))) (pss_one (ps_ret pe_non)), ?_⟩
    refine ⟨_, rfl, _, _, rfl, rfl, 1, _, rfl, ⟨by decide, by decide, by omega, by omega⟩, for_range (lo := 1) (n := (m + 1 - 1).toNat) (fun i σ H' => ∃ p2 p3, σ = [some u, some (.int m), p2, p3] ∧ Same H H' ∧ ∀ t b, 0 ≤ t → t < b → b < 1 + (i : Int) → liesB cs t b = false)
      ⟨none, none, rfl, Same.refl _, fun t b h0 h1 h2 => by omega⟩ ?_ ?_⟩
    · rintro i σ H1 hi ⟨p2, p3, rfl, s1, no⟩
      have ib : 1 + (i : Int) ≤ m := by omega
      refine ⟨_, rfl, 1 + (i : Int), rfl, by omega, by omega, for_range (lo := 0) (n := (1 + (i : Int)).toNat) (fun j σ H' => ∃ p3, σ = [some u, some (.int m), some (.int (1 + (i : Int))), p3] ∧ Same H H' ∧ ∀ t, 0 ≤ t → t < (j : Int) → liesB cs t (1 + (i : Int)) = false)
        ⟨_, rfl, s1, fun t h0 h1 => by omega⟩ ?_ ?_⟩
      · rintro j σ H2 hj ⟨p3, rfl, s2, no2⟩
        rw [Int.zero_add]
        refine ⟨_, rfl, _, rfl, _, rfl, (by show 2 ≤ sizeLine; decide), fun r nr => ?_⟩
        have s3 := same_put (o := HO.tup [V.int (j : Int), V.int (1 + (i : Int))]) nr
        refine ⟨u, .ref r, cs, (j : Int), 1 + (i : Int), rfl, dp_same (s2.trans s3) _ _ hv, L, fr_mk (x := (j : Int)) (y := 1 + (i : Int)) (SqT.of upd_same), ⟨Nat.lt_of_lt_of_le (show ((j : Int)).natAbs < 2 ^ 8 by omega) (Nat.pow_le_pow_right (by decide) (by decide)), Nat.lt_of_lt_of_le (show (1 + (i : Int)).natAbs < 2 ^ 8 by omega) (Nat.pow_le_pow_right (by decide) (by decide))⟩, fun H4 s4 => ?_⟩
        have S4 := s2.trans (s3.trans s4)
        cases e : liesB cs (j : Int) (1 + (i : Int)) with
        | true =>
          refine ⟨_, rfl, iteT ⟨_, rfl, _, rfl, (by show 2 ≤ sizeLine; decide), fun r2 nr2 => ?_⟩⟩
          exact kF _ _ r2 _ ⟨by omega, by omega, by omega, e, fun t' b' h0 h1 h2 => by
            rcases h2 with h2 | ⟨h2, h3⟩
            · exact no t' b' h0 h1 h2
            · rw [h2]; exact no2 t' h0 h3⟩ (S4.trans (same_put nr2)) upd_same
        | false =>
          refine ⟨_, rfl, iteF (nxI ⟨_, rfl, S4, fun t h0 h1 => ?_⟩)⟩
          by_cases z : t = (j : Int)
          · rw [z]; exact e
          · exact no2 t h0 (by omega)
      · rintro σ H2 ⟨p3, rfl, s2, no2⟩
        refine nxI ⟨_, _, rfl, s2, fun t b h0 h1 h2 => ?_⟩
        by_cases z : b = 1 + (i : Int)
        · rw [z]; exact no2 t h0 (by omega)
        · exact no t b h0 h1 (by omega)
    · rintro σ H1 ⟨p2, p3, rfl, s1, no⟩
      exact kN (fun t b h0 h1 h2 => no t b h0 h1 (by omega)) _ s1
end
end My
set_option Elab.async false
set_option linter.all false
set_option maxRecDepth 100000
set_option maxHeartbeats 8000000
set_option exponentiation.threshold 4000
namespace My
open PySem PySem.Spec PyProof.Rows L2 Gn Mt
abbrev s__law_narrow : Stmt := top 68
theorem sc__law_narrow : FnScope ["_law_tin_here", "_law_bottom", "_law_top", "_law_far_here"] ["_law_tin_here"] (defScope s__law_narrow) := ⟨rfl, rfl, rfl, by decide +kernel, rfl, by decide +kernel, by decide +kernel⟩
/-! narrow pieces of great numbers -/
def spNar (K : PySem.W.Frag) : Sp := fun vs H Q _ => ∃ t, vs = [.ref t] ∧ Tin H t ∧ ∀ r xs cs H', Sipped H H' t → H' r = some (.tup xs) → AnAll K H' xs (pcsD cs) → Lt cs → Bnd cs → cs.length = 2 → Q (.ref r) H'
/-- a fraction and one a little beyond it -/
theorem narrow_ok {t b f : Int} {v1 v2 : Bool} (t1 : 1 ≤ t) (tb : t ≤ b - 1) (b1 : b ≤ 10 ^ 18 + 2) (f1 : 3 ≤ f) (f2 : f ≤ 10 ^ 12) :
    Lt [⟨(lowQ t b).1, (lowQ t b).2, v1⟩, ⟨(lowQ (t * f + 1) (b * f)).1, (lowQ (t * f + 1) (b * f)).2, v2⟩] ∧ Bnd [⟨(lowQ t b).1, (lowQ t b).2, v1⟩, ⟨(lowQ (t * f + 1) (b * f)).1, (lowQ (t * f + 1) (b * f)).2, v2⟩] ∧ 0 < b * f ∧ 0 ≤ t * f + 1 ∧ (b * f).natAbs < 2 ^ 100 ∧ b.natAbs < 2 ^ 100 := by
  have b0 : 0 < b := by omega
  have bf0 : 0 < b * f := Int.mul_pos b0 (by omega)
  have tf0 : 0 ≤ t * f := Int.mul_nonneg (by omega) (by omega)
  have bfm : b * f ≤ (10 ^ 18 + 2) * 10 ^ 12 := Int.mul_le_mul b1 f2 (by omega) (by decide)
  have k100 : ((10 : Int) ^ 18 + 2) * 10 ^ 12 < 2 ^ 100 := by decide
  have k18 : ((10 : Int) ^ 18 + 2) < 2 ^ 100 := by decide
  have tfb : t * f + 1 < b * f := by
    have : t * f ≤ (b - 1) * f := Int.mul_le_mul_of_nonneg_right tb (by omega)
    rw [Int.sub_mul] at this
    omega
  obtain ⟨g, g0, e1, e2, d0, co⟩ := lowQ_ex (a := t) b0
  obtain ⟨h, h0, e3, e4, d1, co1⟩ := lowQ_ex (a := t * f + 1) bf0
  generalize hq : lowQ t b = q at *
  generalize hr : lowQ (t * f + 1) (b * f) = r at *
  have ne : q.1 * r.2 < r.1 * q.2 := by
    -- t * (b * f) < (t * f + 1) * b
    have x1 : t * (b * f) < (t * f + 1) * b := by
      have : t * (b * f) = t * f * b := by rw [← Int.mul_assoc, Int.mul_right_comm]
      rw [this, Int.add_mul]
      omega
    have gh : 0 < g * h := Int.mul_pos g0 h0
    have y1 : t * (b * f) = q.1 * r.2 * (g * h) := by
      rw [e4]
      conv => lhs; rw [e1]
      simp only [Int.mul_assoc, Int.mul_comm, Int.mul_left_comm]
    have y2 : (t * f + 1) * b = r.1 * q.2 * (g * h) := by
      rw [e3]
      conv => lhs; rw [e2]
      simp only [Int.mul_assoc, Int.mul_comm, Int.mul_left_comm]
    rw [y1, y2] at x1
    exact cancel_lt gh x1
  have q0 : 0 ≤ q.1 := by
    have : 0 ≤ q.1 * g := by omega
    exact Int.nonneg_of_mul_nonneg_left this g0
  have r0 : 0 ≤ r.1 := by
    have : 0 ≤ r.1 * h := by omega
    exact Int.nonneg_of_mul_nonneg_left this h0
  have ql : q.1 < q.2 := cancel_lt g0 (by omega)
  have rl : r.1 < r.2 := cancel_lt h0 (by omega)
  have qb : q.2 ≤ b := by
    have : q.2 * 1 ≤ q.2 * g := Int.mul_le_mul_of_nonneg_left (by omega) (by omega)
    omega
  have rb : r.2 ≤ b * f := by
    have : r.2 * 1 ≤ r.2 * h := Int.mul_le_mul_of_nonneg_left (by omega) (by omega)
    omega
  have inS : ∀ {n d : Int} (v : Bool), 0 ≤ n → n < d → Int.gcd n d = 1 → (⟨n, d, v⟩ : Cut).In := fun {n d} v h0 h1 hc => ⟨⟨by show 0 < d; omega, hc⟩, h0, by
    unfold Cut.lt last
    simp only
    rw [if_neg (by omega), decide_eq_false]
    omega⟩
  refine ⟨⟨fun c m => ?_, ?_, rfl⟩, ⟨fun c m => ?_, fun c m => ?_⟩, bf0, by omega, by omega, by omega⟩
  · simp only [List.mem_cons, List.mem_nil_iff, or_false] at m
    rcases m with rfl | rfl
    · exact inS v1 q0 ql co
    · exact inS v2 r0 rl co1
  · refine List.pairwise_cons.mpr ⟨fun x m => ?_, List.pairwise_singleton _ _⟩
    rw [List.mem_singleton.mp m]
    unfold Cut.lt
    simp only
    rw [if_neg (fun z => by rw [z.1, z.2] at ne; omega), decide_eq_true ne]
  · simp only [List.mem_cons, List.mem_nil_iff, or_false] at m
    rcases m with rfl | rfl
    · show q.1 < 2 ^ 100
      omega
    · show r.1 < 2 ^ 100
      omega
  · simp only [List.mem_cons, List.mem_nil_iff, or_false] at m
    rcases m with rfl | rfl
    · show q.2 < 2 ^ 100
      omega
    · show r.2 < 2 ^ 100
      omega
section
variable {P : Program} {w : World} {K : PySem.W.Frag} {mg : Str → Option Value} {base : Heap}
theorem ok_narrow {f fS fP fF fL fG : Addr} {fd fdS fdP fdF fdL fdG : FuncData} (F : Fun K "_law_narrow" "_law_narrow" s__law_narrow f fd) (B : Bl mg) (S : Df K mg "_law_sip" sSip ["_law_tin_here", "_law_top"] fS fdS) (Pk : Df K mg "_law_pick" sPick ["_law_tin_here", "_law_menu"] fP fdP) (Fr : Df K mg "_law_far" sFar ["_law_tin_here", "_law_most"] fF fdF) (Lo : Df K mg "_law_low" sLow ["_law_top", "_law_bottom"] fL fdL) (Gc : Df K mg "_law_gcd" sGcd ["_law_one", "_law_two"] fG fdG) : FnOk P w K mg base CX0 4 f fd ["_law_tin_here"] (spNar K) := by
  have GS : FnOk P w K mg base CX0 1 fS fdS ["_law_tin_here", "_law_top"] spSip := ok_sip S.F B
  have GP : FnOk P w K mg base CX0 2 fP fdP ["_law_tin_here", "_law_menu"] spPick := ok_pick Pk.F B S
  have GF : FnOk P w K mg base CX0 3 fF fdF ["_law_tin_here", "_law_most"] spFar := ok_far Fr.F B S Pk
  have GL : FnOk P w K mg base CX0 2 fL fdL ["_law_top", "_law_bottom"] spLow := ok_low Lo.F B Gc
  refine F.ok sc__law_narrow (fun vs H Q E h => ?_) (fun cdv A outer s H vs Q E hr h => ?_)
  · obtain ⟨t, rfl, _⟩ := h
    rfl
  · obtain ⟨t, rfl, T0, k⟩ := h
    have hr1 : Room 1 _ := hr.mono (by decide)
    have hr2 : Room 2 _ := hr.mono (by decide)
    refine ⟨_, pss_cons (ps_set (i := 1) sc__law_narrow.nd rfl (.inl rfl) (pe_op op_add pe_int (pe_call GF hr (by rfl) Fr.g Fr.F.kp Fr.b .nil pass0 (pa_cons (pv 0) (pa_cons (pe_op op_pow pe_int pe_int) pa_nil))))) (pss_cons (ps_par (i := 2) (j := 3) (by rfl) sc__law_narrow.nd rfl rfl (by decide) rfl rfl (pa_cons (pe_call GF hr (by rfl) Fr.g Fr.F.kp Fr.b .nil pass0 (pa_cons (pv 0) (pa_cons (pe_op op_sub (pv 1) pe_int) pa_nil))) (pa_cons (pe_call GP hr2 (by rfl) Pk.g Pk.F.kp Pk.b .nil pass0 (pa_cons (pv 0) (pa_cons (pe_lst (pa_cons pe_int (pa_cons pe_int (pa_cons (pe_op op_pow pe_int pe_int) pa_nil)))) pa_nil))) pa_nil)) (by rfl)) (pss_one (ps_ret (pe_tup (pa_cons (pe_tup (pa_cons (pe_call GL hr2 (by rfl) Lo.g Lo.F.kp Lo.b .nil pass0 (pa_cons (pv 2) (pa_cons (pv 1) pa_nil))) (pa_cons (pe_call GL hr2 (by rfl) Lo.g Lo.F.kp Lo.b .nil pass0 (pa_cons (pe_op op_add (pe_op op_mulW (pv 2) (pv 3)) pe_int) (pa_cons (pe_op op_mulW (pv 1) (pv 3)) pa_nil))) (pa_cons (pe_cmpR op_eq (pe_call GS hr1 (by rfl) S.g S.F.kp S.b .nil pass0 (pa_cons (pv 0) (pa_cons pe_int pa_nil))) pe_int (nomark _)) (pa_cons (pe_cmpR op_eq (pe_call GS hr1 (by rfl) S.g S.F.kp S.b .nil pass0 (pa_cons (pv 0) (pa_cons pe_int pa_nil))) pe_int (nomark _)) pa_nil))))) pa_nil))))), ?_⟩
    refine ⟨_, rfl, _, _, rfl, rfl, ⟨by decide, by decide, by decide⟩, t, 10 ^ 18, rfl, T0, by decide, by decide, fun d1 H1 a1 a2 s1 => ⟨_, _, rfl, rfl, ?_⟩⟩
    have eb : (2 : Int) + d1 ≤ 10 ^ 18 + 2 := by omega
    have k100 : ((10 : Int) ^ 18 + 2) < 2 ^ 100 := by decide
    refine nxI ⟨_, rfl, _, rfl, _, _, rfl, rfl, t, (2 + d1) - 1, rfl, s1.1, by omega, by omega, fun d2 H2 b1 b2 s2 => ?_⟩
    have S2 := sipped_trans s1 s2
    refine ⟨_, rfl, _, _, rfl, rfl, ⟨by decide, by decide, by decide⟩, (by show 3 ≤ sizeLine; decide), fun m nm => ?_⟩
    have f3 := same_put (o := HO.lst [V.int 3, V.int 1000, V.int (10 ^ 12)]) nm
    refine ⟨t, m, [V.int 3, V.int 1000, V.int (10 ^ 12)], rfl, (sipped_sm S2 f3).1, upd_same, S2.1.not nm, by decide, by decide, fun x H3 hx s3 => ?_⟩
    have S3 := sipped_trans (sipped_sm S2 f3) s3
    obtain ⟨fa, rfl, fl, fu⟩ : ∃ fa : Int, x = V.int fa ∧ 3 ≤ fa ∧ fa ≤ 10 ^ 12 := by
      simp only [List.mem_cons, List.mem_nil_iff, or_false] at hx
      rcases hx with rfl | rfl | rfl
      · exact ⟨_, rfl, by decide, by decide⟩
      · exact ⟨_, rfl, by decide, by decide⟩
      · exact ⟨_, rfl, by decide, by decide⟩
    obtain ⟨_, _, q0, q1, q2, q3⟩ := narrow_ok (v1 := true) (v2 := true) b1 b2 eb fl fu
    have t12 : (10 : Int) ^ 12 < 2 ^ 100 := by decide
    have wm : ∀ z : Int, 0 ≤ z → z ≤ 2 + d1 → CMulW z fa := fun z h0 h1 => wide_mul (a := 100) (b := 100) (by omega) (by omega) (by decide) (by decide) (by decide)
    refine ⟨_, _, rfl, nxI ?_⟩
    refine ⟨_, rfl, _, rfl, d2, (2 + d1), rfl, by omega, by omega, q3, fun p1 np1 => ?_⟩
    have f4 := same_put (o := HO.tup [V.int (d2 / ((Nat.gcd d2.natAbs (2 + d1).natAbs : Nat) : Int)), V.int ((2 + d1) / ((Nat.gcd d2.natAbs (2 + d1).natAbs : Nat) : Int))]) np1
    have a4 : An K (upd H3 p1 (HO.tup [V.int (d2 / ((Nat.gcd d2.natAbs (2 + d1).natAbs : Nat) : Int)), V.int ((2 + d1) / ((Nat.gcd d2.natAbs (2 + d1).natAbs : Nat) : Int))])) (.ref p1) (frD (lowQ d2 (2 + d1))) := .tup upd_same (.cons (.int _) (.cons (.int _) .nil))
    generalize upd H3 p1 (HO.tup [V.int (d2 / ((Nat.gcd d2.natAbs (2 + d1).natAbs : Nat) : Int)), V.int ((2 + d1) / ((Nat.gcd d2.natAbs (2 + d1).natAbs : Nat) : Int))]) = H4 at *
    have S4 := sipped_sm S3 f4
    refine ⟨_, rfl, _, rfl, _, _, rfl, rfl, wm _ (by omega) (by omega), _, _, rfl, rfl, _, rfl, _, rfl, _, _, rfl, rfl, wm _ (by omega) (by omega), d2 * fa + 1, (2 + d1) * fa, rfl, q1, q0, q2, fun p2 np2 => ?_⟩
    have f5 := same_put (o := HO.tup [V.int ((d2 * fa + 1) / ((Nat.gcd (d2 * fa + 1).natAbs ((2 + d1) * fa).natAbs : Nat) : Int)), V.int ((2 + d1) * fa / ((Nat.gcd (d2 * fa + 1).natAbs ((2 + d1) * fa).natAbs : Nat) : Int))]) np2
    have a5 : An K (upd H4 p2 (HO.tup [V.int ((d2 * fa + 1) / ((Nat.gcd (d2 * fa + 1).natAbs ((2 + d1) * fa).natAbs : Nat) : Int)), V.int ((2 + d1) * fa / ((Nat.gcd (d2 * fa + 1).natAbs ((2 + d1) * fa).natAbs : Nat) : Int))])) (.ref p2) (frD (lowQ (d2 * fa + 1) ((2 + d1) * fa))) := .tup upd_same (.cons (.int _) (.cons (.int _) .nil))
    generalize upd H4 p2 (HO.tup [V.int ((d2 * fa + 1) / ((Nat.gcd (d2 * fa + 1).natAbs ((2 + d1) * fa).natAbs : Nat) : Int)), V.int ((2 + d1) * fa / ((Nat.gcd (d2 * fa + 1).natAbs ((2 + d1) * fa).natAbs : Nat) : Int))]) = H5 at *
    have S5 := sipped_sm S4 f5
    refine ⟨_, rfl, t, 2, rfl, S5.1, by decide, by decide, fun u1 H6 _ _ s6 => ?_⟩
    have S6 := sipped_trans S5 s6
    refine ⟨rfl, _, rfl, t, 2, rfl, S6.1, by decide, by decide, fun u2 H7 _ _ s7 => ?_⟩
    have S7 := sipped_trans S6 s7
    refine ⟨rfl, (by show 4 ≤ sizeLine; decide), fun pt npt => ⟨(by show 1 ≤ sizeLine; decide), fun r nr => ?_⟩⟩
    have a4' := an_sipN S6.1 s7 (an_sipN S5.1 s6 (a4.same f5) rfl) rfl
    have a5' := an_sipN S6.1 s7 (an_sipN S5.1 s6 a5 rfl) rfl
    have f8 := same_put (o := HO.tup [V.ref p1, V.ref p2, V.bl (decide (V.int u1 = V.int 0)), V.bl (decide (V.int u2 = V.int 0))]) npt
    have g8 : upd H7 pt (HO.tup [V.ref p1, V.ref p2, V.bl (decide (V.int u1 = V.int 0)), V.bl (decide (V.int u2 = V.int 0))]) pt = some (.tup [V.ref p1, V.ref p2, V.bl (decide (V.int u1 = V.int 0)), V.bl (decide (V.int u2 = V.int 0))]) := upd_same
    generalize upd H7 pt (HO.tup [V.ref p1, V.ref p2, V.bl (decide (V.int u1 = V.int 0)), V.bl (decide (V.int u2 = V.int 0))]) = H8 at *
    generalize decide (V.int u1 = V.int 0) = v1 at *
    generalize decide (V.int u2 = V.int 0) = v2 at *
    have f9 := same_put (o := HO.tup [V.ref pt]) nr
    obtain ⟨L, Bn, _⟩ := narrow_ok (v1 := !v1) (v2 := v2) b1 b2 eb fl fu
    have ed : pcsD [⟨(lowQ d2 (2 + d1)).1, (lowQ d2 (2 + d1)).2, !v1⟩, ⟨(lowQ (d2 * fa + 1) ((2 + d1) * fa)).1, (lowQ (d2 * fa + 1) ((2 + d1) * fa)).2, v2⟩] = [.tuple [frD (lowQ d2 (2 + d1)), frD (lowQ (d2 * fa + 1) ((2 + d1) * fa)), .bool v1, .bool v2]] := by cases v1 <;> rfl
    refine k r [V.ref pt] _ _ (sipped_sm S7 (f8.trans f9)) upd_same ?_ L Bn rfl
    rw [ed]
    exact .cons (.tup (f9 _ _ g8) (.cons (a4'.same (f8.trans f9)) (.cons (a5'.same (f8.trans f9)) (.cons (.bl _) (.cons (.bl _) .nil))))) .nil
end
end My
set_option Elab.async false
set_option linter.all false
set_option maxRecDepth 100000
set_option maxHeartbeats 8000000
set_option exponentiation.threshold 4000
namespace My
open PySem PySem.Spec PyProof.Rows L2 Gn Mt
abbrev s__law_right : Stmt := top 69
/-! a turn of the law -/
abbrev NR : List Str := ["_law_tin_here", "_law_turn", "_law_rows_here", "_law_found", "_law_x", "_law_first_here", "_law_mine"]
theorem sc__law_right : FnScope NR ["_law_tin_here"] (defScope s__law_right) := ⟨rfl, rfl, rfl, by decide +kernel, rfl, by decide +kernel, by decide +kernel⟩
def qR : Str := (envOfC "_law_right" (defScope s__law_right) 0 0 .none).qual ++ "<lambda>"
theorem tabQ_sip {H H' : Hp} {t P : Addr} {q : Str} (T : LamX.TabS H P q) (hT : Tin H t) (s : Sipped H H' t) : LamX.TabS H' P q := by
  obtain ⟨ps, h1, h2, h3⟩ := T
  obtain ⟨a, b, c, hl, _⟩ := hT
  refine ⟨ps, s.2 _ _ h1 (fun z => by rw [z, hl] at h1; cases h1), h2, fun pos cv hc => ?_⟩
  obtain ⟨c0, e1, e2⟩ := h3 pos cv hc
  exact ⟨c0, e1, s.2 _ _ e2 (fun z => by rw [z, hl] at e2; unfold LamX.CodeO at e2; cases e2)⟩
/-- it drew from its tin and made new things; tables may grow -/
structure Stq (T : List (Addr × Str)) (H H' : Hp) (t : Addr) : Prop where
  tin : Tin H' t
  keep : ∀ b o, H b = some o → b ≠ t → (∀ ps, o ≠ .tbl ps) → H' b = some o
  tab : LamX.Tabs T H'
section
variable {T : List (Addr × Str)} {H H' H1 H2 : Hp} {t : Addr}
theorem Stq.refl (hT : Tin H t) (hB : LamX.Tabs T H) : Stq T H H t := ⟨hT, fun _ _ e _ _ => e, hB⟩
theorem sipped_same (hT : Tin H t) (s : Same H H1) : Sipped H H1 t := Sipped.ofSame hT s
theorem Stq.drawn (a : Stq T H H1 t) (s : Sipped H1 H2 t) : Stq T H H2 t :=
  ⟨s.1, fun b o e n x => s.2 _ _ (a.keep b o e n x) n, fun p hp => tabQ_sip (a.tab p hp) a.tin s⟩
theorem Stq.same (a : Stq T H H1 t) (s : Same H1 H2) : Stq T H H2 t := a.drawn (Sipped.ofSame a.tin s)
theorem Stq.ext (a : Stq T H H1 t) (e : LamX.ExtN H1 H2) (hB : LamX.Tabs T H2) : Stq T H H2 t := by
  refine ⟨?_, fun b o z n x => e b o (a.keep b o z n x) x, hB⟩
  obtain ⟨u, v, c, hl, r⟩ := a.tin
  exact ⟨u, v, c, e _ _ hl (fun ps z => by cases z), r⟩
theorem Stq.trans (a : Stq T H H1 t) (b : Stq T H1 H2 t) : Stq T H H2 t := ⟨b.tin, fun c o e n x => b.keep c o (a.keep c o e n x) n x, b.tab⟩
/-- a list that it made since grows -/
theorem Stq.put {G0 G : Hp} {l : Addr} {xs ys : List V} (n : G0 l = none) (nt : l ≠ t) (b : Stq T G0 G t) (hl : G l = some (.lst xs)) : Stq T G0 (upd G l (.lst ys)) t := by
  refine ⟨?_, fun c o e nt x => ?_, fun p hp => ?_⟩
  · obtain ⟨u, v, w, ht, r⟩ := b.tin
    exact ⟨u, v, w, by rw [upd_ne (Ne.symm nt)]; exact ht, r⟩
  · have ne : c ≠ l := fun z => by rw [z, n] at e; cases e
    rw [upd_ne ne]
    exact b.keep c o e nt x
  · obtain ⟨ps, h1, h2, h3⟩ := b.tab p hp
    have ne : p.1 ≠ l := fun z => by rw [z, hl] at h1; cases h1
    refine ⟨ps, by rw [upd_ne ne]; exact h1, h2, fun pos cv hc => ?_⟩
    obtain ⟨c0, e1, e2⟩ := h3 pos cv hc
    have ne2 : c0 ≠ l := fun z => by rw [z, hl] at e2; unfold LamX.CodeO at e2; cases e2
    exact ⟨c0, e1, by rw [upd_ne ne2]; exact e2⟩
end
mutual
theorem an_ext {K : PySem.W.Frag} {H H' : Hp} (e : LamX.ExtN H H') : ∀ {v : V} {d : PyData}, An K H v d → An K H' v d
  | _, _, .non => .non
  | _, _, .bl b => .bl b
  | _, _, .int i => .int i
  | _, _, .str x => .str x
  | _, _, .lst h n t => .lst (e _ _ h fun ps z => by cases z) n (anAll_ext e t)
  | _, _, .tup h t => .tup (e _ _ h fun ps z => by cases z) (anAll_ext e t)
  | _, _, .dct h => .dct (e _ _ h fun ps z => by cases z)
theorem anAll_ext {K : PySem.W.Frag} {H H' : Hp} (e : LamX.ExtN H H') : ∀ {vs : List V} {ds : List PyData}, AnAll K H vs ds → AnAll K H' vs ds
  | _, _, .nil => .nil
  | _, _, .cons h t => .cons (an_ext e h) (anAll_ext e t)
end
theorem tabs_put {T : List (Addr × Str)} {G : Hp} {D : Addr} {xs : List V} {o : HO} (h : LamX.Tabs T G) (hD : G D = some (.lst xs)) : LamX.Tabs T (upd G D o) := fun p hp => by
  obtain ⟨ps, h1, h2, h3⟩ := h p hp
  have ne : p.1 ≠ D := fun z => by rw [z, hD] at h1; cases h1
  refine ⟨ps, by rw [upd_ne ne]; exact h1, h2, fun pos cv hc => ?_⟩
  obtain ⟨c0, e1, e2⟩ := h3 pos cv hc
  have ne2 : c0 ≠ D := fun z => by rw [z, hD] at e2; unfold LamX.CodeO at e2; cases e2
  exact ⟨c0, e1, by rw [upd_ne ne2]; exact e2⟩
theorem passN {X : Cx} {E : XK} (tk : L2N.Takes X (fun C d _ G => E C d G)) : Passes (L2N.CX X.prog X.w) X E := fun pins σ H s e s' I c => (L2N.passAt tk σ) pins H s e s' I c
theorem LotAt.ext {K : PySem.W.Frag} {C : Addr} {H H' : Hp} {x dx : Addr} {v : V} {cs : List Cut} (an : An K H v (.tuple (pcsD cs))) (hx : H x = some (.ins C dx [("_pieces", v)])) (e : LamX.ExtN H H') : LotAt K C H' (.ref x) cs := by
  obtain ⟨a, xs, ds, rfl, _⟩ := an.isT rfl
  exact ⟨x, dx, a, rfl, e _ _ hx (fun ps z => by cases z), (an_ext e an).dp (by simp only [flat]; exact pcs_flats cs)⟩
/-- what is found: none, or the simplest step -/
def Fnd (H : Hp) (f : Addr) (cs : List Cut) : Prop := (cs = [] ∧ H f = some (.lst [.str "none", .non])) ∨ (cs ≠ [] ∧ ∃ r p q, SimP cs p q ∧ H f = some (.lst [.str "told", .ref r]) ∧ H r = some (.tup [.int p, .int q]))
theorem Fnd.same {H H' : Hp} {f : Addr} {cs : List Cut} (h : Fnd H f cs) (s : Same H H') : Fnd H' f cs := by
  rcases h with ⟨z, h⟩ | ⟨z, r, p, q, S, h1, h2⟩
  · exact .inl ⟨z, s _ _ h⟩
  · exact .inr ⟨z, r, p, q, S, s _ _ h1, s _ _ h2⟩
theorem try_simp {K : PySem.W.Frag} {mg : Str → Option Value} {B : Er mg} {H : Hp} {Q Q' : VK} {E' : XK} {T : List (Addr × Str)} {C CN : Addr} {v : V} {cs : List Cut} (h : Held K B CN 10) (lot : LotAt K C H v cs) (L : Lt cs) (Bn : Bnd cs) (few : cs.length ≤ 100) (hT : LamX.Tabs T H)
    (hE : ∀ C d G, RaisesAs K B Q C d G → E' C d G) (hQ : ∀ v G, TellsAs Q v G → Q' v G) (q : ∀ f G, LamX.ExtN H G → LamX.Tabs T G → Fnd G f cs → Q (.ref f) G) : spSimp K C CN [v] H Q' E' := by
  refine ⟨v, cs, rfl, lot, L, Bn, few, fun z d H' s hd => ?_, fun z p q' r H' S s hr => ?_⟩
  · exact hE _ _ _ ⟨CN, 10, .non, rfl, h, fun y e => ⟨_, hd y e⟩, rfl, fun f G s2 np hf => q f G (LamX.ExtN.of (s.trans s2)) ((hT.ext s).ext s2) (.inl ⟨z, hf⟩)⟩
  · exact hQ _ _ fun f G s2 hf => q f G (LamX.ExtN.of (s.trans s2)) ((hT.ext s).ext s2) (.inr ⟨z, r, p, q', S, hf, s2 _ _ hr⟩)
theorem isFr_mk {p q : Int} (h : 1 ≤ q) (co : Int.gcd p q = 1) : isFr (.tuple [.int p, .int q]) = true := by
  simp [isFr, h, co]
theorem isPt_mk {p q : Int} (h0 : 0 ≤ p) (h1 : p ≤ q) (h : 1 ≤ q) (co : Int.gcd p q = 1) : isPt (.tuple [.int p, .int q]) = true := by
  simp only [isPt, isFr_mk h co, Bool.true_and, decide_eq_true h0, decide_eq_true h1]
theorem isPc_mk {c e : Cut} (vc : c.In) (ve : e.In) (lt : c.lt e = true) : isPcB (pcD c e) = true := by
  have h1 : isPt (frD (c.n, c.d)) = true := isPt_mk vc.n0 vc.nd (by have := vc.d; omega) vc.co
  have h2 : isPt (frD (e.n, e.d)) = true := isPt_mk ve.n0 ve.nd (by have := ve.d; omega) ve.co
  show (isPt (frD (c.n, c.d)) && (isPt (frD (e.n, e.d)) && ((ctD (frD (c.n, c.d)) (!(!c.b))).lt (ctD (frD (e.n, e.d)) e.b) && !(last.lt (ctD (frD (e.n, e.d)) e.b))))) = true
  have e1 : ctD (frD (c.n, c.d)) (!(!c.b)) = c := by rw [Bool.not_not]; rfl
  have e2 : ctD (frD (e.n, e.d)) e.b = e := rfl
  rw [h1, h2, e1, e2, lt, ve.le]
  rfl
theorem wrong_right : ∀ {cs : List Cut} {p : Option PyData} {j : Nat}, odd cs.length = false → (∀ c ∈ cs, c.In) → Asc cs → (∀ q, p = some q → ∀ x ∈ cs, (endD q).lt x = true) → wrongFrom p j (pcsD cs) = none
  | [], _, _, _, _, _, _ => rfl
  | [_], _, _, o, _, _, _ => by simp [odd] at o
  | c :: e :: r, p, j, o, v, a, h => by
    have vc := v c List.mem_cons_self
    have ve := v e (List.mem_cons_of_mem _ List.mem_cons_self)
    have a1 := List.pairwise_cons.mp a
    have a2 := List.pairwise_cons.mp a1.2
    have z1 := isPc_mk vc ve (a1.1 e List.mem_cons_self)
    have z2 : sideB p (pcD c e) = true := by
      cases p with
      | none => rfl
      | some q =>
        have e1 : begD (pcD c e) = c := by show ctD (frD (c.n, c.d)) (!(!c.b)) = c; rw [Bool.not_not]; rfl
        show (endD q).lt (begD (pcD c e)) = true
        rw [e1]
        exact h q rfl c List.mem_cons_self
    show wrongFrom p j (pcD c e :: pcsD r) = none
    rw [wrongFrom, if_pos (by rw [z1, z2]; rfl)]
    refine wrong_right (cs := r) (by simpa [odd] using o) (fun x m => v x (List.mem_cons_of_mem _ (List.mem_cons_of_mem _ m))) a2.2 fun q hq x mx => ?_
    cases hq
    exact a2.1 x mx
theorem pcs_mem : ∀ {cs : List Cut} {d : PyData}, d ∈ pcsD cs → ∃ c ∈ cs, ∃ e ∈ cs, d = pcD c e
  | [], _, m => by cases m
  | [_], _, m => by cases m
  | c :: e :: r, d, m => by
    rcases List.mem_cons.mp m with rfl | m
    · exact ⟨c, List.mem_cons_self, e, List.mem_cons_of_mem _ List.mem_cons_self, rfl⟩
    · obtain ⟨c', m1, e', m2, h⟩ := pcs_mem (cs := r) m
      exact ⟨c', List.mem_cons_of_mem _ (List.mem_cons_of_mem _ m1), e', List.mem_cons_of_mem _ (List.mem_cons_of_mem _ m2), h⟩
theorem isSt_of {p q : Int} (s : Stp p q) : isSt (.tuple [.int p, .int q]) = true := by
  have p0 := s.p0
  have pq := s.pq
  have ef : isFr (.tuple [.int p, .int q]) = true := isFr_mk (by omega) s.co
  simp only [isSt, ef, Bool.true_and, decide_eq_true p0, decide_eq_true pq]
theorem bnd_lit {cs : List Cut} (L : Lt cs) (B : Bnd cs) : LtL cs := ⟨L, fun c m => by
  have := (L.v c m).n0
  have := (L.v c m).d
  have := B.n c m
  have := B.d c m
  have k : (2 : Nat) ^ 100 ≤ 2 ^ 1000 := Nat.pow_le_pow_right (by decide) (by decide)
  exact ⟨Nat.lt_of_lt_of_le (show c.n.natAbs < 2 ^ 100 by omega) k, Nat.lt_of_lt_of_le (show c.d.natAbs < 2 ^ 100 by omega) k⟩⟩
theorem right_pcs {cs : List Cut} (L : Lt cs) (B : Bnd cs) (few : cs.length ≤ 100) : LitP (.tuple (pcsD cs)) ∧ pcsW (.tuple (pcsD cs)) = none := by
  have LL := bnd_lit L B
  refine ⟨fun ds z => ?_, ?_⟩
  · cases PyData.tuple.inj z
    have l2 := pcs_len L.e
    refine ⟨by omega, fun d m ds z => ?_⟩
    obtain ⟨c, mc, e, me, rfl⟩ := pcs_mem m
    cases PyData.tuple.inj z
    refine ⟨(show (4 : Nat) ≤ 60 by decide), fun x mx n k hx => ?_⟩
    subst hx
    simp only [List.mem_cons, List.mem_nil_iff, or_false] at mx
    rcases mx with h | h | h | h
    · have e1 := PyData.int.inj (List.cons.inj (PyData.tuple.inj h)).1
      have e2 := PyData.int.inj (List.cons.inj (List.cons.inj (PyData.tuple.inj h)).2).1
      rw [e1, e2]
      exact LL.lit c mc
    · have e1 := PyData.int.inj (List.cons.inj (PyData.tuple.inj h)).1
      have e2 := PyData.int.inj (List.cons.inj (List.cons.inj (PyData.tuple.inj h)).2).1
      rw [e1, e2]
      exact LL.lit e me
    · cases h
    · cases h
  · show (wrongFrom none 0 (pcsD cs)).map some = none
    rw [wrong_right L.e L.v L.a (fun q z => by cases z)]
    rfl
theorem pc_eqv (c e c' e' : Cut) : PyData.eqv (pcD c e) (pcD c' e') = decide (c = c' ∧ e = e') := by
  have h1 : PyData.eqv (pcD c e) (pcD c' e') = (PyData.eqv (frD (c.n, c.d)) (frD (c'.n, c'.d)) && (PyData.eqv (frD (e.n, e.d)) (frD (e'.n, e'.d)) && (PyData.eqv (.bool (!c.b)) (.bool (!c'.b)) && (PyData.eqv (.bool e.b) (.bool e'.b) && true)))) := by
    simp only [pcD, PyData.eqv, PyData.eqvAll]
  rw [h1, fr_eqv, fr_eqv]
  obtain ⟨n, d, b⟩ := c
  obtain ⟨n', d', b'⟩ := c'
  obtain ⟨m, k, f⟩ := e
  obtain ⟨m', k', f'⟩ := e'
  have hb : ∀ x y : Bool, PyData.eqv (.bool x) (.bool y) = decide (x = y) := by decide
  rw [hb, hb]
  simp only [Cut.mk.injEq]
  rw [Bool.eq_iff_iff]
  simp only [Bool.and_eq_true, decide_eq_true_eq, Bool.and_true]
  constructor
  · rintro ⟨⟨h1, h2⟩, ⟨h3, h4⟩, h5, h6⟩
    exact ⟨⟨h1, h2, by cases b <;> cases b' <;> first | rfl | cases h5⟩, h3, h4, h6⟩
  · rintro ⟨⟨h1, h2, h5⟩, h3, h4, h6⟩
    exact ⟨⟨h1, h2⟩, ⟨h3, h4⟩, by rw [h5], h6⟩
theorem pcs_eqv : ∀ {cs es : List Cut}, odd cs.length = false → odd es.length = false → PyData.eqv (.tuple (pcsD cs)) (.tuple (pcsD es)) = decide (cs = es)
  | [], [], _, _ => by simp [pcsD, PyData.eqv, PyData.eqvAll]
  | [c], _, o, _ => by simp [odd] at o
  | _, [c], _, o => by simp [odd] at o
  | [], c :: e :: r, _, _ => by simp [pcsD, PyData.eqv, PyData.eqvAll]
  | c :: e :: r, [], _, _ => by simp [pcsD, PyData.eqv, PyData.eqvAll]
  | c :: e :: r, c' :: e' :: r', o, o' => by
    have ih := pcs_eqv (cs := r) (es := r') (by simpa [odd] using o) (by simpa [odd] using o')
    have h1 : PyData.eqv (.tuple (pcsD (c :: e :: r))) (.tuple (pcsD (c' :: e' :: r'))) = (PyData.eqv (pcD c e) (pcD c' e') && PyData.eqv (.tuple (pcsD r)) (.tuple (pcsD r'))) := by
      simp only [pcsD, PyData.eqv, PyData.eqvAll]
    rw [h1, pc_eqv, ih, ← Bool.decide_and]
    rw [decide_eq_decide]
    simp only [List.cons.injEq]
    exact ⟨fun ⟨⟨a, b⟩, c⟩ => ⟨a, b, c⟩, fun ⟨a, b, c⟩ => ⟨⟨a, b⟩, c⟩⟩
theorem pcs_lay : ∀ cs : List Cut, PyData.canLayAll0 (pcsD cs) = true ∧ PyData.depthAll (pcsD cs) ≤ 2
  | [] => ⟨rfl, Nat.zero_le _⟩
  | [_] => ⟨rfl, Nat.zero_le _⟩
  | c :: e :: r => by
    obtain ⟨a, b⟩ := pcs_lay r
    have h1 : PyData.canLay0 (pcD c e) = true := by rfl
    have h2 : PyData.depth (pcD c e) = 2 := by rfl
    rw [pcsD]
    simp only [PyData.canLayAll0, PyData.depthAll, h1, h2, a]
    exact ⟨rfl, by omega⟩
theorem pcs_shaped (cs : List Cut) : SeqAt.shaped (.tuple (pcsD cs)) = true := by
  obtain ⟨a, b⟩ := pcs_lay cs
  unfold SeqAt.shaped
  simp only [PyData.canLay0, PyData.depth, a]
  simp
  omega
theorem pcs_eqnil {cs : List Cut} (o : odd cs.length = false) : PyData.eqv (.tuple (pcsD cs)) (.tuple []) = decide (cs = []) := pcs_eqv (es := []) o rfl
theorem sml_bnd {cs : List Cut} (s : SmlC cs) : Bnd cs := ⟨fun c m => by
  have a := (s c m).le
  have b := (s c m).d24
  dsimp only at a b
  have : (24 : Int) < 2 ^ 100 := by decide
  omega, fun c m => by
  have b := (s c m).d24
  dsimp only at b
  have : (24 : Int) < 2 ^ 100 := by decide
  omega⟩
/-- what the law asks of the module -/
structure La (P : Program) (w : World) (K : PySem.W.Frag) (mg : Str → Option Value) (base : Heap) where
  C : Addr
  fI : Addr
  fP : Addr
  fdI : FuncData
  fdP : FuncData
  T : LotC P w K mg C fI fP fdI fdP
  bp : Bp K mg
  pd : Pd K mg
  CP : Addr
  eP : Addr × FuncData
  tP : OwE P w K mg base "InvalidPieces" ["index"] CP eP.1 eP.2
  CN : Addr
  eN : Addr × FuncData
  tN : OwE P w K mg base "NoStep" [] CN eN.1 eN.2
  er : Er mg
  hN : Held K er CN 10
  ls_ : Ls P w K mg C
  bl : Bl mg
  range : mg "range" = none
  sorted : mg "sorted" = none
  set : mg "set" = none
  f_si : Addr × FuncData
  si : Df K mg "simplest" s_simplest ["lot"] f_si.1 f_si.2
  f_ha : Addr × FuncData
  ha : Df K mg "has" s_has ["lot", "step"] f_ha.1 f_ha.2
  f_ls : Addr × FuncData
  ls : Df K mg "_law_sip" sSip ["_law_tin_here", "_law_top"] f_ls.1 f_ls.2
  f_lk : Addr × FuncData
  lk : Df K mg "_law_pick" sPick ["_law_tin_here", "_law_menu"] f_lk.1 f_lk.2
  f_lf : Addr × FuncData
  lf : Df K mg "_law_far" sFar ["_law_tin_here", "_law_most"] f_lf.1 f_lf.2
  f_lg : Addr × FuncData
  lg : Df K mg "_law_gcd" sGcd ["_law_one", "_law_two"] f_lg.1 f_lg.2
  f_ll : Addr × FuncData
  ll : Df K mg "_law_low" sLow ["_law_top", "_law_bottom"] f_ll.1 f_ll.2
  f_lo : Addr × FuncData
  lo : Df K mg "_law_under" s__law_under ["_law_one", "_law_two"] f_lo.1 f_lo.2
  f_li : Addr × FuncData
  li : Df K mg "_law_lies" s__law_lies ["_law_rows_here", "_law_x"] f_li.1 f_li.2
  f_lp : Addr × FuncData
  lp : Df K mg "_law_pieces" s__law_pieces ["_law_tin_here", "_law_many"] f_lp.1 f_lp.2
  f_lu : Addr × FuncData
  lu : Df K mg "_law_is_number" sLNum ["_law_thing", "_law_low_here", "_law_high"] f_lu.1 f_lu.2
  f_lr : Addr × FuncData
  lr : Df K mg "_law_is_part" sLPart ["_law_thing"] f_lr.1 f_lr.2
  f_lt : Addr × FuncData
  lt : Df K mg "_law_is_step" sLIsSt ["_law_thing"] f_lt.1 f_lt.2
  f_lE : Addr × FuncData
  lE : Df K mg "_law_error" sLError ["_law_act"] f_lE.1 f_lE.2
  f_lC : Addr × FuncData
  lC : Df K mg "_law_class" sLClass ["_law_e"] f_lC.1 f_lC.2
  f_lF : Addr × FuncData
  lF : Df K mg "_law_field" sLField ["_law_e"] f_lF.1 f_lF.2
  f_l1 : Addr × FuncData
  l1 : Df K mg "_law_first" s__law_first ["_law_rows_here", "_law_most"] f_l1.1 f_l1.2
  f_ln : Addr × FuncData
  ln : Df K mg "_law_narrow" s__law_narrow ["_law_tin_here"] f_ln.1 f_ln.2
  sk : KBinds K f_si.2 ["lot"] ["lot"] kw1 kw1
  TT : List (Addr × Str)
def spRight (TT : List (Addr × Str)) : Sp := fun vs H Q _ => ∃ t, vs = [.ref t] ∧ Tin H t ∧ LamX.Tabs TT H ∧ ∀ H', Stq TT H H' t → Q (.bl true) H'
section
variable {P : Program} {w : World} {K : PySem.W.Frag} {mg : Str → Option Value} {base : Heap}
theorem ok_right {f cc PR : Addr} {fd : FuncData} (F : Fun K "_law_right" "_law_right" s__law_right f fd) (M : La P w K mg base) (ec : fd.code = .ref cc) (TB : LamX.TabB base mg cc PR) (mR : (PR, qR) ∈ M.TT) (one : ∀ q ∈ M.TT, q.1 = PR → q.2 = qR) : FnG P w K mg base CX0 8 f fd ["_law_tin_here"] (spRight M.TT) := by
  have GI : FnOk P w K mg base (L2N.CX P w) 6 M.fI M.fdI ["self", "pieces"] (spInitX K M.C M.CP) := ok_linitX M.T M.bp M.pd M.tP
  have GS : FnOk P w K mg base (L2N.CX P w) 4 M.f_si.1 M.f_si.2 ["lot"] (spSimp K M.C M.CN) := ok_simplest M.si.F M.T M.ls_ M.tN
  have GH : FnOk P w K mg base CX0 5 M.f_ha.1 M.f_ha.2 ["lot", "step"] (spHas K M.C) := ok_has M.ha.F M.T M.ls_
  have LP : FnOk P w K mg base CX0 2 M.f_lk.1 M.f_lk.2 ["_law_tin_here", "_law_menu"] spPick := ok_pick M.lk.F M.bl M.ls
  have LPs : FnOk P w K mg base CX0 3 M.f_lp.1 M.f_lp.2 ["_law_tin_here", "_law_many"] (spPcs K) := ok_pieces M.lp.F M.bl M.range M.sorted M.set M.bp.c.tuple M.ls M.ll M.lg
  have LN : FnOk P w K mg base CX0 4 M.f_ln.1 M.f_ln.2 ["_law_tin_here"] (spNar K) := ok_narrow M.ln.F M.bl M.ls M.lk M.lf M.ll M.lg
  have LS : FnOk P w K mg base CX0 3 M.f_lt.1 M.f_lt.2 ["_law_thing"] (spAsk60 K isSt) := ok_lIsSt M.lt.F M.bp.c M.bl M.lu M.lg M.lr
  have LL : FnOk P w K mg base CX0 2 M.f_li.1 M.f_li.2 ["_law_rows_here", "_law_x"] (spLies2 K) := ok_lies M.li.F M.lo
  have LF : FnOk P w K mg base CX0 3 M.f_l1.1 M.f_l1.2 ["_law_rows_here", "_law_most"] (spFirst K) := ok_first M.l1.F M.range M.li M.lo
  refine funGC F sc__law_right (fun vs H Q E h => ?_) (fun A outer s H vs Q E hg hr h => ?_)
  · obtain ⟨t, rfl, _⟩ := h
    rfl
  · obtain ⟨t, rfl, T0, TT0, q⟩ := h
    have hu := hr.units
    have hr2 : Room 2 _ := hr.mono (by decide)
    have hr3 : Room 3 _ := hr.mono (by decide)
    have hr4 : Room 4 _ := hr.mono (by decide)
    have hr5 : Room 5 _ := hr.mono (by decide)
    have hr6 : Room (4 + 2) _ := hr.mono (by decide)
    have hr7 : Room (6 + 1) _ := hr.mono (by decide)
    refine ⟨_, pss_cons (ps_for PassesOwn.never rfl (pi_range1 rfl M.range (pa_cons pe_int pa_nil)) (pg_name (i := 1) sc__law_right.nd rfl (.inl rfl)) (pss_cons (ps_set (i := 2) sc__law_right.nd rfl (.inl rfl) (pe_call LP hr2 (by rfl) M.lk.g M.lk.F.kp M.lk.b .nil pass0 (pa_cons (pv 0) (pa_cons (pe_lst (pa_cons (pe_call LPs hr3 (by rfl) M.lp.g M.lp.F.kp M.lp.b .nil pass0 (pa_cons (pv 0) (pa_cons pe_int pa_nil))) (pa_cons (pe_call LN hr4 (by rfl) M.ln.g M.ln.F.kp M.ln.b .nil pass0 (pa_cons (pv 0) pa_nil)) pa_nil))) pa_nil)))) (pss_cons (ps_set (i := 6) sc__law_right.nd rfl (.inr rfl) (pe_makeS M.T.mkL GI hr7 (by rfl) M.T.mgC M.T.bI (fun σ => L2N.passAt takesN0 σ) (pa_cons (pv 2) pa_nil))) (pss_cons (ps_set (i := 3) sc__law_right.nd rfl (.inl rfl) (pe_lamN (T := M.TT) (k := 4) (by rfl) M.lE.g M.lE.F M.lE.F.kp M.lE.b scLError rfl (.inl rfl) (error_gives M.er M.lC M.lF) TB ec mR one hr6 (LamX.lamS_by (by show LamX.lamSB (defScope s__law_right) _ = true; decide +kernel)) rfl (fun _ _ _ _ _ => rfl) (fun A o s H E f c hr' => (pe_callS GS hr' (by rfl) M.si.g M.si.F.kp M.si.b (fun σ => L2N.passAt lamN_takes σ) (pa_cons (pv 6) pa_nil))))) (pss_cons (ps_if (pt_cmpR (op_eqD hu) (pv 2) (pe_tup pa_nil) (nomark _)) (pss_cons (ps_if (pt_cmpR (op_neD hu) (pv 3) (pe_lst (pa_cons pe_str (pa_cons pe_non pa_nil))) (nomark _)) (pss_one (ps_ret pe_bl)) pss_nil) (pss_one (ps_continue))) pss_nil) (pss_cons (ps_set (i := 4) sc__law_right.nd rfl (.inl rfl) (pe_ix ix_list (pv 3) pe_int (fun _ _ => rfl))) (pss_cons (ps_if (PW.pt (pw_or (pt_cmpR op_ne (pe_ix ix_list (pv 3) pe_int (fun _ _ => rfl)) pe_str (nomark _)) (pw_or (pt_not (pt_val (pe_call LS hr3 (by rfl) M.lt.g M.lt.F.kp M.lt.b .nil pass0 (pa_cons (pv 4) pa_nil)))) (pw_or (pt_not (pt_val (pe_call LL hr2 (by rfl) M.li.g M.li.F.kp M.li.b .nil pass0 (pa_cons (pv 2) (pa_cons (pv 4) pa_nil))))) (pw_or (pt_not (pt_val (pe_call GH hr5 (by rfl) M.ha.g M.ha.F.kp M.ha.b .nil pass0 (pa_cons (pv 6) (pa_cons (pv 4) pa_nil))))) (pw_or1 (pt_cmpR (op_neD hu) (pe_callK0 GS hr4 (by rfl) M.si.g M.si.F.kp M.sk (passN takesN0) (pk_cons (pv 6) pk_nil)) (pv 4) (nomark _)))))))) (pss_one (ps_ret pe_bl)) pss_nil) (pss_cons (ps_set (i := 5) sc__law_right.nd rfl (.inl rfl) (pe_call LF hr3 (by rfl) M.l1.g M.l1.F.kp M.l1.b .nil pass0 (pa_cons (pv 2) (pa_cons (pe_callB (call_min2 rfl) (by rfl) M.ls_.min (by decide +kernel) (pa_cons pe_int (pa_cons (pe_ix ix_tup (pv 4) pe_int (fun _ _ => rfl)) pa_nil))) pa_nil)))) (pss_one (ps_if (PW.pt (pw_or (PW.pt (pw_and (pt_cmpR op_notN (pv 5) pe_non (nomark _)) (pw_and1 (pt_cmpR (op_neD hu) (pv 5) (pv 4) (nomark _))))) (pw_or1 (PW.pt (pw_and (pt_cmpR op_isN (pv 5) pe_non (nomark _)) (pw_and1 (pt_cmpR op_le (pe_ix ix_tup (pv 4) pe_int (fun _ _ => rfl)) pe_int (nomark _)))))))) (pss_one (ps_ret pe_bl)) pss_nil)))))))))) (pss_one (ps_ret pe_bl)), ?_⟩
    refine ⟨5, rfl, by decide, by decide, for_range (lo := 0) (n := 5) (fun i σ H' => ∃ a1 a2 a3 a4 a5 a6, σ = [some (.ref t), a1, a2, a3, a4, a5, a6] ∧ Stq M.TT H H' t) ⟨none, none, none, none, none, none, rfl, Stq.refl T0 TT0⟩ ?_ ?_⟩
    · rintro i σ H1 _ ⟨a1, a2, a3, a4, a5, a6, rfl, S1⟩
      refine ⟨_, rfl, _, rfl, t, 3, rfl, S1.tin, by decide, by decide, fun r1 x1 d1 H2 s2 h1 al1 fin1 l1 => ?_⟩
      obtain ⟨c1, rfl, L1, sm1⟩ := fin1
      have S2 := S1.drawn s2
      refine ⟨_, rfl, t, rfl, S2.tin, fun r2 x2 c2 H3 s3 h2 al2 L2' B2 l2 => ⟨(by show 2 ≤ sizeLine; decide), fun m nm => ?_⟩⟩
      have S3 := S2.drawn s3
      have f4 := same_put (o := HO.lst [V.ref r1, V.ref r2]) nm
      refine ⟨t, m, [V.ref r1, V.ref r2], rfl, (S3.same f4).tin, upd_same, S3.tin.not nm, Nat.succ_pos 1, (show (2:Nat) ≤ 1000 from Nat.le_of_ble_eq_true rfl), fun v H4 hv s4 => ?_⟩
      have S4 := (S3.same f4).drawn s4
      obtain ⟨r, cs, rfl, an, L, Bn, few⟩ : ∃ r cs, v = .ref r ∧ An K H4 (.ref r) (.tuple (pcsD cs)) ∧ Lt cs ∧ Bnd cs ∧ cs.length ≤ 20 := by
        have nl : ∀ cs : List Cut, noL (.tuple (pcsD cs)) = true := fun cs => by
          unfold noL
          exact noLs_iff.mpr fun d m => pcs_noL m
        have e1 := pcs_len L1.e
        simp only [List.mem_cons, List.mem_nil_iff, or_false] at hv
        rcases hv with rfl | rfl
        · exact ⟨r1, c1, rfl, an_sipN (S3.same f4).tin s4 ((an_sipN S2.tin s3 (An.tup h1 al1) (nl c1)).same f4) (nl c1), L1, sml_bnd sm1, by omega⟩
        · exact ⟨r2, c2, rfl, an_sipN (S3.same f4).tin s4 ((An.tup h2 al2).same f4) (nl c2), L2', B2, by omega⟩
      clear s2 s3 s4 S1 S2 S3 f4 h1 h2 al1 al2 hv nm
      obtain ⟨lit, right⟩ := right_pcs L Bn (by omega)
      refine nxI ⟨_, rfl, make_lot (Q := fun u G => gName 6 u _ G _) an lit right fun y dy H5 s5 hy => ?_⟩
      have S5 := S4.same s5
      have an5 := an.same s5
      refine nxI ⟨S5.tab, fun Hx x1 Tx => ?_⟩
      intro E' Q' hE hQ
      refine ⟨_, rfl, try_simp M.hN (LotAt.ext an5 hy x1) L Bn (by omega) Tx hE hQ fun f6 H6 x2 T6 F6 => ?_⟩
      have E6 := x1.trans x2
      have S6 := S5.ext E6 T6
      have an6 := an_ext E6 an5
      have hy6 := E6 _ _ hy (fun ps z => by cases z)
      clear hE hQ Tx x1 x2 s5
      have dp6 : Dp K H6 (.ref r) (.tuple (pcsD cs)) := an6.dp (by simp only [flat]; exact pcs_flats cs)
      have lot6 : ∀ {G : Hp}, Same H6 G → LotAt K M.C G (.ref y) cs := fun s => ⟨y, dy, r, rfl, s _ _ hy6, dp_same s _ _ dp6⟩
      refine nxI ⟨_, rfl, (by show 0 ≤ sizeLine; decide), fun p0 np0 => ?_⟩
      have s7 := same_put (o := HO.tup []) np0
      have g7 : upd H6 p0 (HO.tup []) p0 = some (.tup []) := upd_same
      generalize upd H6 p0 (HO.tup []) = H7 at *
      refine ⟨.tuple (pcsD cs), .tuple [], dp_same s7 _ _ dp6, .tup (SqT.of g7) .nil, pcs_shaped cs, by decide +kernel, _, rfl, ?_⟩
      rw [pcs_eqnil L.e]
      have S7 := S6.same s7
      rcases F6.same s7 with ⟨rfl, hf⟩ | ⟨ne, rx, p, q', S, hf, hrx⟩
      · refine iteT ?_
        refine ⟨_, rfl, (by show 2 ≤ sizeLine; decide), fun p1 np1 => ?_⟩
        have s8 := same_put (o := HO.lst [V.str "none", V.non]) np1
        refine ⟨.list [.str "none", .none], .list [.str "none", .none], .lst (SqL.of (s8 _ _ hf)) (.cons (.str _) (.cons .non .nil)), .lst (SqL.of upd_same) (.cons (.str _) (.cons .non .nil)), by decide +kernel, by decide +kernel, _, rfl, ?_⟩
        rw [show PyData.eqv (.list [.str "none", .none]) (.list [.str "none", .none]) = true by decide +kernel]
        exact iteF (nxI ⟨_, _, _, _, _, _, rfl, S7.same s8⟩)
      · rw [decide_eq_false ne]
        refine iteF ?_
        have st := S.st
        have p0' := st.p0
        have pq := st.pq
        have qb := S.qb
        have LL := bnd_lit L Bn
        have k1 : (2 : Int) ^ 101 < 10 ^ 60 := by decide
        have k2 : (2 : Int) ^ 101 < 2 ^ 200 := by decide
        have k3 : (2 : Nat) ^ 200 ≤ 2 ^ 1000 := Nat.pow_le_pow_right (by decide) (by decide)
        have lp : Lit (p, q') := ⟨Nat.lt_of_lt_of_le (show p.natAbs < 2 ^ 200 by omega) k3, Nat.lt_of_lt_of_le (show q'.natAbs < 2 ^ 200 by omega) k3⟩
        have yes : liesB cs p q' = true := by rw [liesB_mem L st]; exact S.me
        refine nxI ⟨_, rfl, f6, _, 1, .ref rx, rfl, rfl, SqL.of hf, at_of (j := 1) rfl rfl, ?_⟩
        refine nxI ⟨_, rfl, f6, _, 0, .str "told", rfl, rfl, SqL.of hf, at_of (j := 0) rfl rfl, rfl, _, rfl, ?_⟩
        refine iteF ⟨_, rfl, .ref rx, .tuple [.int p, .int q'], rfl, .tup hrx (.cons (.int _) (.cons (.int _) .nil)), (fun a b z => by cases z; omega), _, rfl, ?_⟩
        rw [isSt_of st]
        refine iteF ⟨_, rfl, _, rfl, .ref r, .ref rx, cs, p, q', rfl, dp_same s7 _ _ dp6, LL, fr_mk (x := p) (y := q') (SqT.of hrx), lp, fun H8 s8 => ?_⟩
        rw [yes]
        have s78 := s7.trans s8
        refine ⟨_, rfl, iteF ⟨_, rfl, _, rfl, .ref y, cs, rx, p, q', rfl, lot6 s78, LL, s8 _ _ hrx, st, by omega, fun H9 s9 => ?_⟩⟩
        rw [S.me]
        have s79 := s78.trans s9
        refine ⟨_, rfl, iteF ⟨_, rfl, .ref y, cs, rfl, lot6 s79, L, Bn, by omega, fun z => absurd z ne, fun _ p2 q2 r2 G1 S2 s10 hr2 => ?_⟩⟩
        obtain ⟨rfl, rfl⟩ := SimP.one L S S2
        refine ⟨_, rfl, .tuple [.int p, .int q'], .tuple [.int p, .int q'], .tup (SqT.of hr2) (.cons (.int _) (.cons (.int _) .nil)), .tup (SqT.of (s10 _ _ (s9 _ _ (s8 _ _ hrx)))) (.cons (.int _) (.cons (.int _) .nil)), rfl, rfl, _, rfl, ?_⟩
        rw [show PyData.eqv (.tuple [.int p, .int q']) (.tuple [.int p, .int q']) = true by simp [PyData.eqv, PyData.eqvAll]]
        refine iteF ?_
        have s710 := s79.trans s10
        have hx10 := s10 _ _ (s9 _ _ (s8 _ _ hrx))
        have few60 : (if q' < 60 then q' else 60) ≤ 60 := by split <;> omega
        have few0 : 0 ≤ (if q' < 60 then q' else (60 : Int)) := by split <;> omega
        refine nxI ⟨_, rfl, _, rfl, rx, [.int p, .int q'], 1, .int q', rfl, rfl, SqT.of hx10, at_of (j := 1) rfl rfl, 60, q', rfl, .ref r, cs, (if q' < 60 then q' else 60), rfl, dp_same (s7.trans (s8.trans (s9.trans s10))) _ _ dp6, LL, few0, few60, fun t1 b1 r1' K1 FA s11 h11 => ?_, fun no K1 s11 => ?_⟩
        · obtain ⟨rfl, rfl⟩ : t1 = p ∧ b1 = q' := by
            have a := S.mi t1 b1 (by have := FA.t0; have := FA.tb; omega) FA.li
            have bm := FA.bm
            have bb : b1 = q' := by split at bm <;> omega
            refine ⟨?_, bb⟩
            rcases Int.lt_trichotomy t1 p with h | h | h
            · have := a.2 bb; omega
            · exact h
            · have := FA.no p q' p0' (by omega) (.inr ⟨bb.symm, h⟩)
              rw [yes] at this
              cases this
          refine nxI ⟨_, rfl, rfl, _, rfl, ?_⟩
          refine iteT ⟨_, rfl, _, rfl, .tuple [.int t1, .int b1], .tuple [.int t1, .int b1], .tup (SqT.of h11) (.cons (.int _) (.cons (.int _) .nil)), .tup (SqT.of (s11 _ _ hx10)) (.cons (.int _) (.cons (.int _) .nil)), rfl, rfl, _, rfl, ?_⟩
          rw [show PyData.eqv (.tuple [.int t1, .int b1]) (.tuple [.int t1, .int b1]) = true by simp [PyData.eqv, PyData.eqvAll]]
          refine iteF ⟨_, rfl, rfl, _, rfl, ?_⟩
          exact iteF (nxI ⟨_, _, _, _, _, _, rfl, S7.same (s8.trans (s9.trans (s10.trans s11)))⟩)
        · refine nxI ⟨_, rfl, rfl, _, rfl, ?_⟩
          refine iteF ⟨_, rfl, rfl, _, rfl, ?_⟩
          refine iteT ⟨_, rfl, rx, [.int p, .int q'], 1, .int q', rfl, rfl, SqT.of (s11 _ _ hx10), at_of (j := 1) rfl rfl, _, _, rfl, rfl, _, rfl, ?_⟩
          have big : ¬ q' ≤ 60 := fun h => by
            have z := no p q' p0' (by omega) (by split <;> omega)
            rw [yes] at z
            cases z
          rw [decide_eq_false big]
          exact iteF (nxI ⟨_, _, _, _, _, _, rfl, S7.same (s8.trans (s9.trans (s10.trans s11)))⟩)
    · rintro σ H1 ⟨a1, a2, a3, a4, a5, a6, rfl, S1⟩
      exact nxI (q _ S1)
end
end My
set_option Elab.async false
set_option linter.all false
set_option maxRecDepth 100000
set_option maxHeartbeats 8000000
set_option exponentiation.threshold 4000
namespace My
open PySem PySem.Spec PyProof.Rows L2 Gn Mt
/-! the law -/
abbrev sLaw : Stmt := top 70
abbrev NL : List Str := ["_law_script", "_law_turn"]
theorem scLaw : FnScope NL ["_law_script"] (defScope sLaw) := ⟨rfl, rfl, rfl, by decide +kernel, rfl, by decide +kernel, by decide +kernel⟩
theorem sqL_ext {K : PySem.W.Frag} {H H' : Hp} {a : Addr} {xs : List V} (h : SqL K H a xs) (e : LamX.ExtN H H') : SqL K H' a xs := by
  rcases h with (h | ⟨o, h⟩) | h
  · exact .inl (.inl (e _ _ h fun ps z => by cases z))
  · exact .inl (.inr ⟨o, e _ _ h fun ps z => by cases z⟩)
  · exact .inr h
mutual
def eqD : PyData → PyData → Bool
  | .none, .none => true
  | .bool a, .bool b => decide (a = b)
  | .int a, .int b => decide (a = b)
  | .tuple a, .tuple b => eqDs a b
  | _, _ => false
def eqDs : List PyData → List PyData → Bool
  | [], [] => true
  | a :: r, b :: s => eqD a b && eqDs r s
  | _, _ => false
end
mutual
theorem eqD_ok : ∀ {a b : PyData}, eqD a b = true → a = b
  | .none, .none, _ => rfl
  | .bool a, .bool b, h => by rw [eqD] at h; rw [of_decide_eq_true h]
  | .int a, .int b, h => by rw [eqD] at h; rw [of_decide_eq_true h]
  | .tuple a, .tuple b, h => by rw [eqD] at h; rw [eqDs_ok h]
theorem eqDs_ok : ∀ {a b : List PyData}, eqDs a b = true → a = b
  | [], [], _ => rfl
  | a :: r, b :: s, h => by
    rw [eqDs, Bool.and_eq_true] at h
    rw [eqD_ok h.1, eqDs_ok h.2]
end
def lc1 : List Cut := [⟨1, 4, false⟩, ⟨1, 4, true⟩, ⟨1, 3, true⟩, ⟨1, 2, false⟩]
def lc2 : List Cut := [⟨1, 3, true⟩, ⟨2, 5, false⟩]
def lc3 : List Cut := [⟨0, 1, false⟩, ⟨1, 9, false⟩]
def lc4 : List Cut := [⟨0, 1, true⟩, ⟨1, 1000000, false⟩]
def lc5 : List Cut := [⟨99, 100, true⟩, ⟨1, 1, false⟩]
def okLcB (cs : List Cut) : Bool := !odd cs.length && (cs.all (fun c => decide (0 < c.d ∧ Int.gcd c.n c.d = 1 ∧ 0 ≤ c.n ∧ c.n < 2 ^ 62 ∧ c.d < 2 ^ 62) && !last.lt c) && decide (cs.Pairwise fun c e => c.lt e = true) && decide (cs.length ≤ 20))
/-- a text that is read as a lot -/
structure Wrd (x : Str) (cs : List Cut) (p q : Int) : Prop where
  rd : okRdB x = true
  eq : rdPsD x = .tuple (pcsD cs)
  te : textT cs = x
  lt : Lt cs
  sm : ∀ c ∈ cs, Smi c.n ∧ Smi c.d
  few : cs.length ≤ 20
  ne : cs ≠ []
  si : ∀ p' q', SimP cs p' q' → p' = p ∧ q' = q
theorem wrd_of {x : Str} {cs : List Cut} {p q : Int} (h1 : okRdB x = true) (h2 : eqD (rdPsD x) (.tuple (pcsD cs)) = true) (h3 : textT cs = x) (h4 : okLcB cs = true) (ne : cs ≠ []) (s0 : 0 ≤ p ∧ p < q ∧ Int.gcd p q = 1) (hm : liesB cs p q = true) (mi : ∀ r s, 0 < s → liesB cs r s = true → q ≤ s ∧ (s = q → p ≤ r)) (qb : q < 2 ^ 101) : Wrd x cs p q := by
  simp only [okLcB, Bool.and_eq_true, Bool.not_eq_true', List.all_eq_true, decide_eq_true_eq] at h4
  obtain ⟨o, ⟨v, a⟩, few⟩ := h4
  have L : Lt cs := ⟨fun c m => ⟨⟨(v c m).1.1, (v c m).1.2.1⟩, (v c m).1.2.2.1, (v c m).2⟩, a, o⟩
  have st : Stp p q := ⟨s0.1, s0.2.1, s0.2.2⟩
  refine ⟨h1, eqD_ok h2, h3, L, fun c m => ⟨⟨(v c m).1.2.2.1, (v c m).1.2.2.2.1⟩, Int.le_of_lt (v c m).1.1, (v c m).1.2.2.2.2⟩, few, ne, fun p' q' S => SimP.one L S ⟨st, by rw [← liesB_mem L st]; exact hm, mi, qb⟩⟩
theorem mi1 : ∀ r s : Int, 0 < s → liesB lc1 r s = true → 4 ≤ s ∧ (s = 4 → 1 ≤ r) := by
  intro r s h0 h
  simp only [lc1, liesB, inB, Bool.or_eq_true, Bool.and_eq_true, decide_eq_true_eq, Bool.not_false, Bool.not_true, Bool.false_eq_true, and_false, and_true, or_false, Bool.or_false] at h
  omega
theorem wd1 : Wrd "[1/4] (1/3,1/2)" lc1 1 4 := wrd_of (by decide +kernel) (by decide +kernel) (by decide +kernel) (by decide +kernel) (by decide) (by decide) (by decide +kernel) mi1 (by decide)
theorem mi2 : ∀ r s : Int, 0 < s → liesB lc2 r s = true → 8 ≤ s ∧ (s = 8 → 3 ≤ r) := by
  intro r s h0 h
  simp only [lc2, liesB, inB, Bool.or_eq_true, Bool.and_eq_true, decide_eq_true_eq, Bool.not_false, Bool.not_true, Bool.false_eq_true, and_false, and_true, or_false, Bool.or_false] at h
  omega
theorem wd2 : Wrd "(1/3,2/5)" lc2 3 8 := wrd_of (by decide +kernel) (by decide +kernel) (by decide +kernel) (by decide +kernel) (by decide) (by decide) (by decide +kernel) mi2 (by decide)
theorem mi3 : ∀ r s : Int, 0 < s → liesB lc3 r s = true → 1 ≤ s ∧ (s = 1 → 0 ≤ r) := by
  intro r s h0 h
  simp only [lc3, liesB, inB, Bool.or_eq_true, Bool.and_eq_true, decide_eq_true_eq, Bool.not_false, Bool.not_true, Bool.false_eq_true, and_false, and_true, or_false, Bool.or_false] at h
  omega
theorem wd3 : Wrd "[0/1,1/9)" lc3 0 1 := wrd_of (by decide +kernel) (by decide +kernel) (by decide +kernel) (by decide +kernel) (by decide) (by decide) (by decide +kernel) mi3 (by decide)
theorem mi4 : ∀ r s : Int, 0 < s → liesB lc4 r s = true → 1000001 ≤ s ∧ (s = 1000001 → 1 ≤ r) := by
  intro r s h0 h
  simp only [lc4, liesB, inB, Bool.or_eq_true, Bool.and_eq_true, decide_eq_true_eq, Bool.not_false, Bool.not_true, Bool.false_eq_true, and_false, and_true, or_false, Bool.or_false] at h
  omega
theorem wd4 : Wrd "(0/1,1/1000000)" lc4 1 1000001 := wrd_of (by decide +kernel) (by decide +kernel) (by decide +kernel) (by decide +kernel) (by decide) (by decide) (by decide +kernel) mi4 (by decide)
theorem mi5 : ∀ r s : Int, 0 < s → liesB lc5 r s = true → 101 ≤ s ∧ (s = 101 → 100 ≤ r) := by
  intro r s h0 h
  simp only [lc5, liesB, inB, Bool.or_eq_true, Bool.and_eq_true, decide_eq_true_eq, Bool.not_false, Bool.not_true, Bool.false_eq_true, and_false, and_true, or_false, Bool.or_false] at h
  omega
theorem wd5 : Wrd "(99/100,1/1)" lc5 100 101 := wrd_of (by decide +kernel) (by decide +kernel) (by decide +kernel) (by decide +kernel) (by decide) (by decide) (by decide +kernel) mi5 (by decide)
def spLaw (K : PySem.W.Frag) (T : List (Addr × Str)) : Sp := fun vs H Q _ => ∃ (a : Addr) (ns : List Int), vs = [.ref a] ∧ SqL K H a (ns.map V.int) ∧ ns.length ≤ 63 ∧ LamX.Tabs T H ∧ ∀ H', Q (.bl true) H'
/-- what the law itself asks of the module -/
structure Lc (P : Program) (w : World) (K : PySem.W.Frag) (mg : Str → Option Value) (base : Heap) (M : La P w K mg base) where
  max : mg "max" = none
  all : mg "all" = none
  rd : Rd K mg
  fR : Addr
  fdR : FuncData
  FR : Fun K "read" "Lot.read" s_lread fR fdR
  bR : Binds K fdR ["cls", "text"] []
  mc : Value
  pR : Addr
  cr : ClX.CRead K M.C mc
  cm : ClX.CMet K M.C mc "read" pR fR
  gt : Addr × FuncData
  gr : Addr × FuncData
  lt : Df K mg "_law_tin" sTin ["_law_script", "_law_turn"] gt.1 gt.2
  dg : Df K mg "_law_right" s__law_right ["_law_tin_here"] gr.1 gr.2
  cR : Addr
  PR : Addr
  eR : gr.2.code = .ref cR
  TR : LamX.TabB base mg cR PR
  mR : (PR, qR) ∈ M.TT
  oR : ∀ q ∈ M.TT, q.1 = PR → q.2 = qR
section
variable {K : PySem.W.Frag} {H : Hp} {σ : L2.St} {R : VK} {C CN : Addr} {G : L2.St → XK} {x : Str} {cs : List Cut} {p q : Int}
/-- simplest(Lot.read(x)) -/
theorem simp_at (h : Wrd x cs p q) (k : ∀ r H', Same H H' → H' r = some (.tup [.int p, .int q]) → R (.ref r) H') : tCallS (spSimp K C CN) G (tCons (ClX.tCMeth C (fun vs H Q E => spRead K C (vs ++ []) H Q E) E0 (tC (.ref C)) (tCons (tC (.str x)) tNil)) tNil) σ H R := by
  have B : Bnd cs := ⟨fun c m => by have := (h.sm c m).1.2; have : (2 : Int) ^ 62 < 2 ^ 100 := by decide
                                    omega, fun c m => by have := (h.sm c m).2.2; have : (2 : Int) ^ 62 < 2 ^ 100 := by decide
                                                         omega⟩
  obtain ⟨lit, right⟩ := right_pcs h.lt B (by have := h.few; omega)
  have e := h.eq
  refine ⟨rfl, x, cs, rfl, h.rd, e, by rw [e]; exact right, by rw [e]; exact lit, h.lt.e, h.sm, h.te, fun y H1 s1 lot => ⟨y, cs, rfl, lot, h.lt, B, by have := h.few; omega, fun z => absurd z h.ne, fun _ p' q' r H2 S s2 hr => ?_⟩⟩
  obtain ⟨rfl, rfl⟩ := h.si _ _ S
  exact k r H2 (s1.trans s2) hr
theorem tup2_at {a b : Int} {Q : V → Hp → Prop} (k : ∀ r H', Same H H' → H' r = some (.tup [.int a, .int b]) → Q (.ref r) H') : tTup (tCons (tC (.int a)) (tCons (tC (.int b)) tNil)) σ H Q := ⟨(by show 2 ≤ sizeLine; decide), fun _ np => k _ _ (same_put np) upd_same⟩
theorem dp2 {r : Addr} {a b : Int} (h : H r = some (.tup [.int a, .int b])) : Dp K H (.ref r) (.tuple [.int a, .int b]) := .tup (SqT.of h) (.cons (.int _) (.cons (.int _) .nil))
theorem lst3_at {a b c d e f : Int} {Q : V → Hp → Prop} (k : ∀ l H', Same H H' → Dp K H' (.ref l) (.list [.tuple [.int a, .int b], .tuple [.int c, .int d], .tuple [.int e, .int f]]) → Q (.ref l) H') :
    tLst (tCons (tTup (tCons (tC (.int a)) (tCons (tC (.int b)) tNil))) (tCons (tTup (tCons (tC (.int c)) (tCons (tC (.int d)) tNil))) (tCons (tTup (tCons (tC (.int e)) (tCons (tC (.int f)) tNil))) tNil))) σ H Q :=
  ⟨(by show 2 ≤ sizeLine; decide), fun q1 n1 => ⟨(by show 2 ≤ sizeLine; decide), fun q2 n2 => ⟨(by show 2 ≤ sizeLine; decide), fun q3 n3 => ⟨(by show 3 ≤ sizeLine; decide), fun l nl =>
    have s5 := same_put (o := HO.tup [V.int a, V.int b]) n1
    have s6 := same_put (o := HO.tup [V.int c, V.int d]) n2
    have s7 := same_put (o := HO.tup [V.int e, V.int f]) n3
    have s8 := same_put (o := HO.lst [V.ref q1, V.ref q2, V.ref q3]) nl
    k l _ (s5.trans (s6.trans (s7.trans s8))) (.lst (SqL.of upd_same) (.cons (dp2 (s8 _ _ (s7 _ _ (s6 _ _ upd_same)))) (.cons (dp2 (s8 _ _ (s7 _ _ upd_same))) (.cons (dp2 (s8 _ _ upd_same)) .nil))))⟩⟩⟩⟩
end
section
variable {P : Program} {w : World} {K : PySem.W.Frag} {mg : Str → Option Value} {base : Heap}
theorem ok_law {f : Addr} {fd : FuncData} (F : Fun K "law" "law" sLaw f fd) (M : La P w K mg base) (N : Lc P w K mg base M) : FnG P w K mg base CX0 9 f fd ["_law_script"] (spLaw K M.TT) := by
  have LT : FnOk P w K mg base CX0 1 N.gt.1 N.gt.2 ["_law_script", "_law_turn"] (spTin K) := ok_tin N.lt.F M.bl
  have GT : FnG P w K mg base CX0 8 N.gr.1 N.gr.2 ["_law_tin_here"] (spRight M.TT) := ok_right N.dg.F M N.eR N.TR N.mR N.oR
  have GS : FnOk P w K mg base (L2N.CX P w) 4 M.f_si.1 M.f_si.2 ["lot"] (spSimp K M.C M.CN) := ok_simplest M.si.F M.T M.ls_ M.tN
  have GR : FnOk P w K mg base CX0 8 N.fR N.fdR ["cls", "text"] (spRead K M.C) := ok_lread N.FR M.T M.bp M.pd M.tP N.rd
  refine funGC F scLaw (fun vs H Q E h => ?_) (fun A outer s H vs Q E hg hr h => ?_)
  · obtain ⟨a, ns, rfl, _⟩ := h
    rfl
  · obtain ⟨a, ns, rfl, hS, hlen, hT, q⟩ := h
    have hu := hr.units
    have hr1 : Room 1 _ := hr.mono (by decide)
    have hr4 : Room 4 _ := hr.mono (by decide)
    have hr8 : Room 8 _ := hr.mono (by decide)
    refine ⟨_, pss_cons (ps_if (pt_cmpR (op_neD hu) (pe_lst (pa_cons (pe_callS GS hr4 (by rfl) M.si.g M.si.F.kp M.si.b (fun σ => L2N.passAt takesN0 σ) (pa_cons (ClX.pe_cmeth (pe_glob (v := .ref M.C) rfl M.T.mgC rfl) N.cr N.cm (GR.raw N.bR .nil) hr8 pass0 (pa_cons pe_str pa_nil)) pa_nil)) (pa_cons (pe_callS GS hr4 (by rfl) M.si.g M.si.F.kp M.si.b (fun σ => L2N.passAt takesN0 σ) (pa_cons (ClX.pe_cmeth (pe_glob (v := .ref M.C) rfl M.T.mgC rfl) N.cr N.cm (GR.raw N.bR .nil) hr8 pass0 (pa_cons pe_str pa_nil)) pa_nil)) (pa_cons (pe_callS GS hr4 (by rfl) M.si.g M.si.F.kp M.si.b (fun σ => L2N.passAt takesN0 σ) (pa_cons (ClX.pe_cmeth (pe_glob (v := .ref M.C) rfl M.T.mgC rfl) N.cr N.cm (GR.raw N.bR .nil) hr8 pass0 (pa_cons pe_str pa_nil)) pa_nil)) pa_nil)))) (pe_lst (pa_cons (pe_tup (pa_cons pe_int (pa_cons pe_int pa_nil))) (pa_cons (pe_tup (pa_cons pe_int (pa_cons pe_int pa_nil))) (pa_cons (pe_tup (pa_cons pe_int (pa_cons pe_int pa_nil))) pa_nil)))) (nomark _)) (pss_one (ps_ret pe_bl)) pss_nil) (pss_cons (ps_if (PW.pt (pw_or (pt_cmpR (op_neD hu) (pe_callS GS hr4 (by rfl) M.si.g M.si.F.kp M.si.b (fun σ => L2N.passAt takesN0 σ) (pa_cons (ClX.pe_cmeth (pe_glob (v := .ref M.C) rfl M.T.mgC rfl) N.cr N.cm (GR.raw N.bR .nil) hr8 pass0 (pa_cons pe_str pa_nil)) pa_nil)) (pe_tup (pa_cons pe_int (pa_cons pe_int pa_nil))) (nomark _)) (pw_or1 (pt_cmpR (op_neD hu) (pe_callS GS hr4 (by rfl) M.si.g M.si.F.kp M.si.b (fun σ => L2N.passAt takesN0 σ) (pa_cons (ClX.pe_cmeth (pe_glob (v := .ref M.C) rfl M.T.mgC rfl) N.cr N.cm (GR.raw N.bR .nil) hr8 pass0 (pa_cons pe_str pa_nil)) pa_nil)) (pe_tup (pa_cons pe_int (pa_cons pe_int pa_nil))) (nomark _))))) (pss_one (ps_ret pe_bl)) pss_nil) (pss_one (ps_ret (pe_callB (cr_all rfl) (by rfl) N.all (by decide +kernel) (pa_cons
        (pe_lc (te := tCall (spRight M.TT) [] E0 (tCons (tCall (spTin K) [] E0 (tCons (tVar 0) (tCons (tVar 1) tNil))) tNil)) (own := [("_law_turn", 1)]) (g := gName 1) (tt := tYes) rfl scLaw.nd
          (pi_range1 rfl M.range (pa_cons (pe_callB (call_max2 rfl) (by rfl) N.max (by decide +kernel) (pa_cons pe_int (pa_cons (pe_callB (call_min2 rfl) (by rfl) M.ls_.min (by decide +kernel) (pa_cons (pe_callB call_len_seq (by rfl) M.bl.len PySem.boot_len (pa_cons (pv 0) pa_nil)) (pa_cons pe_int pa_nil))) pa_nil))) pa_nil))
          (blkOk_by (N := NL) (sc := defScope sLaw) (by decide +kernel)) (fun _ _ _ _ _ => pg_name (i := 1) scLaw.nd rfl (.inl rfl)) (fun _ _ _ _ _ => pts_nil)
          (fun _ _ _ _ _ => pe_callG GT hg hr (by rfl) N.dg.g N.dg.F.kp N.dg.b .nil pass0 (pa_cons (pe_call LT hr1 (by rfl) N.lt.g N.lt.F.kp N.lt.b .nil pass0 (pa_cons (pv 0) (pa_cons (pv 1) pa_nil))) pa_nil))) pa_nil))))), ?_⟩
    refine simp_at wd1 fun r1 H1 s1 h1 => simp_at wd2 fun r2 H2 s2 h2 => simp_at wd3 fun r3 H3 s3 h3 => ?_
    refine ⟨(by show 3 ≤ sizeLine; decide), fun p np => ?_⟩
    have s4 := same_put (o := HO.lst [V.ref r1, V.ref r2, V.ref r3]) np
    have g4 : upd H3 p (HO.lst [V.ref r1, V.ref r2, V.ref r3]) p = some (.lst [V.ref r1, V.ref r2, V.ref r3]) := upd_same
    generalize upd H3 p (HO.lst [V.ref r1, V.ref r2, V.ref r3]) = H4 at *
    refine lst3_at (K := K) fun l H8 s48' dl => ?_
    have s48 := s4.trans s48'
    refine ⟨.list [.tuple [.int 1, .int 4], .tuple [.int 3, .int 8], .tuple [.int 0, .int 1]], .list [.tuple [.int 1, .int 4], .tuple [.int 3, .int 8], .tuple [.int 0, .int 1]],
      .lst (SqL.of (s48' _ _ g4)) (.cons (dp2 (s48 _ _ (s3 _ _ (s2 _ _ h1)))) (.cons (dp2 (s48 _ _ (s3 _ _ h2))) (.cons (dp2 (s48 _ _ h3)) .nil))), dl, by decide +kernel, by decide +kernel, _, rfl, ?_⟩
    rw [show PyData.eqv (.list [.tuple [.int 1, .int 4], .tuple [.int 3, .int 8], .tuple [.int 0, .int 1]]) (.list [.tuple [.int 1, .int 4], .tuple [.int 3, .int 8], .tuple [.int 0, .int 1]]) = true by decide +kernel]
    have S8 := s1.trans (s2.trans (s3.trans s48))
    refine iteF ?_
    refine simp_at wd4 fun r4 J1 t1 j1 => ?_
    refine tup2_at fun q4 J2 t2 j2 => ?_
    refine ⟨_, _, dp2 (t2 _ _ j1), dp2 j2, rfl, rfl, _, rfl, ?_⟩
    rw [show PyData.eqv (.tuple [.int 1, .int 1000001]) (.tuple [.int 1, .int 1000001]) = true by decide +kernel]
    refine iteF ?_
    refine simp_at wd5 fun r5 J3 t3 j3 => ?_
    refine tup2_at fun q5 J4 t4 j4 => ?_
    refine ⟨_, _, dp2 (t4 _ _ j3), dp2 j4, rfl, rfl, _, rfl, ?_⟩
    rw [show PyData.eqv (.tuple [.int 100, .int 101]) (.tuple [.int 100, .int 101]) = true by decide +kernel]
    refine iteF ?_
    have S := S8.trans (t1.trans (t2.trans (t3.trans t4)))
    have hS := sqL_ext hS (LamX.ExtN.of S)
    have hT : LamX.Tabs M.TT J4 := fun p hp => (hT p hp).ext S
    refine nxI ?_
    -- all of the turns
    refine ⟨_, rfl, a, _, rfl, .inl hS, _, _, rfl, _, _, rfl, ?_⟩
    have hN : ∀ L : Int, 0 ≤ (if (if (5 : Int) < L then 5 else L) > 2 then (if (5 : Int) < L then 5 else L) else 2) ∧ (if (if (5 : Int) < L then 5 else L) > 2 then (if (5 : Int) < L then 5 else L) else 2) ≤ 5 := fun L => by
      split <;> split <;> omega
    have hN' := hN (((ns.map V.int).length : Nat) : Int)
    generalize (if (if (5 : Int) < (((ns.map V.int).length : Nat) : Int) then 5 else (((ns.map V.int).length : Nat) : Int)) > 2 then (if (5 : Int) < (((ns.map V.int).length : Nat) : Int) then 5 else (((ns.map V.int).length : Nat) : Int)) else 2) = N5 at hN' ⊢
    refine ⟨N5, rfl, by omega, by omega, fun D hD => ?_⟩
    have s0 := same_put (o := HO.lst []) hD
    refine lc_range (lo := 0) (n := N5.toNat) (fun i H2 => H2 D = some (.lst ((List.replicate i true).map V.bl)) ∧ LamX.ExtN J4 H2 ∧ LamX.Tabs M.TT H2) ⟨upd_same, LamX.ExtN.of s0, fun p hp => (hT p hp).ext s0⟩ ?_ ?_
    · rintro i H2 hi ⟨g1, g2, g3⟩
      rw [Int.zero_add]
      refine ⟨rfl, _, rfl, _, rfl, a, ns, _, rfl, sqL_ext hS g2, by omega, by omega, fun p H3 s3 hp T => ⟨p, rfl, T, fun q hq => (g3 q hq).ext s3, fun H4 S4 => ?_⟩⟩
      have nDp : D ≠ p := ne_of_none g1 hp
      have dl := S4.keep _ _ (s3 _ _ g1) nDp (fun ps z => by cases z)
      refine ⟨_, dl, ?_, ?_, fun b z e n => ?_, tabs_put S4.tab dl⟩
      · rw [List.length_map, List.length_replicate]
        exact small1000 (by omega)
      · rw [upd_same, List.replicate_succ', List.map_append]; rfl
      · rw [upd_ne (ne_of_none e hD)]
        have z2 := g2 _ _ e n
        exact S4.keep _ _ (s3 _ _ z2) (ne_of_none z2 hp) n
    · rintro H2 ⟨g1, g2, g3⟩
      refine ⟨D, _, rfl, SqL.of g1, ?_⟩
      have tr : (List.replicate N5.toNat true).all id = true := by
        rw [List.all_eq_true]
        intro b hb
        exact (List.mem_replicate.mp hb).2
      rw [tr]
      exact q H2
end
end My
set_option Elab.async false
set_option linter.all false
set_option maxRecDepth 100000
set_option maxHeartbeats 4000000
/-! x == y by an own __eq__, whatever it answers -/
namespace Gn
open PySem PySem.Spec PyProof.Rows L2
def rEqI (K : PySem.W.Frag) (C : Addr) (sp : Sp) : R2 := fun x y H Q => ∃ (a dx b : Addr) (fs : List (Str × V)), x = .ref a ∧ y = .ref b ∧ H a = some (.ins C dx fs) ∧
  ((∃ dy gs, H b = some (.ins C dy gs)) ∨ ((∃ ys, H b = some (.tup ys)) ∧ PySem.W.notFirst K C (.type "tuple") = true)) ∧ sp [x, y] H Q fun _ _ _ => False
theorem op_eqI {X : Cx} {CX : CXT} {n : Nat} {C f : Addr} {fd : FuncData} {ps : List Str} {sp : Sp} (F : FnOk X.prog X.w X.K X.mg X.base CX n f fd ps sp) (hs : PySem.W.findIn X.K (.ref C) "__eq__" = some (some (.ref f))) (hf : PySem.W.isFn X.K (.ref f) = true)
    (hb : Binds X.K fd ps []) (hr : Room n X.A) (hx : Passes CX X fun _ _ _ => False) : OpR X (compareOp .Eq) (rEqI X.K C sp) := by
  intro pins s σ H x y v u Q I rx ry h
  obtain ⟨a, dx, b, fs, rfl, rfl, ha, hy, q⟩ := h
  cases rx
  cases ry
  obtain ⟨mA, J, _⟩ := ins_get I.hok ha
  obtain ⟨od, J, _⟩ := J.look
  obtain ⟨m, hF⟩ := I.fr
  obtain ⟨tb, hl, nf⟩ : ∃ tb, PySem.W.Looks (model X.prog X.w) s.heap (typeOf (.ref b)) tb ∧ PySem.W.notFirst X.K C tb = true := by
    rcases hy with ⟨dy, gs, hb'⟩ | ⟨⟨ys, hb'⟩, nf⟩
    · obtain ⟨mB, J', _⟩ := ins_get I.hok hb'
      obtain ⟨od', J', _⟩ := J'.look
      exact ⟨.ref C, J'.type, by simp [PySem.W.notFirst]⟩
    · obtain ⟨_, _, _, o, h1, h2, _⟩ := (show ObjOk X.prog X.w H s.heap b (.tup ys) from I.hok b _ hb')
      exact ⟨.type "tuple", fun A Q E s k q => wpAny_typeOf_ref (k _ _ h1) (by rw [h2]; exact q), nf⟩
  show wpAny _ _ (richCompare .Eq _ _) _ _ _
  refine PySem.W.cmp_K (op := .Eq) (tb := tb) hr.units0 hF I.ok.mod.kin J hl nf hs hf ?_
  refine wpAny_mono (run_fn (us := [.ref a, .ref b]) (vs := [.ref a, .ref b]) F hr hb .nil hx I (.cons rfl (.cons rfl .nil)) (by simpa using q)) (fun w s' z => ?_) fun _ _ e => e
  obtain ⟨z', H', I', rz, qz⟩ := z
  exact SlX.cmpback rz ⟨z', H', I', rz, qz⟩
end Gn
set_option Elab.async false
set_option linter.all false
set_option maxRecDepth 100000
set_option maxHeartbeats 4000000
/-! x != y of two instances with an own __eq__ and no __ne__ -/
namespace Gn
open PySem PySem.Spec PyProof.Rows L2
/-- what the class says of it -/
structure NeC (K : PySem.W.Frag) (C f : Addr) : Prop where
  cls : ∃ (nm q : Str) (N : Addr) (bs : List Value) (hd : Bool) (sn : List Str) (sub : List Value) (ab : Bool) (col : Option Bool) (dd : Option Addr) (k0 k1 k2 k3 k5 : Option Value) (nw : String),
    K.lookup C = some (excClassObj nm q C N bs [.type "object"] hd sn sub ab col dd k0 k1 k2 k3 k5 nw) ∧ PySem.W.nsOkIn K N = true ∧ PySem.W.nsIn K N "__eq__" = some (some (.ref f)) ∧ PySem.W.nsIn K N "__ne__" = some none
  fn : PySem.W.isFn K (.ref f) = true
def rNeI (C : Addr) (sp : Sp) : R2 := fun x y H Q => ∃ (a dx b dy : Addr) (fs gs : List (Str × V)), x = .ref a ∧ y = .ref b ∧ H a = some (.ins C dx fs) ∧ H b = some (.ins C dy gs) ∧ sp [x, y] H (fun v H' => ∃ c, v = .bl c ∧ Q (.bl (!c)) H') fun _ _ _ => False
theorem ns_val {K : PySem.W.Frag} {h : Heap} {N : Addr} {mN : Str → Option Value} {n : Str} {v : Value} (X : K.In h) (G : h.Ns N mN) (e : PySem.W.nsIn K N n = some (some v)) : mN n = some v := by
  obtain ⟨ob, ents, epo, hob, hdat, _, hfi⟩ := G
  unfold PySem.W.nsIn at e
  split at e
  · rename_i c d l k sl q
    cases hob.symm.trans (X _ _ q)
    cases hdat
    split at e
    · rename_i en he
      cases e
      exact (hfi n).symm.trans (by unfold nsFind findBy; rw [← Array.find?_toList, he]; rfl)
    · split at e <;> cases e
  · cases e
theorem op_neI {X : Cx} {CX : CXT} {n : Nat} {C f : Addr} {fd : FuncData} {ps : List Str} {sp : Sp} (F : FnOk X.prog X.w X.K X.mg X.base CX n f fd ps sp) (c : NeC X.K C f) (hb : Binds X.K fd ps []) (hr : Room (n + 1) X.A) (hx : Passes CX X fun _ _ _ => False) :
    OpR X (compareOp .NotEq) (rNeI C sp) := by
  intro pins s σ H x y v u Q I rx ry h
  obtain ⟨a, dx, b, dy, fs, gs, rfl, rfl, ha, hb', hsp⟩ := h
  cases rx
  cases ry
  obtain ⟨mA, J, _⟩ := ins_get I.hok ha
  obtain ⟨mB, J', _⟩ := ins_get I.hok hb'
  obtain ⟨od, J, _⟩ := J.look
  obtain ⟨od', J', _⟩ := J'.look
  obtain ⟨nm, q', N, bs, hd, sn, sub, ab, col, dd, k0, k1, k2, k3, k5, nw, lk, ok, e1, e2⟩ := c.cls
  have G : s.heap.Ns N (s.heap.nsMap N) := .of_isNs (PySem.W.isNs_of_in I.kIn ok)
  obtain ⟨of, lf, cf⟩ : ∃ of, X.K.lookup f = some of ∧ of.cls = .type "function" := by
    have z : PySem.W.typeIn X.K (.ref f) = some (.type "function") := beq_iff_eq.mp c.fn
    have z : (X.K.lookup f).map (·.cls) = some (.type "function") := z
    cases e : X.K.lookup f with
    | none => rw [e] at z; cases z
    | some o => rw [e] at z; exact ⟨o, rfl, Option.some.inj z⟩
  have Y : s.heap.OwnEqNoNe a C f "object" [.type "object"] := ⟨_, of, nm, q', N, bs, hd, sn, sub, ab, col, dd, k0, k1, k2, k3, k5, nw, s.heap.nsMap N, some (.builtin "object.__eq__"), J.1, J.2, I.kIn _ _ lk, G, ns_val I.kIn G e1, I.kIn _ _ lf, cf, PySem.F.cmp_object.mro, PySem.F.cmp_object.eq.lookup, PySem.W.ns_none_of I.kIn G e2⟩
  have r1 : Room n X.A.in1 := Room.in1 hr
  have r2 : Vals [V.ref a, V.ref b] [Value.ref a, Value.ref b] := .cons rfl (.cons rfl .nil)
  have hl := F.len _ _ _ _ hsp
  have bn := hb s [.ref a, .ref b] I.kIn (by simpa using hl)
  rw [List.append_nil] at bn
  refine compareOp_ne_ownEq PySem.F.cmp_object Y J'.1 J'.2 (hu_of hr) ?_
  refine wpAny_call (codeAny_mono (F.run X.A.in1 X.stack s H ⟨[.ref a, .ref b], []⟩ [.ref a, .ref b] [.ref a, .ref b] _ _ r1 I.env0.in1 bn r2 hsp) fun r s' hq => ?_)
  match r, hq with
  | .error z, hq => exact hx pins σ H s z s' I hq
  | .ok (.ret w), hq =>
    obtain ⟨z, H', I', rz, c', ez, qz⟩ := I.after hq
    subst ez
    cases rz
    exact ⟨c', rfl, .bl (!c'), H', I', rfl, qz⟩
  | .ok .next, hq => exact hq.elim
  | .ok .brk, hq => exact hq.elim
  | .ok .cont, hq => exact hq.elim
end Gn
set_option Elab.async false
set_option linter.all false
set_option maxRecDepth 100000
set_option maxHeartbeats 4000000
/-! what a head by facts says of a class with an own __eq__ and __repr__ -/
namespace Gn
open PySem PySem.Spec PyProof.Rows L2
theorem neB_ok {K : PySem.W.Frag} {C f : Addr} (h : neB K C f = true) (hf : PySem.W.isFn K (.ref f) = true) : NeC K C f := by
  refine ⟨?_, hf⟩
  unfold neB at h
  split at h
  · rename_i m dd cd sl lk
    obtain ⟨h1, ha⟩ := He.ba h
    cases of_decide_eq_true h1
    clear h h1
    split at ha
    · rename_i C' o k0 k1 k2 k3 n k5 em es
      obtain ⟨h2, hb⟩ := He.ba ha
      obtain ⟨h3, hc⟩ := He.ba hb
      obtain ⟨h4, hd⟩ := He.ba hc
      obtain ⟨h5, he⟩ := He.ba hd
      obtain ⟨h6, h7⟩ := He.ba he
      cases of_decide_eq_true h2
      cases of_decide_eq_true h3
      clear ha hb hc hd he h2 h3
      obtain ⟨nm, bs, mro, ns, qn, hd, sn, sub, ab, col, del⟩ := cd
      dsimp only at em h4 h5 h6 h7
      have h4 : del = false := by cases del; rfl; cases h4
      subst em h4
      have esl : sl = #[k0, k1, k2, k3, some (.builtin n), k5] := by
        obtain ⟨l⟩ := sl
        dsimp only at es
        rw [es]
      subst esl
      exact ⟨nm, qn, ns, bs, hd, sn, sub, ab, col, dd, k0, k1, k2, k3, k5, n, lk, h5, He.eqO_ok h6, He.eqO_ok h7⟩
    · cases ha
  · cases h
structure EqcOk (K : PySem.W.Frag) (C : Addr) : Prop where
  ca : PySem.W.findIn K (.ref C) "__class__" = some (some (.builtin "object.__class__"))
  cm : PySem.W.mroIn K C (.type "object") = some true
  yes : PySem.W.kitOne K (.ref C) (.ref C) = some true
  no : PySem.W.kitOne K (.type "tuple") (.ref C) = some false
  eS : PySem.W.findIn K (.ref C) "__eq__" = some (some (.ref (He.ma K C "__eq__")))
  eF : PySem.W.isFn K (.ref (He.ma K C "__eq__")) = true
  nF : PySem.W.notFirst K C (.type "tuple") = true
  nC : NeC K C (He.ma K C "__eq__")
  rS : PySem.W.findIn K (.ref C) "__repr__" = some (some (.ref (He.ma K C "__repr__")))
  rF : PySem.W.isFn K (.ref (He.ma K C "__repr__")) = true
  nb : PySem.W.findIn K (.ref C) "__bool__" = some none
  nl : PySem.W.findIn K (.ref C) "__len__" = some none
theorem eqc_ok {K : PySem.W.Frag} {x : Str} (h : (Fb.eqc x).ok K = true) : EqcOk K (He.ga K x) := by
  obtain ⟨h1, h⟩ := He.ba (show eqcB K (He.ga K x) = true from h)
  obtain ⟨h2, h⟩ := He.ba h
  obtain ⟨h3, h⟩ := He.ba h
  obtain ⟨h4, h⟩ := He.ba h
  obtain ⟨h5, h⟩ := He.ba h
  obtain ⟨h6, h⟩ := He.ba h
  obtain ⟨h7, h⟩ := He.ba h
  obtain ⟨h8, h⟩ := He.ba h
  obtain ⟨h9, h⟩ := He.ba h
  obtain ⟨h10, h⟩ := He.ba h
  obtain ⟨h11, h12⟩ := He.ba h
  exact ⟨He.eqO_ok h1, of_decide_eq_true h2, of_decide_eq_true h3, of_decide_eq_true h4, He.eqO_ok h5, h6, h7, neB_ok h8 h6, He.eqO_ok h9, h10, He.eqO_ok h11, He.eqO_ok h12⟩
end Gn
set_option Elab.async false
set_option linter.all false
set_option maxRecDepth 100000
set_option maxHeartbeats 8000000
namespace My
open PySem PySem.Spec PyProof.Rows L2 Gn Mt
def inn : Stmt → Stmt
  | .ClassDef _ _ _ (s :: _) _ _ _ _ _ _ _ => s
  | s => s
/-- what the written part says of a class, its __init__ at f -/
structure CK (K : PySem.W.Frag) (nm : Str) (fl : List Str) (C R f : Addr) (fd : FuncData) (st : Stmt) (qi : Str) : Prop where
  g : PySem.W.nsIn K mainGlobals nm = some (some (.ref C))
  own : OwC K C
  ini : PySem.W.findIn K (.ref C) "__init__" = some (some (.ref f))
  ty : PySem.W.typeIn K (.ref f) = some (.type "function")
  xf : XfC K C
  ex : ExcC K C
  no : ∀ n ∈ fl, PySem.W.findIn K (.ref C) n = some none
  F : Fun K "__init__" qi st f fd
/-- what all of them share -/
structure Glob (K : PySem.W.Frag) : Prop where
  hn : PySem.W.specialIn K (.builtin "object.__class__") "__get__" = some (some (.builtin "getset_descriptor.__get__"))
  ht : PySem.W.takesIn K (.builtin "object.__class__") = some true
structure Kit (K : PySem.W.Frag) (R0 R1 R2 C : Addr) (b0 b1 b2 : Bool) : Prop where
  o0 : PySem.W.kitOne K (.ref C) (.ref R0) = some b0
  o1 : PySem.W.kitOne K (.ref C) (.ref R1) = some b1
  o2 : PySem.W.kitOne K (.ref C) (.ref R2) = some b2
  t0 : PySem.W.kitOne K (.ref C) (.type "ValueError") = some b0
  t1 : PySem.W.kitOne K (.ref C) (.type "LookupError") = some b1
  t2 : PySem.W.kitOne K (.ref C) (.type "ArithmeticError") = some b2
section
variable {P : Program} {w : World} {K : PySem.W.Frag} {mg : Str → Option Value} {base : Heap}
theorem prop_mk {C p g : Addr} {f : Str} {od : Option Addr} {sl : Array (Option Value)} {vs : Array Value} {rest : List Value} (a : PySem.W.findIn K (.ref C) f = some (some (.ref p))) (ge : PySem.W.specialIn K (.ref p) "__get__" = some (some (.builtin "property.__get__"))) (tk : PySem.W.takesIn K (.ref p) = some true)
    (l : K.lookup p = some ⟨.type "property", od, .fields vs, sl⟩) (e : vs.toList = .ref g :: rest) : PropOf K C f p g := by
  refine ⟨a, ge, tk, rest, ?_⟩
  unfold PySem.W.recIn
  simp only [l, e]
  rfl
/-- the last cut as the text writes it -/
theorem cut_written {a b : Addr} {oa ob : Option Addr} {sa sb : Array (Option Value)} {ia ib : Array Value} {na nb : Nat} {t0 t1 t2 : Tok} (la : K.lookup a = some ⟨.type "tuple", oa, .seq ia na, sa⟩) (ea : ia.toList = [.ref b, .int 0 t0]) (lb : K.lookup b = some ⟨.type "tuple", ob, .seq ib nb, sb⟩) (eb : ib.toList = [.int 1 t1, .int 1 t2]) (H : Hp) : Dp K H (.ref a) (cutD last) := by
  have za : ia.size ≤ sizeLine := by
    rw [← Array.length_toList, ea]
    exact (by decide : 2 ≤ sizeLine)
  have zb : ib.size ≤ sizeLine := by
    rw [← Array.length_toList, eb]
    exact (by decide : 2 ≤ sizeLine)
  refine .tup (xs := [.ref b, .int 0]) (.inr ⟨_, ia, na, la, rfl, rfl, za, ?_⟩) (.cons (.tup (xs := [.int 1, .int 1]) (.inr ⟨_, ib, nb, lb, rfl, rfl, zb, ?_⟩) (.cons (.int 1) (.cons (.int 1) .nil))) (.cons (.int 0) .nil))
  · rw [ea]
    exact .cons rfl (.cons ⟨t0, rfl⟩ .nil)
  · rw [eb]
    exact .cons ⟨t1, rfl⟩ (.cons ⟨t2, rfl⟩ .nil)
theorem cl7 {C R f : Addr} {fd : FuncData} {h : Heap} (X : K.In h) (G : h.Ns mainGlobals mg) (T : CK K "InvalidPieces" ["index"] C R f fd (inn (top 11)) "InvalidPieces.__init__") : OwE P w K mg base "InvalidPieces" ["index"] C f fd := by
  have S : FnScope ["self", "index"] ["self", "index"] (defScope (inn (top 11))) := ⟨rfl, rfl, rfl, by decide +kernel, rfl, by decide +kernel, by decide +kernel⟩
  exact ⟨T.own, T.ini, T.ty, T.xf, T.ex, T.no, PySem.W.mg_of X G T.g, ini1 T.F S rfl (Or.inl rfl) (Or.inl rfl) (by decide) (by decide), T.F.binds fun _ _ _ _ _ _ us hl => match us, hl with | [_, _], _ => rfl⟩
theorem cl10 {C R f : Addr} {fd : FuncData} {h : Heap} (X : K.In h) (G : h.Ns mainGlobals mg) (T : CK K "NoStep" [] C R f fd (inn (top 16)) "NoStep.__init__") : OwE P w K mg base "NoStep" [] C f fd := by
  have S : FnScope ["self"] ["self"] (defScope (inn (top 16))) := ⟨rfl, rfl, rfl, by decide +kernel, rfl, by decide +kernel, by decide +kernel⟩
  exact ⟨T.own, T.ini, T.ty, T.xf, T.ex, T.no, PySem.W.mg_of X G T.g, ini0 T.F S rfl, T.F.binds fun _ _ _ _ _ _ us hl => match us, hl with | [_], _ => rfl⟩
theorem ma_of {t c0 c1 c2 : Value} {b0 b1 b2 : Bool} (e0 : PySem.W.exmOne K t c0 = some b0) (e1 : PySem.W.exmOne K t c1 = some b1) (e2 : PySem.W.exmOne K t c2 = some b2) : PySem.W.exmAny K t [c0, c1, c2] = some (b0 || (b1 || (b2 || false))) := by
  simp only [PySem.W.exmAny, e0, e1, e2]
theorem is2 {α : Type} {x a b : α} (h : x ∈ [a, b]) : x = a ∨ x = b := by simpa using h
end
theorem funOfX {K : PySem.W.Frag} {x qual : Str} {st : Stmt} {f : Addr} {fd : FuncData} (F : FunD K x qual (defArgs st) (defBody st) (defScope st) [] [] f fd) : Fun K x qual st f fd := by
  obtain ⟨oc, od, dV, kV, doc, pm, an, cdv, ct, osl, e, lk, hcd, hD, _⟩ := F.ex
  rcases hD with ⟨_, rfl⟩ | ⟨e', _⟩
  · exact ⟨⟨oc, od, kV, doc, pm, an, cdv, ct, osl, e, lk, hcd⟩, F.kp⟩
  · exact absurd rfl e'
theorem walkGX {l : PySem.W.OpenLaw} {n k : Nat} {q : Program} {loose : List Str} {XP : (Str → Option Value) → Heap → Prop} {YP : World → Heap → Prop} {d : DefRec} {CX : World → CXT} {x : Str}
    (hn : l.most = some n) (hn2 : n ≤ sizeLine) (hdf : d.params.defaults = []) (hr : Room k callerA)
    (F : ∀ (w : World) (mg : Str → Option Value) (fa : Addr) (h : Heap), YP w h → h.Ns mainGlobals mg → mg d.name = some (.ref fa) → ∃ K : PySem.W.Frag, K.In h ∧ LawAtG l w K (CX w) k n x mg fa h)
    (hCX : ∀ (w : World) (H : Hp) (s : Shared) (e : Value) (s' : Shared), CX w [] H s (fun _ _ _ => False) e s' → False) : PySem.W.WalkO q loose XP YP l.row.toRowW d [] (fun f vs => PySem.call f vs) :=
  Att.attach_call hn hdf fun w s₀ s₁ mg mb fa o pm cd doc a vs ns G Y ho hd hcd hmg hobj hints hlen hg => by
    obtain ⟨K, KX, fd, cs, sp, T, hb, hsp, hF⟩ := F w mg fa _ Y G.T.g hmg
    exact lawGT KX G.T.g G.T.b G.T.builtins G.T.nolimit hg (fun p m => (T p m).1) (fun p m => (T p m).2.1) (fun p m => (T p m).2.2) G.T.bmain hobj hints (Nat.le_trans hlen hn2) hr hF hb (fun H h1 h2 => hsp H a ns hlen h1 h2) fun H e s' => hCX w H s₁ e s'
theorem all_mkX {l : PySem.W.OpenLaw} {w : World} {K : PySem.W.Frag} {h : Heap} {mg : Str → Option Value} {fa : Addr} (X : K.In h) (G : h.Ns mainGlobals mg) (hfa : mg "law" = some (.ref fa)) (c : SaysZ fasX fnsX tfX fbsX prsX w h K)
    : LawAtG l w K CX0 9 63 "_law_script" mg fa h := by
  have cd := c.d
  obtain ⟨fd0, G0⟩ := cd.def_ 0 (d := ddX0) rfl
  obtain ⟨F0, C0⟩ : Fun K "is_integer" "is_integer" (top 20) (He.ga K "is_integer") fd0 ∧ fd0.code = .ref (He.cT K ("is_integer", none)).1 := funZ (p := ("is_integer", none)) G0
  have g0 := He.glo_ok X G (cd.fact 0 (f := .glo "is_integer") rfl)
  have d0 : Df K mg "is_integer" (top 20) ["given"] (He.ga K "is_integer") fd0 := ⟨F0, g0, F0.binds fun _ _ _ _ _ _ us hl => match us, hl with | [_], _ => rfl⟩
  obtain ⟨fd1, G1⟩ := cd.def_ 1 (d := ddX1) rfl
  obtain ⟨F1, C1⟩ : Fun K "is_fraction" "is_fraction" (top 21) (He.ga K "is_fraction") fd1 ∧ fd1.code = .ref (He.cT K ("is_fraction", none)).1 := funZ (p := ("is_fraction", none)) G1
  have g1 := He.glo_ok X G (cd.fact 1 (f := .glo "is_fraction") rfl)
  have d1 : Df K mg "is_fraction" (top 21) ["given"] (He.ga K "is_fraction") fd1 := ⟨F1, g1, F1.binds fun _ _ _ _ _ _ us hl => match us, hl with | [_], _ => rfl⟩
  obtain ⟨fd2, G2⟩ := cd.def_ 2 (d := ddX2) rfl
  obtain ⟨F2, C2⟩ : Fun K "is_part" "is_part" (top 23) (He.ga K "is_part") fd2 ∧ fd2.code = .ref (He.cT K ("is_part", none)).1 := funZ (p := ("is_part", none)) G2
  have g2 := He.glo_ok X G (cd.fact 2 (f := .glo "is_part") rfl)
  have d2 : Df K mg "is_part" (top 23) ["given"] (He.ga K "is_part") fd2 := ⟨F2, g2, F2.binds fun _ _ _ _ _ _ us hl => match us, hl with | [_], _ => rfl⟩
  obtain ⟨fd3, G3⟩ := cd.def_ 3 (d := ddX3) rfl
  obtain ⟨F3, C3⟩ : Fun K "is_less" "is_less" (top 24) (He.ga K "is_less") fd3 ∧ fd3.code = .ref (He.cT K ("is_less", none)).1 := funZ (p := ("is_less", none)) G3
  have g3 := He.glo_ok X G (cd.fact 3 (f := .glo "is_less") rfl)
  have d3 : Df K mg "is_less" (top 24) ["one", "other"] (He.ga K "is_less") fd3 := ⟨F3, g3, F3.binds fun _ _ _ _ _ _ us hl => match us, hl with | [_, _], _ => rfl⟩
  obtain ⟨fd4, G4⟩ := cd.def_ 4 (d := ddX4) rfl
  obtain ⟨F4, C4⟩ : Fun K "_first_wrong" "_first_wrong" (top 40) (He.ga K "_first_wrong") fd4 ∧ fd4.code = .ref (He.cT K ("_first_wrong", none)).1 := funZ (p := ("_first_wrong", none)) G4
  have g4 := He.glo_ok X G (cd.fact 4 (f := .glo "_first_wrong") rfl)
  have d4 : Df K mg "_first_wrong" (top 40) ["pieces"] (He.ga K "_first_wrong") fd4 := ⟨F4, g4, F4.binds fun _ _ _ _ _ _ us hl => match us, hl with | [_], _ => rfl⟩
  obtain ⟨fd5, G5⟩ := cd.def_ 5 (d := ddX5) rfl
  obtain ⟨F5, C5⟩ : Fun K "_is_piece" "_is_piece" (top 41) (He.ga K "_is_piece") fd5 ∧ fd5.code = .ref (He.cT K ("_is_piece", none)).1 := funZ (p := ("_is_piece", none)) G5
  have g5 := He.glo_ok X G (cd.fact 5 (f := .glo "_is_piece") rfl)
  have d5 : Df K mg "_is_piece" (top 41) ["given"] (He.ga K "_is_piece") fd5 := ⟨F5, g5, F5.binds fun _ _ _ _ _ _ us hl => match us, hl with | [_], _ => rfl⟩
  obtain ⟨fd6, G6⟩ := cd.def_ 6 (d := ddX6) rfl
  obtain ⟨F6, C6⟩ : Fun K "_cuts_at" "_cuts_at" (top 42) (He.ga K "_cuts_at") fd6 ∧ fd6.code = .ref (He.cT K ("_cuts_at", none)).1 := funZ (p := ("_cuts_at", none)) G6
  have g6 := He.glo_ok X G (cd.fact 6 (f := .glo "_cuts_at") rfl)
  have d6 : Df K mg "_cuts_at" (top 42) ["piece"] (He.ga K "_cuts_at") fd6 := ⟨F6, g6, F6.binds fun _ _ _ _ _ _ us hl => match us, hl with | [_], _ => rfl⟩
  obtain ⟨fd7, G7⟩ := cd.def_ 7 (d := ddX7) rfl
  obtain ⟨F7, C7⟩ : Fun K "_is_ahead" "_is_ahead" (top 43) (He.ga K "_is_ahead") fd7 ∧ fd7.code = .ref (He.cT K ("_is_ahead", none)).1 := funZ (p := ("_is_ahead", none)) G7
  have g7 := He.glo_ok X G (cd.fact 7 (f := .glo "_is_ahead") rfl)
  have d7 : Df K mg "_is_ahead" (top 43) ["cut", "other"] (He.ga K "_is_ahead") fd7 := ⟨F7, g7, F7.binds fun _ _ _ _ _ _ us hl => match us, hl with | [_, _], _ => rfl⟩
  obtain ⟨fd8, G8⟩ := cd.def_ 8 (d := ddX8) rfl
  obtain ⟨F8, C8⟩ : Fun K "is_step" "is_step" (top 22) (He.ga K "is_step") fd8 ∧ fd8.code = .ref (He.cT K ("is_step", none)).1 := funZ (p := ("is_step", none)) G8
  have g8 := He.glo_ok X G (cd.fact 8 (f := .glo "is_step") rfl)
  have d8 : Df K mg "is_step" (top 22) ["given"] (He.ga K "is_step") fd8 := ⟨F8, g8, F8.binds fun _ _ _ _ _ _ us hl => match us, hl with | [_], _ => rfl⟩
  obtain ⟨fd9, G9⟩ := cd.def_ 9 (d := ddX9) rfl
  obtain ⟨F9, C9⟩ : Fun K "check_step" "check_step" (top 25) (He.ga K "check_step") fd9 ∧ fd9.code = .ref (He.cT K ("check_step", none)).1 := funZ (p := ("check_step", none)) G9
  have g9 := He.glo_ok X G (cd.fact 9 (f := .glo "check_step") rfl)
  have d9 : Df K mg "check_step" (top 25) ["given"] (He.ga K "check_step") fd9 := ⟨F9, g9, F9.binds fun _ _ _ _ _ _ us hl => match us, hl with | [_], _ => rfl⟩
  obtain ⟨fd10, G10⟩ := cd.def_ 10 (d := ddX10) rfl
  obtain ⟨F10, C10⟩ : Fun K "check_lot" "check_lot" (top 38) (He.ga K "check_lot") fd10 ∧ fd10.code = .ref (He.cT K ("check_lot", none)).1 := funZ (p := ("check_lot", none)) G10
  have g10 := He.glo_ok X G (cd.fact 10 (f := .glo "check_lot") rfl)
  have d10 : Df K mg "check_lot" (top 38) ["given"] (He.ga K "check_lot") fd10 := ⟨F10, g10, F10.binds fun _ _ _ _ _ _ us hl => match us, hl with | [_], _ => rfl⟩
  obtain ⟨fd11, G11⟩ := cd.def_ 11 (d := ddX11) rfl
  obtain ⟨F11, C11⟩ : Fun K "simplest_in" "simplest_in" (top 27) (He.ga K "simplest_in") fd11 ∧ fd11.code = .ref (He.cT K ("simplest_in", none)).1 := funZ (p := ("simplest_in", none)) G11
  have g11 := He.glo_ok X G (cd.fact 11 (f := .glo "simplest_in") rfl)
  have d11 : Df K mg "simplest_in" (top 27) ["low", "high", "first", "last"] (He.ga K "simplest_in") fd11 := ⟨F11, g11, F11.binds fun _ _ _ _ _ _ us hl => match us, hl with | [_, _, _, _], _ => rfl⟩
  obtain ⟨fd12, G12⟩ := cd.def_ 12 (d := ddX12) rfl
  obtain ⟨F12, C12⟩ : Fun K "_least_whole" "_least_whole" (top 28) (He.ga K "_least_whole") fd12 ∧ fd12.code = .ref (He.cT K ("_least_whole", none)).1 := funZ (p := ("_least_whole", none)) G12
  have g12 := He.glo_ok X G (cd.fact 12 (f := .glo "_least_whole") rfl)
  have d12 : Df K mg "_least_whole" (top 28) ["low", "first"] (He.ga K "_least_whole") fd12 := ⟨F12, g12, F12.binds fun _ _ _ _ _ _ us hl => match us, hl with | [_, _], _ => rfl⟩
  obtain ⟨fd13, G13⟩ := cd.def_ 13 (d := ddX13) rfl
  obtain ⟨F13, C13⟩ : Fun K "_is_within" "_is_within" (top 29) (He.ga K "_is_within") fd13 ∧ fd13.code = .ref (He.cT K ("_is_within", none)).1 := funZ (p := ("_is_within", none)) G13
  have g13 := He.glo_ok X G (cd.fact 13 (f := .glo "_is_within") rfl)
  have d13 : Df K mg "_is_within" (top 29) ["whole", "high", "last"] (He.ga K "_is_within") fd13 := ⟨F13, g13, F13.binds fun _ _ _ _ _ _ us hl => match us, hl with | [_, _, _], _ => rfl⟩
  obtain ⟨fd14, G14⟩ := cd.def_ 14 (d := ddX14) rfl
  obtain ⟨F14, C14⟩ : Fun K "_turned" "_turned" (top 30) (He.ga K "_turned") fd14 ∧ fd14.code = .ref (He.cT K ("_turned", none)).1 := funZ (p := ("_turned", none)) G14
  have g14 := He.glo_ok X G (cd.fact 14 (f := .glo "_turned") rfl)
  have d14 : Df K mg "_turned" (top 30) ["fraction", "whole"] (He.ga K "_turned") fd14 := ⟨F14, g14, F14.binds fun _ _ _ _ _ _ us hl => match us, hl with | [_, _], _ => rfl⟩
  obtain ⟨fd15, G15⟩ := cd.def_ 15 (d := ddX15) rfl
  obtain ⟨F15, C15⟩ : Fun K "_are_digits" "_are_digits" (top 49) (He.ga K "_are_digits") fd15 ∧ fd15.code = .ref (He.cT K ("_are_digits", none)).1 := funZ (p := ("_are_digits", none)) G15
  have g15 := He.glo_ok X G (cd.fact 15 (f := .glo "_are_digits") rfl)
  have d15 : Df K mg "_are_digits" (top 49) ["text"] (He.ga K "_are_digits") fd15 := ⟨F15, g15, F15.binds fun _ _ _ _ _ _ us hl => match us, hl with | [_], _ => rfl⟩
  obtain ⟨fd16, G16⟩ := cd.def_ 16 (d := ddX16) rfl
  obtain ⟨F16, C16⟩ : Fun K "_read_digits" "_read_digits" (top 50) (He.ga K "_read_digits") fd16 ∧ fd16.code = .ref (He.cT K ("_read_digits", none)).1 := funZ (p := ("_read_digits", none)) G16
  have g16 := He.glo_ok X G (cd.fact 16 (f := .glo "_read_digits") rfl)
  have d16 : Df K mg "_read_digits" (top 50) ["text"] (He.ga K "_read_digits") fd16 := ⟨F16, g16, F16.binds fun _ _ _ _ _ _ us hl => match us, hl with | [_], _ => rfl⟩
  obtain ⟨fd17, G17⟩ := cd.def_ 17 (d := ddX17) rfl
  obtain ⟨F17, C17⟩ : Fun K "_read_fraction" "_read_fraction" (top 48) (He.ga K "_read_fraction") fd17 ∧ fd17.code = .ref (He.cT K ("_read_fraction", none)).1 := funZ (p := ("_read_fraction", none)) G17
  have g17 := He.glo_ok X G (cd.fact 17 (f := .glo "_read_fraction") rfl)
  have d17 : Df K mg "_read_fraction" (top 48) ["text"] (He.ga K "_read_fraction") fd17 := ⟨F17, g17, F17.binds fun _ _ _ _ _ _ us hl => match us, hl with | [_], _ => rfl⟩
  obtain ⟨fd18, G18⟩ := cd.def_ 18 (d := ddX18) rfl
  obtain ⟨F18, C18⟩ : Fun K "_read_pieces" "_read_pieces" (top 47) (He.ga K "_read_pieces") fd18 ∧ fd18.code = .ref (He.cT K ("_read_pieces", none)).1 := funZ (p := ("_read_pieces", none)) G18
  have g18 := He.glo_ok X G (cd.fact 18 (f := .glo "_read_pieces") rfl)
  have d18 : Df K mg "_read_pieces" (top 47) ["text"] (He.ga K "_read_pieces") fd18 := ⟨F18, g18, F18.binds fun _ _ _ _ _ _ us hl => match us, hl with | [_], _ => rfl⟩
  obtain ⟨fd19, G19⟩ := cd.def_ 19 (d := ddX19) rfl
  obtain ⟨F19, C19⟩ : Fun K "_digits_of" "_digits_of" (top 46) (He.ga K "_digits_of") fd19 ∧ fd19.code = .ref (He.cT K ("_digits_of", none)).1 := funZ (p := ("_digits_of", none)) G19
  have g19 := He.glo_ok X G (cd.fact 19 (f := .glo "_digits_of") rfl)
  have d19 : Df K mg "_digits_of" (top 46) ["number"] (He.ga K "_digits_of") fd19 := ⟨F19, g19, F19.binds fun _ _ _ _ _ _ us hl => match us, hl with | [_], _ => rfl⟩
  obtain ⟨fd20, G20⟩ := cd.def_ 20 (d := ddX20) rfl
  obtain ⟨F20, C20⟩ : Fun K "fraction_text" "fraction_text" (top 39) (He.ga K "fraction_text") fd20 ∧ fd20.code = .ref (He.cT K ("fraction_text", none)).1 := funZ (p := ("fraction_text", none)) G20
  have g20 := He.glo_ok X G (cd.fact 20 (f := .glo "fraction_text") rfl)
  have d20 : Df K mg "fraction_text" (top 39) ["fraction"] (He.ga K "fraction_text") fd20 := ⟨F20, g20, F20.binds fun _ _ _ _ _ _ us hl => match us, hl with | [_], _ => rfl⟩
  obtain ⟨fd21, G21⟩ := cd.def_ 21 (d := ddX21) rfl
  obtain ⟨F21, C21⟩ : Fun K "_word_of" "_word_of" (top 45) (He.ga K "_word_of") fd21 ∧ fd21.code = .ref (He.cT K ("_word_of", none)).1 := funZ (p := ("_word_of", none)) G21
  have g21 := He.glo_ok X G (cd.fact 21 (f := .glo "_word_of") rfl)
  have d21 : Df K mg "_word_of" (top 45) ["piece"] (He.ga K "_word_of") fd21 := ⟨F21, g21, F21.binds fun _ _ _ _ _ _ us hl => match us, hl with | [_], _ => rfl⟩
  obtain ⟨fd22, G22⟩ := cd.def_ 22 (d := ddX22) rfl
  obtain ⟨F22, C22⟩ : Fun K "_text_of" "_text_of" (top 44) (He.ga K "_text_of") fd22 ∧ fd22.code = .ref (He.cT K ("_text_of", none)).1 := funZ (p := ("_text_of", none)) G22
  have g22 := He.glo_ok X G (cd.fact 22 (f := .glo "_text_of") rfl)
  have d22 : Df K mg "_text_of" (top 44) ["pieces"] (He.ga K "_text_of") fd22 := ⟨F22, g22, F22.binds fun _ _ _ _ _ _ us hl => match us, hl with | [_], _ => rfl⟩
  obtain ⟨fd23, G23⟩ := cd.def_ 23 (d := ddX23) rfl
  obtain ⟨F23, C23⟩ : Fun K "simplest" "simplest" (top 37) (He.ga K "simplest") fd23 ∧ fd23.code = .ref (He.cT K ("simplest", none)).1 := funZ (p := ("simplest", none)) G23
  have g23 := He.glo_ok X G (cd.fact 23 (f := .glo "simplest") rfl)
  have d23 : Df K mg "simplest" (top 37) ["lot"] (He.ga K "simplest") fd23 := ⟨F23, g23, F23.binds fun _ _ _ _ _ _ us hl => match us, hl with | [_], _ => rfl⟩
  obtain ⟨fd24, G24⟩ := cd.def_ 24 (d := ddX24) rfl
  obtain ⟨F24, C24⟩ : Fun K "has" "has" (top 36) (He.ga K "has") fd24 ∧ fd24.code = .ref (He.cT K ("has", none)).1 := funZ (p := ("has", none)) G24
  have g24 := He.glo_ok X G (cd.fact 24 (f := .glo "has") rfl)
  have d24 : Df K mg "has" (top 36) ["lot", "step"] (He.ga K "has") fd24 := ⟨F24, g24, F24.binds fun _ _ _ _ _ _ us hl => match us, hl with | [_, _], _ => rfl⟩
  obtain ⟨fd25, G25⟩ := cd.def_ 25 (d := ddX25) rfl
  obtain ⟨F25, C25⟩ : Fun K "_law_sip" "_law_sip" (top 53) (He.ga K "_law_sip") fd25 ∧ fd25.code = .ref (He.cT K ("_law_sip", none)).1 := funZ (p := ("_law_sip", none)) G25
  have g25 := He.glo_ok X G (cd.fact 25 (f := .glo "_law_sip") rfl)
  have d25 : Df K mg "_law_sip" (top 53) ["_law_tin_here", "_law_top"] (He.ga K "_law_sip") fd25 := ⟨F25, g25, F25.binds fun _ _ _ _ _ _ us hl => match us, hl with | [_, _], _ => rfl⟩
  obtain ⟨fd26, G26⟩ := cd.def_ 26 (d := ddX26) rfl
  obtain ⟨F26, C26⟩ : Fun K "_law_pick" "_law_pick" (top 54) (He.ga K "_law_pick") fd26 ∧ fd26.code = .ref (He.cT K ("_law_pick", none)).1 := funZ (p := ("_law_pick", none)) G26
  have g26 := He.glo_ok X G (cd.fact 26 (f := .glo "_law_pick") rfl)
  have d26 : Df K mg "_law_pick" (top 54) ["_law_tin_here", "_law_menu"] (He.ga K "_law_pick") fd26 := ⟨F26, g26, F26.binds fun _ _ _ _ _ _ us hl => match us, hl with | [_, _], _ => rfl⟩
  obtain ⟨fd27, G27⟩ := cd.def_ 27 (d := ddX27) rfl
  obtain ⟨F27, C27⟩ : Fun K "_law_far" "_law_far" (top 55) (He.ga K "_law_far") fd27 ∧ fd27.code = .ref (He.cT K ("_law_far", none)).1 := funZ (p := ("_law_far", none)) G27
  have g27 := He.glo_ok X G (cd.fact 27 (f := .glo "_law_far") rfl)
  have d27 : Df K mg "_law_far" (top 55) ["_law_tin_here", "_law_most"] (He.ga K "_law_far") fd27 := ⟨F27, g27, F27.binds fun _ _ _ _ _ _ us hl => match us, hl with | [_, _], _ => rfl⟩
  obtain ⟨fd28, G28⟩ := cd.def_ 28 (d := ddX28) rfl
  obtain ⟨F28, C28⟩ : Fun K "_law_gcd" "_law_gcd" (top 56) (He.ga K "_law_gcd") fd28 ∧ fd28.code = .ref (He.cT K ("_law_gcd", none)).1 := funZ (p := ("_law_gcd", none)) G28
  have g28 := He.glo_ok X G (cd.fact 28 (f := .glo "_law_gcd") rfl)
  have d28 : Df K mg "_law_gcd" (top 56) ["_law_one", "_law_two"] (He.ga K "_law_gcd") fd28 := ⟨F28, g28, F28.binds fun _ _ _ _ _ _ us hl => match us, hl with | [_, _], _ => rfl⟩
  obtain ⟨fd29, G29⟩ := cd.def_ 29 (d := ddX29) rfl
  obtain ⟨F29, C29⟩ : Fun K "_law_low" "_law_low" (top 57) (He.ga K "_law_low") fd29 ∧ fd29.code = .ref (He.cT K ("_law_low", none)).1 := funZ (p := ("_law_low", none)) G29
  have g29 := He.glo_ok X G (cd.fact 29 (f := .glo "_law_low") rfl)
  have d29 : Df K mg "_law_low" (top 57) ["_law_top", "_law_bottom"] (He.ga K "_law_low") fd29 := ⟨F29, g29, F29.binds fun _ _ _ _ _ _ us hl => match us, hl with | [_, _], _ => rfl⟩
  obtain ⟨fd30, G30⟩ := cd.def_ 30 (d := ddX30) rfl
  obtain ⟨F30, C30⟩ : Fun K "_law_under" "_law_under" (top 58) (He.ga K "_law_under") fd30 ∧ fd30.code = .ref (He.cT K ("_law_under", none)).1 := funZ (p := ("_law_under", none)) G30
  have g30 := He.glo_ok X G (cd.fact 30 (f := .glo "_law_under") rfl)
  have d30 : Df K mg "_law_under" (top 58) ["_law_one", "_law_two"] (He.ga K "_law_under") fd30 := ⟨F30, g30, F30.binds fun _ _ _ _ _ _ us hl => match us, hl with | [_, _], _ => rfl⟩
  obtain ⟨fd31, G31⟩ := cd.def_ 31 (d := ddX31) rfl
  obtain ⟨F31, C31⟩ : Fun K "_law_lies" "_law_lies" (top 59) (He.ga K "_law_lies") fd31 ∧ fd31.code = .ref (He.cT K ("_law_lies", none)).1 := funZ (p := ("_law_lies", none)) G31
  have g31 := He.glo_ok X G (cd.fact 31 (f := .glo "_law_lies") rfl)
  have d31 : Df K mg "_law_lies" (top 59) ["_law_rows_here", "_law_x"] (He.ga K "_law_lies") fd31 := ⟨F31, g31, F31.binds fun _ _ _ _ _ _ us hl => match us, hl with | [_, _], _ => rfl⟩
  obtain ⟨fd32, G32⟩ := cd.def_ 32 (d := ddX32) rfl
  obtain ⟨F32, C32⟩ : Fun K "_law_pieces" "_law_pieces" (top 60) (He.ga K "_law_pieces") fd32 ∧ fd32.code = .ref (He.cT K ("_law_pieces", none)).1 := funZ (p := ("_law_pieces", none)) G32
  have g32 := He.glo_ok X G (cd.fact 32 (f := .glo "_law_pieces") rfl)
  have d32 : Df K mg "_law_pieces" (top 60) ["_law_tin_here", "_law_many"] (He.ga K "_law_pieces") fd32 := ⟨F32, g32, F32.binds fun _ _ _ _ _ _ us hl => match us, hl with | [_, _], _ => rfl⟩
  obtain ⟨fd33, G33⟩ := cd.def_ 33 (d := ddX33) rfl
  obtain ⟨F33, C33⟩ : Fun K "_law_is_number" "_law_is_number" (top 61) (He.ga K "_law_is_number") fd33 ∧ fd33.code = .ref (He.cT K ("_law_is_number", none)).1 := funZ (p := ("_law_is_number", none)) G33
  have g33 := He.glo_ok X G (cd.fact 33 (f := .glo "_law_is_number") rfl)
  have d33 : Df K mg "_law_is_number" (top 61) ["_law_thing", "_law_low_here", "_law_high"] (He.ga K "_law_is_number") fd33 := ⟨F33, g33, F33.binds fun _ _ _ _ _ _ us hl => match us, hl with | [_, _, _], _ => rfl⟩
  obtain ⟨fd34, G34⟩ := cd.def_ 34 (d := ddX34) rfl
  obtain ⟨F34, C34⟩ : Fun K "_law_is_part" "_law_is_part" (top 62) (He.ga K "_law_is_part") fd34 ∧ fd34.code = .ref (He.cT K ("_law_is_part", none)).1 := funZ (p := ("_law_is_part", none)) G34
  have g34 := He.glo_ok X G (cd.fact 34 (f := .glo "_law_is_part") rfl)
  have d34 : Df K mg "_law_is_part" (top 62) ["_law_thing"] (He.ga K "_law_is_part") fd34 := ⟨F34, g34, F34.binds fun _ _ _ _ _ _ us hl => match us, hl with | [_], _ => rfl⟩
  obtain ⟨fd35, G35⟩ := cd.def_ 35 (d := ddX35) rfl
  obtain ⟨F35, C35⟩ : Fun K "_law_is_step" "_law_is_step" (top 63) (He.ga K "_law_is_step") fd35 ∧ fd35.code = .ref (He.cT K ("_law_is_step", none)).1 := funZ (p := ("_law_is_step", none)) G35
  have g35 := He.glo_ok X G (cd.fact 35 (f := .glo "_law_is_step") rfl)
  have d35 : Df K mg "_law_is_step" (top 63) ["_law_thing"] (He.ga K "_law_is_step") fd35 := ⟨F35, g35, F35.binds fun _ _ _ _ _ _ us hl => match us, hl with | [_], _ => rfl⟩
  obtain ⟨fd36, G36⟩ := cd.def_ 36 (d := ddX36) rfl
  obtain ⟨F36, C36⟩ : Fun K "_law_error" "_law_error" (top 64) (He.ga K "_law_error") fd36 ∧ fd36.code = .ref (He.cT K ("_law_error", none)).1 := funZ (p := ("_law_error", none)) G36
  have g36 := He.glo_ok X G (cd.fact 36 (f := .glo "_law_error") rfl)
  have d36 : Df K mg "_law_error" (top 64) ["_law_act"] (He.ga K "_law_error") fd36 := ⟨F36, g36, F36.binds fun _ _ _ _ _ _ us hl => match us, hl with | [_], _ => rfl⟩
  obtain ⟨fd37, G37⟩ := cd.def_ 37 (d := ddX37) rfl
  obtain ⟨F37, C37⟩ : Fun K "_law_class" "_law_class" (top 65) (He.ga K "_law_class") fd37 ∧ fd37.code = .ref (He.cT K ("_law_class", none)).1 := funZ (p := ("_law_class", none)) G37
  have g37 := He.glo_ok X G (cd.fact 37 (f := .glo "_law_class") rfl)
  have d37 : Df K mg "_law_class" (top 65) ["_law_e"] (He.ga K "_law_class") fd37 := ⟨F37, g37, F37.binds fun _ _ _ _ _ _ us hl => match us, hl with | [_], _ => rfl⟩
  obtain ⟨fd38, G38⟩ := cd.def_ 38 (d := ddX38) rfl
  obtain ⟨F38, C38⟩ : Fun K "_law_field" "_law_field" (top 66) (He.ga K "_law_field") fd38 ∧ fd38.code = .ref (He.cT K ("_law_field", none)).1 := funZ (p := ("_law_field", none)) G38
  have g38 := He.glo_ok X G (cd.fact 38 (f := .glo "_law_field") rfl)
  have d38 : Df K mg "_law_field" (top 66) ["_law_e"] (He.ga K "_law_field") fd38 := ⟨F38, g38, F38.binds fun _ _ _ _ _ _ us hl => match us, hl with | [_], _ => rfl⟩
  obtain ⟨fd39, G39⟩ := cd.def_ 39 (d := ddX39) rfl
  obtain ⟨F39, C39⟩ : Fun K "_law_first" "_law_first" (top 67) (He.ga K "_law_first") fd39 ∧ fd39.code = .ref (He.cT K ("_law_first", none)).1 := funZ (p := ("_law_first", none)) G39
  have g39 := He.glo_ok X G (cd.fact 39 (f := .glo "_law_first") rfl)
  have d39 : Df K mg "_law_first" (top 67) ["_law_rows_here", "_law_most"] (He.ga K "_law_first") fd39 := ⟨F39, g39, F39.binds fun _ _ _ _ _ _ us hl => match us, hl with | [_, _], _ => rfl⟩
  obtain ⟨fd40, G40⟩ := cd.def_ 40 (d := ddX40) rfl
  obtain ⟨F40, C40⟩ : Fun K "_law_narrow" "_law_narrow" (top 68) (He.ga K "_law_narrow") fd40 ∧ fd40.code = .ref (He.cT K ("_law_narrow", none)).1 := funZ (p := ("_law_narrow", none)) G40
  have g40 := He.glo_ok X G (cd.fact 40 (f := .glo "_law_narrow") rfl)
  have d40 : Df K mg "_law_narrow" (top 68) ["_law_tin_here"] (He.ga K "_law_narrow") fd40 := ⟨F40, g40, F40.binds fun _ _ _ _ _ _ us hl => match us, hl with | [_], _ => rfl⟩
  obtain ⟨fd41, G41⟩ := cd.def_ 41 (d := ddX41) rfl
  obtain ⟨F41, C41⟩ : Fun K "_law_tin" "_law_tin" (top 52) (He.ga K "_law_tin") fd41 ∧ fd41.code = .ref (He.cT K ("_law_tin", none)).1 := funZ (p := ("_law_tin", none)) G41
  have g41 := He.glo_ok X G (cd.fact 41 (f := .glo "_law_tin") rfl)
  have d41 : Df K mg "_law_tin" (top 52) ["_law_script", "_law_turn"] (He.ga K "_law_tin") fd41 := ⟨F41, g41, F41.binds fun _ _ _ _ _ _ us hl => match us, hl with | [_, _], _ => rfl⟩
  obtain ⟨fd42, G42⟩ := cd.def_ 42 (d := ddX42) rfl
  obtain ⟨F42, C42⟩ : Fun K "_law_right" "_law_right" (top 69) (He.ga K "_law_right") fd42 ∧ fd42.code = .ref (He.cT K ("_law_right", none)).1 := funZ (p := ("_law_right", none)) G42
  have g42 := He.glo_ok X G (cd.fact 42 (f := .glo "_law_right") rfl)
  have d42 : Df K mg "_law_right" (top 69) ["_law_tin_here"] (He.ga K "_law_right") fd42 := ⟨F42, g42, F42.binds fun _ _ _ _ _ _ us hl => match us, hl with | [_], _ => rfl⟩
  obtain ⟨fd43, G43⟩ := cd.def_ 43 (d := ddX43) rfl
  obtain ⟨F43, C43⟩ : Fun K "law" "law" (top 70) (He.ga K "law") fd43 ∧ fd43.code = .ref (He.cT K ("law", none)).1 := funZ (p := ("law", none)) G43
  have g43 := He.glo_ok X G (cd.fact 43 (f := .glo "law") rfl)
  have n0 := He.free_ok X G (cd.fact 60 (f := .free "len") rfl)
  have n1 := He.free_ok X G (cd.fact 61 (f := .free "int") rfl)
  have n2 := He.free_ok X G (cd.fact 62 (f := .free "abs") rfl)
  have n3 := He.free_ok X G (cd.fact 63 (f := .free "isinstance") rfl)
  have n4 := He.free_ok X G (cd.fact 64 (f := .free "bool") rfl)
  have n5 := He.free_ok X G (cd.fact 65 (f := .free "tuple") rfl)
  have n6 := He.free_ok X G (cd.fact 66 (f := .free "range") rfl)
  have n7 := He.free_ok X G (cd.fact 67 (f := .free "min") rfl)
  have n8 := He.free_ok X G (cd.fact 68 (f := .free "max") rfl)
  have n9 := He.free_ok X G (cd.fact 69 (f := .free "all") rfl)
  have n10 := He.free_ok X G (cd.fact 70 (f := .free "sorted") rfl)
  have n11 := He.free_ok X G (cd.fact 71 (f := .free "set") rfl)
  have n12 := He.free_ok X G (cd.fact 72 (f := .free "str") rfl)
  have n13 := He.free_ok X G (cd.fact 73 (f := .free "enumerate") rfl)
  have n14 := He.free_ok X G (cd.fact 74 (f := .free "zip") rfl)
  have n15 := He.free_ok X G (cd.fact 75 (f := .free "reversed") rfl)
  have n16 := He.free_ok X G (cd.fact 76 (f := .free "ValueError") rfl)
  have n17 := He.free_ok X G (cd.fact 77 (f := .free "LookupError") rfl)
  have n18 := He.free_ok X G (cd.fact 78 (f := .free "ArithmeticError") rfl)
  obtain ⟨i__DIGITS, v__DIGITS⟩ := He.int_ok X G (cd.fact 79 (f := .int "_DIGITS" (600)) rfl)
  obtain ⟨i__GROUP, v__GROUP⟩ := He.int_ok X G (cd.fact 80 (f := .int "_GROUP" (Int.ofNat (10 ^ 600))) rfl)
  have b_gcd := bi_ok X G (c.fx 1 (f := .bi "gcd" "math.gcd") rfl)
  have gb := (c.fx 0 (f := .glob) rfl)
  obtain ⟨gb1, gb2⟩ := glob_ok gb
  have e0 := He.glo_ok X G (cd.fact 47 (f := .glo "InvalidText") rfl)
  have e1 := He.glo_ok X G (cd.fact 48 (f := .glo "InvalidNumber") rfl)
  have e2 := He.glo_ok X G (cd.fact 49 (f := .glo "InvalidStep") rfl)
  have e3 := He.glo_ok X G (cd.fact 50 (f := .glo "InvalidArc") rfl)
  have e4 := He.glo_ok X G (cd.fact 51 (f := .glo "InvalidSighting") rfl)
  have e5 := He.glo_ok X G (cd.fact 52 (f := .glo "InvalidSightings") rfl)
  have e6 := He.glo_ok X G (cd.fact 53 (f := .glo "NotALot") rfl)
  have e7 := He.glo_ok X G (cd.fact 54 (f := .glo "InvalidPieces") rfl)
  have e8 := He.glo_ok X G (cd.fact 55 (f := .glo "InvalidOrder") rfl)
  have e9 := He.glo_ok X G (cd.fact 56 (f := .glo "InvalidIndex") rfl)
  have e10 := He.glo_ok X G (cd.fact 57 (f := .glo "NoStep") rfl)
  have e11 := He.glo_ok X G (cd.fact 58 (f := .glo "TooMany") rfl)
  have e12 := He.glo_ok X G (cd.fact 59 (f := .glo "Broken") rfl)
  have r0 := He.glo_ok X G (cd.fact 44 (f := .glo "NotRight") rfl)
  have r1 := He.glo_ok X G (cd.fact 45 (f := .glo "NotKnown") rfl)
  have r2 := He.glo_ok X G (cd.fact 46 (f := .glo "NotPossible") rfl)
  obtain ⟨fi0, H0⟩ := cd.def_ 44 (d := ddX44) rfl
  obtain ⟨I0, J0⟩ : Fun K "__init__" "Lot.__init__" (inClass (top 35) 0) (He.ma K (He.ga K "Lot") "__init__") fi0 ∧ fi0.code = .ref (He.cT K ("Lot", some "__init__")).1 := funZ (p := ("Lot", some "__init__")) H0
  obtain ⟨fi1, H1⟩ := cd.def_ 45 (d := ddX45) rfl
  obtain ⟨I1, J1⟩ : Fun K "__init__" "InvalidPieces.__init__" (inn (top 11)) (He.ma K (He.ga K "InvalidPieces") "__init__") fi1 ∧ fi1.code = .ref (He.cT K ("InvalidPieces", some "__init__")).1 := funZ (p := ("InvalidPieces", some "__init__")) H1
  obtain ⟨fi2, H2⟩ := cd.def_ 46 (d := ddX46) rfl
  obtain ⟨I2, J2⟩ : Fun K "__init__" "NoStep.__init__" (inn (top 16)) (He.ma K (He.ga K "NoStep") "__init__") fi2 ∧ fi2.code = .ref (He.cT K ("NoStep", some "__init__")).1 := funZ (p := ("NoStep", some "__init__")) H2
  obtain ⟨oC7, oX7, oE7, oI7, oT7⟩ := own_ok gb (show ownC K (He.ga K "InvalidPieces") (He.ga K "NotRight") = true from (c.fx 2 (f := .own "InvalidPieces" "NotRight") rfl))
  have T7 : CK K "InvalidPieces" ["index"] (He.ga K "InvalidPieces") (He.ga K "NotRight") (He.ma K (He.ga K "InvalidPieces") "__init__") fi1 (inn (top 11)) "InvalidPieces.__init__" := ⟨He.eqO_ok (show He.eqO (PySem.W.nsIn K mainGlobals "InvalidPieces") _ = true from (cd.fact 54 (f := .glo "InvalidPieces") rfl)), oC7, oI7, oT7, oX7, oE7, List.forall_mem_singleton.mpr (He.noat_ok (cd.fact 91 (f := .noat "InvalidPieces" "index") rfl)), I1⟩
  obtain ⟨oC10, oX10, oE10, oI10, oT10⟩ := ownA_ok gb (show ownD K (He.ga K "NoStep") (He.ga K "NotPossible") = true from (c.fx 22 (f := .ownA "NoStep" "NotPossible") rfl))
  have T10 : CK K "NoStep" [] (He.ga K "NoStep") (He.ga K "NotPossible") (He.ma K (He.ga K "NoStep") "__init__") fi2 (inn (top 16)) "NoStep.__init__" := ⟨He.eqO_ok (show He.eqO (PySem.W.nsIn K mainGlobals "NoStep") _ = true from (cd.fact 57 (f := .glo "NoStep") rfl)), oC10, oI10, oT10, oX10, oE10, (fun n h => by cases h), I2⟩
  let er : Er mg := { c := fun i => match i with | 0 => (He.ga K "InvalidText") | 1 => (He.ga K "InvalidNumber") | 2 => (He.ga K "InvalidStep") | 3 => (He.ga K "InvalidArc") | 4 => (He.ga K "InvalidSighting") | 5 => (He.ga K "InvalidSightings") | 6 => (He.ga K "NotALot") | 7 => (He.ga K "InvalidPieces") | 8 => (He.ga K "InvalidOrder") | 9 => (He.ga K "InvalidIndex") | 10 => (He.ga K "NoStep") | 11 => (He.ga K "TooMany") | _ => (He.ga K "Broken"), R0 := (He.ga K "NotRight"), R1 := (He.ga K "NotKnown"), R2 := (He.ga K "NotPossible"), g := fun i hi => match i, hi with | 0, _ => e0 | 1, _ => e1 | 2, _ => e2 | 3, _ => e3 | 4, _ => e4 | 5, _ => e5 | 6, _ => e6 | 7, _ => e7 | 8, _ => e8 | 9, _ => e9 | 10, _ => e10 | 11, _ => e11 | 12, _ => e12 | i + 13, z => absurd z (by omega), g0 := r0, g1 := r1, g2 := r2, v0 := n16, v1 := n17, v2 := n18, isi := n3, len := n0 }
  have one10 : ∀ i, i < 13 → PySem.W.kitOne K (.ref (He.ga K "NoStep")) (.ref (er.c i)) = some (decide (i = 10)) := fun i hi => match i, hi with | 0, _ => kit_ok (c.fx 23 (f := .kit "NoStep" "InvalidText" false) rfl) | 1, _ => kit_ok (c.fx 24 (f := .kit "NoStep" "InvalidNumber" false) rfl) | 2, _ => kit_ok (c.fx 25 (f := .kit "NoStep" "InvalidStep" false) rfl) | 3, _ => kit_ok (c.fx 26 (f := .kit "NoStep" "InvalidArc" false) rfl) | 4, _ => kit_ok (c.fx 27 (f := .kit "NoStep" "InvalidSighting" false) rfl) | 5, _ => kit_ok (c.fx 28 (f := .kit "NoStep" "InvalidSightings" false) rfl) | 6, _ => kit_ok (c.fx 29 (f := .kit "NoStep" "NotALot" false) rfl) | 7, _ => kit_ok (c.fx 30 (f := .kit "NoStep" "InvalidPieces" false) rfl) | 8, _ => kit_ok (c.fx 31 (f := .kit "NoStep" "InvalidOrder" false) rfl) | 9, _ => kit_ok (c.fx 32 (f := .kit "NoStep" "InvalidIndex" false) rfl) | 10, _ => kit_ok (c.fx 33 (f := .kit "NoStep" "NoStep" true) rfl) | 11, _ => kit_ok (c.fx 34 (f := .kit "NoStep" "TooMany" false) rfl) | 12, _ => kit_ok (c.fx 35 (f := .kit "NoStep" "Broken" false) rfl) | i + 13, z => absurd z (by omega)
  have held10 : Held K er (He.ga K "NoStep") 10 := { ex := T10.ex, xf := T10.xf, lt := by decide, one := one10, no := fun n e => (by cases e), bs := ⟨false, false, true, rfl, kit_ok (c.fx 36 (f := .kit "NoStep" "NotRight" false) rfl), kit_ok (c.fx 37 (f := .kit "NoStep" "NotKnown" false) rfl), kit_ok (c.fx 38 (f := .kit "NoStep" "NotPossible" true) rfl), kitT_ok (c.fx 39 (f := .kitT "NoStep" "ValueError" false) rfl), kitT_ok (c.fx 40 (f := .kitT "NoStep" "LookupError" false) rfl), kitT_ok (c.fx 41 (f := .kitT "NoStep" "ArithmeticError" true) rfl)⟩, ma := ma_of (He.exm_ok (cd.fact 84 (f := .exm "NoStep" "NotRight" false) rfl)) (He.exm_ok (cd.fact 85 (f := .exm "NoStep" "NotKnown" false) rfl)) (He.exm_ok (cd.fact 86 (f := .exm "NoStep" "NotPossible" true) rfl)) }
  obtain rfl : fa = He.ga K "law" := by
    have z := hfa.symm.trans g43
    cases z
    rfl
  refine ⟨fd43, [(He.cT K ("_law_right", none))], spLaw K [((He.cT K ("_law_right", none)).2, qR)], fun p hp => ?_, fun s v => FunD.bindsA (ps := ["_law_script"]) G43 (fun _ _ _ _ _ _ us hl => match us, hl with | [_], _ => rfl) s [v] rfl, fun H a ns hl ht hS => ⟨a, ns, rfl, hS, hl, fun p hp => ?_, fun _ => rfl⟩, fun base _ _ TB => ?_⟩
  · rcases List.mem_singleton.mp hp with rfl
    exact c.tab X (p := ("_law_right", none)) List.mem_cons_self
  · rcases List.mem_singleton.mp hp with rfl
    exact LamX.TabS.nil (ht (He.cT K ("_law_right", none)) List.mem_cons_self)
  have bl : Bl mg := ⟨n0, n1, n2⟩
  have bc : Bc mg := ⟨n3, n1, n4, n5, n0, b_gcd⟩
  obtain ⟨cb, oca, ocb, sca, scb, ica, icb, nca, ncb, t0, t1, t2, lca, eca, lcb, ecb⟩ := cutB_ok (show cutB K (He.ga K "_LAST_CUT") = true from (c.fx 42 (f := .cut "_LAST_CUT") rfl))
  have bp : Bp K mg := ⟨bc, n13, n14, _, (He.glo_ok X G (cd.fact 92 (f := .glo "_LAST_CUT") rfl)), fun H => cut_written lca eca lcb ecb H⟩
  obtain ⟨pe0, pf0, pq0⟩ := c.prop 0 (p := prX0) rfl
  obtain ⟨oP0, odP0, kvP0, dcP0, pmP0, aP0, cdP0, ctP0, sP0, lP0, cP0, kP0⟩ := PrD.fn pe0 pf0
  obtain ⟨pr0, opr0, vpr0, spr0, rpr0, aq0, gP0, tP0, lpr0, epr0⟩ := PrD.pr pq0
  have FP0 : Fun K "pieces" "Lot.pieces" s_lpieces (prX0.at_ K) _ := fun_mk (st := s_lpieces) lP0 cP0 kP0
  have T : LotC l.prog w K mg (He.ga K "Lot") (He.ma K (He.ga K "Lot") "__init__") (prX0.at_ K) fi0 _ := ⟨He.cls_ok (cd.fact 88 (f := .cls "Lot") rfl), He.noat_ok (cd.fact 90 (f := .noat "Lot" "_pieces") rfl), He.glo_ok X G (cd.fact 87 (f := .glo "Lot") rfl), He.mkr_ok (cd.fact 89 (f := .mkr "Lot") rfl), I0, I0.binds fun _ _ _ _ _ _ us hl => match us, hl with | [_, _], _ => rfl, ⟨pr0, prop_mk aq0 gP0 tP0 lpr0 epr0⟩, FP0, FP0.binds fun _ _ _ _ _ _ us hl => match us, hl with | [_], _ => rfl⟩
  have qc := eqc_ok (c.fx 43 (f := .eqc "Lot") rfl)
  obtain ⟨pe1, pf1, pq1⟩ := c.prop 1 (p := prX1) rfl
  obtain ⟨oP1, odP1, kvP1, dcP1, pmP1, aP1, cdP1, ctP1, sP1, lP1, cP1, kP1⟩ := PrD.fn pe1 pf1
  obtain ⟨cr1, cm1⟩ := PrD.cmr pq1 rfl
  have FP1 : Fun K "read" "Lot.read" s_lread (prX1.at_ K) _ := fun_mk (st := s_lread) lP1 cP1 kP1
  let pd : Pd K mg := { f_is_fraction := ⟨_, _⟩, d_is_fraction := d1, f_is_part := ⟨_, _⟩, d_is_part := d2, f_is_less := ⟨_, _⟩, d_is_less := d3, f__first_wrong := ⟨_, _⟩, d__first_wrong := d4, f__is_piece := ⟨_, _⟩, d__is_piece := d5, f__cuts_at := ⟨_, _⟩, d__cuts_at := d6, f__is_ahead := ⟨_, _⟩, d__is_ahead := d7, f_int := ⟨_, _⟩, d_int := d0 }
  let sif : SiF K mg := { rv := n15, fm := ⟨_, _⟩, m := d11, fa := ⟨_, _⟩, lw := d12, fb := ⟨_, _⟩, iw := d13, ft := ⟨_, _⟩, tu := d14 }
  let ls : Ls l.prog w K mg (He.ga K "Lot") := { LI := ⟨qc.ca, gb1, gb2, qc.cm, qc.yes⟩, c := bc, si := sif, min := n7, ii := ⟨_, _⟩, d_ii := d0, fr := ⟨_, _⟩, d_fr := d1, st := ⟨_, _⟩, d_st := d8, cs := ⟨_, _⟩, d_cs := d9, cl := ⟨_, _⟩, d_cl := d10, cu := ⟨_, _⟩, d_cu := d6, ah := ⟨_, _⟩, d_ah := d7, le := ⟨_, _⟩, d_le := d3 }
  have bt : Bt mg := ⟨n12, _, _, v__GROUP, by decide +kernel⟩
  let rd : Rd K mg := { c := bc, bt := bt, range := n6, dg := ⟨_, v__DIGITS⟩, f_ad := ⟨_, _⟩, ad := d15, f_rd := ⟨_, _⟩, rd := d16, f_rf := ⟨_, _⟩, rf := d17, f_rp := ⟨_, _⟩, rp := d18, f_di := ⟨_, _⟩, di := d19, f_ft := ⟨_, _⟩, ft := d20, f_wo := ⟨_, _⟩, wo := d21, f_tx := ⟨_, _⟩, tx := d22 }
  let la : La l.prog w K mg base := { C := _, fI := _, fP := _, fdI := _, fdP := _, T := T, bp := bp, pd := pd, CP := _, eP := ⟨_, _⟩, tP := cl7 X G T7, CN := _, eN := ⟨_, _⟩, tN := cl10 X G T10, er := er, hN := held10, ls_ := ls, bl := bl, range := n6, sorted := n10, set := n11, f_si := ⟨_, _⟩, si := d23, f_ha := ⟨_, _⟩, ha := d24, f_ls := ⟨_, _⟩, ls := d25, f_lk := ⟨_, _⟩, lk := d26, f_lf := ⟨_, _⟩, lf := d27, f_lg := ⟨_, _⟩, lg := d28, f_ll := ⟨_, _⟩, ll := d29, f_lo := ⟨_, _⟩, lo := d30, f_li := ⟨_, _⟩, li := d31, f_lp := ⟨_, _⟩, lp := d32, f_lu := ⟨_, _⟩, lu := d33, f_lr := ⟨_, _⟩, lr := d34, f_lt := ⟨_, _⟩, lt := d35, f_lE := ⟨_, _⟩, lE := d36, f_lC := ⟨_, _⟩, lC := d37, f_lF := ⟨_, _⟩, lF := d38, f_l1 := ⟨_, _⟩, l1 := d39, f_ln := ⟨_, _⟩, ln := d40, sk := kwOf1 F23 fun _ _ _ _ _ _ _ => rfl, TT := [((He.cT K ("_law_right", none)).2, qR)] }
  let lc : Lc l.prog w K mg base la := { max := n8, all := n9, rd := rd, fR := _, fdR := _, FR := FP1, bR := FP1.binds fun _ _ _ _ _ _ us hl => match us, hl with | [_, _], _ => rfl, mc := _, pR := _, cr := cr1, cm := cm1, gt := ⟨_, _⟩, lt := d41, gr := ⟨_, _⟩, dg := d42, cR := (He.cT K ("_law_right", none)).1, PR := (He.cT K ("_law_right", none)).2, eR := C42, TR := TB (He.cT K ("_law_right", none)) List.mem_cons_self, mR := List.mem_cons_self, oR := fun q hq e => by rcases List.mem_singleton.mp hq with rfl; rfl }
  exact ok_law F43 la lc
end My
open PySem PySem.W PyProof.Rows
set_option maxRecDepth 100000 in
set_option maxHeartbeats 0 in
theorem PySem.Challenge.cw_rimorders_k12_whole_simplest_steps_holds : PySem.Challenge.rw_rimorders_k12_whole_simplest_steps.Holds := by
  w_on; o_law
  refine HandSHeadRun.head_imp (r := OpenLaw.row PySem.Challenge.rw_rimorders_k12_whole_simplest_steps) (q := My.qvX) (H := My.hkX) (ob := My.obX) (M := 9000) (loose := My.namesX) (d := HandSHeadRun.topDef (OpenLaw.row PySem.Challenge.rw_rimorders_k12_whole_simplest_steps).prog 70) (kwd := []) My.obX_eq My.runX
    (by kernel_rfl) (by kernel_rfl) (by kernel_rfl) (by rfl) (by first | assumption | decide +kernel) (by decide +kernel) ⟨rfl, rfl, rfl, rfl, rfl, by decide +kernel⟩ ?hw ?hc
  case hw => w_witness2
  case hc =>
    refine My.walkGX (l := PySem.Challenge.rw_rimorders_k12_whole_simplest_steps) (n := 63) (k := 9) (x := "_law_script") (CX := fun _ => L2.CX0) rfl (by decide) (by kernel_rfl) ⟨rfl, by decide, by decide⟩ ?F (fun _ _ _ _ _ z => z)
    intro w mg fa h Y G hmg0
    obtain ⟨K, KX, c⟩ := Y
    have hmg : mg ("law" : PySem.Str) = some (.ref fa) := by
      have e : (HandSHeadRun.topDef (OpenLaw.row PySem.Challenge.rw_rimorders_k12_whole_simplest_steps).prog 70).name = ("law" : PySem.Str) := by kernel_rfl
      rw [← e]
      exact hmg0
    exact ⟨K, KX, My.all_mkX KX G hmg c⟩
